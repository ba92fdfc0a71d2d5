import PyProof.Rows.All
import Wide.All
import OpenK.AllK
import Wide.FinOn
import HandS.ForMost
import HandS.Walk
import KE.KDictKeyed
import KE.SortData
import HandS.AnyAll
import HandS.TupAny
import HandS.TupMul
import HandS.IsInst
import HandS.WideBits
import HandS.Gcd
import HandS.Zip
import HandS.Codes
import HandS.Words
import HandS.Ends
import HandS.Records
import HandS.MapObj
import HandS.Conv
import HandS.Sort
import HandS.ExcValue
import HandS.ListItems
import KE.GoesEnumKw
import HandS.Style
import KE.KRevSl
import HandS.TupLe
import KE.LtData
import PyProof.ReprRoads
import HandS.TupLen
import HandS.Dict
import HandS.DictEq
import KE.KDictSum
import HandS.Deep
import HandS.SortKw
import KE.DataMinMax
import HandS.DictComp
import HandS.GenOver
import HandS.GenBody
import HandS.GenList
import HandS.EndTab
import PySem.Challenge.RW_cellrises_k43_partings_of_anything
set_option Elab.async false
set_option linter.all false
set_option maxRecDepth 100000
set_option maxHeartbeats 4000000
set_option exponentiation.threshold 20000
namespace DD
open PySem PySem.Spec PyProof.Rows L2

/-- the tables of the code objects that may grow -/
class Tabs where
  ts : List Addr

/-- a value as data: tuples by what they hold, what may change by its number in the store -/
inductive D where
  | non | bl (b : Bool) | int (i : Int) | str (x : Str) | tup (xs : List D) | loc (n : Nat)
  deriving Inhabited
/-- what may change -/
inductive MO where
  | lst (xs : List D) | dct (kvs : List (D × D)) | flst (xs : List D) | fdct (kvs : List (D × D))
  deriving Inhabited
abbrev Sto := List MO

/-- where the store's things lie, how many there are, the abstract heap -/
structure Vw where
  iot : Nat → Addr
  n : Nat
  H : Hp

section
variable (K : PySem.W.Frag)
mutual
inductive RD (u : Vw) : D → V → Prop
  | non : RD u .non .non
  | bl (b) : RD u (.bl b) (.bl b)
  | int (i) : RD u (.int i) (.int i)
  | str (x) : RD u (.str x) (.str x)
  | tup {xs vs a} : SqT K u.H a vs → RDs u xs vs → RD u (.tup xs) (.ref a)
  | loc {i} : i < u.n → RD u (.loc i) (.ref (u.iot i))
inductive RDs (u : Vw) : List D → List V → Prop
  | nil : RDs u [] []
  | cons {x v xs vs} : RD u x v → RDs u xs vs → RDs u (x :: xs) (v :: vs)
end
/-- a list that is read alone -/
def RoL (H : Hp) (a : Addr) (xs : List V) : Prop := (∃ o, H a = some (.frz o (.lst xs))) ∨
    ∃ (o : Obj) (its : Array Value) (n : Nat), K.lookup a = some o ∧ o.cls = .type "list" ∧ o.dict = none ∧ o.data = .seq its n ∧ its.size ≤ sizeLine ∧ Vals xs its.toList
theorem RoL.seq {H : Hp} {a : Addr} {xs : List V} (h : RoL K H a xs) : SqL K H a xs := h.elim (fun ⟨o, e⟩ => .inl (.inr ⟨o, e⟩)) .inr
/-- u' goes on from u, locks aside -/
structure Ext0 (u u' : Vw) : Prop where
  le : u.n ≤ u'.n
  same : ∀ i, i < u.n → u'.iot i = u.iot i
  tups : ∀ a xs, SqT K u.H a xs → SqT K u'.H a xs
  rols : ∀ a xs, RoL K u.H a xs → RoL K u'.H a xs
/-- u' goes on from u: what is locked there stays as it is -/
structure Ext (u u' : Vw) : Prop extends Ext0 K u u' where
  frz : ∀ a o φ, u.H a = some (.frz o (.ext φ)) → u'.H a = some (.frz o (.ext φ))
end
section
variable {K : PySem.W.Frag} {u u' u'' : Vw}
theorem Ext.refl : Ext K u u := ⟨⟨Nat.le_refl _, fun _ _ => rfl, fun _ _ h => h, fun _ _ h => h⟩, fun _ _ _ h => h⟩
theorem Ext0.trans (a : Ext0 K u u') (b : Ext0 K u' u'') : Ext0 K u u'' :=
  ⟨Nat.le_trans a.le b.le, fun i hi => (b.same i (Nat.lt_of_lt_of_le hi a.le)).trans (a.same i hi), fun x xs h => b.tups x xs (a.tups x xs h), fun x xs h => b.rols x xs (a.rols x xs h)⟩
theorem Ext.trans (a : Ext K u u') (b : Ext K u' u'') : Ext K u u'' :=
  ⟨a.toExt0.trans b.toExt0, fun x o φ h => b.frz x o φ (a.frz x o φ h)⟩
mutual
theorem RD.mono0 (e : Ext0 K u u') : ∀ {d : D} {v : V}, RD K u d v → RD K u' d v
  | _, _, .non => .non
  | _, _, .bl b => .bl b
  | _, _, .int i => .int i
  | _, _, .str x => .str x
  | _, _, .tup h r => .tup (e.tups _ _ h) (RDs.mono0 e r)
  | _, _, .loc (i := i) h => by
    rw [← e.same i h]
    exact .loc (Nat.lt_of_lt_of_le h e.le)
theorem RDs.mono0 (e : Ext0 K u u') : ∀ {ds : List D} {vs : List V}, RDs K u ds vs → RDs K u' ds vs
  | _, _, .nil => .nil
  | _, _, .cons h r => .cons (RD.mono0 e h) (RDs.mono0 e r)
end
theorem RD.mono (e : Ext K u u') {d : D} {v : V} (h : RD K u d v) : RD K u' d v := h.mono0 e.toExt0
theorem RDs.mono (e : Ext K u u') {ds : List D} {vs : List V} (h : RDs K u ds vs) : RDs K u' ds vs := h.mono0 e.toExt0
theorem RDs.length : ∀ {ds : List D} {vs : List V}, RDs K u ds vs → ds.length = vs.length
  | _, _, .nil => rfl
  | _, _, .cons _ r => by simp [RDs.length r]
theorem RDs.append : ∀ {ds es : List D} {vs ws : List V}, RDs K u ds vs → RDs K u es ws → RDs K u (ds ++ es) (vs ++ ws)
  | _, _, _, _, .nil, s => s
  | _, _, _, _, .cons h r, s => .cons h (r.append s)
theorem RDs.get : ∀ {ds : List D} {vs : List V} {i : Nat} {d : D}, RDs K u ds vs → ds[i]? = some d → ∃ v, vs[i]? = some v ∧ RD K u d v
  | _, _, _, _, .nil, e => by simp at e
  | _, _, 0, d, .cons h r, e => by simp at e; subst e; exact ⟨_, rfl, h⟩
  | _, _, i + 1, d, .cons h r, e => by
    obtain ⟨v, h1, h2⟩ := RDs.get (i := i) (d := d) r (by simpa using e)
    exact ⟨v, by simpa using h1, h2⟩
theorem RDs.getV : ∀ {ds : List D} {vs : List V} {i : Nat} {v : V}, RDs K u ds vs → vs[i]? = some v → ∃ d, ds[i]? = some d ∧ RD K u d v
  | _, _, _, _, .nil, e => by simp at e
  | _, _, 0, d, .cons h r, e => by simp at e; subst e; exact ⟨_, rfl, h⟩
  | _, _, i + 1, d, .cons h r, e => by
    obtain ⟨v, h1, h2⟩ := RDs.getV (i := i) r (by simpa using e)
    exact ⟨v, by simpa using h1, h2⟩
theorem RDs.set {d : D} {v : V} (h : RD K u d v) : ∀ {ds : List D} {vs : List V} (i : Nat), RDs K u ds vs → RDs K u (ds.set i d) (vs.set i v)
  | _, _, _, .nil => .nil
  | _, _, 0, .cons _ t => .cons h t
  | _, _, i + 1, .cons q t => .cons q (RDs.set h i t)
theorem RDs.take : ∀ {ds : List D} {vs : List V} (n : Nat), RDs K u ds vs → RDs K u (ds.take n) (vs.take n)
  | _, _, 0, _ => .nil
  | _, _, _ + 1, .nil => .nil
  | _, _, n + 1, .cons h t => .cons h (RDs.take n t)
theorem RDs.drop : ∀ {ds : List D} {vs : List V} (n : Nat), RDs K u ds vs → RDs K u (ds.drop n) (vs.drop n)
  | _, _, 0, r => r
  | _, _, _ + 1, .nil => .nil
  | _, _, n + 1, .cons _ t => RDs.drop n t
theorem RDs.reverse : ∀ {ds : List D} {vs : List V}, RDs K u ds vs → RDs K u ds.reverse vs.reverse
  | _, _, .nil => .nil
  | _, _, .cons h r => by simpa using (RDs.reverse r).append (.cons h .nil)
end

/-! ### a dict's entries -/
mutual
def keyOf : D → Option NestedKey
  | .non => some .none
  | .int i => some (.num i)
  | .str x => some (.text x)
  | .tup xs => (keysOf xs).map .tup
  | .bl _ => none
  | .loc _ => none
def keysOf : List D → Option (List NestedKey)
  | [] => some []
  | x :: xs => (keyOf x).bind fun k => (keysOf xs).map (k :: ·)
end
/-- a dict's object as it lies -/
def RawD (a : Addr) (es : List DictEntry) (h : Heap) : Prop := ∃ o ep, h.get? a = some o ∧ o.ExactDict ∧ o.data = .dict es.toArray ep
theorem RawD.stable {a : Addr} {es : List DictEntry} : ∀ h1 h2 : Heap, RawD a es h1 → (∀ o, h1.get? a = some o → h2.get? a = some o) → RawD a es h2 :=
  fun _ _ ⟨o, ep, e, r⟩ k => ⟨o, ep, k o e, r⟩

section
variable (K : PySem.W.Frag) (w : World)
/-- an entry -/
def REn (u : Vw) (kv : D × D) (e : DictEntry) : Prop :=
  (∃ ys, kv.1 = .tup ys ∧ ∃ k, keyOf kv.1 = some k ∧ k.depth ≤ 8 ∧ e.hash = k.hash w) ∧ (∃ x, RelV x e.key ∧ RD K u kv.1 x) ∧ ∃ x, RelV x e.val ∧ RD K u kv.2 x
def RO (u : Vw) : MO → Addr → Prop
  | .lst xs, a => ∃ vs, u.H a = some (.lst vs) ∧ RDs K u xs vs
  | .dct kvs, a => ∃ es, u.H a = some (.ext (RawD a es)) ∧ Paired (REn K w u) kvs es ∧ (kvs.map (·.1)).Nodup ∧ (a == sysModules) = false ∧ kvs.length ≤ sizeLine
  | .flst xs, a => ∃ vs, RoL K u.H a vs ∧ RDs K u xs vs
  | .fdct kvs, a => ∃ es od, u.H a = some (.frz od (.ext (RawD a es))) ∧ Paired (REn K w u) kvs es ∧ (kvs.map (·.1)).Nodup ∧ (a == sysModules) = false ∧ kvs.length ≤ sizeLine
/-- what may be changed -/
def MO.mut : MO → Bool
  | .flst _ => false
  | _ => true
structure Wd [Tabs] (u : Vw) (M : Sto) : Prop where
  tab : ∀ P ∈ Tabs.ts, GxR.TabG u.H P
  n : u.n = M.length
  inj : ∀ i j oi oj, M[i]? = some oi → M[j]? = some oj → oi.mut = true → oj.mut = true → u.iot i = u.iot j → i = j
  at_ : ∀ i o, M[i]? = some o → RO K w u o (u.iot i)
end
theorem tabG_upd {H : Hp} {p P : Addr} {o : HO} (h : GxR.TabG H P) (hp : ∀ q, H p ≠ some (.tbl q)) : GxR.TabG (upd H p o) P := by
  obtain ⟨ps, h1, h2⟩ := h
  refine ⟨ps, ?_, h2⟩
  rw [upd_ne fun z => hp ps (by rw [← z]; exact h1)]
  exact h1
variable [Tabs]
section
variable {K : PySem.W.Frag} {w : World} {u u' : Vw} {M : Sto}
theorem REn.mono0 (x : Ext0 K u u') {kv : D × D} {e : DictEntry} (h : REn K w u kv e) : REn K w u' kv e :=
  ⟨h.1, h.2.1.elim fun v q => ⟨v, q.1, q.2.mono0 x⟩, h.2.2.elim fun v q => ⟨v, q.1, q.2.mono0 x⟩⟩
theorem REn.mono (x : Ext K u u') {kv : D × D} {e : DictEntry} (h : REn K w u kv e) : REn K w u' kv e := h.mono0 x.toExt0
/-- what an object of the store says stays where its own address is left alone -/
theorem RO.mono0 (x : Ext0 K u u') {o : MO} {a : Addr} (h : RO K w u o a) (ha : o.mut = true → u'.H a = u.H a) : RO K w u' o a := by
  cases o with
  | lst xs => obtain ⟨vs, e, r⟩ := h; exact ⟨vs, (ha rfl).trans e, r.mono0 x⟩
  | dct kvs => obtain ⟨es, e, r, q⟩ := h; exact ⟨es, (ha rfl).trans e, Paired.mapP r fun _ _ z => z.mono0 x, q⟩
  | flst xs => obtain ⟨vs, r, q⟩ := h; exact ⟨vs, x.rols _ _ r, q.mono0 x⟩
  | fdct kvs => obtain ⟨es, od, e, r, q⟩ := h; exact ⟨es, od, (ha rfl).trans e, Paired.mapP r fun _ _ z => z.mono0 x, q⟩
theorem RO.mono (x : Ext K u u') {o : MO} {a : Addr} (h : RO K w u o a) (ha : o.mut = true → u'.H a = u.H a) : RO K w u' o a := h.mono0 x.toExt0 ha
theorem RO.there {o : MO} {a : Addr} (h : RO K w u o a) (m : o.mut = true) : ∃ ho, u.H a = some ho := by
  cases o with
  | lst xs => obtain ⟨vs, e, r⟩ := h; exact ⟨_, e⟩
  | dct kvs => obtain ⟨es, e, r, q⟩ := h; exact ⟨_, e⟩
  | fdct kvs => obtain ⟨es, od, e, r, q⟩ := h; exact ⟨_, e⟩
  | flst xs => cases m
theorem Wd.lt (W : Wd K w u M) {i : Nat} {o : MO} (h : M[i]? = some o) : i < u.n := by
  rw [W.n]; exact (List.getElem?_eq_some_iff.mp h).1
/-- a new object that is no tuple and not of the store, or a new tuple -/
theorem sqT_upd {a p : Addr} {xs : List V} {H : Hp} {o : HO} (h : SqT K H a xs) (hp : ∀ x, H p = some (.tup x) → False) (hf : ∀ x y, H p = some (.frz x (.tup y)) → False) : SqT K (upd H p o) a xs := by
  rcases h with h | h
  · left
    rcases h with h | ⟨ob, h⟩
    · left
      by_cases e : a = p
      · subst e; exact (hp _ h).elim
      · rw [upd_ne e]; exact h
    · right
      refine ⟨ob, ?_⟩
      by_cases e : a = p
      · subst e; exact (hf _ _ h).elim
      · rw [upd_ne e]; exact h
  · exact .inr h
theorem rol_upd {a p : Addr} {xs : List V} {H : Hp} {o : HO} (h : RoL K H a xs) (hf : ∀ x y, H p = some (.frz x (.lst y)) → False) : RoL K (upd H p o) a xs := by
  rcases h with ⟨ob, h⟩ | h
  · refine .inl ⟨ob, ?_⟩
    by_cases e : a = p
    · subst e; exact (hf _ _ h).elim
    · rw [upd_ne e]; exact h
  · exact .inr h
theorem ext_new {p : Addr} {o : HO} {iot : Nat → Addr} {n : Nat} (hn : u.n ≤ n) (hi : ∀ i, i < u.n → iot i = u.iot i) (hp : u.H p = none) : Ext K u ⟨iot, n, upd u.H p o⟩ :=
  ⟨⟨hn, hi, fun _ _ h => sqT_upd h (fun _ e => by rw [hp] at e; cases e) (fun _ _ e => by rw [hp] at e; cases e), fun _ _ h => rol_upd h (fun _ _ e => by rw [hp] at e; cases e)⟩, fun a o φ h => by
    by_cases e : a = p
    · subst e; rw [hp] at h; cases h
    · exact (upd_ne e).trans h⟩
theorem Wd.tup (W : Wd K w u M) {p : Addr} {o : HO} (hp : u.H p = none) : let u' : Vw := ⟨u.iot, u.n, upd u.H p o⟩; Ext K u u' ∧ Wd K w u' M := by
  intro u'
  have x : Ext K u u' := ext_new (Nat.le_refl _) (fun _ _ => rfl) hp
  refine ⟨x, fun P hP => tabG_upd (W.tab P hP) (fun q e => by rw [hp] at e; cases e), W.n, W.inj, fun i ob e => (W.at_ i ob e).mono x fun m => ?_⟩
  obtain ⟨ho, q⟩ := (W.at_ i ob e).there m
  exact upd_ne (ne_of_none q hp)
theorem Wd.new (W : Wd K w u M) {p : Addr} {o : HO} {ob : MO} (hp : u.H p = none) (hr : ∀ u' : Vw, Ext K u u' → u'.H p = some o → RO K w u' ob p) :
    let u' : Vw := ⟨fun i => if i = u.n then p else u.iot i, u.n + 1, upd u.H p o⟩; Ext K u u' ∧ Wd K w u' (M ++ [ob]) ∧ RD K u' (.loc u.n) (.ref p) := by
  intro u'
  have x : Ext K u u' := ext_new (Nat.le_succ _) (fun i hi => if_neg (Nat.ne_of_lt hi)) hp
  have nep : ∀ i o', M[i]? = some o' → o'.mut = true → u.iot i ≠ p := fun i o' h m e => by
    obtain ⟨ho, q⟩ := (W.at_ i o' h).there m
    rw [e, hp] at q; cases q
  have old : ∀ i o', (M ++ [ob])[i]? = some o' → i ≠ u.n → M[i]? = some o' := fun i o' h hn => by
    have hi : i < M.length := by
      have := (List.getElem?_eq_some_iff.mp h).1
      simp at this; have := W.n; omega
    rw [List.getElem?_append_left hi] at h
    exact h
  refine ⟨x, ⟨fun P hP => tabG_upd (W.tab P hP) (fun q e => by rw [hp] at e; cases e), by show u.n + 1 = _; rw [W.n]; simp, fun i j oi oj hi hj mi mj e => ?_, fun i o' e => ?_⟩, ?_⟩
  · have e : (if i = u.n then p else u.iot i) = (if j = u.n then p else u.iot j) := e
    by_cases h1 : i = u.n <;> by_cases h2 : j = u.n
    · omega
    · rw [if_pos h1, if_neg h2] at e; exact absurd e.symm (nep j oj (old j oj hj h2) mj)
    · rw [if_neg h1, if_pos h2] at e; exact absurd e (nep i oi (old i oi hi h1) mi)
    · rw [if_neg h1, if_neg h2] at e; exact W.inj i j oi oj (old i oi hi h1) (old j oj hj h2) mi mj e
  · show RO K w u' o' (if i = u.n then p else u.iot i)
    by_cases h1 : i = u.n
    · rw [if_pos h1]
      have : o' = ob := by
        rw [h1, W.n] at e; simp at e; exact e.symm
      subst this
      exact hr u' x upd_same
    · rw [if_neg h1]
      have e := old i o' e h1
      refine (W.at_ i o' e).mono x fun m => ?_
      obtain ⟨ho, q⟩ := (W.at_ i o' e).there m
      exact upd_ne (ne_of_none q hp)
  · have h : RD K u' (.loc u.n) (.ref (u'.iot u.n)) := .loc (Nat.lt_succ_self _)
    have e : u'.iot u.n = p := if_pos rfl
    rw [e] at h; exact h
/-- an object of the store is changed -/
theorem Wd.put (W : Wd K w u M) {j : Nat} {o : HO} {oj ob : MO} (hj : M[j]? = some oj) (mj : oj.mut = true) (mH : Mut (u.H (u.iot j))) (mb : ob.mut = true) (hr : ∀ u' : Vw, Ext K u u' → u'.H (u.iot j) = some o → RO K w u' ob (u.iot j)) :
    let u' : Vw := ⟨u.iot, u.n, upd u.H (u.iot j) o⟩; Ext K u u' ∧ Wd K w u' (M.set j ob) := by
  intro u'
  have x : Ext K u u' := ⟨⟨Nat.le_refl _, fun _ _ => rfl, fun a xs h => sqT_upd h (fun _ e => by rw [e] at mH; exact mH) (fun _ _ e => by rw [e] at mH; exact mH), fun a xs h => rol_upd h (fun _ _ e => by rw [e] at mH; exact mH)⟩, fun a oo φ h => by
    by_cases e : a = u.iot j
    · rw [← e, h] at mH; exact mH.elim
    · rw [show u'.H a = u.H a from upd_ne e]; exact h⟩
  have at2 : ∀ i o', (M.set j ob)[i]? = some o' → i ≠ j → M[i]? = some o' := fun i o' e h => by
    rw [List.getElem?_set_ne (Ne.symm h)] at e; exact e
  have hlt : j < M.length := (List.getElem?_eq_some_iff.mp hj).1
  have at3 : ∀ o', (M.set j ob)[j]? = some o' → o' = ob := fun o' e => by
    rw [List.getElem?_set_self hlt] at e; exact (Option.some.inj e).symm
  refine ⟨x, fun P hP => tabG_upd (W.tab P hP) (fun q e => by rw [e] at mH; exact mH), by show u.n = _; rw [W.n]; simp, fun i k oi ok hi hk mi mk e => ?_, fun i o' e => ?_⟩
  · have z : ∀ (i : Nat) (oi : MO), (M.set j ob)[i]? = some oi → oi.mut = true → ∃ o2 : MO, M[i]? = some o2 ∧ o2.mut = true := fun i oi h m => by
      by_cases hh : i = j
      · subst hh; exact ⟨oj, hj, mj⟩
      · exact ⟨oi, at2 i oi h hh, m⟩
    obtain ⟨a, a1, a2⟩ := z i oi hi mi
    obtain ⟨b, b1, b2⟩ := z k ok hk mk
    exact W.inj i k a b a1 b1 a2 b2 e
  · by_cases h : i = j
    · subst h
      rw [at3 o' e]
      exact hr u' x upd_same
    · have e := at2 i o' e h
      refine (W.at_ i o' e).mono x fun m => ?_
      exact upd_ne fun z => h (W.inj i j o' oj e hj m mj z)
/-- a dict is locked -/
theorem Wd.lock (W : Wd K w u M) {j : Nat} {kvs : List (D × D)} (hj : M[j]? = some (.dct kvs)) : ∃ es, u.H (u.iot j) = some (.ext (RawD (u.iot j) es)) ∧ ∀ od,
    let u' : Vw := ⟨u.iot, u.n, upd u.H (u.iot j) (.frz od (.ext (RawD (u.iot j) es)))⟩; Ext K u u' ∧ Wd K w u' (M.set j (.fdct kvs)) := by
  obtain ⟨es, e, r, q⟩ := W.at_ _ _ hj
  exact ⟨es, e, fun od => W.put (o := .frz od (.ext (RawD (u.iot j) es))) (ob := .fdct kvs) hj rfl (by rw [e]; trivial) rfl fun u' x hu => ⟨es, od, hu, Paired.mapP r fun _ _ z => z.mono x, q⟩⟩
/-- and unlocked -/
theorem Wd.unlock (W : Wd K w u M) {j : Nat} {kvs : List (D × D)} {od : Obj} {es : List DictEntry} (hj : M[j]? = some (.fdct kvs)) (hH : u.H (u.iot j) = some (.frz od (.ext (RawD (u.iot j) es)))) :
    let u' : Vw := ⟨u.iot, u.n, upd u.H (u.iot j) (.ext (RawD (u.iot j) es))⟩; Ext0 K u u' ∧ Wd K w u' (M.set j (.dct kvs)) ∧ ∀ a, a ≠ u.iot j → u'.H a = u.H a := by
  intro u'
  have x : Ext0 K u u' := ⟨Nat.le_refl _, fun _ _ => rfl, fun a xs h => sqT_upd h (fun _ e => by rw [hH] at e; cases e) (fun _ _ e => by rw [hH] at e; cases e), fun a xs h => rol_upd h (fun _ _ e => by rw [hH] at e; cases e)⟩
  have at2 : ∀ i o', (M.set j (.dct kvs))[i]? = some o' → i ≠ j → M[i]? = some o' := fun i o' e h => by
    rw [List.getElem?_set_ne (Ne.symm h)] at e; exact e
  have hlt : j < M.length := (List.getElem?_eq_some_iff.mp hj).1
  have at3 : ∀ o', (M.set j (.dct kvs))[j]? = some o' → o' = .dct kvs := fun o' e => by
    rw [List.getElem?_set_self hlt] at e; exact (Option.some.inj e).symm
  refine ⟨x, ⟨fun P hP => tabG_upd (W.tab P hP) (fun q e => by rw [hH] at e; cases e), by show u.n = _; rw [W.n]; simp, fun i k oi ok hi hk mi mk e => ?_, fun i o' e => ?_⟩, fun a ha => upd_ne ha⟩
  · have z : ∀ (i : Nat) (oi : MO), (M.set j (.dct kvs))[i]? = some oi → oi.mut = true → ∃ o2 : MO, M[i]? = some o2 ∧ o2.mut = true := fun i oi h m => by
      by_cases hh : i = j
      · subst hh; exact ⟨_, hj, rfl⟩
      · exact ⟨oi, at2 i oi h hh, m⟩
    obtain ⟨a, a1, a2⟩ := z i oi hi mi
    obtain ⟨b, b1, b2⟩ := z k ok hk mk
    exact W.inj i k a b a1 b1 a2 b2 e
  · by_cases h : i = j
    · subst h
      rw [at3 o' e]
      obtain ⟨es', od', e', r, q⟩ := W.at_ _ _ hj
      have e2 := e'.symm.trans hH
      have e3 : RawD (u.iot i) es' = RawD (u.iot i) es := by
        have := Option.some.inj e2
        injection this with _ h2
        injection h2
      refine ⟨es', ?_, Paired.mapP r fun _ _ z => z.mono0 x, q⟩
      show upd u.H (u.iot i) _ (u.iot i) = _
      rw [upd_same, e3]
    · have e := at2 i o' e h
      refine (W.at_ i o' e).mono0 x fun m => ?_
      exact upd_ne fun z => h (W.inj i j o' _ e hj m rfl z)
end
end DD
namespace DD
open PySem

mutual
def D.beq : D → D → Bool
  | .non, .non => true
  | .bl a, .bl b => a == b
  | .int a, .int b => decide (a = b)
  | .str a, .str b => decide (a = b)
  | .tup a, .tup b => D.beqs a b
  | .loc a, .loc b => a == b
  | _, _ => false
def D.beqs : List D → List D → Bool
  | [], [] => true
  | a :: as, b :: bs => D.beq a b && D.beqs as bs
  | _, _ => false
end
mutual
theorem D.beq_refl : ∀ a : D, D.beq a a = true
  | .non => rfl
  | .bl a => by simp [D.beq]
  | .int a => by simp [D.beq]
  | .str a => by simp [D.beq]
  | .tup a => by rw [D.beq]; exact D.beqs_refl a
  | .loc a => by simp [D.beq]
theorem D.beqs_refl : ∀ a : List D, D.beqs a a = true
  | [] => rfl
  | a :: as => by rw [D.beqs, D.beq_refl a, D.beqs_refl as]; rfl
end
mutual
theorem D.eq_of_beq : ∀ a b : D, D.beq a b = true → a = b
  | .non, b, h => by cases b <;> simp [D.beq] at h <;> rfl
  | .bl a, b, h => by cases b <;> simp [D.beq] at h; rw [h]
  | .int a, b, h => by cases b <;> simp [D.beq] at h; rw [h]
  | .str a, b, h => by cases b <;> simp [D.beq] at h; rw [h]
  | .tup a, b, h => by cases b <;> simp [D.beq] at h; rw [D.eq_of_beqs a _ h]
  | .loc a, b, h => by cases b <;> simp [D.beq] at h; rw [h]
theorem D.eq_of_beqs : ∀ a b : List D, D.beqs a b = true → a = b
  | [], b, h => by cases b <;> simp [D.beqs] at h <;> rfl
  | a :: as, b, h => by
    cases b with
    | nil => simp [D.beqs] at h
    | cons b bs =>
      simp only [D.beqs, Bool.and_eq_true] at h
      rw [D.eq_of_beq a b h.1, D.eq_of_beqs as bs h.2]
end
instance : DecidableEq D := fun a b => if h : D.beq a b = true then isTrue (D.eq_of_beq a b h) else isFalse fun e => h (e ▸ D.beq_refl a)

abbrev Env := List (Option D)
/-- how a statement ends -/
inductive Fl where
  | nx | rt (d : D) | bk | ct
  deriving Inhabited

inductive Bop where | add | sub | mul | fdiv | mod | pow
inductive Cop where | eq | ne | lt | le | gt | ge | inn | notin | isn | isnt | deq
inductive Cls where | int | bool | str | tuple | list | dict
inductive Bi where
  | abs | len | int | all | sum | max | min | divmod | tuple | list | sorted | repr | str | gcd | isi (c : Cls) | maxd | fact | lcm | comb
inductive Mth where | append | extend | get | pop | setdefault | popl

mutual
inductive Ex where
  | var (i : Nat)
  | con (c : D)
  | glob (x : Str) (c : D)
  | tup (es : List Ex)
  | lst (es : List Ex)
  | dct (ks vs : List Ex)
  | bin (o : Bop) (a b : Ex)
  | neg (a : Ex)
  | cmp (o : Cop) (a b : Ex)
  | cmp2 (o o2 : Cop) (a b c : Ex)
  | band (es : List Ex)
  | bor (es : List Ex)
  | bnot (a : Ex)
  | ife (c a b : Ex)
  | sub (a i : Ex)
  | slc (a : Ex) (lo hi : Option Ex)
  | rev (a : Ex)
  | call (f : Nat) (es : List Ex)
  | callk (f : Nat) (es : List Ex) (ks : List Str)
  | callp (f : Nat) (es : List Ex) (ks : List Str) (pi : List Nat)
  | calld (f : Nat) (es : List Ex) (ds : List D)
  | bi (b : Bi) (es : List Ex)
  | mth (m : Mth) (o : Ex) (es : List Ex)
  | lc (elt : Ex) (t : Tgc) (it : Itx) (ifs : List Ex)
  | dc (k v : Ex) (t : Tgc) (it : Itx) (ifs : List Ex)
  | allg (elt : Ex) (i : Nat) (it : Ex)
  | lk (i : Nat) (e : Ex)
inductive Tgc where
  | one (i : Nat)
  | many (is : List Nat)
inductive Itx where
  | ex (e : Ex)
  | rng (es : List Ex)
  | zip (a b : Ex)
  | enum (a : Ex) (start : Int)
  | items (a : Ex)
  | vals (a : Ex)
  | keys (a : Ex)
end
inductive Tg where
  | one (i : Nat)
  | sub (o i : Ex)
  | many (ts : List Tg)
inductive Stm where
  | asg (t : Tg) (e : Ex)
  | aug (i : Nat) (o : Bop) (e : Ex)
  | exp (e : Ex)
  | ret (e : Ex)
  | iff (c : Ex) (a b : List Stm)
  | forr (t : Tg) (it : Itx) (body : List Stm)
  | whil (c : Ex) (body : List Stm)
  | stuck
  | pass
  | lks (i : Nat) (s : Stm)

/-! ### operators -/
def okMul (x y : Int) : Bool := decide ((-(2 ^ 64) < x ∧ x < 2 ^ 64) ∨ (-(2 ^ 64) < y ∧ y < 2 ^ 64)) || decide ((Builtin.Int.intBits x : Int) + (Builtin.Int.intBits y : Int) ≤ 134217728)
def okDiv (x y : Int) : Bool := decide (y ≠ 0) && (decide (y.natAbs < 1073741824) || (decide (0 < y) && !(Builtin.divisionGoesByPylong x y)))
def seqOf (M : Sto) : D → Option (List D)
  | .tup xs => some xs
  | .loc i => match M[i]? with
    | some (.lst xs) => some xs
    | some (.flst xs) => some xs
    | _ => none
  | _ => none
def addD (x y : D) (M : Sto) : Option (D × Sto) :=
  match x, y with
  | .int a, .int b => some (.int (a + b), M)
  | .tup xs, .tup ys => if xs.length + ys.length ≤ sizeLine then some (.tup (xs ++ ys), M) else none
  | .str a, .str b => if a.length + b.length ≤ sizeLine then some (.str (a ++ b), M) else none
  | .loc i, .loc j => match M[i]?, M[j]? with
    | some (.lst xs), some (.lst ys) => if xs.length + ys.length ≤ sizeLine then some (.loc M.length, M ++ [.lst (xs ++ ys)]) else none
    | _, _ => none
  | _, _ => none
def subD (x y : D) (M : Sto) : Option (D × Sto) :=
  match x, y with
  | .int a, .int b => some (.int (a - b), M)
  | _, _ => none
def mulD (x y : D) (M : Sto) : Option (D × Sto) :=
  match x, y with
  | .int a, .int b => if okMul a b then some (.int (a * b), M) else none
  | .loc i, .int k => match M[i]? with
    | some (.lst xs) => if -(2 ^ 63) ≤ k ∧ k < 2 ^ 63 ∧ xs.length * k.toNat ≤ sizeLine then some (.loc M.length, M ++ [.lst (List.replicate k.toNat xs).flatten]) else none
    | _ => none
  | .tup xs, .int k => if xs ≠ [] ∧ 0 ≤ k ∧ k ≤ 1000 ∧ xs.length ≤ 1000 then some (.tup (List.replicate k.toNat xs).flatten, M) else none
  | _, _ => none
def fdivD (x y : D) (M : Sto) : Option (D × Sto) :=
  match x, y with
  | .int a, .int b => if okDiv a b then some (.int (a.fdiv b), M) else none
  | _, _ => none
def modD (x y : D) (M : Sto) : Option (D × Sto) :=
  match x, y with
  | .int a, .int b => if b ≠ 0 then some (.int (a.fmod b), M) else none
  | _, _ => none
def powD (x y : D) (M : Sto) : Option (D × Sto) :=
  match x, y with
  | .int a, .int b => if 0 ≤ b ∧ b ≤ 1000000 ∧ a.natAbs < 2 ^ 64 then some (.int (a ^ b.toNat), M) else none
  | _, _ => none
def opB : Bop → D → D → Sto → Option (D × Sto)
  | .add => addD
  | .sub => subD
  | .mul => mulD
  | .fdiv => fdivD
  | .mod => modD
  | .pow => powD
mutual
def pyOf (M : Sto) : Nat → D → Option PyData
  | _, .non => some .none
  | _, .bl b => some (.bool b)
  | _, .int i => some (.int i)
  | _, .str x => some (.str x)
  | 0, .tup _ => none
  | 0, .loc _ => none
  | n + 1, .tup xs => (pysOf M n xs).map .tuple
  | n + 1, .loc i => match M[i]? with
    | some (.lst xs) => (pysOf M n xs).map .list
    | _ => none
def pysOf (M : Sto) : Nat → List D → Option (List PyData)
  | _, [] => some []
  | n, x :: xs => (pyOf M n x).bind fun d => (pysOf M n xs).map (d :: ·)
end

/-! ### comparisons -/
def flatD : D → Bool
  | .non => true
  | .bl _ => true
  | .int _ => true
  | .str _ => true
  | _ => false
def eqF : D → D → Bool
  | .non, .non => true
  | .bl a, .bl b => a == b
  | .int a, .int b => decide (a = b)
  | .str a, .str b => decide (a = b)
  | .bl a, .int b => decide ((if a then 1 else 0) = b)
  | .int a, .bl b => decide (a = (if b then 1 else 0))
  | _, _ => false
def depthMost : Nat := 40
def pyP (M : Sto) (d : D) : Option PyData := pyOf M depthMost d
def dictAt (M : Sto) : D → Option (List (D × D))
  | .loc i => match M[i]? with
    | some (.dct kvs) => some kvs
    | _ => none
  | _ => none
def lookD (kvs : List (D × D)) (k : D) : Option D := (kvs.find? fun kv => kv.1 = k).map (·.2)
def putD (kvs : List (D × D)) (k v : D) : List (D × D) := if kvs.any (fun kv => kv.1 = k) then kvs.map (fun kv => if kv.1 = k then (kv.1, v) else kv) else kvs ++ [(k, v)]
def delD (kvs : List (D × D)) (k : D) : List (D × D) := kvs.filter fun kv => decide (kv.1 ≠ k)
/-- a key for dicts: a tuple, without truth values -/
def okKey (k : D) : Bool := match k with
  | .tup _ => (match keyOf k with
    | some q => decide (q.depth ≤ 8)
    | none => false)
  | _ => false
def eqD (x y : D) (M : Sto) : Option Bool :=
  match pyP M x, pyP M y with
  | some p, some q => if SeqAt.shaped p && SeqAt.shaped q then some (PyData.eqv p q) else none
  | _, _ => none
def ltD (x y : D) (M : Sto) : Option Bool :=
  match x, y with
  | .int a, .int b => some (decide (a < b))
  | .tup _, .tup _ => match pyP M x, pyP M y with
    | some p, some q => if W.alike p q && SeqAt.shaped p && SeqAt.shaped q then some (W.dataLt p q) else none
    | _, _ => none
  | _, _ => none
mutual
/-- numbers, and tuples of such -/
def intTup : PyData → Bool
  | .int _ => true
  | .tuple xs => intTups xs
  | _ => false
def intTups : List PyData → Bool
  | [] => true
  | x :: xs => intTup x && intTups xs
end
mutual
def leV : PyData → PyData → Bool
  | .int a, .int b => decide (a ≤ b)
  | .tuple xs, .tuple ys => leVs xs ys
  | _, _ => false
def leVs : List PyData → List PyData → Bool
  | [], _ => true
  | _ :: _, [] => false
  | x :: xs, y :: ys => if PyData.eqv x y then leVs xs ys else leV x y
end
def leD (x y : D) (M : Sto) : Option Bool :=
  match x, y with
  | .int a, .int b => some (decide (a ≤ b))
  | .tup _, .tup _ => match pyP M x, pyP M y with
    | some p, some q => if W.alike p q && SeqAt.shaped p && SeqAt.shaped q && intTup p && intTup q then some (leV p q) else none
    | _, _ => none
  | _, _ => none
def gtD (x y : D) (_ : Sto) : Option Bool :=
  match x, y with
  | .int a, .int b => some (decide (b < a))
  | _, _ => none
def geD (x y : D) (_ : Sto) : Option Bool :=
  match x, y with
  | .int a, .int b => some (decide (b ≤ a))
  | _, _ => none
def inD (x y : D) (M : Sto) : Option Bool :=
  match dictAt M y with
  | some kvs => if okKey x then some (lookD kvs x).isSome else none
  | none => match seqOf M y with
    | some ys => if flatD x && ys.all flatD then some (ys.any fun z => eqF z x) else
        match y, pyP M x, pyP M y with
        | .loc _, some d, some (.list ds) => if SeqAt.shaped d && SeqAt.shaped (.list ds) then some (ds.any fun z => PyData.eqv z d) else none
        | _, _, _ => none
    | none => none
def isnD (x y : D) (_ : Sto) : Option Bool :=
  match y with
  | .non => some (match x with
    | .non => true
    | _ => false)
  | _ => none
/-- == of two dicts, their values fractions -/
def fracV : D → Bool
  | .tup [.int _, .int _] => true
  | _ => false
def deqD (x y : D) (M : Sto) : Option Bool :=
  match dictAt M x, dictAt M y with
  | some ka, some kb => if ka.all (fun e => fracV e.2) && kb.all (fun e => fracV e.2) then some (decide (ka.length = kb.length) && ka.all fun e => decide (lookD kb e.1 = some e.2)) else none
  | _, _ => none
def opC : Cop → D → D → Sto → Option Bool
  | .eq => eqD
  | .ne => fun x y M => (eqD x y M).map (!·)
  | .lt => ltD
  | .le => leD
  | .gt => gtD
  | .ge => geD
  | .inn => inD
  | .notin => fun x y M => (inD x y M).map (!·)
  | .isn => isnD
  | .isnt => fun x y M => (isnD x y M).map (!·)
  | .deq => deqD
def truD (M : Sto) : D → Option Bool
  | .bl b => some b
  | .int i => some (i != 0)
  | .non => some false
  | .tup xs => some (!xs.isEmpty)
  | .loc i => match M[i]? with
    | some (.lst xs) => some (!xs.isEmpty)
    | _ => none
  | .str _ => none
/-! ### places, slices -/
def ixD (M : Sto) (x i : D) : Option D :=
  match x, i with
  | .tup xs, .int k => L2.atI xs k
  | .loc n, .int k => match M[n]? with
    | some (.lst xs) => L2.atI xs k
    | some (.flst xs) => L2.atI xs k
    | _ => none
  | .loc n, .tup ks => match M[n]? with
    | some (.dct kvs) => if okKey (.tup ks) then lookD kvs (.tup ks) else none
    | some (.fdct kvs) => if okKey (.tup ks) then lookD kvs (.tup ks) else none
    | _ => none
  | _, _ => none
def setD (M : Sto) (x i v : D) : Option Sto :=
  match x, i with
  | .loc n, .int k => match M[n]? with
    | some (.lst xs) => (L2.ixN xs.length k).map fun j => M.set n (.lst (xs.set j v))
    | _ => none
  | .loc n, .tup ks => match M[n]? with
    | some (.dct kvs) => if okKey (.tup ks) && decide (kvs.length < sizeLine) then some (M.set n (.dct (putD kvs (.tup ks) v))) else none
    | _ => none
  | _, _ => none
def cutD (xs : List D) (lo hi : Option Int) : List D := (xs.drop (HT.sIx xs.length 0 lo)).take (HT.sIx xs.length xs.length hi - HT.sIx xs.length 0 lo)
def slcD (x : D) (lo hi : Option Int) (M : Sto) : Option (D × Sto) :=
  match x with
  | .tup xs => some (.tup (cutD xs lo hi), M)
  | .loc n => match M[n]? with
    | some (.lst xs) => some (.loc M.length, M ++ [.lst (cutD xs lo hi)])
    | some (.flst xs) => some (.loc M.length, M ++ [.lst (cutD xs lo hi)])
    | _ => none
  | _ => none
def revD (x : D) : Option D := match x with
  | .tup xs => some (.tup xs.reverse)
  | _ => none

/-! ### built-ins, methods -/
def intsOf : List D → Option (List Int)
  | [] => some []
  | .int i :: xs => (intsOf xs).map (i :: ·)
  | _ :: _ => none
def blsOf : List D → Option (List Bool)
  | [] => some []
  | .bl i :: xs => (blsOf xs).map (i :: ·)
  | _ :: _ => none
def maxL : List Int → Option Int
  | [] => none
  | x :: xs => some (xs.foldl max x)
def isiD (c : Cls) (x : D) (M : Sto) : Option Bool :=
  match c, x with
  | .int, .int _ => some true
  | .int, .bl _ => some true
  | .bool, .bl _ => some true
  | .str, .str _ => some true
  | .tuple, .tup _ => some true
  | .list, .loc i => match M[i]? with
    | some (.lst _) => some true
    | some (.dct _) => some false
    | _ => none
  | .dict, .loc i => match M[i]? with
    | some (.lst _) => some false
    | some (.dct _) => some true
    | _ => none
  | _, .loc i => match M[i]? with
    | some (.lst _) => some false
    | some (.dct _) => some false
    | _ => none
  | _, _ => some false
def sortD (M : Sto) (xs : List D) : Option (List D) :=
  match pysOf M depthMost xs with
  | some ps => if W.alikeAll ps ps && ps.all (fun p => ps.all fun q => W.alike p q) && ps.all SeqAt.shaped && (ps.all (fun p => match p with
      | .tuple (_ :: _) => true
      | _ => false) || ps.all (fun p => match p with
      | .int _ => true
      | _ => false)) && decide (xs.length ≤ sizeLine) then some (((xs.zip ps).mergeSort fun a b => !W.dataLt b.2 a.2).map (·.1)) else none
  | none => none
abbrev Bf := List D → Sto → Option (D × Sto)
def absB : Bf
  | [.int i], M => some (.int (if i < 0 then -i else i), M)
  | _, _ => none
def lenB : Bf
  | [x], M => match seqOf M x with
    | some xs => some (.int xs.length, M)
    | none => match dictAt M x with
      | some kvs => some (.int kvs.length, M)
      | none => none
  | _, _ => none
def intB : Bf
  | [.int i], M => some (.int i, M)
  | [.bl b], M => some (.int (if b then 1 else 0), M)
  | _, _ => none
def allB : Bf
  | [.loc i], M => match M[i]? with
    | some (.lst xs) => (blsOf xs).map fun bs => (.bl (bs.all id), M)
    | _ => none
  | _, _ => none
def sumB : Bf
  | [x], M => match seqOf M x with
    | some xs => (intsOf xs).map fun ns => (.int ns.sum, M)
    | none => none
  | _, _ => none
def maxB : Bf
  | [.int i, .int j], M => some (.int (if j > i then j else i), M)
  | _, _ => none
def minB : Bf
  | [.int i, .int j], M => some (.int (if j < i then j else i), M)
  | _, _ => none
def maxdB : Bf
  | [.loc i], M => match M[i]? with
    | some (.lst []) => some (.non, M)
    | some (.lst xs) => ((intsOf xs).bind maxL).map fun m => (.int m, M)
    | _ => none
  | _, _ => none
def divmodB : Bf
  | [.int a, .int b], M => if 0 < b && okDiv a b then some (.tup [.int (a / b), .int (a % b)], M) else none
  | _, _ => none
def tupleB : Bf
  | [x], M => (seqOf M x).map fun xs => (.tup xs, M)
  | _, _ => none
def listB : Bf
  | [x], M => match seqOf M x with
    | some xs => some (.loc M.length, M ++ [.lst xs])
    | none => (dictAt M x).map fun kvs => (.loc M.length, M ++ [.lst (kvs.map (·.1))])
  | _, _ => none
def sortedB : Bf
  | [.loc i], M => match M[i]? with
    | some (.lst xs) => (sortD M xs).map fun ys => (.loc M.length, M ++ [.lst ys])
    | some (.dct kvs) => (sortD M (kvs.map (·.1))).map fun ys => (.loc M.length, M ++ [.lst ys])
    | _ => none
  | [.tup xs], M => (sortD M xs).map fun ys => (.loc M.length, M ++ [.lst ys])
  | _, _ => none
def canRepr : D → Bool
  | .non => false
  | _ => true
def reprB : Bf
  | [x], M => match pyP M x with
    | some p => if canRepr x && p.showable && decide (p.shown.length ≤ sizeLine) then some (.str p.shown, M) else none
    | none => none
  | _, _ => none
def strB : Bf
  | [.int i], M => if i.natAbs.log2 < 1920 then some (.str (toString i), M) else none
  | _, _ => none
def gcdB : Bf
  | [.int a, .int b], M => some (.int (Nat.gcd a.natAbs b.natAbs : Nat), M)
  | _, _ => none
def isiB (c : Cls) : Bf
  | [x], M => (isiD c x M).map fun b => (.bl b, M)
  | _, _ => none
/-- the next choice -/
def nextCh (n : Nat) (indices : List Nat) : Option (List Nat) :=
  let r := indices.length
  match (List.range r).reverse.find? fun i => indices.getD i 0 != i + n - r with
  | none => none
  | some i => some (indices.take i ++ (List.range (r - i)).map (indices.getD i 0 + 1 + ·))
def chsGo (n : Nat) : Nat → List Nat → List (List Nat)
  | 0, x => [x]
  | f + 1, x => match nextCh n x with
    | none => [x]
    | some y => x :: chsGo n f y
/-- all choices of r out of n places -/
def chsL (n r : Nat) : List (List Nat) := chsGo n 100 (List.range r)
/-- list(combinations(range(n), r)) -/
def combB : Bf
  | [.int n, .int r], M => if 0 ≤ n ∧ n ≤ 4 ∧ 0 ≤ r ∧ r ≤ n then some (.loc M.length, M ++ [.lst ((chsL n.toNat r.toNat).map fun y => .tup (y.map fun (i : Nat) => .int i))]) else none
  | _, _ => none
def biD : Bi → Bf
  | .abs => absB
  | .len => lenB
  | .int => intB
  | .all => allB
  | .sum => sumB
  | .max => maxB
  | .min => minB
  | .divmod => divmodB
  | .tuple => tupleB
  | .list => listB
  | .sorted => sortedB
  | .repr => reprB
  | .str => strB
  | .gcd => gcdB
  | .isi c => isiB c
  | .maxd => maxdB
  | .fact => fun _ _ => none
  | .lcm => fun _ _ => none
  | .comb => combB
abbrev Mf := D → List D → Sto → Option (D × Sto)
def appendM : Mf
  | .loc i, [x], M => match M[i]? with
    | some (.lst xs) => if xs.length < sizeLine then some (.non, M.set i (.lst (xs ++ [x]))) else none
    | _ => none
  | _, _, _ => none
def extendM : Mf
  | .loc i, [.loc j], M => match M[i]?, M[j]? with
    | some (.lst xs), some (.lst ys) => if xs.length + ys.length ≤ sizeLine then some (.non, M.set i (.lst (xs ++ ys))) else none
    | _, _ => none
  | _, _, _ => none
def getM : Mf
  | .loc i, [k, x], M => match M[i]? with
    | some (.dct kvs) => if okKey k then some ((lookD kvs k).getD x, M) else none
    | _ => none
  | _, _, _ => none
def popM : Mf
  | .loc i, [k], M => match M[i]? with
    | some (.dct kvs) => if okKey k then (lookD kvs k).map fun v => (v, M.set i (.dct (delD kvs k))) else none
    | _ => none
  | _, _, _ => none
def setdefaultM : Mf
  | .loc i, [k, x], M => match M[i]? with
    | some (.dct kvs) => if okKey k then match lookD kvs k with
      | some v => some (v, M)
      | none => if kvs.length < sizeLine then some (x, M.set i (.dct (putD kvs k x))) else none
      else none
    | _ => none
  | _, _, _ => none
def poplM : Mf
  | .loc i, [.int k], M => match M[i]? with
    | some (.lst xs) => if 0 ≤ k ∧ k < 2 ^ 63 then (xs[k.toNat]?).map fun v => (v, M.set i (.lst (xs.eraseIdx k.toNat))) else none
    | _ => none
  | _, _, _ => none
def mthD : Mth → Mf
  | .append => appendM
  | .extend => extendM
  | .get => getM
  | .pop => popM
  | .setdefault => setdefaultM
  | .popl => poplM

def preM (m : Mth) (o : D) (M : Sto) : Bool := match o with
  | .loc i => match m, M[i]? with
    | .append, some (.lst _) => true
    | .extend, some (.lst _) => true
    | .get, some (.dct _) => true
    | .pop, some (.dct _) => true
    | .setdefault, some (.dct _) => true
    | .popl, some (.lst _) => true
    | _, _ => false
  | _ => false
/-! ### loops -/
def wipeD (δ : Env) : List Nat → Env
  | [] => δ
  | v :: vs => (wipeD δ vs).set v none
def bindMany : List Nat → List D → Env → Option Env
  | [], [], δ => some δ
  | i :: is, d :: ds, δ => bindMany is ds (δ.set i (some d))
  | _, _, _ => none
def bindC : Tgc → D → Env → Option Env
  | .one i, d, δ => some (δ.set i (some d))
  | .many is, .tup ds, δ => bindMany is ds δ
  | .many _, _, _ => none
def ownC : Tgc → List Nat
  | .one i => [i]
  | .many is => is
def loopC (elt : Env → Sto → Option (D × Sto)) (cond : Env → Sto → Option (Bool × Sto)) (bind : D → Option Env) (ok : Sto → Bool) (n : Nat) : List D → Sto → Option Sto
  | [], M => if ok M then some M else none
  | x :: xs, M => if ok M then
      match bind x with
      | some δ => match cond δ M with
        | some (true, M1) => match elt δ M1 with
          | some (y, M2) => match M2[n]? with
            | some (.lst acc) => if acc.length < sizeLine then loopC elt cond bind ok n xs (M2.set n (.lst (acc ++ [y]))) else none
            | _ => none
          | none => none
        | some (false, M1) => loopC elt cond bind ok n xs M1
        | none => none
      | none => none
    else none
def loopD (kf vf : Env → Sto → Option (D × Sto)) (cond : Env → Sto → Option (Bool × Sto)) (bind : D → Option Env) (ok : Sto → Bool) (n : Nat) : List D → Sto → Option Sto
  | [], M => if ok M then some M else none
  | x :: xs, M => if ok M then
      match bind x with
      | some δ => match cond δ M with
        | some (true, M1) => match kf δ M1 with
          | some (k, M2) => match vf δ M2 with
            | some (v, M3) => match M3[n]? with
              | some (.dct kvs) => if okKey k && decide (kvs.length < sizeLine) then loopD kf vf cond bind ok n xs (M3.set n (.dct (putD kvs k v))) else none
              | _ => none
            | none => none
          | none => none
        | some (false, M1) => loopD kf vf cond bind ok n xs M1
        | none => none
      | none => none
    else none
def loopA (elt : Env → Sto → Option (D × Sto)) (bind : D → Env) : List D → Sto → Option (Bool × Sto)
  | [], M => some (true, M)
  | x :: xs, M => match elt (bind x) M with
    | some (.bl true, M2) => loopA elt bind xs M2
    | some (.bl false, M2) => some (false, M2)
    | _ => none
def loopS (body : D → Env → Sto → Option (Fl × Env × Sto)) (ok : Sto → Bool) : List D → Env → Sto → Option (Fl × Env × Sto)
  | [], δ, M => if ok M then some (.nx, δ, M) else none
  | x :: xs, δ, M => if ok M then
      match body x δ M with
      | some (.nx, δ', M') => loopS body ok xs δ' M'
      | some (.ct, δ', M') => loopS body ok xs δ' M'
      | some (.bk, δ', M') => some (.nx, δ', M')
      | some (.rt d, δ', M') => some (.rt d, δ', M')
      | none => none
    else none
def loopW (test : Env → Sto → Option (Bool × Sto)) (body : Env → Sto → Option (Fl × Env × Sto)) : Nat → Env → Sto → Option (Fl × Env × Sto)
  | 0, _, _ => none
  | n + 1, δ, M => match test δ M with
    | some (false, M1) => some (.nx, δ, M1)
    | some (true, M1) => match body δ M1 with
      | some (.nx, δ', M') => loopW test body n δ' M'
      | some (.ct, δ', M') => loopW test body n δ' M'
      | some (.bk, δ', M') => some (.nx, δ', M')
      | some (.rt d, δ', M') => some (.rt d, δ', M')
      | none => none
    | none => none
/-- what is walked must stay as it was -/
def okAt (d : D) (xs : List D) (M : Sto) : Bool := match d with
  | .tup _ => true
  | .loc i => match M[i]? with
    | some (.lst ys) => decide (ys = xs)
    | some (.flst ys) => decide (ys = xs)
    | _ => false
  | _ => false
def okDict (d : D) (xs : List (D × D)) (M : Sto) : Bool := match d with
  | .loc i => match M[i]? with
    | some (.fdct ys) => decide (ys = xs)
    | _ => false
  | _ => false
def keysAt (d : D) (M : Sto) : Option (List (D × D)) := match d with
  | .loc i => match M[i]? with
    | some (.fdct ys) => some ys
    | _ => none
  | _ => none
def rngD : List D → Option (List D)
  | [.int j] => if -(2 ^ 62) ≤ j ∧ j < 2 ^ 62 then some ((List.range j.toNat).map fun (k : Nat) => .int (0 + (k : Int))) else none
  | [.int i, .int j] => if -(2 ^ 62) ≤ i ∧ i < 2 ^ 62 ∧ -(2 ^ 62) ≤ j ∧ j < 2 ^ 62 then some ((List.range (j - i).toNat).map fun (k : Nat) => .int (i + (k : Int))) else none
  | _ => none
def zipD (xs ys : List D) : List D := (xs.zip ys).map fun p => .tup [p.1, p.2]
def enumD (xs : List D) (k : Int) : List D := ((List.range xs.length).zip xs).map fun p => .tup [.int (k + (p.1 : Int)), p.2]

abbrev Fns := Nat → List D → Sto → Option (D × Sto)

mutual
def evE (F : Fns) : Ex → Env → Sto → Option (D × Sto)
  | .var i, δ, M => match δ[i]? with
    | some (some d) => some (d, M)
    | _ => none
  | .con c, _, M => some (c, M)
  | .glob _ c, _, M => some (c, M)
  | .tup es, δ, M => match evEs F es δ M with
    | some (ds, M1) => some (.tup ds, M1)
    | none => none
  | .lst es, δ, M => match evEs F es δ M with
    | some (ds, M1) => some (.loc M1.length, M1 ++ [.lst ds])
    | none => none
  | .dct ks vs, _, M => match ks, vs with
    | [], [] => some (.loc M.length, M ++ [.dct []])
    | _, _ => none
  | .bin o a b, δ, M => match evE F a δ M with
    | some (x, M1) => match evE F b δ M1 with
      | some (y, M2) => opB o x y M2
      | none => none
    | none => none
  | .neg a, δ, M => match evE F a δ M with
    | some (.int i, M1) => some (.int (-i), M1)
    | _ => none
  | .cmp o a b, δ, M => match evE F a δ M with
    | some (x, M1) => match evE F b δ M1 with
      | some (y, M2) => (opC o x y M2).map fun c => (.bl c, M2)
      | none => none
    | none => none
  | .cmp2 o o2 a b c, δ, M => match evE F a δ M with
    | some (x, M1) => match evE F b δ M1 with
      | some (y, M2) => match opC o x y M2 with
        | some true => match evE F c δ M2 with
          | some (z, M3) => (opC o2 y z M3).map fun k => (.bl k, M3)
          | none => none
        | some false => some (.bl false, M2)
        | none => none
      | none => none
    | none => none
  | .band es, δ, M => evAnd F es δ M
  | .bor es, δ, M => evOr F es δ M
  | .bnot a, δ, M => match evE F a δ M with
    | some (.bl c, M1) => some (.bl (!c), M1)
    | _ => none
  | .ife c a b, δ, M => match evE F c δ M with
    | some (x, M1) => match truD M1 x with
      | some true => evE F a δ M1
      | some false => evE F b δ M1
      | none => none
    | none => none
  | .sub a i, δ, M => match evE F a δ M with
    | some (x, M1) => match evE F i δ M1 with
      | some (y, M2) => (ixD M2 x y).map fun d => (d, M2)
      | none => none
    | none => none
  | .slc a lo hi, δ, M => match evE F a δ M with
    | some (x, M1) => match evO F lo δ M1 with
      | some (l, M2) => match evO F hi δ M2 with
        | some (h, M3) => slcD x l h M3
        | none => none
      | none => none
    | none => none
  | .rev a, δ, M => match evE F a δ M with
    | some (x, M1) => (revD x).map fun d => (d, M1)
    | none => none
  | .call f es, δ, M => match evEs F es δ M with
    | some (ds, M1) => F f ds M1
    | none => none
  | .calld f es cs, δ, M => match evEs F es δ M with
    | some (ds, M1) => F f (ds ++ cs) M1
    | none => none
  | .callp f es _ pi, δ, M => match evEs F es δ M with
    | some (ds, M1) => F f (pi.map fun i => ds.getD i .non) M1
    | none => none
  | .callk f es _, δ, M => match evEs F es δ M with
    | some (ds, M1) => F f ds M1
    | none => none
  | .bi b es, δ, M => match evEs F es δ M with
    | some (ds, M1) => biD b ds M1
    | none => none
  | .mth m o es, δ, M => match evE F o δ M with
    | some (x, M1) => if preM m x M1 then
        match evEs F es δ M1 with
        | some (ds, M2) => mthD m x ds M2
        | none => none
      else none
    | none => none
  | .lc elt t it ifs, δ, M => match evI F it δ M with
    | some (xs, ok, M1) => match loopC (fun δ' M' => evE F elt δ' M') (fun δ' M' => evC F ifs δ' M') (fun d => bindC t d (wipeD δ (ownC t))) ok M1.length xs (M1 ++ [.lst []]) with
      | some M2 => some (.loc M1.length, M2)
      | none => none
    | none => none
  | .dc ke ve t it ifs, δ, M => match evI F it δ M with
    | some (xs, ok, M1) => match loopD (fun δ' M' => evE F ke δ' M') (fun δ' M' => evE F ve δ' M') (fun δ' M' => evC F ifs δ' M') (fun d => bindC t d (wipeD δ (ownC t))) ok M1.length xs (M1 ++ [.dct []]) with
      | some M2 => some (.loc M1.length, M2)
      | none => none
    | none => none
  | .allg elt i it, δ, M => match evE F it δ M with
    | some (x, M1) => match x with
      | .tup xs => (loopA (fun δ' M' => evE F elt δ' M') (fun d => δ.set i (some d)) xs M1).map fun r => (.bl r.1, r.2)
      | _ => none
    | none => none
  | .lk i e, δ, M => match δ[i]? with
    | some (some (.loc n)) => match M[n]? with
      | some (.dct kvs) => match evE F e δ (M.set n (.fdct kvs)) with
        | some (d, M1) => match M1[n]? with
          | some (.fdct ks) => some (d, M1.set n (.dct ks))
          | _ => none
        | none => none
      | _ => none
    | _ => none
def evEs (F : Fns) : List Ex → Env → Sto → Option (List D × Sto)
  | [], _, M => some ([], M)
  | e :: es, δ, M => match evE F e δ M with
    | some (d, M1) => match evEs F es δ M1 with
      | some (ds, M2) => some (d :: ds, M2)
      | none => none
    | none => none
def evAnd (F : Fns) : List Ex → Env → Sto → Option (D × Sto)
  | [], _, _ => none
  | e :: es, δ, M => match es with
    | [] => evE F e δ M
    | e2 :: es2 => match evE F e δ M with
      | some (.bl true, M1) => evAnd F (e2 :: es2) δ M1
      | some (.bl false, M1) => some (.bl false, M1)
      | _ => none
def evOr (F : Fns) : List Ex → Env → Sto → Option (D × Sto)
  | [], _, _ => none
  | e :: es, δ, M => match es with
    | [] => evE F e δ M
    | e2 :: es2 => match evE F e δ M with
      | some (.bl true, M1) => some (.bl true, M1)
      | some (.bl false, M1) => evOr F (e2 :: es2) δ M1
      | _ => none
def evO (F : Fns) : Option Ex → Env → Sto → Option (Option Int × Sto)
  | none, _, M => some (none, M)
  | some e, δ, M => match evE F e δ M with
    | some (.int i, M1) => some (some i, M1)
    | _ => none
def evC (F : Fns) : List Ex → Env → Sto → Option (Bool × Sto)
  | [], _, M => some (true, M)
  | e :: es, δ, M => match es with
    | [] => match evE F e δ M with
      | some (d, M1) => (truD M1 d).map fun b => (b, M1)
      | none => none
    | _ :: _ => none
def evI (F : Fns) : Itx → Env → Sto → Option (List D × (Sto → Bool) × Sto)
  | .ex e, δ, M => match evE F e δ M with
    | some (d, M1) => match seqOf M1 d with
      | some xs => some (xs, okAt d xs, M1)
      | none => none
    | none => none
  | .keys e, δ, M => match evE F e δ M with
    | some (d, M1) => match keysAt d M1 with
      | some kvs => some (kvs.map (·.1), okDict d kvs, M1)
      | none => none
    | none => none
  | .rng es, δ, M => match evEs F es δ M with
    | some (ds, M1) => (rngD ds).map fun xs => (xs, fun _ => true, M1)
    | none => none
  | .zip a b, δ, M => match evE F a δ M with
    | some (x, M1) => match evE F b δ M1 with
      | some (y, M2) => match x, y with
        | .tup xs, .tup ys => some (zipD xs ys, fun _ => true, M2)
        | _, _ => none
      | none => none
    | none => none
  | .enum a k, δ, M => match evE F a δ M with
    | some (x, M1) => match x with
      | .tup xs => some (enumD xs k, fun _ => true, M1)
      | _ => none
    | none => none
  | .items _, _, _ => none
  | .vals _, _, _ => none
end
mutual
def bindT (F : Fns) : Tg → D → Env → Sto → Option (Env × Sto)
  | .one i, d, δ, M => some (δ.set i (some d), M)
  | .sub o i, d, δ, M => match evE F o δ M with
    | some (x, M1) => match evE F i δ M1 with
      | some (y, M2) => (setD M2 x y d).map fun M3 => (δ, M3)
      | none => none
    | none => none
  | .many ts, .tup ds, δ, M => bindTs F ts ds δ M
  | .many _, _, _, _ => none
def bindTs (F : Fns) : List Tg → List D → Env → Sto → Option (Env × Sto)
  | [], [], δ, M => some (δ, M)
  | t :: ts, d :: ds, δ, M => match bindT F t d δ M with
    | some (δ1, M1) => bindTs F ts ds δ1 M1
    | none => none
  | _, _, _, _ => none
end
mutual
def exS (F : Fns) (fu : Nat) : Stm → Env → Sto → Option (Fl × Env × Sto)
  | .asg t e, δ, M => match evE F e δ M with
    | some (d, M1) => (bindT F t d δ M1).map fun r => (.nx, r.1, r.2)
    | none => none
  | .aug i o e, δ, M => match δ[i]? with
    | some (some x) => match evE F e δ M with
      | some (y, M1) => match x, y with
        | .int _, .int _ => (opB o x y M1).map fun r => (.nx, δ.set i (some r.1), r.2)
        | _, _ => none
      | none => none
    | _ => none
  | .exp e, δ, M => match evE F e δ M with
    | some (_, M1) => some (.nx, δ, M1)
    | none => none
  | .ret e, δ, M => match evE F e δ M with
    | some (d, M1) => some (.rt d, δ, M1)
    | none => none
  | .iff c a b, δ, M => match evE F c δ M with
    | some (x, M1) => match truD M1 x with
      | some true => exB F fu a δ M1
      | some false => exB F fu b δ M1
      | none => none
    | none => none
  | .forr t it body, δ, M => match evI F it δ M with
    | some (xs, ok, M1) => loopS (fun d δ' M' => match bindT F t d δ' M' with
        | some (δ2, M2) => exB F fu body δ2 M2
        | none => none) ok xs δ M1
    | none => none
  | .whil c body, δ, M => loopW (fun δ' M' => match evE F c δ' M' with
      | some (x, M1) => (truD M1 x).map fun b => (b, M1)
      | none => none) (fun δ' M' => exB F fu body δ' M') fu δ M
  | .stuck, _, _ => none
  | .pass, δ, M => some (.nx, δ, M)
  | .lks i s, δ, M => match δ[i]? with
    | some (some (.loc n)) => match M[n]? with
      | some (.dct kvs) => match exS F fu s δ (M.set n (.fdct kvs)) with
        | some (fl, δ1, M1) => match M1[n]? with
          | some (.fdct ks) => some (fl, δ1, M1.set n (.dct ks))
          | _ => none
        | none => none
      | _ => none
    | _ => none
def exB (F : Fns) (fu : Nat) : List Stm → Env → Sto → Option (Fl × Env × Sto)
  | [], δ, M => some (.nx, δ, M)
  | st :: sts, δ, M => match exS F fu st δ M with
    | some (.nx, δ1, M1) => exB F fu sts δ1 M1
    | some r => some r
    | none => none
end
/-- a def: how many parameters, how many names, its body -/
structure Fn where
  np : Nat
  nn : Nat
  body : List Stm
def runFn (F : Fns) (fu : Nat) (f : Fn) (ds : List D) (M : Sto) : Option (D × Sto) :=
  if ds.length = f.np then
    match exB F fu f.body (ds.map some ++ List.replicate (f.nn - f.np) none) M with
    | some (.rt d, _, M') => some (d, M')
    | some (.nx, _, M') => some (.non, M')
    | _ => none
  else none
/-- the program's defs, by how deep calls may go -/
def runP (P : List Fn) (fu : Nat) : Nat → Fns
  | 0, _, _, _ => none
  | k + 1, f, ds, M => match P[f]? with
    | some fn => runFn (runP P fu k) fu fn ds M
    | none => none
end DD
namespace DD
open PySem PySem.Spec PyProof.Rows L2
variable [Tabs]

section
variable {X : Cx}
theorem opBy {f : Value → Value → Sem Value} {r' : R2} (h : ∀ x y H Q, r' x y H Q → ∃ r, OpR X f r ∧ r x y H Q) : OpR X f r' := fun pins s σ H x y v u Q I rx ry hw => by
  obtain ⟨r, hr, q⟩ := h x y H Q hw
  exact hr pins s σ H x y v u Q I rx ry q
theorem callBy {f : Value} {r' : List V → Hp → VK → Prop} (h : ∀ xs H Q, r' xs H Q → ∃ r, CallR X f r ∧ r xs H Q) : CallR X f r' := fun pins s σ H xs us Q I rx hw => by
  obtain ⟨r, hr, q⟩ := h xs H Q hw
  exact hr pins s σ H xs us Q I rx q
theorem ixBy {r' : R2} (h : ∀ x y H Q, r' x y H Q → ∃ r, IxR X r ∧ r x y H Q) : IxR X r' := fun value slice pins s σ H x y v u Q I rx ry hw hs => by
  obtain ⟨r, hr, q⟩ := h x y H Q hw
  exact hr value slice pins s σ H x y v u Q I rx ry q hs
theorem mtBy {id : String} {r' : V → List V → Hp → VK → Prop} (h : ∀ x xs H Q, r' x xs H Q → ∃ r, MtR X id r ∧ r x xs H Q) : MtR X id r' := fun pins s σ H x xs v us Q I rx rxs hw => by
  obtain ⟨r, hr, q⟩ := h x xs H Q hw
  exact hr pins s σ H x xs v us Q I rx rxs q
theorem slBy {r' : V → Option Int → Option Int → Hp → VK → Prop} (h : ∀ x lo hi H Q, r' x lo hi H Q → ∃ r, SlR X r ∧ r x lo hi H Q) : SlR X r' := fun pins s σ H x v vl vu lo hi sl Q I rx h1 h2 h3 hw => by
  obtain ⟨r, hr, q⟩ := h x lo hi H Q hw
  exact hr pins s σ H x v vl vu lo hi sl Q I rx h1 h2 h3 q
end

section
variable (K : PySem.W.Frag) (w : World)
/-- what is wanted of a result -/
def Fin1 (u : Vw) (d : D) (M' : Sto) (Q : VK) : Prop := ∀ u' x, Ext K u u' → Wd K w u' M' → RD K u' d x → Q x u'.H
def aD (g : List D → Sto → Option (D × Sto)) : List V → Hp → VK → Prop := fun vs H Q =>
  ∃ u M ds, u.H = H ∧ Wd K w u M ∧ RDs K u ds vs ∧ ∃ d M', g ds M = some (d, M') ∧ Fin1 K w u d M' Q
def rD (g : D → D → Sto → Option (D × Sto)) : R2 := fun x y H Q =>
  ∃ u M a b, u.H = H ∧ Wd K w u M ∧ RD K u a x ∧ RD K u b y ∧ ∃ d M', g a b M = some (d, M') ∧ Fin1 K w u d M' Q
end
section
variable {K : PySem.W.Frag} {w : World} {u : Vw} {M : Sto} {d : D} {M' : Sto} {Q : VK} {x : V}
/-- nothing was made -/
theorem Fin1.now (h : Fin1 K w u d M Q) (W : Wd K w u M) (r : RD K u d x) : Q x u.H := h u x Ext.refl W r
/-- a new tuple -/
theorem Fin1.tup {xs : List D} {vs : List V} (h : Fin1 K w u (.tup xs) M Q) (W : Wd K w u M) (r : RDs K u xs vs) : ∀ p, u.H p = none → Q (.ref p) (upd u.H p (.tup vs)) := fun p hp => by
  obtain ⟨e, W'⟩ := W.tup (o := .tup vs) hp
  exact h _ _ e W' (.tup (SqT.of upd_same) (r.mono e))
/-- a new list -/
theorem Fin1.lst {xs : List D} {vs : List V} (h : Fin1 K w u (.loc M.length) (M ++ [.lst xs]) Q) (W : Wd K w u M) (r : RDs K u xs vs) : ∀ p, u.H p = none → Q (.ref p) (upd u.H p (.lst vs)) := fun p hp => by
  obtain ⟨e, W', rl⟩ := W.new (o := .lst vs) (ob := .lst xs) hp fun u' e h => ⟨vs, h, r.mono e⟩
  have q := h _ (.ref p) e W'
  rw [← W.n] at q
  exact q rl
/-- a list is changed, a value comes -/
theorem Fin1.set {i : Nat} {xs ys : List D} {vs ws : List V} (h : Fin1 K w u d (M.set i (.lst xs)) Q) (W : Wd K w u M) (hi : u.H (u.iot i) = some (.lst ws)) (hm : M[i]? = some (.lst ys)) (r : RDs K u xs vs) (rd : RD K u d x) :
    Q x (upd u.H (u.iot i) (.lst vs)) := by
  obtain ⟨e, W'⟩ := W.put (o := .lst vs) (ob := .lst xs) hm rfl (by rw [hi]; trivial) rfl fun u' e h => ⟨vs, h, r.mono e⟩
  exact h _ _ e W' (rd.mono e)
/-- what stands at a list's number -/
theorem Wd.lst {i : Nat} {xs : List D} (W : Wd K w u M) (h : M[i]? = some (.lst xs)) : i < u.n ∧ ∃ vs, u.H (u.iot i) = some (.lst vs) ∧ RDs K u xs vs := ⟨W.lt h, W.at_ i _ h⟩
theorem Wd.flst {i : Nat} {xs : List D} (W : Wd K w u M) (h : M[i]? = some (.flst xs)) : i < u.n ∧ ∃ vs, RoL K u.H (u.iot i) vs ∧ RDs K u xs vs := ⟨W.lt h, W.at_ i _ h⟩
theorem Wd.seqL {i : Nat} {xs : List D} (W : Wd K w u M) (h : M[i]? = some (.lst xs) ∨ M[i]? = some (.flst xs)) : i < u.n ∧ ∃ vs, SqL K u.H (u.iot i) vs ∧ RDs K u xs vs := by
  rcases h with h | h
  · obtain ⟨a, vs, b, c⟩ := W.lst h
    exact ⟨a, vs, SqL.of b, c⟩
  · obtain ⟨a, vs, b, c⟩ := W.flst h
    exact ⟨a, vs, b.seq, c⟩
theorem RDs.nil_iff {xs : List D} {vs : List V} (r : RDs K u xs vs) : xs = [] ↔ vs = [] := by
  cases r <;> simp
theorem RDs.flatten_rep {xs : List D} {vs : List V} (r : RDs K u xs vs) : ∀ k, RDs K u (List.replicate k xs).flatten (List.replicate k vs).flatten
  | 0 => .nil
  | k + 1 => by
    rw [List.replicate_succ, List.replicate_succ, List.flatten_cons, List.flatten_cons]
    exact r.append (RDs.flatten_rep r k)
end

/-! ### operators -/
section
variable {X : Cx}
theorem okMul_spec {x y : Int} (h : okMul x y = true) : CMul x y ∨ CMulX x y := by
  unfold okMul at h
  simp only [Bool.or_eq_true, decide_eq_true_eq] at h
  exact h
theorem okDiv_spec {x y : Int} (h : okDiv x y = true) : y ≠ 0 ∧ (y.natAbs < 1073741824 ∨ (0 < y ∧ Builtin.divisionGoesByPylong x y = false)) := by
  unfold okDiv at h
  simp only [Bool.or_eq_true, Bool.and_eq_true, decide_eq_true_eq, Bool.not_eq_true'] at h
  exact h
theorem op_add_D : OpR X (binaryOp .Add) (rD X.K X.w addD) := opBy fun x y H Q ⟨u, M, a, b, eH, W, ra, rb, d, M', e, fin⟩ => by
  subst eH
  unfold addD at e
  split at e
  · cases e; cases ra; cases rb
    exact ⟨_, op_add, _, _, rfl, rfl, fin.now W (.int _)⟩
  · split at e
    · rename_i hz
      cases e
      cases ra with
      | tup h1 r1 =>
      cases rb with
      | tup h2 r2 =>
      refine ⟨_, op_catA, _, _, _, _, rfl, rfl, h1, h2, by rw [← r1.length, ← r2.length]; exact hz, fun e => ?_, fun e1 e2 => ?_, fun e1 e2 => ?_⟩
      · rw [r1.nil_iff.mpr e] at fin
        exact fin.now W (.tup h2 r2)
      · rw [r2.nil_iff.mpr e2, List.append_nil] at fin
        exact fin.now W (.tup h1 r1)
      · exact fin.tup W (r1.append r2)
    · cases e
  · split at e
    · rename_i hz
      cases e; cases ra; cases rb
      exact ⟨_, op_add_str, _, _, rfl, rfl, hz, fin.now W (.str _)⟩
    · cases e
  · split at e
    · rename_i h1 h2
      split at e
      · rename_i hz
        cases e
        cases ra; cases rb
        obtain ⟨_, vs, q1, r1⟩ := W.lst h1
        obtain ⟨_, ws, q2, r2⟩ := W.lst h2
        exact ⟨_, op_cat, _, _, _, _, rfl, rfl, q1, q2, by rw [← r1.length, ← r2.length]; exact hz, fin.lst W (r1.append r2)⟩
      · cases e
    · cases e
  · cases e
theorem op_sub_D : OpR X (binaryOp .Sub) (rD X.K X.w subD) := opBy fun x y H Q ⟨u, M, a, b, eH, W, ra, rb, d, M', e, fin⟩ => by
  subst eH
  unfold subD at e
  split at e
  · cases e; cases ra; cases rb
    exact ⟨_, op_sub, _, _, rfl, rfl, fin.now W (.int _)⟩
  · cases e
theorem op_fdiv_D : OpR X (binaryOp .FloorDiv) (rD X.K X.w fdivD) := opBy fun x y H Q ⟨u, M, a, b, eH, W, ra, rb, d, M', e, fin⟩ => by
  subst eH
  unfold fdivD at e
  split at e
  · split at e
    · rename_i a b h
      cases e; cases ra; cases rb
      obtain ⟨h0, h1⟩ := okDiv_spec h
      rcases h1 with h1 | ⟨h1, h2⟩
      · exact ⟨_, op_fdivN, _, _, rfl, rfl, ⟨h0, h1⟩, fin.now W (.int _)⟩
      · refine ⟨rI (fun i j => j ≠ 0 ∧ Builtin.divisionGoesByPylong i j = false) fun i j => .int (i.fdiv j), opI fun _ _ _ _ _ _ _ hc q => floordiv_int hc.1 q (.inl hc.2), _, _, rfl, rfl, ⟨h0, h2⟩, fin.now W (.int _)⟩
    · cases e
  · cases e
theorem op_mod_D : OpR X (binaryOp .Mod) (rD X.K X.w modD) := opBy fun x y H Q ⟨u, M, a, b, eH, W, ra, rb, d, M', e, fin⟩ => by
  subst eH
  unfold modD at e
  split at e
  · split at e
    · rename_i h
      cases e; cases ra; cases rb
      exact ⟨_, op_modN, _, _, rfl, rfl, h, fin.now W (.int _)⟩
    · cases e
  · cases e
theorem op_pow_D : OpR X (binaryOp .Pow) (rD X.K X.w powD) := opBy fun x y H Q ⟨u, M, a, b, eH, W, ra, rb, d, M', e, fin⟩ => by
  subst eH
  unfold powD at e
  split at e
  · split at e
    · rename_i h
      cases e; cases ra; cases rb
      exact ⟨_, op_pow, _, _, rfl, rfl, h, fin.now W (.int _)⟩
    · cases e
  · cases e
theorem op_mul_D (hrep : OpR X (binaryOp .Mult) (fun x y H Q => ∃ l k xs, x = .ref l ∧ y = .int k ∧ SqT X.K H l xs ∧ xs ≠ [] ∧ (k = 0 ∨ k = 1) ∧ (k = 1 → Q (.ref l) H) ∧ (k = 0 → ∀ p, H p = none → Q (.ref p) (upd H p (.tup []))))) :
    OpR X (binaryOp .Mult) (rD X.K X.w mulD) := opBy fun x y H Q ⟨u, M, a, b, eH, W, ra, rb, d, M', e, fin⟩ => by
  subst eH
  unfold mulD at e
  split at e
  · split at e
    · rename_i h
      cases e; cases ra; cases rb
      rcases okMul_spec h with h | h
      · exact ⟨_, op_mul, _, _, rfl, rfl, h, fin.now W (.int _)⟩
      · exact ⟨_, op_mulX, _, _, rfl, rfl, h, fin.now W (.int _)⟩
    · cases e
  · split at e
    · rename_i h1
      split at e
      · rename_i h
        cases e; cases ra; cases rb
        obtain ⟨_, vs, q1, r1⟩ := W.lst h1
        exact ⟨_, op_rep, _, _, _, rfl, rfl, q1, h.1, h.2.1, by rw [← r1.length]; exact h.2.2, fin.lst W (r1.flatten_rep _)⟩
      · cases e
    · cases e
  · split at e
    · rename_i xs k h
      cases e; cases rb
      cases ra with
      | tup h1 r1 =>
      obtain ⟨hne, h0, hk, hl⟩ := h
      have hne' := fun e => hne (r1.nil_iff.mpr e)
      by_cases hk2 : 2 ≤ k
      · exact ⟨_, op_repT, _, _, _, rfl, rfl, h1, hne', hk2, hk, by rw [← r1.length]; exact hl, fin.tup W (r1.flatten_rep _)⟩
      · have h01 : k = 0 ∨ k = 1 := by omega
        refine ⟨_, hrep, _, _, _, rfl, rfl, h1, hne', h01, fun e => ?_, fun e => ?_⟩
        · subst e
          have q := fin.now W (x := .ref _) (.tup h1 (by simpa using r1))
          exact q
        · subst e
          exact fin.tup W .nil
    · cases e
  · cases e

/-! ### data -/
mutual
theorem dp_of {K : PySem.W.Frag} {w : World} {u : Vw} {M : Sto} (W : Wd K w u M) : ∀ (n : Nat) (d : D) (v : V) (p : PyData), RD K u d v → pyOf M n d = some p → Dp K u.H v p
  | n, .non, _, _, r, e => by cases r; rw [pyOf] at e; cases e; exact .non
  | n, .bl b, _, _, r, e => by cases r; rw [pyOf] at e; cases e; exact .bl b
  | n, .int i, _, _, r, e => by cases r; rw [pyOf] at e; cases e; exact .int i
  | n, .str x, _, _, r, e => by cases r; rw [pyOf] at e; cases e; exact .str x
  | 0, .tup xs, _, _, r, e => by rw [pyOf] at e; cases e
  | 0, .loc xs, _, _, r, e => by rw [pyOf] at e; cases e
  | n + 1, .tup xs, _, _, r, e => by
    rw [pyOf] at e
    obtain ⟨ps, e', rfl⟩ := Option.map_eq_some_iff.mp e
    cases r with
    | tup h r => exact .tup h (dps_of W n xs _ ps r e')
  | n + 1, .loc i, _, _, r, e => by
    rw [pyOf] at e
    split at e
    · rename_i xs h
      obtain ⟨ps, e', rfl⟩ := Option.map_eq_some_iff.mp e
      cases r
      obtain ⟨_, vs, q, r⟩ := W.lst h
      exact .lst (SqL.of q) (dps_of W n xs vs ps r e')
    · cases e
theorem dps_of {K : PySem.W.Frag} {w : World} {u : Vw} {M : Sto} (W : Wd K w u M) : ∀ (n : Nat) (ds : List D) (vs : List V) (ps : List PyData), RDs K u ds vs → pysOf M n ds = some ps → DpAll K u.H vs ps
  | n, [], _, _, r, e => by cases r; rw [pysOf] at e; cases e; exact .nil
  | n, d :: ds, _, _, r, e => by
    cases r with
    | cons r1 r2 =>
    rw [pysOf] at e
    obtain ⟨p, e1, e⟩ := Option.bind_eq_some_iff.mp e
    obtain ⟨ps, e2, rfl⟩ := Option.map_eq_some_iff.mp e
    exact .cons (dp_of W n d _ p r1 e1) (dps_of W n ds _ ps r2 e2)
end

/-! ### comparisons -/
/-- a comparison: the answer is a truth value, nothing is made -/
def rC (K : PySem.W.Frag) (w : World) (g : D → D → Sto → Option Bool) : R2 := fun x y H Q =>
  ∃ u M a b, u.H = H ∧ Wd K w u M ∧ RD K u a x ∧ RD K u b y ∧ ∃ c, g a b M = some c ∧ Q (.bl c) H
theorem cmp_eq_D (hu : X.A.units + 64 < cLine) : OpR X (compareOp .Eq) (rC X.K X.w eqD) := opBy fun x y H Q ⟨u, M, a, b, eH, W, ra, rb, c, e, q⟩ => by
  subst eH
  unfold eqD at e
  split at e
  · rename_i p p' e1 e2
    split at e
    · rename_i hs
      cases e
      simp only [Bool.and_eq_true] at hs
      exact ⟨_, op_eqD hu, _, _, dp_of W _ _ _ _ ra e1, dp_of W _ _ _ _ rb e2, hs.1, hs.2, q⟩
    · cases e
  · cases e
theorem cmp_ne_D (hu : X.A.units + 64 < cLine) : OpR X (compareOp .NotEq) (rC X.K X.w (opC .ne)) := opBy fun x y H Q ⟨u, M, a, b, eH, W, ra, rb, c, e, q⟩ => by
  subst eH
  simp only [opC] at e
  obtain ⟨c', e', e0⟩ := Option.map_eq_some_iff.mp e
  clear e
  subst e0
  unfold eqD at e'
  split at e'
  · rename_i p p' e1 e2
    split at e'
    · rename_i hs
      cases e'
      simp only [Bool.and_eq_true] at hs
      exact ⟨_, op_neD hu, _, _, dp_of W _ _ _ _ ra e1, dp_of W _ _ _ _ rb e2, hs.1, hs.2, q⟩
    · cases e'
  · cases e'
theorem cmp_gt_D : OpR X (compareOp .Gt) (rC X.K X.w gtD) := opBy fun x y H Q ⟨u, M, a, b, eH, W, ra, rb, c, e, q⟩ => by
  unfold gtD at e
  split at e
  · cases e; cases ra; cases rb
    exact ⟨_, op_gt, _, _, rfl, rfl, q⟩
  · cases e
theorem cmp_ge_D : OpR X (compareOp .GtE) (rC X.K X.w geD) := opBy fun x y H Q ⟨u, M, a, b, eH, W, ra, rb, c, e, q⟩ => by
  unfold geD at e
  split at e
  · cases e; cases ra; cases rb
    exact ⟨_, op_ge, _, _, rfl, rfl, q⟩
  · cases e
/-- < of tuples that are alike -/
def rLtA (K : PySem.W.Frag) : R2 := fun x y H Q => ∃ a b p q, x = .ref a ∧ y = .ref b ∧ Dp K H x (.tuple p) ∧ Dp K H y (.tuple q) ∧ W.alike (.tuple p) (.tuple q) = true ∧ SeqAt.shaped (.tuple p) = true ∧ SeqAt.shaped (.tuple q) = true ∧ Q (.bl (W.dataLt (.tuple p) (.tuple q))) H
def rLeA (K : PySem.W.Frag) : R2 := fun x y H Q => ∃ a b p q, x = .ref a ∧ y = .ref b ∧ Dp K H x (.tuple p) ∧ Dp K H y (.tuple q) ∧ W.alike (.tuple p) (.tuple q) = true ∧ SeqAt.shaped (.tuple p) = true ∧ SeqAt.shaped (.tuple q) = true ∧ Q (.bl (!W.dataLt (.tuple q) (.tuple p))) H
theorem pyP_tup {M : Sto} {xs : List D} {p : PyData} (e : pyP M (.tup xs) = some p) : ∃ ps, p = .tuple ps := by
  unfold pyP depthMost at e
  rw [pyOf] at e
  obtain ⟨ps, _, rfl⟩ := Option.map_eq_some_iff.mp e
  exact ⟨ps, rfl⟩
theorem RD.tup_ref {K : PySem.W.Frag} {u : Vw} {xs : List D} {v : V} (r : RD K u (.tup xs) v) : ∃ a, v = .ref a := by
  cases r; exact ⟨_, rfl⟩
theorem cmp_lt_D (hlt : OpR X (compareOp .Lt) (rLtA X.K)) : OpR X (compareOp .Lt) (rC X.K X.w ltD) := opBy fun x y H Q ⟨u, M, a, b, eH, W, ra, rb, c, e, q⟩ => by
  subst eH
  unfold ltD at e
  split at e
  · cases e; cases ra; cases rb
    exact ⟨_, op_lt, _, _, rfl, rfl, q⟩
  · split at e
    · rename_i e1 e2
      split at e
      · rename_i hs
        cases e
        simp only [Bool.and_eq_true] at hs
        obtain ⟨ps, rfl⟩ := pyP_tup e1
        obtain ⟨qs, rfl⟩ := pyP_tup e2
        obtain ⟨a1, rfl⟩ := ra.tup_ref
        obtain ⟨b1, rfl⟩ := rb.tup_ref
        exact ⟨_, hlt, _, _, _, _, rfl, rfl, dp_of W _ _ _ _ ra e1, dp_of W _ _ _ _ rb e2, hs.1.1, hs.1.2, hs.2, q⟩
      · cases e
    · cases e
  · cases e
theorem cmp_is_D : OpR X (compareOp .Is) (rC X.K X.w isnD) := opBy fun x y H Q ⟨u, M, a, b, eH, W, ra, rb, c, e, q⟩ => by
  unfold isnD at e
  split at e
  · cases e; cases rb
    refine ⟨_, op_isN, rfl, ?_⟩
    cases ra <;> simpa using q
  · cases e
theorem cmp_isnt_D : OpR X (compareOp .IsNot) (rC X.K X.w (opC .isnt)) := opBy fun x y H Q ⟨u, M, a, b, eH, W, ra, rb, c, e, q⟩ => by
  simp only [opC] at e
  obtain ⟨c', e', e0⟩ := Option.map_eq_some_iff.mp e
  clear e
  subst e0
  unfold isnD at e'
  split at e'
  · cases e'; cases rb
    refine ⟨_, op_notN, rfl, ?_⟩
    cases ra <;> simpa using q
  · cases e'

/-! ### truth, places, slices -/
theorem tru_D : TruR X (fun x H Q => ∃ u M a c, u.H = H ∧ Wd X.K X.w u M ∧ RD X.K u a x ∧ truD M a = some c ∧ Q c H) := fun pins s σ H x v Q I rx ⟨u, M, a, c, eH, W, ra, e, q⟩ => by
  subst eH
  refine tru_ok pins s σ u.H x v Q I rx ⟨c, ?_, q⟩
  unfold truD at e
  cases ra with
  | non => cases e; exact rfl
  | bl b => cases e; exact rfl
  | int i => cases e; exact rfl
  | str x => cases e
  | tup h r =>
    cases e
    have hz : ∀ {xs : List D} {vs : List V}, RDs X.K u xs vs → xs.isEmpty = vs.isEmpty := fun r => by cases r <;> rfl
    exact .inr (.inl ⟨_, h, by rw [hz r]⟩)
  | @loc i hi =>
    have e : (match M[i]? with
      | some (.lst xs) => some (!xs.isEmpty)
      | _ => none) = some c := e
    split at e
    · rename_i xs h
      cases e
      obtain ⟨_, vs, q1, r1⟩ := W.lst h
      have hz : xs.isEmpty = vs.isEmpty := by cases r1 <;> rfl
      exact .inl ⟨vs, SqL.of q1, by rw [hz]⟩
    · cases e

theorem atI_rd {K : PySem.W.Frag} {u : Vw} {xs : List D} {vs : List V} {i : Int} {d : D} (r : RDs K u xs vs) (h : L2.atI xs i = some d) : ∃ v, L2.atI vs i = some v ∧ RD K u d v := by
  unfold L2.atI at h ⊢
  obtain ⟨j, h1, h2⟩ := Option.bind_eq_some_iff.mp h
  obtain ⟨v, h3, h4⟩ := r.get h2
  exact ⟨v, by rw [← r.length, h1]; exact h3, h4⟩
theorem cutD_rd {K : PySem.W.Frag} {u : Vw} {xs : List D} {vs : List V} (r : RDs K u xs vs) (lo hi : Option Int) : RDs K u (cutD xs lo hi) (cutV vs lo hi) := by
  unfold cutD cutV
  rw [r.length]
  exact (r.drop _).take _
theorem ix_seq_D (hd : IxR X (fun x y H Q => ∃ u M i k kvs d, u.H = H ∧ Wd X.K X.w u M ∧ RD X.K u (.loc i) x ∧ RD X.K u (.tup k) y ∧ (M[i]? = some (.dct kvs) ∨ M[i]? = some (.fdct kvs)) ∧ okKey (.tup k) = true ∧ lookD kvs (.tup k) = some d ∧ ∀ v, RD X.K u d v → Q v H)) :
    IxR X (fun x y H Q => ∃ u M a b d, u.H = H ∧ Wd X.K X.w u M ∧ RD X.K u a x ∧ RD X.K u b y ∧ ixD M a b = some d ∧ ∀ v, RD X.K u d v → Q v H) := ixBy fun x y H Q ⟨u, M, a, b, d, eH, W, ra, rb, e, q⟩ => by
  unfold ixD at e
  split at e
  · rename_i xs k
    cases rb
    cases ra with
    | tup h r =>
    subst eH
    obtain ⟨v, h1, h2⟩ := atI_rd r e
    exact ⟨_, ix_tup, _, _, _, v, rfl, rfl, h, h1, q v h2⟩
  · rename_i n k
    cases rb; cases ra
    subst eH
    split at e
    · rename_i xs h
      obtain ⟨_, vs, q1, r1⟩ := W.seqL (.inl h)
      obtain ⟨v, h1, h2⟩ := atI_rd r1 e
      exact ⟨_, ix_list, _, _, _, v, rfl, rfl, q1, h1, q v h2⟩
    · rename_i xs h
      obtain ⟨_, vs, q1, r1⟩ := W.seqL (.inr h)
      obtain ⟨v, h1, h2⟩ := atI_rd r1 e
      exact ⟨_, ix_list, _, _, _, v, rfl, rfl, q1, h1, q v h2⟩
    · cases e
  · rename_i n ks
    split at e
    · rename_i kvs h
      split at e
      · rename_i hk
        exact ⟨_, hd, u, M, n, ks, kvs, d, eH, W, ra, rb, .inl h, hk, e, q⟩
      · cases e
    · rename_i kvs h
      split at e
      · rename_i hk
        exact ⟨_, hd, u, M, n, ks, kvs, d, eH, W, ra, rb, .inr h, hk, e, q⟩
      · cases e
    · cases e
  · cases e
theorem sl_D : SlR X (fun x lo hi H Q => ∃ u M a d M', u.H = H ∧ Wd X.K X.w u M ∧ RD X.K u a x ∧ slcD a lo hi M = some (d, M') ∧ Fin1 X.K X.w u d M' Q) := slBy fun x lo hi H Q ⟨u, M, a, d, M', eH, W, ra, e, fin⟩ => by
  subst eH
  unfold slcD at e
  split at e
  · rename_i xs
    cases e
    cases ra with
    | tup h r =>
    refine ⟨_, sl_tupA, _, _, rfl, h, fun hz => ?_, fun hz => ?_⟩
    · have e1 : cutD xs lo hi = xs := by
        unfold cutD
        rw [r.length, hz.1, hz.2, List.drop_zero, Nat.sub_zero, ← r.length, List.take_length]
      rw [e1] at fin
      exact fin.now W (.tup h r)
    · exact fin.tup W (cutD_rd r lo hi)
  · split at e
    · rename_i n xs h
      cases e; cases ra
      obtain ⟨_, vs, q1, r1⟩ := W.seqL (.inl h)
      exact ⟨_, sl_list, _, _, rfl, q1, fin.lst W (cutD_rd r1 lo hi)⟩
    · rename_i n xs h
      cases e; cases ra
      obtain ⟨_, vs, q1, r1⟩ := W.seqL (.inr h)
      exact ⟨_, sl_list, _, _, rfl, q1, fin.lst W (cutD_rd r1 lo hi)⟩
    · cases e
  · cases e
/-- d[k] = v, xs[i] = v -/
theorem set_D (hd : PSet X (fun o i v H Q => ∃ u M n k kvs d, u.H = H ∧ Wd X.K X.w u M ∧ RD X.K u (.loc n) o ∧ RD X.K u (.tup k) i ∧ RD X.K u d v ∧ M[n]? = some (.dct kvs) ∧ okKey (.tup k) = true ∧ kvs.length < sizeLine ∧
      ∀ u', Ext X.K u u' → Wd X.K X.w u' (M.set n (.dct (putD kvs (.tup k) d))) → Q u'.H)) :
    PSet X (fun o i v H Q => ∃ u M a b d M', u.H = H ∧ Wd X.K X.w u M ∧ RD X.K u a o ∧ RD X.K u b i ∧ RD X.K u d v ∧ setD M a b d = some M' ∧ ∀ u', Ext X.K u u' → Wd X.K X.w u' M' → Q u'.H) :=
  fun pins s σ H o i v ov iv uv Q I ro ri rv ⟨u, M, a, b, d, M', eH, W, ra, rb, rd, e, q⟩ => by
  unfold setD at e
  split at e
  · rename_i n k
    cases rb; cases ra
    subst eH
    split at e
    · rename_i xs h
      obtain ⟨j, hj, e2⟩ := Option.map_eq_some_iff.mp e
      subst e2
      obtain ⟨hlt, vs, q1, r1⟩ := W.lst h
      refine set_list pins s σ u.H _ _ v ov iv uv Q I ro ri rv ⟨_, vs, k, j, rfl, rfl, q1, by rw [← r1.length]; exact hj, ?_⟩
      obtain ⟨x, W'⟩ := W.put (o := .lst (vs.set j v)) (ob := .lst (xs.set j d)) h rfl (by rw [q1]; trivial) rfl fun u' x h => ⟨_, h, (r1.mono x).set (rd.mono x) j⟩
      exact q _ x W'
    · cases e
  · rename_i n ks
    split at e
    · rename_i kvs h
      split at e
      · rename_i hk
        cases e
        simp only [Bool.and_eq_true, decide_eq_true_eq] at hk
        exact hd pins s σ H o i v ov iv uv Q I ro ri rv ⟨u, M, n, ks, kvs, d, eH, W, ra, rb, rd, h, hk.1, hk.2, q⟩
      · cases e
    · cases e
  · cases e

/-! ### built-ins -/
theorem ints_rd {K : PySem.W.Frag} {u : Vw} : ∀ {xs : List D} {vs : List V} {ns : List Int}, RDs K u xs vs → intsOf xs = some ns → vs = ns.map V.int
  | [], _, ns, r, h => by cases r; rw [intsOf] at h; cases h; rfl
  | .int i :: xs, _, ns, r, h => by
    cases r with
    | cons r1 r2 =>
    cases r1
    rw [intsOf] at h
    obtain ⟨ms, h2, e⟩ := Option.map_eq_some_iff.mp h
    subst e
    rw [ints_rd r2 h2]; rfl
  | .non :: _, _, _, _, h => by simp [intsOf] at h
  | .bl _ :: _, _, _, _, h => by simp [intsOf] at h
  | .str _ :: _, _, _, _, h => by simp [intsOf] at h
  | .tup _ :: _, _, _, _, h => by simp [intsOf] at h
  | .loc _ :: _, _, _, _, h => by simp [intsOf] at h
theorem bls_rd {K : PySem.W.Frag} {u : Vw} : ∀ {xs : List D} {vs : List V} {ns : List Bool}, RDs K u xs vs → blsOf xs = some ns → vs = ns.map V.bl
  | [], _, ns, r, h => by cases r; rw [blsOf] at h; cases h; rfl
  | .bl i :: xs, _, ns, r, h => by
    cases r with
    | cons r1 r2 =>
    cases r1
    rw [blsOf] at h
    obtain ⟨ms, h2, e⟩ := Option.map_eq_some_iff.mp h
    subst e
    rw [bls_rd r2 h2]; rfl
  | .non :: _, _, _, _, h => by simp [blsOf] at h
  | .int _ :: _, _, _, _, h => by simp [blsOf] at h
  | .str _ :: _, _, _, _, h => by simp [blsOf] at h
  | .tup _ :: _, _, _, _, h => by simp [blsOf] at h
  | .loc _ :: _, _, _, _, h => by simp [blsOf] at h
theorem seq_rd {K : PySem.W.Frag} {w : World} {u : Vw} {M : Sto} {d : D} {v : V} {xs : List D} (W : Wd K w u M) (r : RD K u d v) (h : seqOf M d = some xs) : ∃ a vs, v = .ref a ∧ (SqL K u.H a vs ∨ SqT K u.H a vs) ∧ RDs K u xs vs := by
  unfold seqOf at h
  split at h
  · cases h
    cases r with
    | tup h r => exact ⟨_, _, rfl, .inr h, r⟩
  · cases r
    split at h
    · rename_i h1
      cases h
      obtain ⟨_, vs, q1, r1⟩ := W.seqL (.inl h1)
      exact ⟨_, vs, rfl, .inl q1, r1⟩
    · rename_i h1
      cases h
      obtain ⟨_, vs, q1, r1⟩ := W.seqL (.inr h1)
      exact ⟨_, vs, rfl, .inl q1, r1⟩
    · cases h
  · cases h
theorem rds1 {K : PySem.W.Frag} {u : Vw} {d : D} {vs : List V} (r : RDs K u [d] vs) : ∃ v, vs = [v] ∧ RD K u d v := by
  cases r with
  | cons h t => cases t; exact ⟨_, rfl, h⟩
theorem rds2 {K : PySem.W.Frag} {u : Vw} {d e : D} {vs : List V} (r : RDs K u [d, e] vs) : ∃ v w, vs = [v, w] ∧ RD K u d v ∧ RD K u e w := by
  cases r with
  | cons h t =>
    obtain ⟨x, rfl, q⟩ := rds1 t
    exact ⟨_, _, rfl, h, q⟩
theorem bi_abs : CallR X (.builtin "abs") (aD X.K X.w absB) := callBy fun vs H Q ⟨u, M, ds, eH, W, r, d, M', e, fin⟩ => by
  subst eH
  unfold absB at e
  split at e
  · cases e
    obtain ⟨v, rfl, rv⟩ := rds1 r
    cases rv
    exact ⟨_, call_abs, _, rfl, fin.now W (.int _)⟩
  · cases e
theorem bi_int : CallR X (.type "int") (aD X.K X.w intB) := callBy fun vs H Q ⟨u, M, ds, eH, W, r, d, M', e, fin⟩ => by
  subst eH
  unfold intB at e
  split at e
  · cases e
    obtain ⟨v, rfl, rv⟩ := rds1 r
    cases rv
    exact ⟨_, call_int1, .inl ⟨_, rfl, fin.now W (.int _)⟩⟩
  · cases e
    obtain ⟨v, rfl, rv⟩ := rds1 r
    cases rv
    exact ⟨_, call_int1, .inr ⟨_, rfl, fin.now W (.int _)⟩⟩
  · cases e
theorem bi_all (hc : X.calm = true) : CallR X (.builtin "all") (aD X.K X.w allB) := callBy fun vs H Q ⟨u, M, ds, eH, W, r, d, M', e, fin⟩ => by
  subst eH
  unfold allB at e
  split at e
  · split at e
    · rename_i h
      obtain ⟨bs, h1, h2⟩ := Option.map_eq_some_iff.mp e
      cases h2
      obtain ⟨v, rfl, rv⟩ := rds1 r
      cases rv
      obtain ⟨_, vs, q1, r1⟩ := W.seqL (.inl h)
      have := bls_rd r1 h1
      subst this
      exact ⟨_, cr_all hc, _, bs, rfl, q1, fin.now W (.bl _)⟩
    · cases e
  · cases e
theorem bi_max (hc : X.calm = true) : CallR X (.builtin "max") (aD X.K X.w maxB) := callBy fun vs H Q ⟨u, M, ds, eH, W, r, d, M', e, fin⟩ => by
  subst eH
  unfold maxB at e
  split at e
  · cases e
    obtain ⟨v, w, rfl, r1, r2⟩ := rds2 r
    cases r1; cases r2
    exact ⟨_, call_max2 hc, _, _, rfl, fin.now W (.int _)⟩
  · cases e
theorem bi_min (hc : X.calm = true) : CallR X (.builtin "min") (aD X.K X.w minB) := callBy fun vs H Q ⟨u, M, ds, eH, W, r, d, M', e, fin⟩ => by
  subst eH
  unfold minB at e
  split at e
  · cases e
    obtain ⟨v, w, rfl, r1, r2⟩ := rds2 r
    cases r1; cases r2
    exact ⟨_, call_min2 hc, _, _, rfl, fin.now W (.int _)⟩
  · cases e
theorem bi_divmod : CallR X (.builtin "divmod") (aD X.K X.w divmodB) := callBy fun vs H Q ⟨u, M, ds, eH, W, r, d, M', e, fin⟩ => by
  subst eH
  unfold divmodB at e
  split at e
  · split at e
    · rename_i h
      cases e
      obtain ⟨v, w, rfl, r1, r2⟩ := rds2 r
      cases r1; cases r2
      simp only [Bool.and_eq_true, decide_eq_true_eq] at h
      obtain ⟨h0, h1⟩ := h
      have hp := fin.tup W (.cons (.int _) (.cons (.int _) .nil))
      obtain ⟨h2, h3 | h3⟩ := okDiv_spec h1
      · exact ⟨_, call_divmod, _, _, rfl, ⟨h0, by omega⟩, hp⟩
      · exact ⟨_, call_divmodW, _, _, rfl, h3, hp⟩
    · cases e
  · cases e
theorem bi_tuple : CallR X (.type "tuple") (aD X.K X.w tupleB) := callBy fun vs H Q ⟨u, M, ds, eH, W, r, d, M', e, fin⟩ => by
  subst eH
  unfold tupleB at e
  split at e
  · obtain ⟨xs, h1, h2⟩ := Option.map_eq_some_iff.mp e
    cases h2
    obtain ⟨v, rfl, rv⟩ := rds1 r
    obtain ⟨a, vs, rfl, h, rs⟩ := seq_rd W rv h1
    refine ⟨_, call_tuple_of, a, vs, rfl, ?_⟩
    rcases h with h | h
    · exact .inl ⟨h, fin.tup W rs⟩
    · exact .inr ⟨h, fin.now W (.tup h rs)⟩
  · cases e
theorem bi_list (hd : CallR X (.type "list") (fun vs H Q => ∃ u M i kvs, u.H = H ∧ Wd X.K X.w u M ∧ vs = [.ref (u.iot i)] ∧ i < u.n ∧ M[i]? = some (.dct kvs) ∧ Fin1 X.K X.w u (.loc M.length) (M ++ [.lst (kvs.map (·.1))]) Q)) :
    CallR X (.type "list") (aD X.K X.w listB) := callBy fun vs H Q ⟨u, M, ds, eH, W, r, d, M', e, fin⟩ => by
  unfold listB at e
  split at e
  · rename_i x _
    split at e
    · rename_i xs h1
      cases e
      obtain ⟨v, rfl, rv⟩ := rds1 r
      obtain ⟨a, vs, rfl, h, rs⟩ := seq_rd W rv h1
      subst eH
      exact ⟨_, call_list_of, a, vs, rfl, h, fin.lst W rs⟩
    · obtain ⟨kvs, h1, h2⟩ := Option.map_eq_some_iff.mp e
      cases h2
      obtain ⟨v, rfl, rv⟩ := rds1 r
      unfold dictAt at h1
      split at h1
      · rename_i i _
        split at h1
        · rename_i h3
          cases h1
          cases rv
          exact ⟨_, hd, u, M, _, kvs, eH, W, rfl, W.lt h3, h3, fin⟩
        · cases h1
      · cases h1
  · cases e
theorem bi_str : CallR X (.type "str") (aD X.K X.w strB) := callBy fun vs H Q ⟨u, M, ds, eH, W, r, d, M', e, fin⟩ => by
  subst eH
  unfold strB at e
  split at e
  · split at e
    · rename_i h
      cases e
      obtain ⟨v, rfl, rv⟩ := rds1 r
      cases rv
      exact ⟨_, call_str_int, _, rfl, h, fin.now W (.str _)⟩
    · cases e
  · cases e
theorem bi_gcd : CallR X (.builtin "math.gcd") (aD X.K X.w gcdB) := callBy fun vs H Q ⟨u, M, ds, eH, W, r, d, M', e, fin⟩ => by
  subst eH
  unfold gcdB at e
  split at e
  · cases e
    obtain ⟨v, w, rfl, r1, r2⟩ := rds2 r
    cases r1; cases r2
    exact ⟨_, cr_gcd, _, _, rfl, fin.now W (.int _)⟩
  · cases e
theorem bi_len (hd : CallR X (.builtin "len") (fun vs H Q => ∃ u M i kvs, u.H = H ∧ Wd X.K X.w u M ∧ vs = [.ref (u.iot i)] ∧ i < u.n ∧ M[i]? = some (.dct kvs) ∧ Q (.int kvs.length) H)) :
    CallR X (.builtin "len") (aD X.K X.w lenB) := callBy fun vs H Q ⟨u, M, ds, eH, W, r, d, M', e, fin⟩ => by
  unfold lenB at e
  split at e
  · rename_i x _
    split at e
    · rename_i xs h1
      cases e
      obtain ⟨v, rfl, rv⟩ := rds1 r
      obtain ⟨a, vs, rfl, h, rs⟩ := seq_rd W rv h1
      subst eH
      refine ⟨_, call_len_seq, a, vs, rfl, h, ?_⟩
      rw [← rs.length]
      exact fin.now W (.int _)
    · split at e
      · rename_i kvs h1
        cases e
        obtain ⟨v, rfl, rv⟩ := rds1 r
        unfold dictAt at h1
        split at h1
        · rename_i i _
          split at h1
          · rename_i h3
            cases h1
            cases rv
            subst eH
            exact ⟨_, hd, u, M, _, kvs, rfl, W, rfl, W.lt h3, h3, fin.now W (.int _)⟩
          · cases h1
        · cases h1
      · cases e
  · cases e
theorem mt_append_D : MtR X "list.append" (fun x vs H Q => ∃ u M a ds, u.H = H ∧ Wd X.K X.w u M ∧ RD X.K u a x ∧ RDs X.K u ds vs ∧ ∃ d M', appendM a ds M = some (d, M') ∧ Fin1 X.K X.w u d M' Q) := mtBy fun x vs H Q ⟨u, M, a, ds, eH, W, ra, r, d, M', e, fin⟩ => by
  subst eH
  unfold appendM at e
  split at e
  · split at e
    · rename_i h
      split at e
      · rename_i hz
        cases e
        cases ra
        obtain ⟨v, rfl, rv⟩ := rds1 r
        obtain ⟨hlt, ws, q1, r1⟩ := W.lst h
        exact ⟨_, mt_append, _, ws, v, rfl, rfl, q1, by rw [← r1.length]; exact hz, fin.set W q1 h (r1.append (.cons rv .nil)) .non⟩
      · cases e
    · cases e
  · cases e
theorem rds_erase {K : PySem.W.Frag} {u : Vw} : ∀ {ds : List D} {vs : List V} (i : Nat), RDs K u ds vs → RDs K u (ds.eraseIdx i) (vs.eraseIdx i)
  | _, _, _, .nil => .nil
  | _, _, 0, .cons _ rs => rs
  | _, _, i + 1, .cons r rs => .cons r (rds_erase i rs)
theorem mt_popl_D : MtR X "list.pop" (fun x vs H Q => ∃ u M a ds, u.H = H ∧ Wd X.K X.w u M ∧ RD X.K u a x ∧ RDs X.K u ds vs ∧ ∃ d M', poplM a ds M = some (d, M') ∧ Fin1 X.K X.w u d M' Q) := mtBy fun x vs H Q ⟨u, M, a, ds, eH, W, ra, r, d, M', e, fin⟩ => by
  subst eH
  unfold poplM at e
  split at e
  · rename_i M1 i k
    split at e
    · rename_i xs h
      split at e
      · rename_i hk
        obtain ⟨y, hy, ey⟩ := Option.map_eq_some_iff.mp e
        cases ey
        cases ra
        obtain ⟨v, rfl, rv⟩ := rds1 r
        cases rv
        obtain ⟨hlt, ws, q1, r1⟩ := W.lst h
        obtain ⟨w, hw, rw'⟩ := r1.get hy
        have hlen : k.toNat < ws.length := (List.getElem?_eq_some_iff.mp hw).1
        have hs : seqIndex? k ws.length = some k.toNat := by
          unfold seqIndex?
          have : ¬ k < 0 := by omega
          simp only [this, if_false]
          rw [if_pos (by simp; omega)]
        exact ⟨_, mt_popAt, _, ws, k, k.toNat, w, rfl, rfl, q1, by omega, hk.2, hs, hw, fin.set W q1 h (rds_erase k.toNat r1) rw'⟩
      · cases e
    · cases e
  · cases e
theorem mt_extend_D : MtR X "list.extend" (fun x vs H Q => ∃ u M a ds, u.H = H ∧ Wd X.K X.w u M ∧ RD X.K u a x ∧ RDs X.K u ds vs ∧ ∃ d M', extendM a ds M = some (d, M') ∧ Fin1 X.K X.w u d M' Q) := mtBy fun x vs H Q ⟨u, M, a, ds, eH, W, ra, r, d, M', e, fin⟩ => by
  subst eH
  unfold extendM at e
  split at e
  · split at e
    · rename_i h1 h2
      split at e
      · rename_i hz
        cases e
        cases ra
        obtain ⟨v, rfl, rv⟩ := rds1 r
        cases rv
        obtain ⟨hlt, ws, q1, r1⟩ := W.lst h1
        obtain ⟨_, zs, q2, r2⟩ := W.lst h2
        exact ⟨_, mt_extend, _, _, ws, zs, rfl, rfl, q1, q2, by rw [← r1.length, ← r2.length]; exact hz, fin.set W q1 h1 (r1.append r2) .non⟩
      · cases e
    · cases e
  · cases e
end
end DD
namespace DD
open PySem PySem.Spec PyProof.Rows L2
variable [Tabs]

section
variable (K : PySem.W.Frag) (w : World)
structure Sl (u : Vw) (δ : Env) (σ : L2.St) : Prop where
  len : δ.length = σ.length
  at_ : ∀ (i : Nat) d, δ[i]? = some (some d) → ∃ v, σ[i]? = some (some v) ∧ RD K u d v
def tD (f : Env → Sto → Option (D × Sto)) : TE := fun σ H Q => ∃ u M δ, u.H = H ∧ Wd K w u M ∧ Sl K u δ σ ∧ ∃ d M', f δ M = some (d, M') ∧ Fin1 K w u d M' Q
def tDs (f : Env → Sto → Option (List D × Sto)) : TA := fun σ H Q => ∃ u M δ, u.H = H ∧ Wd K w u M ∧ Sl K u δ σ ∧ ∃ ds M', f δ M = some (ds, M') ∧ ∀ u' vs, Ext K u u' → Wd K w u' M' → RDs K u' ds vs → Q vs u'.H
def tTD (f : Env → Sto → Option (D × Sto)) : TT := fun σ H Q => ∃ u M δ, u.H = H ∧ Wd K w u M ∧ Sl K u δ σ ∧ ∃ d M' c, f δ M = some (d, M') ∧ truD M' d = some c ∧ ∀ u', Ext K u u' → Wd K w u' M' → Q c u'.H
def tOD (f : Env → Sto → Option (Option Int × Sto)) : TO := fun σ H Q => ∃ u M δ, u.H = H ∧ Wd K w u M ∧ Sl K u δ σ ∧ ∃ d M', f δ M = some (d, M') ∧ ∀ u', Ext K u u' → Wd K w u' M' → Q d u'.H
end
section
variable {K : PySem.W.Frag} {w : World} {u u' : Vw} {δ : Env} {σ : L2.St}
theorem Sl.mono (h : Sl K u δ σ) (e : Ext K u u') : Sl K u' δ σ := ⟨h.len, fun i d q => by
  obtain ⟨v, a, b⟩ := h.at_ i d q
  exact ⟨v, a, b.mono e⟩⟩
theorem Sl.mono0 (h : Sl K u δ σ) (e : Ext0 K u u') : Sl K u' δ σ := ⟨h.len, fun i d q => by
  obtain ⟨v, a, b⟩ := h.at_ i d q
  exact ⟨v, a, b.mono0 e⟩⟩
theorem Sl.set {d : D} {v : V} (h : Sl K u δ σ) (r : RD K u d v) (i : Nat) : Sl K u (δ.set i (some d)) (σ.set i (some v)) := ⟨by simp [h.len], fun j d' q => by
  by_cases e : j = i
  · subst e
    by_cases hl : j < δ.length
    · rw [List.getElem?_set_self hl] at q
      cases q
      exact ⟨v, List.getElem?_set_self (by rw [← h.len]; exact hl), r⟩
    · rw [List.getElem?_eq_none (by simpa using hl)] at q; cases q
  · rw [List.getElem?_set_ne (Ne.symm e)] at q
    obtain ⟨v', a, b⟩ := h.at_ j d' q
    exact ⟨v', by rw [List.getElem?_set_ne (Ne.symm e)]; exact a, b⟩⟩
theorem wipe_len (σ : L2.St) (vs : List Nat) : (wipe σ vs).length = σ.length := wipe_length σ vs
theorem wipeD_len (δ : Env) : ∀ vs : List Nat, (wipeD δ vs).length = δ.length
  | [] => rfl
  | v :: vs => by unfold wipeD; rw [List.length_set, wipeD_len δ vs]
theorem Sl.wipe (h : Sl K u δ σ) : ∀ vs : List Nat, Sl K u (wipeD δ vs) (L2.wipe σ vs)
  | [] => h
  | v :: vs => by
    have q := Sl.wipe h vs
    unfold wipeD L2.wipe
    refine ⟨by simp [q.len], fun j d e => ?_⟩
    by_cases hj : j = v
    · subst hj
      by_cases hl : j < (wipeD δ vs).length
      · rw [List.getElem?_set_self hl] at e; cases e
      · rw [List.getElem?_eq_none (by simpa using hl)] at e; cases e
    · rw [List.getElem?_set_ne (Ne.symm hj)] at e
      obtain ⟨x, a, b⟩ := q.at_ j d e
      exact ⟨x, by rw [List.getElem?_set_ne (Ne.symm hj)]; exact a, b⟩
end

section
variable {X : Cx}
theorem peBy {e : Expr} {t' : TE} (h : ∀ σ H Q, t' σ H Q → ∃ t, PE X e t ∧ t σ H Q) : PE X e t' := ⟨fun pins s σ H Q I q => by
  obtain ⟨t, a, b⟩ := h σ H Q q
  exact a.run pins s σ H Q I b⟩
theorem ptBy {e : Expr} {t' : TT} (h : ∀ σ H Q, t' σ H Q → ∃ t, PT X e t ∧ t σ H Q) : PT X e t' := ⟨fun pins s σ H Q I q => by
  obtain ⟨t, a, b⟩ := h σ H Q q
  exact a.run pins s σ H Q I b⟩
theorem paBy {e : List Expr} {t' : TA} (h : ∀ σ H Q, t' σ H Q → ∃ t, PA X e t ∧ t σ H Q) : PA X e t' := ⟨fun pos pins s σ H Q I q => by
  obtain ⟨t, a, b⟩ := h σ H Q q
  exact a.run pos pins s σ H Q I b⟩
abbrev DE (X : Cx) (e : Expr) (f : Env → Sto → Option (D × Sto)) : Prop := PE X e (tD X.K X.w f)
abbrev DT (X : Cx) (e : Expr) (f : Env → Sto → Option (D × Sto)) : Prop := PT X e (tTD X.K X.w f)
abbrev DA (X : Cx) (es : List Expr) (f : Env → Sto → Option (List D × Sto)) : Prop := PA X es (tDs X.K X.w f)

variable {a b c : Expr} {fa fb fc : Env → Sto → Option (D × Sto)} {pos : Pos}
/-- what is plain in a test: its truth is that of its value -/
theorem dt_val {e : Expr} {f : Env → Sto → Option (D × Sto)} (h : DE X e f) (he : ∀ whole, isTrue e X.env whole = (do let v ← whole; standAt e.pos; holding [v] (truthy v))) : DT X e f := by
  refine ⟨fun pins s σ H Q I ⟨u, M, δ, eH, W, S, d, M', c, e1, e2, q⟩ => ?_⟩
  rw [he]
  refine wpAny_bind (thn (h.run pins s σ H (fun x H1 => ∃ u1, u1.H = H1 ∧ Wd X.K X.w u1 M' ∧ RD X.K u1 d x ∧ Q c H1) I ⟨u, M, δ, eH, W, S, d, M', e1, fun u1 x E1 W1 r1 => ⟨u1, rfl, W1, r1, q u1 E1 W1⟩⟩) fun v s1 ⟨x, H1, I1, r1, u1, eH1, W1, rd1, q1⟩ => ?_)
  exact wpAny_bind (wpAny_standAt (wpAny_holding (thn (tru_D pins s1 σ H1 x v Q I1 r1 ⟨u1, M', d, c, eH1, W1, rd1, e2, q1⟩) fun _ _ z => z)))
/-- a test of a value that is a truth value -/
theorem dt_bool {e : Expr} {f : Env → Sto → Option (D × Sto)} {t : TE} (h : PT X e (tTest t)) (ht : ∀ σ H Q, tD X.K X.w f σ H Q → t σ H Q) (hb : ∀ δ M d M', f δ M = some (d, M') → ∃ c, d = .bl c) : DT X e f := by
  refine ptBy fun σ H Q ⟨u, M, δ, eH, W, S, d, M', c, e1, e2, q⟩ => ⟨_, h, ht _ _ _ ⟨u, M, δ, eH, W, S, d, M', e1, fun u1 x E1 W1 r1 => ?_⟩⟩
  obtain ⟨k, rfl⟩ := hb δ M d M' e1
  cases r1
  cases e2
  exact ⟨_, rfl, q u1 E1 W1⟩

theorem de_var {i : Nat} {x : Str} {p : Pos} (hN : X.N[i]? = some x) (hv : Vis X.env.scope x) (hd : (x == ("__debug__" : Str)) = false) (hcd : (x == ("__classdict__" : Str)) = false) {F : Fns} : DE X (.Name x p) (evE F (.var i)) :=
  peBy fun σ H Q ⟨u, M, δ, eH, W, S, d, M', e, fin⟩ => ⟨_, pe_var hN hv hd hcd, by
    rw [evE] at e
    split at e
    · rename_i d' h
      cases e
      obtain ⟨v, a, b⟩ := S.at_ i _ h
      subst eH
      exact ⟨v, a, fin.now W b⟩
    · cases e⟩
theorem de_con {c : D} {v : V} {e : Expr} (h : PE X e (tC v)) (r : ∀ u, RD X.K u c v) {F : Fns} : DE X e (evE F (.con c)) :=
  peBy fun σ H Q ⟨u, M, δ, eH, W, S, d, M', e, fin⟩ => ⟨_, h, by
    rw [evE] at e; cases e; subst eH; exact fin.now W (r u)⟩
theorem de_glob {x : Str} {c : D} {v : V} {e : Expr} (h : PE X e (tC v)) (r : ∀ u, RD X.K u c v) {F : Fns} : DE X e (evE F (.glob x c)) :=
  peBy fun σ H Q ⟨u, M, δ, eH, W, S, d, M', e, fin⟩ => ⟨_, h, by
    rw [evE] at e; cases e; subst eH; exact fin.now W (r u)⟩
theorem de_bin {o : Bop} {op : Operator} (ho : OpR X (binaryOp op) (rD X.K X.w (opB o))) {F : Fns} {xa xb : Ex} (ha : DE X a (evE F xa)) (hb : DE X b (evE F xb)) : DE X (.BinOp a op b pos) (evE F (.bin o xa xb)) :=
  peBy fun σ H Q ⟨u, M, δ, eH, W, S, d, M', e, fin⟩ => ⟨_, pe_op ho ha hb, by
    rw [evE] at e
    split at e
    · rename_i x M1 e1
      split at e
      · rename_i y M2 e2
        refine ⟨u, M, δ, eH, W, S, x, M1, e1, fun u1 v1 E1 W1 r1 => ⟨u1, M1, δ, rfl, W1, S.mono E1, y, M2, e2, fun u2 v2 E2 W2 r2 => ?_⟩⟩
        exact ⟨u2, M2, x, y, rfl, W2, r1.mono E2, r2, d, M', e, fun u3 v3 E3 W3 r3 => fin u3 v3 ((E1.trans E2).trans E3) W3 r3⟩
      · cases e
    · cases e⟩
theorem de_neg {F : Fns} {xa : Ex} (ha : DE X a (evE F xa)) : DE X (.UnaryOp .USub a pos) (evE F (.neg xa)) :=
  peBy fun σ H Q ⟨u, M, δ, eH, W, S, d, M', e, fin⟩ => ⟨_, pe_un un_neg ha, by
    rw [evE] at e
    split at e
    · rename_i i M1 e1
      cases e
      refine ⟨u, M, δ, eH, W, S, _, _, e1, fun u1 v1 E1 W1 r1 => ?_⟩
      cases r1
      exact ⟨_, rfl, fin u1 _ E1 W1 (.int _)⟩
    · cases e⟩
def tOpC (K : PySem.W.Frag) (w : World) (g : D → D → Sto → Option Bool) (fa fb : Env → Sto → Option (D × Sto)) : TE := tOp (rC K w g) (tD K w fa) (tD K w fb)
theorem cmp_read {o : Cop} {F : Fns} {xa xb : Ex} {σ : L2.St} {H : Hp} {Q : VK} (h : tD X.K X.w (evE F (.cmp o xa xb)) σ H Q) : tOp (rC X.K X.w (opC o)) (tD X.K X.w (evE F xa)) (tD X.K X.w (evE F xb)) σ H Q := by
  obtain ⟨u, M, δ, eH, W, S, d, M', e, fin⟩ := h
  rw [evE] at e
  split at e
  · rename_i x M1 e1
    split at e
    · rename_i y M2 e2
      obtain ⟨c, e3, e4⟩ := Option.map_eq_some_iff.mp e
      cases e4
      refine ⟨u, M, δ, eH, W, S, x, M1, e1, fun u1 v1 E1 W1 r1 => ⟨u1, M1, δ, rfl, W1, S.mono E1, y, _, e2, fun u2 v2 E2 W2 r2 => ?_⟩⟩
      exact ⟨u2, _, x, y, rfl, W2, r1.mono E2, r2, c, e3, fin u2 _ (E1.trans E2) W2 (.bl _)⟩
    · cases e
  · cases e
theorem cmp_bool {o : Cop} {F : Fns} {xa xb : Ex} : ∀ δ M d M', evE F (.cmp o xa xb) δ M = some (d, M') → ∃ c, d = .bl c := fun δ M d M' e => by
  rw [evE] at e
  split at e
  · split at e
    · obtain ⟨c, e3, e4⟩ := Option.map_eq_some_iff.mp e
      cases e4
      exact ⟨c, rfl⟩
    · cases e
  · cases e
theorem de_cmp {o : Cop} {op : CmpOp} (ho : OpR X (compareOp op) (rC X.K X.w (opC o))) {F : Fns} {xa xb : Ex} (ha : DE X a (evE F xa)) (hb : DE X b (evE F xb)) (hm : behindInMarks op b = false) :
    DE X (.Compare a [op] [b] pos) (evE F (.cmp o xa xb)) ∧ DT X (.Compare a [op] [b] pos) (evE F (.cmp o xa xb)) :=
  ⟨peBy fun σ H Q h => ⟨_, pe_cmpR ho ha hb hm, cmp_read h⟩, dt_bool (pt_cmpR ho ha hb hm) (fun σ H Q h => cmp_read h) cmp_bool⟩
theorem cmp2_read {o o2 : Cop} {F : Fns} {xa xb xc : Ex} {σ : L2.St} {H : Hp} {Q : VK} (h : tD X.K X.w (evE F (.cmp2 o o2 xa xb xc)) σ H Q) : tChain (rC X.K X.w (opC o)) (rC X.K X.w (opC o2)) (tD X.K X.w (evE F xa)) (tD X.K X.w (evE F xb)) (tD X.K X.w (evE F xc)) σ H Q := by
  obtain ⟨u, M, δ, eH, W, S, d, M', e, fin⟩ := h
  rw [evE] at e
  split at e
  · rename_i x M1 e1
    split at e
    · rename_i y M2 e2
      refine ⟨u, M, δ, eH, W, S, x, M1, e1, fun u1 v1 E1 W1 r1 => ⟨u1, M1, δ, rfl, W1, S.mono E1, y, _, e2, fun u2 v2 E2 W2 r2 => ?_⟩⟩
      split at e
      · rename_i e3
        refine ⟨u2, _, x, y, rfl, W2, r1.mono E2, r2, true, e3, true, rfl, ?_⟩
        rw [if_pos rfl]
        split at e
        · rename_i z M3 e4
          obtain ⟨c, e5, e6⟩ := Option.map_eq_some_iff.mp e
          cases e6
          refine ⟨u2, _, δ, rfl, W2, S.mono (E1.trans E2), z, _, e4, fun u3 v3 E3 W3 r3 => ?_⟩
          exact ⟨u3, _, y, z, rfl, W3, r2.mono E3, r3, c, e5, fin u3 _ ((E1.trans E2).trans E3) W3 (.bl _)⟩
        · cases e
      · rename_i e3
        cases e
        refine ⟨u2, _, x, y, rfl, W2, r1.mono E2, r2, false, e3, false, rfl, ?_⟩
        rw [if_neg Bool.false_ne_true]
        exact fin u2 _ (E1.trans E2) W2 (.bl _)
      · cases e
    · cases e
  · cases e
theorem cmp2_bool {o o2 : Cop} {F : Fns} {xa xb xc : Ex} : ∀ δ M d M', evE F (.cmp2 o o2 xa xb xc) δ M = some (d, M') → ∃ c, d = .bl c := fun δ M d M' e => by
  rw [evE] at e
  split at e
  · split at e
    · split at e
      · split at e
        · obtain ⟨c, e3, e4⟩ := Option.map_eq_some_iff.mp e
          cases e4
          exact ⟨c, rfl⟩
        · cases e
      · cases e; exact ⟨_, rfl⟩
      · cases e
    · cases e
  · cases e
theorem de_cmp2 {o o2 : Cop} {op op2 : CmpOp} (ho : OpR X (compareOp op) (rC X.K X.w (opC o))) (ho2 : OpR X (compareOp op2) (rC X.K X.w (opC o2))) {F : Fns} {xa xb xc : Ex} (ha : DE X a (evE F xa)) (hb : DE X b (evE F xb)) (hc : DE X c (evE F xc))
    (hm : lastMarks [op, op2] [b, c] = false) : DE X (.Compare a [op, op2] [b, c] pos) (evE F (.cmp2 o o2 xa xb xc)) ∧ DT X (.Compare a [op, op2] [b, c] pos) (evE F (.cmp2 o o2 xa xb xc)) :=
  ⟨peBy fun σ H Q h => ⟨_, pe_chain ho ho2 ha hb hc hm, cmp2_read h⟩, dt_bool (pt_chain ho ho2 ha hb hc hm) (fun σ H Q h => cmp2_read h) cmp2_bool⟩
theorem de_not {F : Fns} {xa : Ex} (ha : DE X a (evE F xa)) (hta : DT X a (evE F xa)) : DE X (.UnaryOp .Not a pos) (evE F (.bnot xa)) ∧ DT X (.UnaryOp .Not a pos) (evE F (.bnot xa)) := by
  constructor
  · refine peBy fun σ H Q ⟨u, M, δ, eH, W, S, d, M', e, fin⟩ => ⟨_, pe_not ha, ?_⟩
    rw [evE] at e
    split at e
    · rename_i c M1 e1
      cases e
      refine ⟨u, M, δ, eH, W, S, _, _, e1, fun u1 v1 E1 W1 r1 => ?_⟩
      cases r1
      exact ⟨_, rfl, fin u1 _ E1 W1 (.bl _)⟩
    · cases e
  · refine ptBy fun σ H Q ⟨u, M, δ, eH, W, S, d, M', k, e, e2, q⟩ => ⟨_, pt_not hta, ?_⟩
    rw [evE] at e
    split at e
    · rename_i c M1 e1
      cases e
      cases e2
      exact ⟨u, M, δ, eH, W, S, _, _, c, e1, rfl, fun u1 E1 W1 => q u1 E1 W1⟩
    · cases e
theorem de_ife {F : Fns} {xc xa xb : Ex} (hc : DT X c (evE F xc)) (ha : DE X a (evE F xa)) (hb : DE X b (evE F xb)) : DE X (.IfExp c a b pos) (evE F (.ife xc xa xb)) :=
  peBy fun σ H Q ⟨u, M, δ, eH, W, S, d, M', e, fin⟩ => ⟨_, pe_ifExp hc ha hb, by
    rw [evE] at e
    split at e
    · rename_i x M1 e1
      split at e
      · rename_i e2
        refine ⟨u, M, δ, eH, W, S, x, M1, true, e1, e2, fun u1 E1 W1 => ?_⟩
        exact iteT ⟨u1, M1, δ, rfl, W1, S.mono E1, d, M', e, fun u2 v2 E2 W2 r2 => fin u2 v2 (E1.trans E2) W2 r2⟩
      · rename_i e2
        refine ⟨u, M, δ, eH, W, S, x, M1, false, e1, e2, fun u1 E1 W1 => ?_⟩
        exact iteF ⟨u1, M1, δ, rfl, W1, S.mono E1, d, M', e, fun u2 v2 E2 W2 r2 => fin u2 v2 (E1.trans E2) W2 r2⟩
      · cases e
    · cases e⟩
/-! arguments, displays -/
theorem da_nil {F : Fns} : DA X [] (evEs F []) := paBy fun σ H Q ⟨u, M, δ, eH, W, S, d, M', e, q⟩ => ⟨_, pa_nil, by
  rw [evEs] at e; cases e; subst eH; exact q u [] Ext.refl W .nil⟩
theorem pkBy {ks : List Keyword} {t' : TA} (h : ∀ σ H Q, t' σ H Q → ∃ t, PK X ks t ∧ t σ H Q) : PK X ks t' := ⟨fun pos pins s σ H Q I q => by
  obtain ⟨t, a, b⟩ := h σ H Q q
  exact a.run pos pins s σ H Q I b⟩
theorem cons_read {F : Fns} {x : Ex} {xs : List Ex} {σ : L2.St} {H : Hp} {Q : List V → Hp → Prop} (q : tDs X.K X.w (evEs F (x :: xs)) σ H Q) : tCons (tD X.K X.w (evE F x)) (tDs X.K X.w (evEs F xs)) σ H Q := by
  obtain ⟨u, M, δ, eH, W, S, ds, M', e, q⟩ := q
  rw [evEs] at e
  split at e
  · rename_i d M1 e1
    split at e
    · rename_i ds2 M2 e2
      cases e
      refine ⟨u, M, δ, eH, W, S, d, M1, e1, fun u1 v1 E1 W1 r1 => ⟨u1, M1, δ, rfl, W1, S.mono E1, ds2, _, e2, fun u2 vs E2 W2 r2 => ?_⟩⟩
      exact q u2 _ (E1.trans E2) W2 (.cons (r1.mono E2) r2)
    · cases e
  · cases e
theorem da_cons {e : Expr} {es : List Expr} {F : Fns} {x : Ex} {xs : List Ex} (h : DE X e (evE F x)) (hs : DA X es (evEs F xs)) (hst : starEach (e :: es) X.env = (false, eval e X.env) :: starEach es X.env) : DA X (e :: es) (evEs F (x :: xs)) :=
  paBy fun σ H Q q => ⟨_, pa_cons h hs hst, cons_read q⟩
theorem evEs_len {F : Fns} : ∀ {xs : List Ex} {δ : Env} {M : Sto} {ds : List D} {M' : Sto}, evEs F xs δ M = some (ds, M') → ds.length = xs.length
  | [], _, _, _, _, e => by rw [evEs] at e; cases e; rfl
  | x :: xs, _, _, _, _, e => by
    rw [evEs] at e
    split at e
    · split at e
      · rename_i e2
        cases e
        simp [evEs_len e2]
      · cases e
    · cases e
theorem de_tup {es : List Expr} {k : Nat} {F : Fns} {xs : List Ex} (h : DA X es (evEs F xs)) (hl : xs.length ≤ sizeLine) : DE X (.Tuple es k pos) (evE F (.tup xs)) :=
  peBy fun σ H Q ⟨u, M, δ, eH, W, S, d, M', e, fin⟩ => ⟨_, pe_tup h, by
    rw [evE] at e
    split at e
    · rename_i ds M1 e1
      cases e
      refine ⟨u, M, δ, eH, W, S, ds, _, e1, fun u1 vs E1 W1 r1 => ⟨by rw [← r1.length, evEs_len e1]; exact hl, fun p hp => ?_⟩⟩
      have f1 : Fin1 X.K X.w u1 (.tup ds) M' Q := fun u2 v2 E2 W2 r2 => fin u2 v2 (E1.trans E2) W2 r2
      exact f1.tup W1 r1 p hp
    · cases e⟩
theorem de_lst {es : List Expr} {F : Fns} {xs : List Ex} (h : DA X es (evEs F xs)) (hl : xs.length ≤ sizeLine) : DE X (.List es pos) (evE F (.lst xs)) :=
  peBy fun σ H Q ⟨u, M, δ, eH, W, S, d, M', e, fin⟩ => ⟨_, pe_lst h, by
    rw [evE] at e
    split at e
    · rename_i ds M1 e1
      cases e
      refine ⟨u, M, δ, eH, W, S, ds, _, e1, fun u1 vs E1 W1 r1 => ⟨by rw [← r1.length, evEs_len e1]; exact hl, fun p hp => ?_⟩⟩
      have f1 : Fin1 X.K X.w u1 (.loc M1.length) (M1 ++ [.lst ds]) Q := fun u2 v2 E2 W2 r2 => fin u2 v2 (E1.trans E2) W2 r2
      exact f1.lst W1 r1 p hp
    · cases e⟩
/-- a call by values -/
theorem call_read {es : List Ex} {F : Fns} {g : List D → Sto → Option (D × Sto)} {f : Env → Sto → Option (D × Sto)} {σ : L2.St} {H : Hp} {Q : VK} (hf : ∀ δ M, f δ M = match evEs F es δ M with
    | some (ds, M1) => g ds M1
    | none => none) (h : tD X.K X.w f σ H Q) : tDs X.K X.w (evEs F es) σ H fun vs H1 => aD X.K X.w g vs H1 Q := by
  obtain ⟨u, M, δ, eH, W, S, d, M', e, fin⟩ := h
  rw [hf] at e
  split at e
  · rename_i ds M1 e1
    refine ⟨u, M, δ, eH, W, S, ds, M1, e1, fun u1 vs E1 W1 r1 => ?_⟩
    exact ⟨u1, M1, ds, rfl, W1, r1, d, M', e, fun u2 v2 E2 W2 r2 => fin u2 v2 (E1.trans E2) W2 r2⟩
  · cases e
end
end DD
namespace DD
open PySem PySem.Spec PyProof.Rows L2

/-! Calls where no representation is under way: what L2 has for FnOk, with what the Around says of its guards. -/
structure RoomG (k : Nat) (A : Around) : Prop where
  rm : Room k A
  gd : A.guards = some []
theorem RoomG.mono {j k : Nat} {A : Around} (r : RoomG k A) (h : j ≤ k) : RoomG j A := ⟨r.rm.mono h, r.gd⟩
structure FnG (P : Program) (w : World) (K : PySem.W.Frag) (mg : Str → Option Value) (base : Heap) (k : Nat) (f : Addr) (fd : FuncData) (ps : List Str) (sp : List V → Hp → VK → Prop) : Prop where
  len : ∀ vs H Q, sp vs H Q → vs.length = ps.length
  run : ∀ A outer s H args us vs Q, RoomG k A → Env0 P w K mg base A outer s H → BindsTo s fd args (ps.zip us) → Vals vs us → sp vs H Q →
    codeAny (model P w) A (.call (.ref f) args) (CR L2.CX0 outer P w H s Q (fun _ _ _ => True)) s
/-- a def of the text as it stands behind the top, its defaults told -/
structure FunD (K : PySem.W.Frag) (x qual : Str) (st : Stmt) (f : Addr) (fd : FuncData) : Prop where
  ex : ∃ (oc : Value) (od : Option Addr) (dV kV doc pm : Value) (an : Option Addr) (cdv ct : Value) (osl : Array (Option Value)),
    fd = PySem.W.fnOf x qual (defArgs st) (defBody st) (defScope st) dV kV doc pm an cdv ct ∧ K.lookup f = some ⟨oc, od, .func fd, osl⟩ ∧ PySem.W.codeIn K cdv qual = true
  kp : PySem.W.keepIn K (.ref f) = true
theorem FunD.of {K : PySem.W.Frag} {x qual : Str} {st : Stmt} {f : Addr} {fd : FuncData} (F : Fun K x qual st f fd) : FunD K x qual st f fd :=
  let ⟨oc, od, kV, doc, pm, an, cdv, ct, osl, e, l, c⟩ := F.ex
  ⟨⟨oc, od, .none, kV, doc, pm, an, cdv, ct, osl, e, l, c⟩, F.kp⟩
def kwVal : Keyword → Expr
  | ⟨_, e, _⟩ => e
def kwNames : List Keyword → Option (List Str)
  | [] => some []
  | ⟨some n, _, _⟩ :: ks => (kwNames ks).map (n :: ·)
  | ⟨none, _, _⟩ :: _ => none
theorem kw_facts {env : PySem.Env} {pos : Pos} : ∀ {kws : List Keyword} {ns : List Str}, kwNames kws = some ns →
    (backToKw pos (keywordEach kws env)).all (·.1.isSome) = true ∧ (backToKw pos (keywordEach kws env)).filterMap (·.1) = ns ∧ (backToKw pos (keywordEach kws env)).any (·.1.isNone) = false
  | [], ns, h => by cases h; exact ⟨rfl, rfl, rfl⟩
  | ⟨some n, e, p⟩ :: kws, ns, h => by
    rw [kwNames] at h
    obtain ⟨ms, h1, h2⟩ := Option.map_eq_some_iff.mp h
    cases h2
    obtain ⟨a, b, c⟩ := kw_facts (env := env) (pos := pos) h1
    exact ⟨by simpa [keywordEach, backToKw] using a, by simpa [keywordEach, backToKw] using b, by simpa [keywordEach, backToKw] using c⟩
  | ⟨none, e, p⟩ :: kws, ns, h => by cases h
/-- by names alone -/
def KwB (K : PySem.W.Frag) (fd : FuncData) (ps : List Str) : Prop := ∀ (s : Shared) (us : List Value), K.In s.heap → us.length = ps.length → BindsTo s fd ⟨[], ps.zip us⟩ (ps.zip us)
/-- by names in another order: pi tells for each parameter where its value stands -/
def KwP (K : PySem.W.Frag) (fd : FuncData) (ps ks : List Str) (pi : List Nat) : Prop := ∀ (s : Shared) (us : List Value), K.In s.heap → us.length = ks.length → BindsTo s fd ⟨[], ks.zip us⟩ (ps.zip (pi.map fun i => us.getD i .none))
theorem vals_pick : ∀ {pi : List Nat} {vs : List V} {us : List Value}, Vals vs us → (∀ i ∈ pi, i < us.length) → Vals (pi.map fun i => vs.getD i .non) (pi.map fun i => us.getD i .none)
  | [], _, _, _, _ => .nil
  | i :: pi, vs, us, r, h => by
    have hi := h i List.mem_cons_self
    have hv : i < vs.length := by rw [r.length]; exact hi
    obtain ⟨u, e, q⟩ := r.get (List.getElem?_eq_getElem hv)
    refine .cons ?_ (vals_pick r fun j hj => h j (List.mem_cons_of_mem _ hj))
    show L2.RelV (vs.getD i _) (us.getD i _)
    rw [List.getD_eq_getElem?_getD, List.getD_eq_getElem?_getD, List.getElem?_eq_getElem hv, e]
    exact q
section
variable {X : Cx} {k : Nat} {f : Addr} {fd : FuncData} {ps : List Str} {sp : List V → Hp → VK → Prop} {x : Str} {p pos : Pos} {e : Expr} {es : List Expr} {t : TA}
theorem FnG.ends {pins : List (Addr × Obj)} {σ : L2.St} {H : Hp} {s : Shared} {Q : VK} {us : List Value} {kw : List (Str × Value)} {zs : List Value} {vs : List V} (F : FnG X.prog X.w X.K X.mg X.base k f fd ps sp) (hr : RoomG k X.A)
    (I : Inv X pins σ H s) (b : BindsTo s fd ⟨us, kw⟩ (ps.zip zs)) (r : Vals vs zs) (h : sp vs H Q) : wpAny (model X.prog X.w) X.A (call (.ref f) us kw) (EP X pins σ Q) X.xe s := by
  refine wpAny_call (codeAny_mono (F.run _ X.stack s H _ zs vs Q hr I.env0 b r h) fun q s' hq => ?_)
  match q, hq with
  | .error _, hq => exact hq.elim
  | .ok (.ret _), hq => exact I.after hq
  | .ok .next, hq => exact hq.elim
  | .ok .brk, hq => exact hq.elim
  | .ok .cont, hq => exact hq.elim
def tCallG (sp : List V → Hp → VK → Prop) (t : TA) : TE := fun σ H Q => t σ H fun vs H1 => sp vs H1 Q
theorem pe_callG (F : FnG X.prog X.w X.K X.mg X.base k f fd ps sp) (hr : RoomG k X.A) (hg : Gl X x) (hm : X.mg x = some (.ref f)) (hk : PySem.W.keepIn X.K (.ref f) = true) (hb : Binds X.K fd ps []) (ha : PA X (e :: es) t)
    (hdb : (x == ("__debug__" : Str)) = false) (he : starEach (e :: es) X.env = (false, eval e X.env) :: starEach es X.env) (hpl : (backTo pos (starEach es X.env)).any (·.1) = false) :
    PE X (.Call (.Name x p) (e :: es) [] pos) (tCallG sp t) := ⟨fun pins s σ H Q I h => by
  refine wpAny_Call_Name_kw (ld_glob I hg hm (PySem.W.callWith_K (h₀ := X.base) I.ok.mod.kin hk (thn (ha.run pos pins s σ H _ I h) fun us s1 ⟨vs, H1, I1, r, q⟩ => ⟨I1.kIn, ?_⟩) he hpl) hdb)
  have hl : (us ++ []).length = ps.length := by
    rw [List.append_nil, ← r.length]; exact F.len _ _ _ q
  have b := hb s1 us I1.kIn hl
  rw [List.append_nil] at b
  exact F.ends hr I1 b r q⟩
/-- f(.., ) with its defaults -/
theorem pe_callGD {ds : List Value} {dvs : List V} (F : FnG X.prog X.w X.K X.mg X.base k f fd ps sp) (hr : RoomG k X.A) (hg : Gl X x) (hm : X.mg x = some (.ref f)) (hk : PySem.W.keepIn X.K (.ref f) = true) (hb : Binds X.K fd ps ds) (hd : Vals dvs ds) (ha : PA X (e :: es) t)
    (hdb : (x == ("__debug__" : Str)) = false) (he : starEach (e :: es) X.env = (false, eval e X.env) :: starEach es X.env) (hpl : (backTo pos (starEach es X.env)).any (·.1) = false) :
    PE X (.Call (.Name x p) (e :: es) [] pos) (tCallG (fun vs H Q => sp (vs ++ dvs) H Q) t) := ⟨fun pins s σ H Q I h => by
  refine wpAny_Call_Name_kw (ld_glob I hg hm (PySem.W.callWith_K (h₀ := X.base) I.ok.mod.kin hk (thn (ha.run pos pins s σ H _ I h) fun us s1 ⟨vs, H1, I1, r, q⟩ => ⟨I1.kIn, ?_⟩) he hpl) hdb)
  have r2 : Vals (vs ++ dvs) (us ++ ds) := r.append hd
  have hl : (us ++ ds).length = ps.length := by rw [← r2.length]; exact F.len _ _ _ q
  exact F.ends hr I1 (hb s1 us I1.kIn hl) r2 q⟩
theorem pe_callG0 (F : FnG X.prog X.w X.K X.mg X.base k f fd ps sp) (hr : RoomG k X.A) (hg : Gl X x) (hm : X.mg x = some (.ref f)) (hk : PySem.W.keepIn X.K (.ref f) = true) (hb : Binds X.K fd ps [])
    (hdb : (x == ("__debug__" : Str)) = false) : PE X (.Call (.Name x p) [] [] pos) (tCallG sp tNil) := ⟨fun pins s σ H Q I h => by
  refine wpAny_Call_Name_kw (ld_glob I hg hm (PySem.W.callWith_K0 I.kIn hk ?_) hdb)
  have b := hb s [] I.kIn (F.len _ _ _ h)
  exact F.ends hr I b .nil h⟩
/-- f(k = v, ..): all by name, in the order of the parameters -/
theorem pe_callGK {kws : List Keyword} (F : FnG X.prog X.w X.K X.mg X.base k f fd ps sp) (hr : RoomG k X.A) (hg : Gl X x) (hm : X.mg x = some (.ref f)) (hk : PySem.W.keepIn X.K (.ref f) = true) (hb : KwB X.K fd ps) (hkw : PK X kws t)
    (hall : (backToKw pos (keywordEach kws X.env)).all (·.1.isSome) = true) (hks : (backToKw pos (keywordEach kws X.env)).filterMap (·.1) = ps) (hdb : (x == ("__debug__" : Str)) = false)
    (hpl : ((backTo pos (starEach [] X.env)).any (·.1) || (backToKw pos (keywordEach kws X.env)).any (·.1.isNone)) = false) : PE X (.Call (.Name x p) [] kws pos) (tCallG sp t) := ⟨fun pins s σ H Q I h => by
  refine wpAny_Call_Name_kw (ld_glob I hg hm (PySem.W.callWith_KW0 (h₀ := X.base) I.ok.mod.kin hk hall (thn (hkw.run pos pins s σ H _ I h) fun us s1 ⟨vs, H1, I1, r, q⟩ => ⟨I1.kIn, ?_⟩) hpl) hdb)
  rw [hks]
  exact F.ends (us := []) hr I1 (hb s1 us I1.kIn (by rw [← r.length]; exact F.len _ _ _ q)) r q⟩
def tCallP (sp : List V → Hp → VK → Prop) (ks : List Str) (pi : List Nat) (t : TA) : TE := fun σ H Q => t σ H fun vs H1 => vs.length = ks.length ∧ sp (pi.map fun i => vs.getD i .non) H1 Q
theorem pe_callGP {kws : List Keyword} {ks : List Str} {pi : List Nat} (F : FnG X.prog X.w X.K X.mg X.base k f fd ps sp) (hr : RoomG k X.A) (hg : Gl X x) (hm : X.mg x = some (.ref f)) (hk : PySem.W.keepIn X.K (.ref f) = true) (hb : KwP X.K fd ps ks pi) (hpi : ∀ i ∈ pi, i < ks.length) (hkw : PK X kws t)
    (hall : (backToKw pos (keywordEach kws X.env)).all (·.1.isSome) = true) (hks : (backToKw pos (keywordEach kws X.env)).filterMap (·.1) = ks) (hdb : (x == ("__debug__" : Str)) = false)
    (hpl : ((backTo pos (starEach [] X.env)).any (·.1) || (backToKw pos (keywordEach kws X.env)).any (·.1.isNone)) = false) : PE X (.Call (.Name x p) [] kws pos) (tCallP sp ks pi t) := by
  refine ⟨fun pins s σ H Q I h => wpAny_Call_Name_kw (ld_glob I hg hm (PySem.W.callWith_KW0 (h₀ := X.base) I.ok.mod.kin hk hall (thn (hkw.run pos pins s σ H _ I h) fun us s1 ⟨vs, H1, I1, r, hl, q⟩ => ⟨I1.kIn, ?_⟩) hpl) hdb)⟩
  have lu : us.length = ks.length := by rw [← r.length]; exact hl
  rw [hks]
  exact F.ends (us := []) hr I1 (hb s1 us I1.kIn lu) (vals_pick r fun i hi => by rw [lu]; exact hpi i hi) q
end

section
variable {P : Program} {w : World} {K : PySem.W.Frag} {mg : Str → Option Value} {base : Heap}
/-- a def: its body as a term of rules, and the reading of that term -/
theorem okG {x qual : Str} {st : Stmt} {f : Addr} {fd : FuncData} {N ps : List Str} {k : Nat} {sp : List V → Hp → VK → Prop} (F : FunD K x qual st f fd) (S : FnScope N ps (defScope st)) (len : ∀ vs H Q, sp vs H Q → vs.length = ps.length)
    (hbody : ∀ (A : Around) (outer : List PySem.Env) (s : Shared) (H : Hp) (vs : List V) (Q : VK), RoomG k (A.deeper (envOfC qual (defScope st) s.heap.objs.size f fd.code)) → sp vs H Q →
      ∃ t, PSs (cxOf L2.CX0 P w K mg base N qual (defScope st) f fd.code A outer s H (fun _ _ _ => True)).nox (defBody st) t ∧ t { nx := fun _ H' => Q .non H', rt := Q } (L2.start N vs) H) : FnG P w K mg base (k + 1) f fd ps sp := by
  obtain ⟨oc, od, dV, kV, doc, pm, an, cdv, ct, osl, rfl, lk, hcd⟩ := F.ex
  refine ⟨len, fun A outer s H args us vs Q hr e0 hb r hsp => ?_⟩
  have hl := len _ _ _ hsp
  have old := fun b o e => (e0.bs b o e).1
  have KX : K.In s.heap := e0.mod.kin.keeps old
  have lim : s.heap.NoLimit := e0.mod.nolimit.keeps old
  have hkind : ∀ y ∈ ps.zip us, (defScope st).names.lookup y.1 = some .local ∨ ((defScope st).names.lookup y.1 = some .cell ∧ ((cellsFrom (s.heap.objs.size + 1) (defScope st).names []).lookup y.1).isSome = true) := by
    rintro ⟨n, v⟩ hy
    exact (S.par n (List.of_mem_zip hy).1).imp id fun q => ⟨q, PySem.W.cellsFrom_some _ _ _ (.inl q)⟩
  refine codeAny_call_function hr.rm.depth (KX _ _ lk) rfl S.co S.gen rfl (PySem.W.codeRec_of KX hcd) (hb _ _ _ _ (wpAny_newFunctionEnv_cells S.kind hkind fun env he s1 x => ?_))
  subst he
  obtain ⟨t, ht, hq⟩ := hbody A outer s H vs Q ⟨hr.rm.deeper _, hr.gd⟩ hsp
  have I := inv_start (CX := L2.CX0) (E := fun _ _ _ => True) S hr.rm.hd e0 hl r x
  refine ⟨lim.keeps x.toInCall.keep, codeAny_func (wpAny_mono (ht.nox.run [] s1 (L2.start N vs) H _ I hq) (fun fl s' hs => ?_) fun e s' hs => hs)⟩
  match fl, hs with
  | .ret u, ⟨v, σ', H', J, rv, q⟩ => exact ⟨v, H', J.os, J.bare, J.base, J.hok, rv, q⟩
  | .next, ⟨σ', H', J, q⟩ => exact ⟨V.non, H', J.os, J.bare, J.base, J.hok, rfl, q⟩
  | .brk, ⟨_, _, _, q⟩ => exact q.elim
  | .cont, ⟨_, _, _, q⟩ => exact q.elim
end
/-- the law's def is called, at the heap behind the top -/
theorem law_callG {P : Program} {w : World} {K : PySem.W.Frag} {mg mb : Str → Option Value} {k : Nat} {fa a : Addr} {fd : FuncData} {x : Str} {sp : List V → Hp → VK → Prop} {s₁ : Shared} {vs : List Value} {ns : List Int}
    (KX : K.In s₁.heap) (hns : s₁.heap.Ns mainGlobals mg) (hb : s₁.heap.Ns builtinsNs mb) (hbb : ∀ x : Str, x ≠ "__name__" → mb x = bootBuiltins x) (hlim : s₁.heap.NoLimit) (hg : s₁.gens = #[])
    (ha : s₁.heap.get? a = some { cls := .type "list", data := .seq vs.toArray }) (hi : IntsAre vs ns) (hl : ns.length ≤ sizeLine) (hr : Room k callerA)
    (F : ∀ h0 : Heap, K.In h0 → h0.Ns mainGlobals mg → FnG P w K mg h0 k fa fd [x] sp) (hbd : ∀ (s : Shared) (u : Value), BindsTo s fd ⟨[u], []⟩ [(x, u)])
    (hsp : ∀ H : Hp, Only H → SqL K H a (ns.map V.int) → sp [.ref a] H fun v _ => v = .bl true) :
    codeAny (model P w) callerA (.call (.ref fa) ⟨[.ref a], []⟩) (fun r s' => r = .ok (.ret (.bool true)) ∧ PySem.OldK s₁.heap s'.heap ∧ s'.os = s₁.os ∧ AllBare s'.gens) s₁ := by
  have rv := L2.vals_ints hi
  -- H0 holds nothing but the script, perhaps
  suffices core : ∀ H0 : Hp, Only H0 → SqL K H0 a (ns.map V.int) → HOk P w H0 s₁.heap → (∀ b, H0 b ≠ none → b = a) → (H0 a ≠ none → K.lookup a = none) →
      codeAny (model P w) callerA (.call (.ref fa) ⟨[.ref a], []⟩) (fun r s' => r = .ok (.ret (.bool true)) ∧ PySem.OldK s₁.heap s'.heap ∧ s'.os = s₁.os ∧ AllBare s'.gens) s₁ by
    rcases hk : K.lookup a with _ | o
    · let H0 : Hp := fun b => if b = a then some (.frz { cls := .type "list", data := .seq vs.toArray } (.lst (ns.map V.int))) else none
      have at_a : H0 a = some (.frz { cls := .type "list", data := .seq vs.toArray } (.lst (ns.map V.int))) := if_pos rfl
      have off : ∀ b, b ≠ a → H0 b = none := fun b n => if_neg n
      refine core H0 (fun b => ?_) (.inl (.inr ⟨_, at_a⟩)) (fun b u z => ?_) (fun b z => Decidable.byContradiction fun n => z (off b n)) fun _ => hk
      · by_cases hb : b = a
        · subst hb; exact .inr ⟨_, _, at_a⟩
        · exact .inl (off b hb)
      · by_cases hb : b = a
        · subst hb
          rw [at_a] at z
          cases z
          exact ⟨ha, by rw [List.length_map]; exact hl, vs, _, rv, ha⟩
        · rw [off b hb] at z; cases z
    · have e := KX a o hk
      rw [ha] at e
      cases e
      refine core (fun _ => none) (fun _ => .inl rfl) (.inr ⟨_, vs.toArray, _, hk, rfl, rfl, rfl, by rw [List.size_toArray, hi.length]; exact hl, by simpa using rv⟩) (fun b u z => nomatch (show (none : Option HO) = some u from z)) (fun b z => absurd rfl z) fun z => absurd rfl z
  intro H0 hO hS hok hA hK
  have seen : ∀ {b : Addr} {o : Obj}, s₁.heap.get? b = some o → H0 b = none → (hidT s₁.heap H0).get? b = some o := fun e n => hidT_get e n
  have plain : ∀ {b : Addr} {o : Obj} {es : Array DictEntry} {ep : Nat}, s₁.heap.get? b = some o → o.data = .dict es ep → H0 b = none := fun {b o es ep} e d => by
    rcases q : H0 b with _ | u
    · rfl
    · have hba : b = a := hA b (by rw [q]; simp)
      subst hba
      rw [ha] at e; cases e; cases (show Data.seq vs.toArray _ = Data.dict es ep from d)
  have nsK : ∀ {b : Addr} {m : Str → Option Value}, s₁.heap.Ns b m → (hidT s₁.heap H0).Ns b m := fun {b m} ⟨o, es, ep, e, d, r⟩ => ⟨o, es, ep, seen e (plain e d), d, r⟩
  have hKb : K.In (hidT s₁.heap H0) := fun b o e => seen (KX b o e) (by
    rcases q : H0 b with _ | u
    · rfl
    · have hba : b = a := hA b (by rw [q]; simp)
      subst hba
      rw [hK (by rw [q]; simp)] at e; cases e)
  obtain ⟨mc, lim1, lim2⟩ := hlim
  have e0 : Env0 P w K mg (hidT s₁.heap H0) callerA [] s₁ H0 :=
    ⟨rfl, ⟨hKb, nsK hns, ⟨mb, nsK hb, hbb⟩, ⟨mc, nsK lim1, lim2⟩⟩, fun b o e => of_hidT e, Nat.le_of_eq (hidT_size _ _), trivial, fun b hb => (List.not_mem_nil hb).elim, hok, .of_eq hg⟩
  refine codeAny_mono ((F _ hKb (nsK hns)).run callerA [] s₁ H0 ⟨[.ref a], []⟩ [.ref a] [.ref a] _ ⟨hr, rfl⟩ e0 (hbd s₁ _) (.cons rfl .nil) (hsp H0 hO hS)) fun r s' h => ?_
  match r, h with
  | .error _, h => exact h.elim
  | .ok .next, h => exact h.elim
  | .ok .brk, h => exact h.elim
  | .ok .cont, h => exact h.elim
  | .ok (.ret u), ⟨v, H', os, bare, un, hok', r', q⟩ =>
    cases (show v = .bl true from q)
    obtain rfl : u = Value.bool true := r'
    refine ⟨rfl, PySem.OldK.of_keep fun b o e => ?_, os, bare⟩
    rcases q : H0 b with _ | u
    · exact un.keep b o e q (fun z => (List.not_mem_nil z).elim) (by simp)
    · rcases hO b with z | ⟨ob, xs, z⟩
      · rw [q] at z; cases z
      · obtain ⟨e1, _⟩ := hok b _ z
        obtain ⟨e2, _⟩ := hok' b _ (un.frzs b ob _ z)
        rw [e] at e1; cases e1
        exact e2
theorem walk_ofG {l : PySem.W.OpenLaw} {n k : Nat} {q : Program} {loose : List Str} {XP : (Str → Option Value) → Heap → Prop} {YP : World → Heap → Prop} {d : DefRec} {K : Params → PySem.W.Frag} {sp : World → List V → Hp → VK → Prop} {x : Str}
    (hn : l.most = some n) (hn2 : n ≤ sizeLine) (hdf : d.params.defaults = []) (hr : Room k callerA) (hY : ∀ (w : World) (h : Heap), YP w h → (K w.params).In h)
    (F : ∀ (w : World) (mg : Str → Option Value) (fa : Addr) (h : Heap), (K w.params).In h → h.Ns mainGlobals mg → mg d.name = some (.ref fa) →
      ∃ fd : FuncData, (∀ (s : Shared) (u : Value), BindsTo s fd ⟨[u], []⟩ [(x, u)]) ∧ ∀ h0 : Heap, (K w.params).In h0 → h0.Ns mainGlobals mg → FnG l.prog w (K w.params) mg h0 k fa fd [x] (sp w))
    (hsp : ∀ (w : World) (H : Hp) (a : Addr) (ns : List Int), ns.length ≤ n → Only H → SqL (K w.params) H a (ns.map V.int) → sp w [.ref a] H fun v _ => v = .bl true) :
    PySem.W.WalkO q loose XP YP l.row.toRowW d [] (fun f vs => PySem.call f vs) :=
  Att.attach_call hn hdf fun w s₀ s₁ mg mb fa o pm cd doc a vs ns G Y ho hd hcd hmg hobj hints hlen hg => by
    obtain ⟨fd, hb, hF⟩ := F w mg fa _ (hY w _ Y) G.T.g hmg
    exact law_callG (hY w _ Y) G.T.g G.T.b G.T.builtins G.T.nolimit hg hobj hints (Nat.le_trans hlen hn2) hr hF hb fun H hO hS => hsp w H a ns hlen hO hS
end DD
namespace DD
open PySem PySem.Spec PyProof.Rows L2
variable [Tabs]

/-! ### argument lists without stars -/
def isStar : Expr → Bool
  | .Starred _ _ => true
  | _ => false
theorem star_cons {e : Expr} {es : List Expr} {env : PySem.Env} (h : isStar e = false) : starEach (e :: es) env = (false, eval e env) :: starEach es env := by
  cases e <;> first | rfl | simp [isStar] at h
def noStars : List Expr → Bool
  | [] => true
  | e :: es => !isStar e && noStars es
theorem star_any {env : PySem.Env} {pos : Pos} : ∀ {es : List Expr}, noStars es = true → (backTo pos (starEach es env)).any (·.1) = false
  | [], _ => rfl
  | e :: es, h => by
    simp only [noStars, Bool.and_eq_true, Bool.not_eq_true'] at h
    rw [star_cons h.1]
    show (false || (backTo pos (starEach es env)).any (·.1)) = false
    rw [star_any h.2]; rfl
def notSlice : Expr → Bool
  | .Slice _ _ _ _ => false
  | _ => true
theorem plainIx_of {e : Expr} (h : notSlice e = true) : PlainIx e := fun o i => by
  cases e <;> first | rfl | simp [notSlice] at h

section
variable {X : Cx} {a b : Expr} {pos : Pos} {F : Fns}
theorem de_sub (hix : IxR X (fun x y H Q => ∃ u M a b d, u.H = H ∧ Wd X.K X.w u M ∧ RD X.K u a x ∧ RD X.K u b y ∧ ixD M a b = some d ∧ ∀ v, RD X.K u d v → Q v H)) {xa xb : Ex} (ha : DE X a (evE F xa)) (hb : DE X b (evE F xb)) (hs : notSlice b = true) : DE X (.Subscript a b pos) (evE F (.sub xa xb)) :=
  peBy fun σ H Q ⟨u, M, δ, eH, W, S, d, M', e, fin⟩ => ⟨_, pe_ix hix ha hb (plainIx_of hs), by
    rw [evE] at e
    split at e
    · rename_i x M1 e1
      split at e
      · rename_i y M2 e2
        obtain ⟨d', e3, e4⟩ := Option.map_eq_some_iff.mp e
        cases e4
        refine ⟨u, M, δ, eH, W, S, x, M1, e1, fun u1 v1 E1 W1 r1 => ⟨u1, M1, δ, rfl, W1, S.mono E1, y, _, e2, fun u2 v2 E2 W2 r2 => ?_⟩⟩
        exact ⟨u2, _, x, y, d, rfl, W2, r1.mono E2, r2, e3, fun v r => fin u2 v (E1.trans E2) W2 r⟩
      · cases e
    · cases e⟩
theorem do_none : PO X none (tOD X.K X.w (evO F none)) := ⟨fun pins s σ H Q I ⟨u, M, δ, eH, W, S, d, M', e, q⟩ => by
  rw [evO] at e; cases e; subst eH
  exact po_none.run pins s σ u.H Q I (q u Ext.refl W)⟩
theorem do_some {e : Expr} {x : Ex} (h : DE X e (evE F x)) : PO X (some e) (tOD X.K X.w (evO F (some x))) := ⟨fun pins s σ H Q I ⟨u, M, δ, eH, W, S, d, M', e, q⟩ => by
  rw [evO] at e
  split at e
  · rename_i i M1 e1
    cases e
    refine (po_some h).run pins s σ H Q I ⟨u, M, δ, eH, W, S, _, _, e1, fun u1 v1 E1 W1 r1 => ?_⟩
    cases r1
    exact ⟨_, rfl, q u1 E1 W1⟩
  · cases e⟩
theorem de_slc {xa : Ex} {lo hi : Option Expr} {xl xh : Option Ex} {p2 : Pos} (ha : DE X a (evE F xa)) (hl : PO X lo (tOD X.K X.w (evO F xl))) (hh : PO X hi (tOD X.K X.w (evO F xh))) : DE X (.Subscript a (.Slice lo hi none p2) pos) (evE F (.slc xa xl xh)) :=
  peBy fun σ H Q ⟨u, M, δ, eH, W, S, d, M', e, fin⟩ => ⟨_, pe_slice sl_D ha hl hh, by
    rw [evE] at e
    split at e
    · rename_i x M1 e1
      split at e
      · rename_i l M2 e2
        split at e
        · rename_i h M3 e3
          refine ⟨u, M, δ, eH, W, S, x, M1, e1, fun u1 v1 E1 W1 r1 => ⟨u1, M1, δ, rfl, W1, S.mono E1, l, M2, e2, fun u2 E2 W2 => ⟨u2, M2, δ, rfl, W2, S.mono (E1.trans E2), h, M3, e3, fun u3 E3 W3 => ?_⟩⟩⟩
          exact ⟨u3, M3, x, d, M', rfl, W3, (r1.mono E2).mono E3, e, fun u4 v4 E4 W4 r4 => fin u4 v4 (((E1.trans E2).trans E3).trans E4) W4 r4⟩
        · cases e
      · cases e
    · cases e⟩
/-- a built-in function of the world -/
theorem de_bi {x id : Str} {nm : String} {p : Pos} {es : List Expr} {xs : List Ex} {bi : Bi} (hc : CallR X (.builtin nm) (aD X.K X.w (biD bi))) (hg : Gl X x) (hm : X.mg x = none) (hv : bootBuiltins x = some (.builtin nm)) (h : DA X (a :: es) (evEs F xs)) (hn : x ≠ "__name__") (hdb : (x == ("__debug__" : Str)) = false)
    (hst : noStars (a :: es) = true) : DE X (.Call (.Name x p) (a :: es) [] pos) (evE F (.bi bi xs)) := by
  have hs := hst
  simp only [noStars, Bool.and_eq_true, Bool.not_eq_true'] at hs
  exact peBy fun σ H Q q => ⟨_, pe_callB hc hg hm hv h hn hdb (star_cons hs.1) (star_any hs.2), call_read (fun δ M => by rw [evE] <;> rfl) q⟩
theorem de_ty {x : Str} {nm : String} {p : Pos} {es : List Expr} {xs : List Ex} {bi : Bi} (hc : CallR X (.type nm) (aD X.K X.w (biD bi))) (hg : Gl X x) (hm : X.mg x = none) (hv : bootBuiltins x = some (.type nm)) (h : DA X (a :: es) (evEs F xs)) (hn : x ≠ "__name__") (hdb : (x == ("__debug__" : Str)) = false)
    (hst : noStars (a :: es) = true) : DE X (.Call (.Name x p) (a :: es) [] pos) (evE F (.bi bi xs)) := by
  have hs := hst
  simp only [noStars, Bool.and_eq_true, Bool.not_eq_true'] at hs
  exact peBy fun σ H Q q => ⟨_, pe_callTy hc hg hm hv h hn hdb (star_cons hs.1) (star_any hs.2), call_read (fun δ M => by rw [evE] <;> rfl) q⟩
/-- a built-in function under a module's name -/
theorem de_bf {x : Str} {nm : String} {p : Pos} {es : List Expr} {xs : List Ex} {bi : Bi} (hc : CallR X (.builtin nm) (aD X.K X.w (biD bi))) (hg : Gl X x) (hm : X.mg x = some (.builtin nm)) (h : DA X (a :: es) (evEs F xs)) (hdb : (x == ("__debug__" : Str)) = false)
    (hst : noStars (a :: es) = true) : DE X (.Call (.Name x p) (a :: es) [] pos) (evE F (.bi bi xs)) := by
  have hs := hst
  simp only [noStars, Bool.and_eq_true, Bool.not_eq_true'] at hs
  exact peBy fun σ H Q q => ⟨_, pe_callBfun hc hg hm h hdb (star_cons hs.1) (star_any hs.2), call_read (fun δ M => by rw [evE] <;> rfl) q⟩
/-- a def of the text -/
theorem de_call {x : Str} {p : Pos} {es : List Expr} {xs : List Ex} {i k : Nat} {f : Addr} {fd : FuncData} {ps : List Str} (Fo : FnG X.prog X.w X.K X.mg X.base k f fd ps (aD X.K X.w (F i))) (hr : RoomG k X.A) (hg : Gl X x) (hm : X.mg x = some (.ref f)) (hk : PySem.W.keepIn X.K (.ref f) = true)
    (hb : Binds X.K fd ps []) (h : DA X (a :: es) (evEs F xs)) (hdb : (x == ("__debug__" : Str)) = false) (hst : noStars (a :: es) = true) : DE X (.Call (.Name x p) (a :: es) [] pos) (evE F (.call i xs)) := by
  have hs := hst
  simp only [noStars, Bool.and_eq_true, Bool.not_eq_true'] at hs
  exact peBy fun σ H Q q => ⟨_, pe_callG Fo hr hg hm hk hb h hdb (star_cons hs.1) (star_any hs.2), call_read (g := F i) (fun δ M => by rw [evE] <;> rfl) q⟩
theorem dk_of : ∀ {kws : List Keyword} {xs : List Ex}, (∀ (i : Nat) e x, (kws.map kwVal)[i]? = some e → xs[i]? = some x → DE X e (evE F x)) → kws.length = xs.length → PK X kws (tDs X.K X.w (evEs F xs))
  | [], [], _, _ => pkBy fun σ H Q ⟨u, M, δ, eH, W, S, d, M', e, q⟩ => ⟨_, pk_nil, by
      rw [evEs] at e; cases e
      subst eH
      exact q u [] Ext.refl W .nil⟩
  | ⟨nm, e, kp⟩ :: kws, x :: xs, h, hl => pkBy fun σ H Q q => ⟨_, pk_cons (h 0 e x rfl rfl) (dk_of (fun i e' x' a b => h (i + 1) e' x' (by simpa using a) (by simpa using b)) (by simpa using hl)), cons_read q⟩
/-- all by name, in order -/
theorem de_callk {x : Str} {p : Pos} {kws : List Keyword} {xs : List Ex} {i k : Nat} {f : Addr} {fd : FuncData} {ps : List Str} (Fo : FnG X.prog X.w X.K X.mg X.base k f fd ps (aD X.K X.w (F i))) (hr : RoomG k X.A) (hg : Gl X x) (hm : X.mg x = some (.ref f)) (hk : PySem.W.keepIn X.K (.ref f) = true)
    (hb : KwB X.K fd ps) (h : PK X kws (tDs X.K X.w (evEs F xs))) (hall : (backToKw pos (keywordEach kws X.env)).all (·.1.isSome) = true) (hks : (backToKw pos (keywordEach kws X.env)).filterMap (·.1) = ps) (hdb : (x == ("__debug__" : Str)) = false)
    (hpl : ((backTo pos (starEach [] X.env)).any (·.1) || (backToKw pos (keywordEach kws X.env)).any (·.1.isNone)) = false) : DE X (.Call (.Name x p) [] kws pos) (evE F (.callk i xs ps)) :=
  peBy fun σ H Q q => ⟨_, pe_callGK Fo hr hg hm hk hb h hall hks hdb hpl, call_read (g := F i) (fun δ M => by rw [evE] <;> rfl) q⟩
theorem rds_pick {K : PySem.W.Frag} {u : Vw} : ∀ {pi : List Nat} {ds : List D} {vs : List V}, RDs K u ds vs → RDs K u (pi.map fun i => ds.getD i .non) (pi.map fun i => vs.getD i .non)
  | [], _, _, _ => .nil
  | i :: pi, ds, vs, r => by
    refine .cons ?_ (rds_pick r)
    show RD K u (ds.getD i _) (vs.getD i _)
    rw [List.getD_eq_getElem?_getD, List.getD_eq_getElem?_getD]
    by_cases h : i < ds.length
    · obtain ⟨v, e, q⟩ := r.get (List.getElem?_eq_getElem h)
      rw [List.getElem?_eq_getElem h, e]
      exact q
    · rw [List.getElem?_eq_none (by omega), List.getElem?_eq_none (by rw [← r.length]; omega)]
      exact .non
/-- all by name, in any order -/
theorem de_callp {x : Str} {p : Pos} {kws : List Keyword} {xs : List Ex} {i k : Nat} {f : Addr} {fd : FuncData} {ps ks : List Str} {pi : List Nat} (Fo : FnG X.prog X.w X.K X.mg X.base k f fd ps (aD X.K X.w (F i))) (hr : RoomG k X.A) (hg : Gl X x) (hm : X.mg x = some (.ref f)) (hk : PySem.W.keepIn X.K (.ref f) = true)
    (hb : KwP X.K fd ps ks pi) (hpi : ∀ i ∈ pi, i < ks.length) (hl : xs.length = ks.length) (h : PK X kws (tDs X.K X.w (evEs F xs))) (hall : (backToKw pos (keywordEach kws X.env)).all (·.1.isSome) = true) (hks : (backToKw pos (keywordEach kws X.env)).filterMap (·.1) = ks) (hdb : (x == ("__debug__" : Str)) = false)
    (hpl : ((backTo pos (starEach [] X.env)).any (·.1) || (backToKw pos (keywordEach kws X.env)).any (·.1.isNone)) = false) : DE X (.Call (.Name x p) [] kws pos) (evE F (.callp i xs ks pi)) :=
  peBy fun σ H Q ⟨u, M, δ, eH, W, S, d, M', e, fin⟩ => ⟨_, pe_callGP Fo hr hg hm hk hb hpi h hall hks hdb hpl, by
    rw [evE] at e
    split at e
    · rename_i ds M1 e1
      refine ⟨u, M, δ, eH, W, S, ds, M1, e1, fun u1 vs E1 W1 r1 => ⟨by rw [← r1.length, evEs_len e1]; exact hl, u1, M1, _, rfl, W1, rds_pick r1, d, M', e, fun u2 v2 E2 W2 r2 => fin u2 v2 (E1.trans E2) W2 r2⟩⟩
    · cases e⟩
/-- with its defaults -/
theorem de_calld {x : Str} {p : Pos} {es : List Expr} {xs : List Ex} {cs : List D} {i k : Nat} {f : Addr} {fd : FuncData} {ps : List Str} {us : List Value} {dvs : List V} (Fo : FnG X.prog X.w X.K X.mg X.base k f fd ps (aD X.K X.w (F i))) (hr : RoomG k X.A) (hg : Gl X x) (hm : X.mg x = some (.ref f)) (hk : PySem.W.keepIn X.K (.ref f) = true)
    (hb : Binds X.K fd ps us) (hd : Vals dvs us) (hc : ∀ vw, RDs X.K vw cs dvs) (h : DA X (a :: es) (evEs F xs)) (hdb : (x == ("__debug__" : Str)) = false) (hst : noStars (a :: es) = true) : DE X (.Call (.Name x p) (a :: es) [] pos) (evE F (.calld i xs cs)) := by
  have hs := hst
  simp only [noStars, Bool.and_eq_true, Bool.not_eq_true'] at hs
  exact peBy fun σ H Q ⟨u, M, δ, eH, W, S, d, M', e, fin⟩ => ⟨_, pe_callGD Fo hr hg hm hk hb hd h hdb (star_cons hs.1) (star_any hs.2), by
    rw [evE] at e
    split at e
    · rename_i ds M1 e1
      exact ⟨u, M, δ, eH, W, S, ds, M1, e1, fun u1 vs E1 W1 r1 => ⟨u1, M1, _, rfl, W1, r1.append (hc u1), d, M', e, fun u2 v2 E2 W2 r2 => fin u2 v2 (E1.trans E2) W2 r2⟩⟩
    · cases e⟩
/-! and, or -/
theorem de_and : ∀ {es : List Expr} {xs : List Ex}, (∀ (i : Nat) e x, es[i]? = some e → xs[i]? = some x → DE X e (evE F x) ∧ DT X e (evE F x)) → es.length = xs.length → es ≠ [] →
    DE X (.BoolOp .And es pos) (evAnd F xs) ∧ PW X (.BoolOp .And es pos) (tTD X.K X.w (evAnd F xs))
  | [], _, _, _, hne => absurd rfl hne
  | [e], [x], h, _, _ => by
    obtain ⟨h1, h2⟩ := h 0 e x rfl rfl
    have he : evAnd F [x] = evE F x := by funext δ M; rw [evAnd]
    rw [he]
    exact ⟨pe_one h1, pw_and1 h2⟩
  | e :: e2 :: es, x :: x2 :: xs, h, hl, _ => by
    obtain ⟨h1, h2⟩ := h 0 e x rfl rfl
    obtain ⟨h3, h4⟩ := de_and (es := e2 :: es) (xs := x2 :: xs) (fun i e' x' a b => h (i + 1) e' x' (by simpa using a) (by simpa using b)) (by simpa using hl) (by simp)
    have he : ∀ δ M, evAnd F (x :: x2 :: xs) δ M = match evE F x δ M with
      | some (.bl true, M1) => evAnd F (x2 :: xs) δ M1
      | some (.bl false, M1) => some (.bl false, M1)
      | _ => none := fun δ M => by rw [evAnd] <;> rfl
    constructor
    · refine peBy fun σ H Q ⟨u, M, δ, eH, W, S, d, M', e, fin⟩ => ⟨_, pe_and h1 h3, ?_⟩
      rw [he] at e
      split at e
      · rename_i M1 e1
        refine ⟨u, M, δ, eH, W, S, _, M1, e1, fun u1 v1 E1 W1 r1 => ?_⟩
        cases r1
        exact ⟨true, rfl, iteT ⟨u1, M1, δ, rfl, W1, S.mono E1, d, M', e, fun u2 v2 E2 W2 r2 => fin u2 v2 (E1.trans E2) W2 r2⟩⟩
      · rename_i M1 e1
        cases e
        refine ⟨u, M, δ, eH, W, S, _, _, e1, fun u1 v1 E1 W1 r1 => ?_⟩
        cases r1
        exact ⟨false, rfl, iteF (fin u1 _ E1 W1 (.bl _))⟩
      · cases e
    · refine ⟨fun whole pins s σ H Q I q => (pw_and h2 h4).run whole pins s σ H Q I ?_⟩
      obtain ⟨u, M, δ, eH, W, S, d, M', c, e, e2, q⟩ := q
      rw [he] at e
      split at e
      · rename_i M1 e1
        exact ⟨u, M, δ, eH, W, S, _, M1, true, e1, rfl, fun u1 E1 W1 => iteT ⟨u1, M1, δ, rfl, W1, S.mono E1, d, M', c, e, e2, fun u2 E2 W2 => q u2 (E1.trans E2) W2⟩⟩
      · rename_i M1 e1
        cases e
        cases e2
        exact ⟨u, M, δ, eH, W, S, _, _, false, e1, rfl, fun u1 E1 W1 => iteF (q u1 E1 W1)⟩
      · cases e
  | [_], _ :: _ :: _, _, hl, _ => by simp at hl
  | [_], [], _, hl, _ => by simp at hl
  | _ :: _ :: _, [_], _, hl, _ => by simp at hl
  | _ :: _ :: _, [], _, hl, _ => by simp at hl
theorem de_or : ∀ {es : List Expr} {xs : List Ex}, (∀ (i : Nat) e x, es[i]? = some e → xs[i]? = some x → DE X e (evE F x) ∧ DT X e (evE F x)) → es.length = xs.length → es ≠ [] →
    DE X (.BoolOp .Or es pos) (evOr F xs) ∧ PW X (.BoolOp .Or es pos) (tTD X.K X.w (evOr F xs))
  | [], _, _, _, hne => absurd rfl hne
  | [e], [x], h, _, _ => by
    obtain ⟨h1, h2⟩ := h 0 e x rfl rfl
    have he : evOr F [x] = evE F x := by funext δ M; rw [evOr]
    rw [he]
    exact ⟨pe_one h1, pw_or1 h2⟩
  | e :: e2 :: es, x :: x2 :: xs, h, hl, _ => by
    obtain ⟨h1, h2⟩ := h 0 e x rfl rfl
    obtain ⟨h3, h4⟩ := de_or (es := e2 :: es) (xs := x2 :: xs) (fun i e' x' a b => h (i + 1) e' x' (by simpa using a) (by simpa using b)) (by simpa using hl) (by simp)
    have he : ∀ δ M, evOr F (x :: x2 :: xs) δ M = match evE F x δ M with
      | some (.bl true, M1) => some (.bl true, M1)
      | some (.bl false, M1) => evOr F (x2 :: xs) δ M1
      | _ => none := fun δ M => by rw [evOr] <;> rfl
    constructor
    · refine peBy fun σ H Q ⟨u, M, δ, eH, W, S, d, M', e, fin⟩ => ⟨_, pe_or h1 h3, ?_⟩
      rw [he] at e
      split at e
      · rename_i M1 e1
        cases e
        refine ⟨u, M, δ, eH, W, S, _, _, e1, fun u1 v1 E1 W1 r1 => ?_⟩
        cases r1
        exact ⟨true, rfl, iteT (fin u1 _ E1 W1 (.bl _))⟩
      · rename_i M1 e1
        refine ⟨u, M, δ, eH, W, S, _, M1, e1, fun u1 v1 E1 W1 r1 => ?_⟩
        cases r1
        exact ⟨false, rfl, iteF ⟨u1, M1, δ, rfl, W1, S.mono E1, d, M', e, fun u2 v2 E2 W2 r2 => fin u2 v2 (E1.trans E2) W2 r2⟩⟩
      · cases e
    · refine ⟨fun whole pins s σ H Q I q => (pw_or h2 h4).run whole pins s σ H Q I ?_⟩
      obtain ⟨u, M, δ, eH, W, S, d, M', c, e, e2, q⟩ := q
      rw [he] at e
      split at e
      · rename_i M1 e1
        cases e
        cases e2
        exact ⟨u, M, δ, eH, W, S, _, _, true, e1, rfl, fun u1 E1 W1 => iteT (q u1 E1 W1)⟩
      · rename_i M1 e1
        exact ⟨u, M, δ, eH, W, S, _, M1, false, e1, rfl, fun u1 E1 W1 => iteF ⟨u1, M1, δ, rfl, W1, S.mono E1, d, M', c, e, e2, fun u2 E2 W2 => q u2 (E1.trans E2) W2⟩⟩
      · cases e
  | [_], _ :: _ :: _, _, hl, _ => by simp at hl
  | [_], [], _, hl, _ => by simp at hl
  | _ :: _ :: _, [_], _, hl, _ => by simp at hl
  | _ :: _ :: _, [], _, hl, _ => by simp at hl
end
end DD
namespace DD
open PySem PySem.Spec PyProof.Rows L2
variable [Tabs]

section
variable (K : PySem.W.Frag) (w : World)
/-- J walks the values xs from the view u0 on, as long as ok holds of the store -/
structure WalkD (J : It) (xs : List D) (ok : Sto → Bool) (u0 : Vw) : Prop where
  ex : ∃ (G : Hp → Prop) (Y : Nat → Hp → V → Hp → Prop), Walk J xs.length G Y ∧ (∀ u M, Ext K u0 u → Wd K w u M → ok M = true → G u.H) ∧
    ∀ i x H' u M, i < xs.length → Ext K u0 u → Wd K w u M → ok M = true → Y i u.H x H' → ∃ u', u'.H = H' ∧ Ext K u u' ∧ Wd K w u' M ∧ ∃ d, xs[i]? = some d ∧ RD K u' d x
def tID (f : Env → Sto → Option (List D × (Sto → Bool) × Sto)) : TI := fun σ H R => ∃ u M δ, u.H = H ∧ Wd K w u M ∧ Sl K u δ σ ∧ ∃ xs ok M', f δ M = some (xs, ok, M') ∧
  ∀ u' J, Ext K u u' → Wd K w u' M' → WalkD K w J xs ok u' → R J u'.H
def tCD (f : Env → Sto → Option (Bool × Sto)) : TT := fun σ H Q => ∃ u M δ, u.H = H ∧ Wd K w u M ∧ Sl K u δ σ ∧ ∃ c M', f δ M = some (c, M') ∧ ∀ u', Ext K u u' → Wd K w u' M' → Q c u'.H
def gNames : List Nat → TGs
  | [] => gNil
  | i :: is => gCons (gName i) (gNames is)
def gC : Tgc → TG
  | .one i => gName i
  | .many is => gTup K is.length (gNames is)
end
section
variable {K : PySem.W.Frag} {w : World} {u u' u0 : Vw} {M : Sto}
theorem WalkD.mono {J : It} {xs : List D} {ok : Sto → Bool} (h : WalkD K w J xs ok u0) (e : Ext K u0 u) : WalkD K w J xs ok u := by
  obtain ⟨G, Y, a, b, c⟩ := h.ex
  exact ⟨G, Y, a, fun u1 M E W o => b u1 M (e.trans E) W o, fun i x H' u1 M hi E W o y => c i x H' u1 M hi (e.trans E) W o y⟩
theorem wipe_set {σ : L2.St} {i : Nat} {v : Option V} : ∀ {vs : List Nat}, i ∈ vs → wipe (σ.set i v) vs = wipe σ vs
  | [], h => by simp at h
  | x :: vs, h => by
    unfold wipe
    by_cases hx : i = x
    · subst hx
      by_cases hm : i ∈ vs
      · rw [wipe_set hm]
      · have : ∀ (σ : L2.St) (vs : List Nat), i ∉ vs → wipe (σ.set i v) vs = (wipe σ vs).set i v := by
          intro σ vs
          induction vs with
          | nil => intro _; rfl
          | cons y ys ih =>
            intro hn
            simp only [List.mem_cons, not_or] at hn
            unfold wipe
            rw [ih hn.2, List.set_comm _ _ hn.1]
        rw [this σ vs hm, List.set_set]
    · have hm : i ∈ vs := by
        rcases List.mem_cons.mp h with e | e
        · exact absurd e hx
        · exact e
      rw [wipe_set hm]
theorem gNames_ok {vs : List Nat} : ∀ {is : List Nat} {ds : List D} {δ δ' : Env} {xs : List V} {σ : L2.St} {H : Hp} {Q : L2.St → Hp → Prop}, bindMany is ds δ = some δ' → RDs K u ds xs → Sl K u δ σ → (∀ i ∈ is, i ∈ vs) →
    (∀ σ', Sl K u δ' σ' → wipe σ' vs = wipe σ vs → Q σ' H) → gNames is xs σ H Q
  | [], ds, δ, δ', xs, σ, H, Q, h, r, S, hm, q => by
    cases ds with
    | nil =>
      rw [bindMany] at h
      cases h; cases r
      exact ⟨rfl, q σ S rfl⟩
    | cons d ds => simp [bindMany] at h
  | i :: is, ds, δ, δ', xs, σ, H, Q, h, r, S, hm, q => by
    cases ds with
    | nil => simp [bindMany] at h
    | cons d ds =>
      cases r with
      | cons r1 r2 =>
      rw [bindMany] at h
      refine ⟨_, _, rfl, ?_⟩
      refine gNames_ok h r2 (S.set r1 i) (fun j hj => hm j (List.mem_cons_of_mem _ hj)) fun σ' S' e => q σ' S' ?_
      rw [e, wipe_set (hm i List.mem_cons_self)]
theorem bindMany_len : ∀ {is : List Nat} {ds : List D} {δ δ' : Env}, bindMany is ds δ = some δ' → ds.length = is.length
  | [], ds, δ, δ', h => by
    cases ds with
    | nil => rfl
    | cons d ds => simp [bindMany] at h
  | i :: is, ds, δ, δ', h => by
    cases ds with
    | nil => simp [bindMany] at h
    | cons d ds =>
      rw [bindMany] at h
      simp [bindMany_len h]
theorem gC_ok {t : Tgc} {d : D} {δ δ' : Env} {x : V} {σ : L2.St} {Q : L2.St → Hp → Prop} (h : bindC t d δ = some δ') (r : RD K u d x) (S : Sl K u δ σ) (q : ∀ σ', Sl K u δ' σ' → wipe σ' (ownC t) = wipe σ (ownC t) → Q σ' u.H) : gC K t x σ u.H Q := by
  cases t with
  | one i =>
    rw [bindC] at h
    cases h
    exact q _ (S.set r i) (wipe_set (by simp [ownC]))
  | many is =>
    cases d with
    | tup ds =>
      rw [bindC] at h
      cases r with
      | tup h1 r1 =>
      exact ⟨_, _, rfl, h1, by rw [← r1.length, bindMany_len h], gNames_ok h r1 S (fun i hi => hi) q⟩
    | _ => simp [bindC] at h
end
section
variable {X : Cx} {F : Fns}
theorem piBy {tg e : Expr} {t' : TI} (h : ∀ σ H R, t' σ H R → ∃ t, PI X tg e t ∧ t σ H R) : PI X tg e t' := ⟨fun pins s σ H Q I q => by
  obtain ⟨t, a, b⟩ := h σ H Q q
  exact a.run pins s σ H Q I b⟩
/-- over a tuple, a list -/
theorem walk_t {K : PySem.W.Frag} {w : World} {u : Vw} {v : V} {xs : List D} (r : RD K u (.tup xs) v) : ∃ a vs, v = .ref a ∧ SqT K u.H a vs ∧ WalkD K w (Itt K a) xs (okAt (.tup xs) xs) u := by
  cases r with
  | @tup _ vs a h1 r1 =>
  refine ⟨a, vs, rfl, h1, ⟨_, _, by rw [r1.length]; exact walk_tup, fun u1 M1 E W1 _ => E.tups _ _ h1, fun i x H' u1 M1 hi E W1 _ y => ?_⟩⟩
  obtain ⟨rfl, y⟩ := y
  obtain ⟨d', h3, h4⟩ := (r1.mono E).getV y
  exact ⟨u1, rfl, Ext.refl, W1, d', h3, h4⟩
theorem walk_l {K : PySem.W.Frag} {w : World} {u : Vw} {M : Sto} {i : Nat} {v : V} {xs : List D} (W : Wd K w u M) (r : RD K u (.loc i) v) (h : seqOf M (.loc i) = some xs) :
    ∃ a vs, v = .ref a ∧ SqL K u.H a vs ∧ WalkD K w (Itl K a) xs (okAt (.loc i) xs) u := by
  cases r
  have key : ∀ ys, (M[i]? = some (.lst ys) ∨ M[i]? = some (.flst ys)) → ys = xs → i < u.n → ∃ a vs, V.ref (u.iot i) = .ref a ∧ SqL K u.H a vs ∧ WalkD K w (Itl K a) xs (okAt (.loc i) xs) u := by
    intro ys hy ey hlt
    subst ey
    obtain ⟨_, vs, q1, r1⟩ := W.seqL hy
    have there : ∀ u1 M1, Ext K u u1 → Wd K w u1 M1 → okAt (.loc i) ys M1 = true → ∃ ws, SqL K u1.H (u.iot i) ws ∧ RDs K u1 ys ws := by
      intro u1 M1 E W1 o
      unfold okAt at o
      simp only at o
      split at o
      · rename_i zs hz
        have := of_decide_eq_true o
        subst this
        obtain ⟨_, ws, a, b⟩ := W1.seqL (.inl hz)
        rw [E.same i hlt] at a
        exact ⟨ws, a, b⟩
      · rename_i zs hz
        have := of_decide_eq_true o
        subst this
        obtain ⟨_, ws, a, b⟩ := W1.seqL (.inr hz)
        rw [E.same i hlt] at a
        exact ⟨ws, a, b⟩
      · cases o
    refine ⟨_, vs, rfl, q1, ⟨fun H => ∃ ws, SqL K H (u.iot i) ws ∧ ws.length = ys.length, fun j H x H' => H' = H ∧ ∀ ws, SqL K H (u.iot i) ws → ws[j]? = some x, ⟨fun j H hj ⟨ws, a, b⟩ => ?_, fun H ⟨ws, a, b⟩ => ?_, fun j H x H' hj _ y => y⟩, fun u1 M1 E W1 o => ?_, fun j x H' u1 M1 hj E W1 o y => ?_⟩⟩
    · exact ⟨ws, ws[j]'(by omega), a, by simp [show j < ws.length by omega]⟩
    · exact ⟨ws, a, by omega⟩
    · obtain ⟨ws, a, b⟩ := there u1 M1 E W1 o
      exact ⟨ws, a, b.length.symm⟩
    · obtain ⟨rfl, y⟩ := y
      obtain ⟨ws, a, b⟩ := there u1 M1 E W1 o
      obtain ⟨d', h3, h4⟩ := b.getV (y ws a)
      exact ⟨u1, rfl, Ext.refl, W1, d', h3, h4⟩
  unfold seqOf at h
  simp only at h
  split at h
  · rename_i h1
    cases h
    exact key _ (.inl h1) rfl (W.lt h1)
  · rename_i h1
    cases h
    exact key _ (.inr h1) rfl (W.lt h1)
  · cases h
/-- the keys of the locked dict at d -/
def Itkd (d : Addr) (od : Obj) (es : List DictEntry) : It :=
  ⟨fun i H => H d = some (.frz od (.ext (RawD d es))) ∧ ∃ e q, es[i]? = some e ∧ e.key = .ref q, fun i H x H' => H' = H ∧ ∃ e q, es[i]? = some e ∧ e.key = .ref q ∧ x = .ref q, fun i H => H d = some (.frz od (.ext (RawD d es))) ∧ es.length ≤ i⟩
theorem turn_kd {P : Program} {w : World} {K : PySem.W.Frag} {tg : Expr} {d : Addr} {od : Obj} {es : List DictEntry} {ep : Nat} (it : Addr) (hod : od.data = .dict es.toArray ep) : Turn P w K tg (Itkd d od es) [it] it (fun i h => h.IsKeyIter it d i es.length ep) where
  mem := by simp
  obj := fun i h st b hb => by
    have e : b = it := by simpa using hb
    subst e
    obtain ⟨oi, e, c, dd⟩ := st
    exact ⟨oi, e, fun v z => by rw [dd] at z; cases z⟩
  keep := fun i h h' st k => st.at fun oi e => k it (by simp) oi e
  item := by
    intro X hP hw hK hc i pins s σ H E I hf st hg
    subst hP hw hK
    obtain ⟨hd, e, q, he, hq⟩ := hg
    obtain ⟨f0, f1, f2, f3, f4, f5⟩ := hf it (by simp)
    obtain ⟨g0, ⟨o, ep', g1, g2, g3⟩, _⟩ := I.hok _ _ hd
    cases g0.symm.trans g1
    have hi : i < es.length := (List.getElem?_eq_some_iff.mp he).1
    refine wpAny_pyNext_keys_item_raw (es := es.toArray) (d := d) (ep := ep) (by simpa using st) ⟨od, g1, g2, hod⟩ (by simpa using hi) fun h' st' sb => ?_
    have I1 : Inv X pins σ H { s with heap := h' } := I.turned (t' := s.toks) (fun b ob hb e => (sb.2 b hb).trans e) f0 f1 f3 f4 f5
    obtain ⟨oi, e1, c, dd⟩ := id st'
    have ek : (es.toArray[i]'(by simpa using hi)).key = .ref q := by
      have : es[i]'hi = e := (List.getElem?_eq_some_iff.mp he).2
      rw [← hq, ← this]; simp
    rw [ek]
    exact ⟨.ref q, rfl, go_of (s := { s with heap := h' }) e1 c dd (by decide) ⟨.ref q, H, I1, rfl, ⟨rfl, e, q, he, hq, rfl⟩, by simpa using st', fun b hb => (hf b hb).1⟩⟩
  done := by
    intro X hP hw hK hc i pins s σ H E I hf st hg
    subst hP hw hK
    obtain ⟨hd, hi⟩ := hg
    obtain ⟨f0, f1, f2, f3, f4, f5⟩ := hf it (by simp)
    obtain ⟨g0, ⟨o, ep', g1, g2, g3⟩, _⟩ := I.hok _ _ hd
    cases g0.symm.trans g1
    exact wpAny_pyNext_keys_end_raw (es := es.toArray) (d := d) (ep := ep) (I.ok.hd hc) (by simpa using st) ⟨od, g1, g2, hod⟩ (by simpa using hi) fun h' eb => ⟨rfl, I.turned (t' := s.toks) (fun b ob hb e => eb b ob hb e) f0 f1 f3 f4 f5⟩
  self := fun A i s Q E st h => wpAny_pyIter_keyiter st h
def iKeysR (td : TE) : TI := fun σ H R => td σ H fun x H1 => ∃ d od es, x = .ref d ∧ H1 d = some (.frz od (.ext (RawD d es))) ∧ (d == sysModules) = false ∧ R (Itkd d od es) H1
theorem pi_keysR {X : Cx} {tg e : Expr} {td : TE} (he : PE X e td) : PI X tg e (iKeysR td) := by
  refine ⟨fun pins s σ H R I h => ?_⟩
  refine thn (he.run pins s σ H _ I h) fun u s1 ⟨x, H1, I1, rx, d, od, es, ex, hd, hs, q⟩ => ?_
  subst ex
  obtain rfl : u = Value.ref d := rx
  obtain ⟨g0, ⟨o, ep, g1, g2, g3⟩, _⟩ := I1.hok _ _ hd
  cases g0.symm.trans g1
  refine iter_keys hs g1 g2 g3 (pi_one (tk := s1.toks) I1 _ (turn_kd _ g3) ⟨_, Heap.get?_push_size _ rfl, rfl, ?_⟩ q)
  simp
theorem ren_key {K : PySem.W.Frag} {w : World} {u : Vw} {kv : D × D} {e : DictEntry} (h : REn K w u kv e) : ∃ q, e.key = .ref q ∧ RD K u kv.1 (.ref q) := by
  obtain ⟨⟨ys, hy, _⟩, ⟨x, hx, r⟩, _⟩ := h
  rw [hy] at r ⊢
  cases r with
  | tup a b => exact ⟨_, hx, .tup a b⟩
theorem rens_get {K : PySem.W.Frag} {w : World} {u : Vw} : ∀ {kvs : List (D × D)} {es : List DictEntry} {i : Nat} {e : DictEntry}, Paired (REn K w u) kvs es → es[i]? = some e → ∃ kv, kvs[i]? = some kv ∧ REn K w u kv e
  | _, _, _, _, .nil, h => by simp at h
  | _, _, 0, e, .cons a t, h => by simp at h; subst h; exact ⟨_, rfl, a⟩
  | _, _, i + 1, e, .cons a t, h => by
    obtain ⟨kv, h1, h2⟩ := rens_get (i := i) t (by simpa using h)
    exact ⟨kv, by simpa using h1, h2⟩
theorem walk_d {K : PySem.W.Frag} {w : World} {u : Vw} {M : Sto} {i : Nat} {kvs : List (D × D)} (W : Wd K w u M) (h : M[i]? = some (.fdct kvs)) :
    ∃ od es, u.H (u.iot i) = some (.frz od (.ext (RawD (u.iot i) es))) ∧ (u.iot i == sysModules) = false ∧ WalkD K w (Itkd (u.iot i) od es) (kvs.map (·.1)) (okDict (.loc i) kvs) u := by
  obtain ⟨es, od, e, r, nd, hs, hl⟩ := W.at_ _ _ h
  have hlen : kvs.length = es.length := Paired.length r
  refine ⟨od, es, e, hs, ⟨fun H => H (u.iot i) = some (.frz od (.ext (RawD (u.iot i) es))), fun j H x H' => H' = H ∧ ∃ e q, es[j]? = some e ∧ e.key = .ref q ∧ x = .ref q, ⟨fun j H hj q => ?_, fun H q => ⟨q, by simp [hlen]⟩, fun j H x H' hj _ y => y⟩, fun u1 M1 E W1 _ => E.frz _ _ _ e, fun j x H' u1 M1 hj E W1 o y => ?_⟩⟩
  · rw [List.length_map, hlen] at hj
    obtain ⟨kv, _, h2⟩ := rens_get r (show es[j]? = some es[j] by simp [hj])
    obtain ⟨q', h3, _⟩ := ren_key h2
    exact ⟨q, _, q', by simp [hj], h3⟩
  · obtain ⟨rfl, en, q, h1, h2, rfl⟩ := y
    obtain ⟨kv, h3, h4⟩ := rens_get r h1
    obtain ⟨q', h5, h6⟩ := ren_key h4
    rw [h2] at h5
    cases h5
    exact ⟨u1, rfl, Ext.refl, W1, kv.1, by simp [h3], h6.mono E⟩
theorem di_ex {tg e : Expr} {x : Ex} (he : DE X e (evE F x)) : PI X tg e (tID X.K X.w (evI F (.ex x))) := by
  have hT : PI X tg e (fun σ H R => ∃ u M δ d M', u.H = H ∧ Wd X.K X.w u M ∧ Sl X.K u δ σ ∧ evE F x δ M = some (d, M') ∧ (∃ ds, d = .tup ds) ∧ ∀ u' v, Ext X.K u u' → Wd X.K X.w u' M' → RD X.K u' d v → ∃ a, v = .ref a ∧ (∃ xs, SqT X.K u'.H a xs) ∧ R (Itt X.K a) u'.H) :=
    piBy fun σ H R ⟨u, M, δ, d, M', eH, W, S, e1, _, q⟩ => ⟨_, pi_tup he, u, M, δ, eH, W, S, d, M', e1, fun u1 v E1 W1 r1 => q u1 v E1 W1 r1⟩
  have hL : PI X tg e (fun σ H R => ∃ u M δ d M', u.H = H ∧ Wd X.K X.w u M ∧ Sl X.K u δ σ ∧ evE F x δ M = some (d, M') ∧ ∀ u' v, Ext X.K u u' → Wd X.K X.w u' M' → RD X.K u' d v → ∃ a, v = .ref a ∧ (∃ xs, SqL X.K u'.H a xs) ∧ R (Itl X.K a) u'.H) :=
    piBy fun σ H R ⟨u, M, δ, d, M', eH, W, S, e1, q⟩ => ⟨_, pi_list he, u, M, δ, eH, W, S, d, M', e1, fun u1 v E1 W1 r1 => q u1 v E1 W1 r1⟩
  refine piBy fun σ H R ⟨u, M, δ, eH, W, S, xs, ok, M', e, q⟩ => ?_
  rw [evI] at e
  split at e
  · rename_i d M1 e1
    split at e
    · rename_i ys e2
      cases e
      cases d with
      | tup ds =>
        refine ⟨_, hT, u, M, δ, _, _, eH, W, S, e1, ⟨ds, rfl⟩, fun u1 v E1 W1 r1 => ?_⟩
        cases e2
        obtain ⟨a, vs, rfl, h1, h2⟩ := walk_t (w := X.w) r1
        exact ⟨a, rfl, ⟨vs, h1⟩, q u1 _ E1 W1 h2⟩
      | loc i =>
        refine ⟨_, hL, u, M, δ, _, _, eH, W, S, e1, fun u1 v E1 W1 r1 => ?_⟩
        obtain ⟨a, vs, rfl, h1, h2⟩ := walk_l W1 r1 e2
        exact ⟨a, rfl, ⟨vs, h1⟩, q u1 _ E1 W1 h2⟩
      | _ => simp [seqOf] at e2
    · cases e
  · cases e
theorem di_keys {tg e : Expr} {x : Ex} (he : DE X e (evE F x)) : PI X tg e (tID X.K X.w (evI F (.keys x))) := by
  have hD : PI X tg e (fun σ H R => ∃ u M δ d M', u.H = H ∧ Wd X.K X.w u M ∧ Sl X.K u δ σ ∧ evE F x δ M = some (d, M') ∧ ∀ u' v, Ext X.K u u' → Wd X.K X.w u' M' → RD X.K u' d v → ∃ a od es, v = .ref a ∧ u'.H a = some (.frz od (.ext (RawD a es))) ∧ (a == sysModules) = false ∧ R (Itkd a od es) u'.H) :=
    piBy fun σ H R ⟨u, M, δ, d, M', eH, W, S, e1, q⟩ => ⟨_, pi_keysR he, u, M, δ, eH, W, S, d, M', e1, fun u1 v E1 W1 r1 => q u1 v E1 W1 r1⟩
  refine piBy fun σ H R ⟨u, M, δ, eH, W, S, xs, ok, M', e, q⟩ => ?_
  rw [evI] at e
  split at e
  · rename_i d M1 e1
    split at e
    · rename_i kvs e3
      cases e
      cases d with
      | loc i =>
        have e4 : M'[i]? = some (.fdct kvs) := by
          unfold keysAt at e3
          simp only at e3
          split at e3
          · rename_i h; cases e3; exact h
          · cases e3
        refine ⟨_, hD, u, M, δ, _, _, eH, W, S, e1, fun u1 v E1 W1 r1 => ?_⟩
        cases r1
        obtain ⟨od, es, h1, h2, h3⟩ := walk_d W1 e4
        exact ⟨_, od, es, rfl, h1, h2, q u1 _ E1 W1 h3⟩
      | _ => simp [keysAt] at e3
    · cases e
  · cases e
/-- an expression while the dict of a name is locked -/
theorem de_lk {e : Expr} {i : Nat} {x : Ex} (he : DE X e (evE F x)) : DE X e (evE F (.lk i x)) := by
  refine peBy fun σ H Q ⟨u, M, δ, eH, W, S, d, M', e, fin⟩ => ⟨_, pe_lock he, ?_⟩
  subst eH
  rw [evE] at e
  split at e
  · rename_i n _
    split at e
    · rename_i kvs hM
      split at e
      · rename_i d1 M1 e1
        split at e
        · rename_i ks hM1
          cases e
          obtain ⟨es, hH, L⟩ := W.lock hM
          refine ⟨u.iot n, _, hH, trivial, fun od => ?_⟩
          obtain ⟨E1, W1⟩ := L od
          refine ⟨_, _, δ, rfl, W1, S.mono E1, _, _, e1, fun u2 v E2 W2 r2 => ?_⟩
          have f2 := E2.frz (u.iot n) od _ upd_same
          have en : u2.iot n = u.iot n := E2.same n (W.lt hM)
          refine ⟨f2, ?_⟩
          rw [← en] at f2
          obtain ⟨E3, W3, keep⟩ := W2.unlock hM1 f2
          have := fin _ v ⟨E1.toExt0.trans (E2.toExt0.trans E3), fun a o φ h => by
            have ne : a ≠ u.iot n := fun z => by rw [z, hH] at h; cases h
            rw [keep a (by rw [en]; exact ne)]
            exact E2.frz a o φ (E1.frz a o φ h)⟩ W3 (r2.mono0 E3)
          simpa only [en] using this
        · cases e
      · cases e
    · cases e
  · cases e

/-! ranges -/
theorem walk_r {K : PySem.W.Frag} {w : World} {u : Vw} {lo : Int} {n : Nat} : WalkD K w (Itr lo n) ((List.range n).map fun (k : Nat) => .int (lo + (k : Int))) (fun _ => true) u :=
  ⟨fun _ => True, YFn fun i => .int (lo + i), by rw [List.length_map, List.length_range]; exact walk_range, fun _ _ _ _ _ => trivial, fun i x H' u1 M1 hi E W1 _ y => by
    obtain ⟨rfl, rfl⟩ := y
    rw [List.length_map, List.length_range] at hi
    exact ⟨u1, rfl, Ext.refl, W1, .int (lo + i), by rw [List.getElem?_map, List.getElem?_range hi]; rfl, .int _⟩⟩
theorem di_rng1 {tg a : Expr} {p pos : Pos} {x : Ex} (hg : Gl X "range") (hm : X.mg "range" = none) (ha : DA X [a] (evEs F [x])) (hst : noStars [a] = true) : PI X tg (.Call (.Name "range" p) [a] [] pos) (tID X.K X.w (evI F (.rng [x]))) := by
  simp only [noStars, Bool.and_eq_true, Bool.not_eq_true', and_true] at hst
  refine piBy fun σ H R ⟨u, M, δ, eH, W, S, xs, ok, M', e, q⟩ => ⟨_, pi_range1 hg hm ha (star_cons hst), ?_⟩
  rw [evI] at e
  split at e
  · rename_i ds M1 e1
    obtain ⟨ys, e2, e3⟩ := Option.map_eq_some_iff.mp e
    cases e3
    refine ⟨u, M, δ, eH, W, S, ds, _, e1, fun u1 vs E1 W1 r1 => ?_⟩
    have hl := evEs_len e1
    unfold rngD at e2
    split at e2
    · split at e2
      · rename_i h
        cases e2
        obtain ⟨v, rfl, rv⟩ := rds1 r1
        cases rv
        refine ⟨_, rfl, h.1, h.2, q u1 _ E1 W1 ?_⟩
        exact walk_r
      · cases e2
    · simp at hl
    · cases e2
  · cases e
theorem di_rng2 {tg a b : Expr} {p pos : Pos} {x y : Ex} (hg : Gl X "range") (hm : X.mg "range" = none) (ha : DA X [a, b] (evEs F [x, y])) (hst : noStars [a, b] = true) : PI X tg (.Call (.Name "range" p) [a, b] [] pos) (tID X.K X.w (evI F (.rng [x, y]))) := by
  simp only [noStars, Bool.and_eq_true, Bool.not_eq_true', and_true] at hst
  refine piBy fun σ H R ⟨u, M, δ, eH, W, S, xs, ok, M', e, q⟩ => ⟨_, pi_range2 hg hm ha (by rw [star_cons hst.1, star_cons hst.2]; rfl) (by rw [star_cons hst.2]; rfl), ?_⟩
  rw [evI] at e
  split at e
  · rename_i ds M1 e1
    obtain ⟨ys, e2, e3⟩ := Option.map_eq_some_iff.mp e
    cases e3
    refine ⟨u, M, δ, eH, W, S, ds, _, e1, fun u1 vs E1 W1 r1 => ?_⟩
    have hl := evEs_len e1
    unfold rngD at e2
    split at e2
    · simp at hl
    · split at e2
      · rename_i h
        cases e2
        obtain ⟨v, v', rfl, rv, rv'⟩ := rds2 r1
        cases rv; cases rv'
        exact ⟨_, _, rfl, ⟨h.1, h.2.1, h.2.2.1, h.2.2.2⟩, q u1 _ E1 W1 walk_r⟩
      · cases e2
    · cases e2
  · cases e
/-! ### list comprehensions -/
def notSet : Expr → Bool
  | .Set _ _ _ => false
  | _ => true
theorem folded_of {e : Expr} {env : PySem.Env} (h : notSet e = true) : ∀ x, foldedSetIterable e env x = pure x := fun x => by
  cases e <;> first | rfl | simp [notSet] at h
theorem dcs_nil {X : Cx} : PTs X [] (tCD X.K X.w (evC F [])) := ⟨fun pins s σ H Q I ⟨u, M, δ, eH, W, S, c, M', e, q⟩ => by
  rw [evC] at e; cases e; subst eH
  exact pts_nil.run pins s σ u.H Q I (q u Ext.refl W)⟩
theorem dcs_one {X : Cx} {c : Expr} {x : Ex} (h : DT X c (evE F x)) : PTs X [c] (tCD X.K X.w (evC F [x])) := ⟨fun pins s σ H Q I ⟨u, M, δ, eH, W, S, c, M', e, q⟩ => by
  rw [evC] at e
  split at e
  · rename_i d M1 e1
    obtain ⟨b, e2, e3⟩ := Option.map_eq_some_iff.mp e
    cases e3
    exact (pts_one h).run pins s σ H Q I ⟨u, M, δ, eH, W, S, d, _, c, e1, e2, fun u1 E1 W1 => q u1 E1 W1⟩
  · cases e⟩
theorem loopC_ok {elt : Env → Sto → Option (D × Sto)} {cond : Env → Sto → Option (Bool × Sto)} {bind : D → Option Env} {ok : Sto → Bool} {n : Nat} {xs : List D} {M M2 : Sto} (h : loopC elt cond bind ok n xs M = some M2) : ok M = true := by
  cases xs with
  | nil =>
    rw [loopC] at h
    split at h
    · assumption
    · cases h
  | cons x xs =>
    rw [loopC] at h
    split at h
    · assumption
    · cases h
/-- the reading of a comprehension -/
theorem lc_read {t : Tgc} {it : Itx} {xe : Ex} {ifs : List Ex} {σ : L2.St} {H : Hp} {Q : VK} (h : tD X.K X.w (evE F (.lc xe t it ifs)) σ H Q) :
    tLc (tID X.K X.w (evI F it)) (gC X.K t) (tCD X.K X.w (evC F ifs)) (tD X.K X.w (evE F xe)) (ownC t) σ H Q := by
  obtain ⟨u, M, δ, eH, W, S, d, M', e, fin⟩ := h
  rw [evE] at e
  split at e
  · rename_i xs ok M1 e1
    split at e
    · rename_i M2 e2
      cases e
      refine ⟨u, M, δ, eH, W, S, xs, ok, M1, e1, fun u1 J E1 W1 wk L hL => ?_⟩
      obtain ⟨E2, W2, rl⟩ := W1.new (o := .lst []) (ob := .lst []) hL fun u' e h => ⟨[], h, .nil⟩
      obtain ⟨G, Y, w1, hG, hY⟩ := wk.ex
      generalize hu2 : (⟨fun i => if i = u1.n then L else u1.iot i, u1.n + 1, upd u1.H L (.lst [])⟩ : Vw) = u2 at E2 W2 rl
      have hH2 : u2.H = upd u1.H L (.lst []) := by rw [← hu2]
      have hiot : u2.iot M1.length = L := by rw [← hu2, ← W1.n]; exact if_pos rfl
      have hn : M1.length < u2.n := by rw [W2.n]; simp
      have S2 : Sl X.K u2 δ σ := S.mono (E1.trans E2)
      refine lc_it w1 (fun i H => ∃ u3 M3, u3.H = H ∧ Ext X.K u2 u3 ∧ Wd X.K X.w u3 M3 ∧ loopC (fun δ' M' => evE F xe δ' M') (fun δ' M' => evC F ifs δ' M') (fun d => bindC t d (wipeD δ (ownC t))) ok M1.length (xs.drop i) M3 = some M') ?_ ?_ ?_ ?_
      · exact ⟨u2, _, hH2, Ext.refl, W2, e2⟩
      · rintro i H hi ⟨u3, M3, rfl, E3, W3, e3⟩
        exact hG u3 M3 (E2.trans E3) W3 (loopC_ok e3)
      · rintro i x H H' hi ⟨u3, M3, rfl, E3, W3, e3⟩ y
        have hok := loopC_ok e3
        obtain ⟨u4, rfl, E4, W4, d, hd, rd⟩ := hY i x H' u3 M3 hi (E2.trans E3) W3 hok y
        rw [List.drop_eq_getElem_cons hi] at e3
        have hdx : xs[i] = d := by rw [List.getElem?_eq_getElem hi] at hd; exact Option.some.inj hd
        rw [hdx, loopC, if_pos hok] at e3
        split at e3
        · rename_i δ4 hb
          have S4 := (S2.mono (E3.trans E4)).wipe (ownC t)
          refine gC_ok hb rd S4 fun σ' S' hw => ⟨?_, ?_⟩
          · rw [hw]
            have wipe_wipe : ∀ (vs ws : List Nat) (σ : L2.St), (∀ i ∈ ws, i ∈ vs) → wipe (wipe σ ws) vs = wipe σ vs := by
              intro vs ws
              induction ws with
              | nil => intro σ _; rfl
              | cons z zs ih =>
                intro σ hz
                show wipe ((wipe σ zs).set z none) vs = _
                rw [wipe_set (hz z List.mem_cons_self), ih σ fun i hi => hz i (List.mem_cons_of_mem _ hi)]
            exact wipe_wipe _ _ σ fun i hi => hi
          · split at e3
            · rename_i M5 e5
              refine ⟨u4, M3, δ4, rfl, W4, S', true, M5, e5, fun u5 E5 W5 => ?_⟩
              refine iteT ⟨u5, M5, δ4, rfl, W5, S'.mono E5, ?_⟩
              split at e3
              · rename_i yd M6 e6
                split at e3
                · rename_i acc e7
                  split at e3
                  · rename_i hz
                    refine ⟨yd, M6, e6, fun u6 yv E6 W6 r6 => ?_⟩
                    obtain ⟨hlt, vs, q1, r1⟩ := W6.lst e7
                    have hL6 : u6.iot M1.length = L := by rw [((E3.trans (E4.trans E5)).trans E6).same _ hn, hiot]
                    rw [hL6] at q1
                    refine ⟨vs, q1, by rw [← r1.length]; exact hz, ?_⟩
                    obtain ⟨E7, W7⟩ := W6.put (o := .lst (vs ++ [yv])) (ob := .lst (acc ++ [yd])) e7 rfl (by rw [hL6, q1]; trivial) rfl fun u' x h => ⟨_, h, (r1.append (.cons r6 .nil)).mono x⟩
                    exact ⟨_, _, by rw [← hL6], (((E3.trans E4).trans E5).trans E6).trans E7, W7, e3⟩
                  · cases e3
                · cases e3
              · cases e3
            · rename_i M5 e5
              exact ⟨u4, M3, δ4, rfl, W4, S', false, M5, e5, fun u5 E5 W5 => iteF ⟨u5, M5, rfl, (E3.trans E4).trans E5, W5, e3⟩⟩
            · cases e3
        · cases e3
      · rintro H ⟨u3, M3, rfl, E3, W3, e3⟩
        have hok := loopC_ok e3
        rw [List.drop_length, loopC, if_pos hok] at e3
        cases e3
        have rl3 : RD X.K u3 (.loc M1.length) (.ref L) := by
          have := rl.mono E3
          rw [W1.n] at this
          exact this
        exact fin u3 _ ((E1.trans E2).trans E3) W3 rl3
    · cases e
  · cases e
theorem de_lc {elt tg iter : Expr} {ifs : List Expr} {scope : Scope} {own : List (Str × Nat)} {pos : Pos} {t : Tgc} {it : Itx} {xe : Ex} {xi : List Ex} (hc : X.calm = true) (hN : X.N.Nodup) (hi : PI X tg iter (tID X.K X.w (evI F it))) (ok : BlkOk X.N X.env.scope scope own) (ho : own.map (·.2) = ownC t)
    (hg : ∀ (s : Shared) (H : Hp) (C : Addr) (cl : List (Str × Addr)) (fp : List Addr), PG (X.blk s H scope (compEnvC scope cl C X.env) fp) tg (gC X.K t))
    (ht : ∀ (s : Shared) (H : Hp) (C : Addr) (cl : List (Str × Addr)) (fp : List Addr), PTs (X.blk s H scope (compEnvC scope cl C X.env) fp) ifs (tCD X.K X.w (evC F xi)))
    (he : ∀ (s : Shared) (H : Hp) (C : Addr) (cl : List (Str × Addr)) (fp : List Addr), PE (X.blk s H scope (compEnvC scope cl C X.env) fp) elt (tD X.K X.w (evE F xe))) (hs : notSet iter = true) :
    DE X (.ListComp elt [⟨tg, iter, ifs, 0⟩] scope pos) (evE F (.lc xe t it xi)) :=
  peBy fun σ H Q q => ⟨_, pe_lc hc hN hi ok hg ht he (folded_of hs), by rw [ho]; exact lc_read q⟩
end
end DD
namespace DD
open PySem PySem.Spec PyProof.Rows L2
variable [Tabs]

section
variable (K : PySem.W.Frag) (w : World)
def FinS (u : Vw) (fl : Fl) (δ' : Env) (M' : Sto) (Dn : Ends) : Prop := match fl with
  | .nx => ∀ u' σ', Ext K u u' → Wd K w u' M' → Sl K u' δ' σ' → Dn.nx σ' u'.H
  | .ct => ∀ u' σ', Ext K u u' → Wd K w u' M' → Sl K u' δ' σ' → Dn.ct σ' u'.H
  | .bk => ∀ u' σ', Ext K u u' → Wd K w u' M' → Sl K u' δ' σ' → Dn.bk σ' u'.H
  | .rt d => ∀ u' v, Ext K u u' → Wd K w u' M' → RD K u' d v → Dn.rt v u'.H
def tSD (f : Env → Sto → Option (Fl × Env × Sto)) : TS := fun Dn σ H => ∃ u M δ, u.H = H ∧ Wd K w u M ∧ Sl K u δ σ ∧ ∃ fl δ' M', f δ M = some (fl, δ', M') ∧ FinS K w u fl δ' M' Dn
end
section
variable {K : PySem.W.Frag} {w : World}
theorem FinS.from {u u1 : Vw} {fl : Fl} {δ' : Env} {M' : Sto} {Dn : Ends} (h : FinS K w u fl δ' M' Dn) (e : Ext K u u1) : FinS K w u1 fl δ' M' Dn := by
  cases fl <;> exact fun u' x E W r => h u' x (e.trans E) W r
end
section
variable {X : Cx} {F : Fns} {fu : Nat} {pos : Pos}
abbrev DS (X : Cx) (st : Stmt) (f : Env → Sto → Option (Fl × Env × Sto)) : Prop := PS X st (tSD X.K X.w f)
abbrev DB (X : Cx) (st : List Stmt) (f : Env → Sto → Option (Fl × Env × Sto)) : Prop := PSs X st (tSD X.K X.w f)
theorem psBy {st : Stmt} {t' : TS} (h : ∀ Dn σ H, t' Dn σ H → ∃ t, PS X st t ∧ t Dn σ H) : PS X st t' := ⟨fun pins s σ H D I q => by
  obtain ⟨t, a, b⟩ := h D σ H q
  exact a.run pins s σ H D I b⟩
theorem pssBy {st : List Stmt} {t' : TS} (h : ∀ Dn σ H, t' Dn σ H → ∃ t, PSs X st t ∧ t Dn σ H) : PSs X st t' := ⟨fun pins s σ H D I q => by
  obtain ⟨t, a, b⟩ := h D σ H q
  exact a.run pins s σ H D I b⟩
theorem pgBy {tg : Expr} {t' : TG} (h : ∀ v σ H Q, t' v σ H Q → ∃ t, PG X tg t ∧ t v σ H Q) : PG X tg t' := ⟨fun pins s σ H v u Q I r q => by
  obtain ⟨t, a, b⟩ := h v σ H Q q
  exact a.run pins s σ H v u Q I r b⟩
theorem pgsBy {tg : List Expr} {t' : TGs} (h : ∀ v σ H Q, t' v σ H Q → ∃ t, PGs X tg t ∧ t v σ H Q) : PGs X tg t' := ⟨fun pins s σ H v u Q I r q => by
  obtain ⟨t, a, b⟩ := h v σ H Q q
  exact a.run pins s σ H v u Q I r b⟩

/-! blocks -/
theorem db_nil : DB X [] (exB F fu []) := pssBy fun Dn σ H ⟨u, M, δ, eH, W, S, fl, δ', M', e, q⟩ => ⟨_, pss_nil, by
  rw [exB] at e; cases e; subst eH
  exact q u σ Ext.refl W S⟩
theorem db_cons {st : Stmt} {sts : List Stmt} {x : Stm} {xs : List Stm} (h : DS X st (exS F fu x)) (hs : DB X sts (exB F fu xs)) : DB X (st :: sts) (exB F fu (x :: xs)) :=
  pssBy fun Dn σ H ⟨u, M, δ, eH, W, S, fl, δ', M', e, q⟩ => ⟨_, pss_cons h hs, by
    rw [exB] at e
    split at e
    · rename_i δ1 M1 e1
      refine ⟨u, M, δ, eH, W, S, .nx, δ1, M1, e1, fun u1 σ1 E1 W1 S1 => ⟨u1, M1, δ1, rfl, W1, S1, fl, δ', M', e, q.from E1⟩⟩
    · rename_i r hne e1
      cases e
      refine ⟨u, M, δ, eH, W, S, fl, δ', M', e1, ?_⟩
      cases fl with
      | nx => exact absurd rfl (hne _ _)
      | rt d => exact q
      | bk => exact q
      | ct => exact q
    · cases e⟩
/-! simple statements -/
theorem ds_ret {e : Expr} {x : Ex} (h : DE X e (evE F x)) : DS X (.Return (some e) pos) (exS F fu (.ret x)) := psBy fun Dn σ H ⟨u, M, δ, eH, W, S, fl, δ', M', e, q⟩ => ⟨_, ps_ret h, by
  rw [exS] at e
  split at e
  · rename_i d M1 e1
    cases e
    exact ⟨u, M, δ, eH, W, S, d, _, e1, fun u1 v E1 W1 r1 => q u1 v E1 W1 r1⟩
  · cases e⟩
theorem ds_exp {e : Expr} {x : Ex} (h : DE X e (evE F x)) (hs : swapsWith e none pos.line X.env = pure false) : DS X (.Expr e pos) (exS F fu (.exp x)) := psBy fun Dn σ H ⟨u, M, δ, eH, W, S, fl, δ', M', e, q⟩ => ⟨_, ps_expr h hs, by
  rw [exS] at e
  split at e
  · rename_i d M1 e1
    cases e
    exact ⟨u, M, δ, eH, W, S, d, _, e1, fun u1 v E1 W1 r1 => q u1 σ E1 W1 (S.mono E1)⟩
  · cases e⟩
theorem ds_pass : DS X (.Pass pos) (exS F fu .pass) := psBy fun Dn σ H ⟨u, M, δ, eH, W, S, fl, δ', M', e, q⟩ => ⟨_, ps_pass, by
  rw [exS] at e; cases e; subst eH
  exact q u σ Ext.refl W S⟩
theorem ds_stuck {st : Stmt} : DS X st (exS F fu .stuck) := psBy fun Dn σ H ⟨u, M, δ, eH, W, S, fl, δ', M', e, q⟩ => by rw [exS] at e; cases e
theorem ds_if {c : Expr} {a b : List Stmt} {xc : Ex} {xa xb : List Stm} (hc : DT X c (evE F xc)) (ha : DB X a (exB F fu xa)) (hb : DB X b (exB F fu xb)) : DS X (.If c a b pos) (exS F fu (.iff xc xa xb)) :=
  psBy fun Dn σ H ⟨u, M, δ, eH, W, S, fl, δ', M', e, q⟩ => ⟨_, ps_if hc ha hb, by
    rw [exS] at e
    split at e
    · rename_i x M1 e1
      split at e
      · rename_i e2
        exact ⟨u, M, δ, eH, W, S, x, M1, true, e1, e2, fun u1 E1 W1 => iteT ⟨u1, M1, δ, rfl, W1, S.mono E1, fl, δ', M', e, q.from E1⟩⟩
      · rename_i e2
        exact ⟨u, M, δ, eH, W, S, x, M1, false, e1, e2, fun u1 E1 W1 => iteF ⟨u1, M1, δ, rfl, W1, S.mono E1, fl, δ', M', e, q.from E1⟩⟩
      · cases e
    · cases e⟩
/-! targets -/
def tSetD (K : PySem.W.Frag) (w : World) : TSet := fun o i v H Q => ∃ u M a b d M', u.H = H ∧ Wd K w u M ∧ RD K u a o ∧ RD K u b i ∧ RD K u d v ∧ setD M a b d = some M' ∧ ∀ u', Ext K u u' → Wd K w u' M' → Q u'.H
def tGD (K : PySem.W.Frag) (w : World) (f : D → Env → Sto → Option (Env × Sto)) : TG := fun v σ H Q => ∃ u M δ d, u.H = H ∧ Wd K w u M ∧ Sl K u δ σ ∧ RD K u d v ∧ ∃ δ' M', f d δ M = some (δ', M') ∧ ∀ u' σ', Ext K u u' → Wd K w u' M' → Sl K u' δ' σ' → Q σ' u'.H
def tGDs (K : PySem.W.Frag) (w : World) (f : List D → Env → Sto → Option (Env × Sto)) : TGs := fun vs σ H Q => ∃ u M δ ds, u.H = H ∧ Wd K w u M ∧ Sl K u δ σ ∧ RDs K u ds vs ∧ ∃ δ' M', f ds δ M = some (δ', M') ∧ ∀ u' σ', Ext K u u' → Wd K w u' M' → Sl K u' δ' σ' → Q σ' u'.H
theorem dg_one {i : Nat} {e : Expr} (h : PG X e (gName i)) : PG X e (tGD X.K X.w (bindT F (.one i))) := pgBy fun v σ H Q ⟨u, M, δ, d, eH, W, S, r, δ', M', e, q⟩ => ⟨_, h, by
  rw [bindT] at e; cases e; subst eH
  exact q u _ Ext.refl W (S.set r i)⟩
theorem dg_sub {o i : Expr} {xo xi : Ex} (hset : PSet X (tSetD X.K X.w)) (ho : PE X o (tD X.K X.w (evE F xo))) (hi : PE X i (tD X.K X.w (evE F xi))) (hp : PG X (.Subscript o i pos) (gSub (tD X.K X.w (evE F xo)) (tD X.K X.w (evE F xi)) (tSetD X.K X.w))) :
    PG X (.Subscript o i pos) (tGD X.K X.w (bindT F (.sub xo xi))) := pgBy fun v σ H Q ⟨u, M, δ, d, eH, W, S, r, δ', M', e, q⟩ => ⟨_, hp, by
  rw [bindT] at e
  split at e
  · rename_i x M1 e1
    split at e
    · rename_i y M2 e2
      obtain ⟨M3, e3, e4⟩ := Option.map_eq_some_iff.mp e
      cases e4
      refine ⟨u, M, δ, eH, W, S, x, M1, e1, fun u1 v1 E1 W1 r1 => ⟨u1, M1, δ, rfl, W1, S.mono E1, y, M2, e2, fun u2 v2 E2 W2 r2 => ?_⟩⟩
      exact ⟨u2, M2, x, y, d, _, rfl, W2, r1.mono E2, r2, r.mono (E1.trans E2), e3, fun u3 E3 W3 => q u3 σ ((E1.trans E2).trans E3) W3 (S.mono ((E1.trans E2).trans E3))⟩
    · cases e
  · cases e⟩
theorem dgs_nil : PGs X [] (tGDs X.K X.w (bindTs F [])) := pgsBy fun vs σ H Q ⟨u, M, δ, ds, eH, W, S, r, δ', M', e, q⟩ => ⟨_, pgs_nil, by
  cases r with
  | nil => rw [bindTs] at e; cases e; subst eH; exact ⟨rfl, q u σ Ext.refl W S⟩
  | cons _ _ => simp [bindTs] at e⟩
theorem dgs_cons {e : Expr} {es : List Expr} {t : Tg} {ts : List Tg} (h : PG X e (tGD X.K X.w (bindT F t))) (hs : PGs X es (tGDs X.K X.w (bindTs F ts)))
    (hc : PGs X (e :: es) (gCons (tGD X.K X.w (bindT F t)) (tGDs X.K X.w (bindTs F ts)))) : PGs X (e :: es) (tGDs X.K X.w (bindTs F (t :: ts))) := pgsBy fun vs σ H Q ⟨u, M, δ, ds, eH, W, S, r, δ', M', e, q⟩ => ⟨_, hc, by
  cases r with
  | nil => simp [bindTs] at e
  | cons r1 r2 =>
    rw [bindTs] at e
    split at e
    · rename_i δ1 M1 e1
      refine ⟨_, _, rfl, u, M, δ, _, eH, W, S, r1, δ1, M1, e1, fun u1 σ1 E1 W1 S1 => ?_⟩
      exact ⟨u1, M1, δ1, _, rfl, W1, S1, r2.mono E1, δ', M', e, fun u2 σ2 E2 W2 S2 => q u2 σ2 (E1.trans E2) W2 S2⟩
    · cases e⟩
theorem bindTs_len : ∀ {ts : List Tg} {ds : List D} {δ : Env} {M : Sto} {r : Env × Sto}, bindTs F ts ds δ M = some r → ds.length = ts.length
  | [], [], _, _, _, _ => rfl
  | [], _ :: _, _, _, _, h => by simp [bindTs] at h
  | _ :: _, [], _, _, _, h => by simp [bindTs] at h
  | t :: ts, d :: ds, _, _, _, h => by
    rw [bindTs] at h
    split at h
    · simp [bindTs_len h]
    · cases h
theorem dg_many {es : List Expr} {ts : List Tg} {k : Nat} (h : PG X (.Tuple es k pos) (gTup X.K ts.length (tGDs X.K X.w (bindTs F ts)))) : PG X (.Tuple es k pos) (tGD X.K X.w (bindT F (.many ts))) :=
  pgBy fun v σ H Q ⟨u, M, δ, d, eH, W, S, r, δ', M', e, q⟩ => ⟨_, h, by
    cases d with
    | tup ds =>
      rw [bindT] at e
      subst eH
      cases r with
      | tup h1 r1 =>
      exact ⟨_, _, rfl, h1, by rw [← r1.length, bindTs_len e], u, M, δ, ds, rfl, W, S, r1, δ', M', e, q⟩
    | _ => simp [bindT] at e⟩
theorem asg_read {t : Tg} {x : Ex} {Dn : Ends} {σ : L2.St} {H : Hp} (h : tSD X.K X.w (exS F fu (.asg t x)) Dn σ H) : tAsg (tD X.K X.w (evE F x)) (tGD X.K X.w (bindT F t)) Dn σ H := by
  obtain ⟨u, M, δ, eH, W, S, fl, δ', M', e, q⟩ := h
  rw [exS] at e
  split at e
  · rename_i d M1 e1
    obtain ⟨r, e2, e3⟩ := Option.map_eq_some_iff.mp e
    cases e3
    exact ⟨u, M, δ, eH, W, S, d, M1, e1, fun u1 v E1 W1 r1 => ⟨u1, M1, δ, d, rfl, W1, S.mono E1, r1, _, _, e2, fun u2 σ2 E2 W2 S2 => q u2 σ2 (E1.trans E2) W2 S2⟩⟩
  · cases e
theorem ds_asg {e tg : Expr} {t : Tg} {x : Ex} (h : DE X e (evE F x)) (hg : PG X tg (tGD X.K X.w (bindT F t))) (hs : swapsWithSole [tg] e pos.line X.env = pure false) (hw : swappedStores [tg] e X.env = pure none) (h1 : (assignEach [tg] X.env).map (·.2) = [assign tg X.env]) :
    DS X (.Assign [tg] e pos) (exS F fu (.asg t x)) := psBy fun Dn σ H q => ⟨_, ps_asg h hg hs hw h1, asg_read q⟩
/-- name = [..] on one line -/
theorem asg1_read {i : Nat} {x : Ex} {te : TE} {Dn : Ends} {σ : L2.St} {H : Hp} (ht : ∀ σ H Q, tD X.K X.w (evE F x) σ H Q → te σ H Q) (h : tSD X.K X.w (exS F fu (.asg (.one i) x)) Dn σ H) : tAsg te (gName i) Dn σ H := by
  obtain ⟨u, M, δ, eH, W, S, fl, δ', M', e, q⟩ := h
  rw [exS] at e
  split at e
  · rename_i d M1 e1
    rw [bindT] at e
    cases e
    exact ht _ _ _ ⟨u, M, δ, eH, W, S, d, _, e1, fun u1 v E1 W1 r1 => q u1 _ E1 W1 ((S.mono E1).set r1 i)⟩
  · cases e
theorem ds_asg1 {e : Expr} {i : Nat} {y : Str} {py : Pos} {x : Ex} (hN : X.N.Nodup) (hi : X.N[i]? = some y) (hx : Loc X.env.scope y) (h : DE X e (evE F x)) (hs : swapsWith e (some (.Name y py)) pos.line X.env = pure false) (hf : X.fn y = true ∨ X.env.scope.names.lookup y = some .local) :
    DS X (.Assign [.Name y py] e pos) (exS F fu (.asg (.one i) x)) := psBy fun Dn σ H q => ⟨_, ps_set hN hi hx h hs hf, asg1_read (fun _ _ _ z => z) q⟩
theorem ds_asgLc {elt tg iter : Expr} {ifs : List Expr} {scope : Scope} {own : List (Str × Nat)} {lpos : Pos} {t : Tgc} {it : Itx} {xe : Ex} {xi : List Ex} {i : Nat} {y : Str} {py : Pos} (hc : X.calm = true) (hN : X.N.Nodup) (hy : X.N[i]? = some y) (hyl : X.env.scope.names.lookup y = some .local)
    (hsw : swapsWith (.ListComp elt [⟨tg, iter, ifs, 0⟩] scope lpos) (some (.Name y py)) pos.line X.env = pure true) (hi : PI X tg iter (tID X.K X.w (evI F it))) (ok : BlkOk X.N X.env.scope scope own) (ho : own.map (·.2) = ownC t)
    (hg : ∀ (s : Shared) (H : Hp) (C : Addr) (cl : List (Str × Addr)) (fp : List Addr), PG (X.blk s H scope (compEnvC scope cl C X.env) fp) tg (gC X.K t))
    (ht : ∀ (s : Shared) (H : Hp) (C : Addr) (cl : List (Str × Addr)) (fp : List Addr), PTs (X.blk s H scope (compEnvC scope cl C X.env) fp) ifs (tCD X.K X.w (evC F xi)))
    (he : ∀ (s : Shared) (H : Hp) (C : Addr) (cl : List (Str × Addr)) (fp : List Addr), PE (X.blk s H scope (compEnvC scope cl C X.env) fp) elt (tD X.K X.w (evE F xe))) (hs : notSet iter = true) :
    DS X (.Assign [.Name y py] (.ListComp elt [⟨tg, iter, ifs, 0⟩] scope lpos) pos) (exS F fu (.asg (.one i) (.lc xe t it xi))) :=
  psBy fun Dn σ H q => ⟨_, ps_setLc hc hN hy hyl hsw hi ok hg ht he (folded_of hs), asg1_read (fun _ _ _ z => by rw [ho]; exact lc_read z) q⟩
/-- a, b = x, y -/
theorem par_read {i j : Nat} {x y : Ex} {Dn : Ends} {σ : L2.St} {H : Hp} (h : tSD X.K X.w (exS F fu (.asg (.many [.one i, .one j]) (.tup [x, y]))) Dn σ H) : tPar i j (tDs X.K X.w (evEs F [x, y])) Dn σ H := by
  obtain ⟨u, M, δ, eH, W, S, fl, δ', M', e, q⟩ := h
  rw [exS] at e
  split at e
  · rename_i d M1 e1
    rw [evE] at e1
    split at e1
    · rename_i ds M2 e2
      cases e1
      obtain ⟨r, e3, e4⟩ := Option.map_eq_some_iff.mp e
      cases e4
      have hl := evEs_len e2
      match ds, hl with
      | [d1, d2], _ =>
      simp [bindT, bindTs] at e3
      cases e3
      refine ⟨u, M, δ, eH, W, S, _, _, e2, fun u1 vs E1 W1 r1 => ?_⟩
      obtain ⟨v1, v2, rfl, ra, rb⟩ := rds2 r1
      exact ⟨_, _, rfl, q u1 _ E1 W1 (((S.mono E1).set ra i).set rb j)⟩
    · cases e1
  · cases e
/-! loops -/
theorem loopS_ok {body : D → Env → Sto → Option (Fl × Env × Sto)} {ok : Sto → Bool} {xs : List D} {δ : Env} {M : Sto} {r : Fl × Env × Sto} (h : loopS body ok xs δ M = some r) : ok M = true := by
  cases xs with
  | nil =>
    rw [loopS] at h
    split at h
    · assumption
    · cases h
  | cons x xs =>
    rw [loopS] at h
    split at h
    · assumption
    · cases h
/-- a statement while the dict of a name is locked -/
theorem ds_lks {st : Stmt} {i : Nat} {x : Stm} (hx : DS X st (exS F fu x)) : DS X st (exS F fu (.lks i x)) := by
  refine psBy fun Dn σ H ⟨u, M, δ, eH, W, S, fl, δ', M', e, fin⟩ => ⟨_, ps_lock hx, ?_⟩
  subst eH
  rw [exS] at e
  split at e
  · rename_i n _
    split at e
    · rename_i kvs hM
      split at e
      · rename_i f1 δ1 M1 e1
        split at e
        · rename_i ks hM1
          cases e
          obtain ⟨es, hH, L⟩ := W.lock hM
          refine ⟨u.iot n, _, hH, trivial, fun od => ?_⟩
          obtain ⟨E1, W1⟩ := L od
          have back : ∀ u2, Ext X.K ⟨u.iot, u.n, upd u.H (u.iot n) (.frz od (.ext (RawD (u.iot n) es)))⟩ u2 → Wd X.K X.w u2 M1 → u2.H (u.iot n) = some (.frz od (.ext (RawD (u.iot n) es))) ∧
              ∃ u3 : Vw, u3.H = upd u2.H (u.iot n) (.ext (RawD (u.iot n) es)) ∧ Ext X.K u u3 ∧ Ext0 X.K u2 u3 ∧ Wd X.K X.w u3 (M1.set n (.dct ks)) := fun u2 E2 W2 => by
            have f2 := E2.frz (u.iot n) od _ upd_same
            have en : u2.iot n = u.iot n := E2.same n (W.lt hM)
            refine ⟨f2, ?_⟩
            have f3 := f2
            rw [← en] at f3
            obtain ⟨E3, W3, keep⟩ := W2.unlock hM1 f3
            refine ⟨_, by rw [← en], ⟨E1.toExt0.trans (E2.toExt0.trans E3), fun a o φ h => ?_⟩, E3, W3⟩
            have ne : a ≠ u.iot n := fun z => by rw [z, hH] at h; cases h
            rw [keep a (by rw [en]; exact ne)]
            exact E2.frz a o φ (E1.frz a o φ h)
          refine ⟨_, _, δ, rfl, W1, S.mono E1, _, _, _, e1, ?_⟩
          cases fl with
          | rt d =>
            intro u2 v E2 W2 r2
            obtain ⟨a, u3, b, E, E0, W3⟩ := back u2 E2 W2
            exact ⟨a, by rw [← b]; exact fin u3 v E W3 (r2.mono0 E0)⟩
          | nx =>
            intro u2 σ2 E2 W2 S2
            obtain ⟨a, u3, b, E, E0, W3⟩ := back u2 E2 W2
            exact ⟨a, by rw [← b]; exact fin u3 σ2 E W3 (S2.mono0 E0)⟩
          | bk =>
            intro u2 σ2 E2 W2 S2
            obtain ⟨a, u3, b, E, E0, W3⟩ := back u2 E2 W2
            exact ⟨a, by rw [← b]; exact fin u3 σ2 E W3 (S2.mono0 E0)⟩
          | ct =>
            intro u2 σ2 E2 W2 S2
            obtain ⟨a, u3, b, E, E0, W3⟩ := back u2 E2 W2
            exact ⟨a, by rw [← b]; exact fin u3 σ2 E W3 (S2.mono0 E0)⟩
        · cases e
      · cases e
    · cases e
  · cases e
theorem ds_for {tg iter : Expr} {body : List Stmt} {t : Tg} {it : Itx} {xb : List Stm} (hp : PassesOwn (model X.prog X.w) X.A X.env X.xe) (hc : X.calm = true) (hi : PI X tg iter (tID X.K X.w (evI F it))) (hg : PG X tg (tGD X.K X.w (bindT F t))) (hb : DB X body (exB F fu xb)) (hs : notSet iter = true) :
    DS X (.For tg iter body [] pos) (exS F fu (.forr t it xb)) := psBy fun Dn σ H ⟨u, M, δ, eH, W, S, fl, δ', M', e, q⟩ => ⟨_, ps_for hp hc hi hg hb (folded_of hs), by
  rw [exS] at e
  split at e
  · rename_i xs ok M1 e1
    refine ⟨u, M, δ, eH, W, S, xs, ok, M1, e1, fun u1 J E1 W1 wk => ?_⟩
    obtain ⟨G, Y, w1, hG, hY⟩ := wk.ex
    refine for_it w1 (fun i σ H => ∃ u3 M3 δ3, u3.H = H ∧ Ext X.K u1 u3 ∧ Wd X.K X.w u3 M3 ∧ Sl X.K u3 δ3 σ ∧ loopS (fun d δ' M' => match bindT F t d δ' M' with
        | some (δ2, M2) => exB F fu xb δ2 M2
        | none => none) ok (xs.drop i) δ3 M3 = some (fl, δ', M')) ?_ ?_ ?_ ?_
    · exact ⟨u1, M1, δ, rfl, Ext.refl, W1, S.mono E1, e⟩
    · rintro i σ H hi ⟨u3, M3, δ3, rfl, E3, W3, S3, e3⟩
      exact hG u3 M3 E3 W3 (loopS_ok e3)
    · rintro i x σ H H' hi ⟨u3, M3, δ3, rfl, E3, W3, S3, e3⟩ y
      have hok := loopS_ok e3
      obtain ⟨u4, rfl, E4, W4, d, hd, rd⟩ := hY i x H' u3 M3 hi E3 W3 hok y
      rw [List.drop_eq_getElem_cons hi] at e3
      have hdx : xs[i] = d := by rw [List.getElem?_eq_getElem hi] at hd; exact Option.some.inj hd
      rw [hdx, loopS, if_pos hok] at e3
      cases hbt : bindT F t d δ3 M3 with
      | none => rw [hbt] at e3; simp at e3
      | some r =>
        obtain ⟨δ5, M5⟩ := r
        rw [hbt] at e3
        refine ⟨u4, M3, δ3, d, rfl, W4, S3.mono E4, rd, δ5, M5, hbt, fun u5 σ5 E5 W5 S5 => ?_⟩
        have e3 : (match exB F fu xb δ5 M5 with
          | some (.nx, δ', M') => loopS (fun d δ' M' => match bindT F t d δ' M' with
            | some (δ2, M2) => exB F fu xb δ2 M2
            | none => none) ok (xs.drop (i + 1)) δ' M'
          | some (.ct, δ', M') => loopS (fun d δ' M' => match bindT F t d δ' M' with
            | some (δ2, M2) => exB F fu xb δ2 M2
            | none => none) ok (xs.drop (i + 1)) δ' M'
          | some (.bk, δ', M') => some (.nx, δ', M')
          | some (.rt d, δ', M') => some (.rt d, δ', M')
          | none => none) = some (fl, δ', M') := e3
        cases hx : exB F fu xb δ5 M5 with
        | none => rw [hx] at e3; simp at e3
        | some r =>
          obtain ⟨f6, δ6, M6⟩ := r
          rw [hx] at e3
          have E15 := (E3.trans E4).trans E5
          refine ⟨u5, M5, δ5, rfl, W5, S5, f6, δ6, M6, hx, ?_⟩
          cases f6 with
          | nx => exact fun u6 σ6 E6 W6 S6 => ⟨u6, M6, δ6, rfl, E15.trans E6, W6, S6, e3⟩
          | ct => exact fun u6 σ6 E6 W6 S6 => ⟨u6, M6, δ6, rfl, E15.trans E6, W6, S6, e3⟩
          | bk =>
            cases e3
            exact fun u6 σ6 E6 W6 S6 => q u6 σ6 ((E1.trans E15).trans E6) W6 S6
          | rt d6 =>
            cases e3
            exact fun u6 v6 E6 W6 r6 => q u6 v6 ((E1.trans E15).trans E6) W6 r6
    · rintro σ H ⟨u3, M3, δ3, rfl, E3, W3, S3, e3⟩
      have hok := loopS_ok e3
      rw [List.drop_length, loopS, if_pos hok] at e3
      cases e3
      exact q u3 σ (E1.trans E3) W3 S3
  · cases e⟩
theorem ds_while {c : Expr} {body : List Stmt} {xc : Ex} {xb : List Stm} (hp : PassesOwn (model X.prog X.w) X.A X.env X.xe) (hc : DT X c (evE F xc)) (hb : DB X body (exB F fu xb)) : DS X (.While c body [] pos) (exS F fu (.whil xc xb)) :=
  psBy fun Dn σ H ⟨u, M, δ, eH, W, S, fl, δ', M', e, q⟩ => ⟨_, ps_while hp hc hb, by
    rw [exS] at e
    refine ⟨fun m σ H => ∃ u3 M3 δ3, u3.H = H ∧ Ext X.K u u3 ∧ Wd X.K X.w u3 M3 ∧ Sl X.K u3 δ3 σ ∧ loopW (fun δ' M' => match evE F xc δ' M' with
      | some (x, M1) => (truD M1 x).map fun b => (b, M1)
      | none => none) (fun δ' M' => exB F fu xb δ' M') m δ3 M3 = some (fl, δ', M'), ⟨fu, u, M, δ, eH, Ext.refl, W, S, e⟩, ?_⟩
    rintro m σ H ⟨u3, M3, δ3, rfl, E3, W3, S3, e3⟩
    cases m with
    | zero => rw [loopW] at e3; cases e3
    | succ m =>
      rw [loopW] at e3
      cases hx : evE F xc δ3 M3 with
      | none => rw [hx] at e3; simp at e3
      | some r =>
        obtain ⟨d, M4⟩ := r
        rw [hx] at e3
        cases ht : truD M4 d with
        | none =>
          exfalso
          simp only [ht, Option.map_none] at e3
          cases e3
        | some b =>
          simp only [ht, Option.map_some] at e3
          refine ⟨u3, M3, δ3, rfl, W3, S3, d, M4, b, hx, ht, fun u4 E4 W4 => ?_⟩
          cases b with
          | false =>
            simp only at e3
            cases e3
            exact iteF (q u4 σ (E3.trans E4) W4 (S3.mono E4))
          | true =>
            simp only at e3
            refine iteT ?_
            cases hy : exB F fu xb δ3 M4 with
            | none => rw [hy] at e3; simp at e3
            | some r =>
              obtain ⟨f6, δ6, M6⟩ := r
              rw [hy] at e3
              refine ⟨_, fun σ' H' z => ⟨m, Nat.lt_succ_self m, z⟩, u4, M4, δ3, rfl, W4, S3.mono E4, f6, δ6, M6, hy, ?_⟩
              cases f6 with
              | nx => exact fun u6 σ6 E6 W6 S6 => ⟨u6, M6, δ6, rfl, (E3.trans E4).trans E6, W6, S6, e3⟩
              | ct => exact fun u6 σ6 E6 W6 S6 => ⟨u6, M6, δ6, rfl, (E3.trans E4).trans E6, W6, S6, e3⟩
              | bk =>
                cases e3
                exact fun u6 σ6 E6 W6 S6 => q u6 σ6 ((E3.trans E4).trans E6) W6 S6
              | rt d6 =>
                cases e3
                exact fun u6 v6 E6 W6 r6 => q u6 v6 ((E3.trans E4).trans E6) W6 r6⟩
end
end DD
namespace DD.CB
open PySem PySem.Spec PyProof.Rows
/-! ### itertools.combinations: what the types' tables say -/
abbrev CN : String := "itertools.combinations"
theorem cb_mro : mroOf (.type "itertools.combinations") = pure [.type "itertools.combinations", .type "object"] := by rw [mroOf_type]; kernel_rfl
theorem cb_new : typeLookup (.type "itertools.combinations") "__new__" = pure (some (.builtin "itertools.combinations.__new__")) := by rw [typeLookup_type, builtinLookup_eq_fast]; kernel_rfl
theorem cb_sub : isSubtype (.type "itertools.combinations") (.type "itertools.combinations") = pure true := by rw [isSubtype_type]; kernel_rfl
theorem cb_slot_next : Slot "itertools.combinations" "__next__" "itertools.combinations.__next__" :=
  .of (owner := "itertools.combinations") (n := "__next__") (by rw [typeLookup_type, builtinLookup_eq_fast]; kernel_rfl) (by decide +kernel) (by decide +kernel) (by decide +kernel)
    (by first | exact .inl (by decide +kernel) | exact .inr (by decide +kernel)) (by rw [isSubtype_type]; kernel_rfl)
theorem cb_nolen : typeLookup (.type "itertools.combinations") "__len__" = pure none := by rw [typeLookup_type, builtinLookup_eq_fast]; kernel_rfl
theorem cb_nohint : typeLookup (.type "itertools.combinations") "__length_hint__" = pure none := by rw [typeLookup_type, builtinLookup_eq_fast]; kernel_rfl
theorem cb_entry_new : entryFor table "itertools.combinations.__new__" = some Builtin.«itertools.combinations.__new__» := entryFor_of_tree (by kernel_rfl)
theorem cb_entry_next : entryFor table "itertools.combinations.__next__" = some Builtin.«itertools.combinations.__next__» := entryFor_of_tree (by kernel_rfl)
theorem cb_args_next (a : Value) : argsOk "itertools.combinations.__next__" ⟨[a], []⟩ := by unfold argsOk; kernel_rfl
theorem cb_typeCall (a b : Value) : checkTypeCall "itertools.combinations" ⟨[a, b], []⟩ = pure () := by first | kernel_rfl | rfl
theorem cb_newCall (a b : Value) : checkBuiltinCall "itertools.combinations.__new__" ⟨[.type "itertools.combinations", a, b], []⟩ = pure () := by first | kernel_rfl | rfl
theorem cb_plain_new : plainId "itertools.combinations.__new__" = true := by decide +kernel
theorem cb_slot_iter : Slot "itertools.combinations" "__iter__" "itertools.combinations.__iter__" :=
  .of (owner := "itertools.combinations") (n := "__iter__") (by rw [typeLookup_type, builtinLookup_eq_fast]; kernel_rfl) (by decide +kernel) (by decide +kernel) (by decide +kernel)
    (by first | exact .inl (by decide +kernel) | exact .inr (by decide +kernel)) (by rw [isSubtype_type]; kernel_rfl)
theorem cb_entry_iter : entryFor table "itertools.combinations.__iter__" = some Builtin.«dict_keyiterator.__iter__» :=
  entryFor_alias (id' := "dict_keyiterator.__iter__") (by kernel_rfl) (by first | rfl | decide +kernel | (unfold String.splitOn; simp +decide [String.splitOnAux])) (by decide +kernel) (by kernel_rfl)
theorem cb_args_iter (a : Value) : argsOk "itertools.combinations.__iter__" ⟨[a], []⟩ := by unfold argsOk; kernel_rfl
theorem cb_slot_init : Slot "itertools.combinations" "__init__" "object.__init__" :=
  .of (owner := "object") (n := "__init__") (by rw [typeLookup_type, builtinLookup_eq_fast]; kernel_rfl) (by decide +kernel) (by decide +kernel) (by decide +kernel)
    (by first | exact .inl (by decide +kernel) | exact .inr (by decide +kernel)) (by rw [isSubtype_type]; kernel_rfl)
theorem cb_called : TypeCalled "itertools.combinations" "itertools.combinations.__new__" "object.__init__" :=
  ⟨by decide +kernel, by decide +kernel, ⟨_, _, cb_mro⟩, madeBy_type cb_mro cb_new (by decide +kernel), by decide +kernel, cb_sub, cb_slot_init⟩
end DD.CB
namespace DD.CB
open PySem PySem.Spec PyProof.Rows
/-- the record of a walk over combinations -/
def combO (pool : Addr) (st : Int) (old : Value) (ixs : List Nat) : Obj := { cls := .type "itertools.combinations", data := .fields ([.ref pool, rawInt st, old] ++ ixs.map fun (i : Nat) => rawInt i).toArray }
/-- the next choice -/
def nextC (n : Nat) (indices : List Nat) : Option (List Nat) :=
  let r := indices.length
  match (List.range r).reverse.find? fun i => indices.getD i 0 != i + n - r with
  | none => none
  | some i => some (indices.take i ++ (List.range (r - i)).map (indices.getD i 0 + 1 + ·))
section
variable {prog : Program} {w : World} {A : Around} {E : Value → Shared → Prop} {s : Shared}
theorem cb_pyIter {c pool : Addr} {st : Int} {old : Value} {ixs : List Nat} {Q : Value → Shared → Prop} (hc : s.heap.get? c = some (combO pool st old ixs)) (h : Q (.ref c) s) : wpAny (model prog w) A (pyIter (.ref c)) Q E s := by
  have hT : s.TypeIs (.ref c) "itertools.combinations" := ⟨_, hc, rfl⟩
  refine wpAny_pyIter_slot hT cb_slot_iter (wpAny_call_entry cb_slot_iter hT cb_entry_iter ?_ (cb_args_iter _))
  show wpAny _ _ (ret (.ref c)) _ _ s
  exact wpAny_pure ⟨_, rfl, "itertools.combinations", _, hT, cb_slot_next.lookup, h⟩
theorem fs_toList (pool : Addr) (st : Int) (old : Value) (ixs : List Nat) : (([.ref pool, rawInt st, old] ++ ixs.map fun (i : Nat) => rawInt i).toArray : Array Value).toList = [.ref pool, rawInt st, old] ++ ixs.map fun (i : Nat) => rawInt i := rfl
theorem nums_back : ∀ ixs : List Nat, (List.map (fun x => match x with
      | Value.int n _ => n.toNat
      | _ => 0) (ixs.map fun (i : Nat) => rawInt i)) = ixs
  | [] => rfl
  | i :: ixs => by
    rw [List.map_cons, List.map_cons, nums_back ixs]
    rfl
theorem cb_numbers {c pool : Addr} {st : Int} {old : Value} {ixs : List Nat} {Q : List Nat → Shared → Prop} (hc : s.heap.get? c = some (combO pool st old ixs)) (h : Q ixs s) : wpAny (model prog w) A (Builtin.Itertools.itNumbersFrom (.ref c) 3) Q E s := by
  unfold Builtin.Itertools.itNumbersFrom
  refine wpAny_bind (wpAny_load hc ?_)
  show wpAny _ _ (pure (List.map (fun x => match x with
      | Value.int n _ => n.toNat
      | _ => 0) (ixs.map fun (i : Nat) => rawInt i))) _ _ _
  rw [nums_back]
  exact wpAny_pure h
theorem cb_int {c pool : Addr} {st : Int} {old : Value} {ixs : List Nat} {Q : Int → Shared → Prop} (hc : s.heap.get? c = some (combO pool st old ixs)) (h : Q st s) : wpAny (model prog w) A (Builtin.Itertools.itIntField (.ref c) 1) Q E s := by
  unfold Builtin.Itertools.itIntField
  exact wpAny_bind (wpAny_field hc rfl (x := rawInt st) rfl (wpAny_pure h))
theorem cb_pool {pool : Addr} {items : Array Value} {k : Nat} {Q : Array Value → Shared → Prop} (hp : s.heap.get? pool = some { cls := .type "tuple", data := .seq items k }) (h : Q items s) : wpAny (model prog w) A (Builtin.Itertools.itPoolItems (.ref pool)) Q E s := by
  unfold Builtin.Itertools.itPoolItems
  exact wpAny_bind (wpAny_seqItems hp rfl (wpAny_pure h))
def handO (pool c : Addr) (indices : List Nat) : Sem PySem.Fin := (Builtin.Itertools.itPoolItems (.ref pool) >>= fun items => newTuple (indices.map fun i => items.getD i .none)) >>= fun result => field (.ref c) 2 >>= fun before => setField (.ref c) 2 result >>= fun _ => letGo [before] [result] >>= fun _ => ret result
theorem cb_hand {c pool : Addr} {items : Array Value} {k : Nat} {st : Int} {old : Value} {ixs : List Nat} {Q : PySem.Fin → Shared → Prop} (hc : s.heap.get? c = some (combO pool st old ixs)) (hp : s.heap.get? pool = some { cls := .type "tuple", data := .seq items k })
    (hz : ixs.length ≤ sizeLine)
    (hQ : ∀ h', h'.get? c = some (combO pool st (.ref s.heap.objs.size) ixs) → h'.get? s.heap.objs.size = some { cls := .type "tuple", data := .seq (ixs.map fun i => items.getD i .none).toArray } → h'.objs.size = s.heap.objs.size + 1 → (∀ b o, b ≠ c → s.heap.get? b = some o → h'.get? b = some o) → Q (.done (.ret (.ref s.heap.objs.size))) { s with heap := h' }) :
    wpAny (model prog w) A (handO pool c ixs) Q E s := by
  have hcl : c < s.heap.objs.size := Heap.lt_size hc
  refine wpAny_bind (wpAny_bind (cb_pool hp (wpAny_newTuple ?_ (by simp; omega))))
  have hc2 : (s.heap.push { cls := .type "tuple", data := .seq (ixs.map fun i => items.getD i .none).toArray }).get? c = some (combO pool st old ixs) := Heap.get?_push_of_some _ hc
  refine wpAny_bind (wpAny_field hc2 rfl (x := old) rfl ?_)
  refine wpAny_bind (wpAny_setField_rec (a := c) hc2 (by simp) fun h' hg' sb => ?_)
  refine wpAny_bind (wpAny_letGo ?_)
  refine wpAny_pure (hQ h' ?_ ?_ ?_ fun b o hb e => ?_)
  · rw [hg']; rfl
  · exact (sb.2 _ (Nat.ne_of_gt hcl)).trans (Heap.get?_push_size _ rfl)
  · have := sb.1
    rw [this, Heap.size_push]
  · exact (sb.2 b hb).trans (Heap.get?_push_of_some _ e)
theorem pool_ne {h : Heap} {c pool : Addr} {items : Array Value} {k : Nat} {st : Int} {old : Value} {ixs : List Nat} (hc : h.get? c = some (combO pool st old ixs)) (hp : h.get? pool = some { cls := .type "tuple", data := .seq items k }) : pool ≠ c := fun z => by
  rw [z, hc] at hp
  have := congrArg (fun o : Option Obj => o.map (·.cls)) hp
  simp [combO] at this
theorem cb_first {c pool : Addr} {items : Array Value} {k : Nat} {ixs : List Nat} {Q : Option Value → Shared → Prop} (hc : s.heap.get? c = some (combO pool 0 .none ixs)) (hp : s.heap.get? pool = some { cls := .type "tuple", data := .seq items k })
    (hz : ixs.length ≤ sizeLine)
    (hQ : ∀ h', h'.get? c = some (combO pool 1 (.ref s.heap.objs.size) ixs) → h'.get? s.heap.objs.size = some { cls := .type "tuple", data := .seq (ixs.map fun i => items.getD i .none).toArray } → h'.objs.size = s.heap.objs.size + 1 → (∀ b o, b ≠ c → s.heap.get? b = some o → h'.get? b = some o) → Q (some (.ref s.heap.objs.size)) { s with heap := h' }) :
    wpAny (model prog w) A (pyNext (.ref c)) Q E s := by
  have hT : s.TypeIs (.ref c) "itertools.combinations" := ⟨_, hc, rfl⟩
  unfold pyNext
  refine wpAny_bind (wpAny_attempt (wpAny_callSpecial?_slot (name := Str.ofString "__next__") hT cb_slot_next
    (wpAny_call_entry cb_slot_next hT cb_entry_next ?_ (cb_args_next _))))
  show wpAny _ _ (field (.ref c) 0 >>= _) _ _ _
  refine wpAny_bind (wpAny_field hc rfl (x := .ref pool) rfl ?_)
  refine wpAny_bind (cb_numbers hc ?_)
  refine wpAny_bind (cb_int hc ?_)
  show wpAny _ _ (setField (.ref c) 1 (rawInt 1) >>= fun _ => handO pool c ixs) _ _ _
  refine wpAny_bind (wpAny_setField_rec (a := c) hc (by simp) fun h' hg' sb => ?_)
  have hcp : pool ≠ c := pool_ne hc hp
  have hsz : h'.objs.size = s.heap.objs.size := sb.1
  refine cb_hand (st := 1) (old := .none) (ixs := ixs) (s := { s with heap := h' }) (by rw [hg']; rfl) ((sb.2 _ hcp).trans hp) hz fun h2 q1 q2 q3 q4 => ?_
  dsimp only at q1 q2 q3 q4 ⊢
  rw [hsz] at q1 q2 q3 ⊢
  exact ⟨_, rfl, wpAny_pure (hQ h2 q1 q2 q3 fun b o hb e => q4 b o hb ((sb.2 b hb).trans e))⟩
theorem cb_later {c pool : Addr} {items : Array Value} {k : Nat} {old : Value} {ixs nx : List Nat} {Q : Option Value → Shared → Prop} (hc : s.heap.get? c = some (combO pool 1 old ixs)) (hp : s.heap.get? pool = some { cls := .type "tuple", data := .seq items k })
    (hn : nextC items.size ixs = some nx) (hz : nx.length ≤ sizeLine)
    (hQ : ∀ h', h'.get? c = some (combO pool 1 (.ref s.heap.objs.size) nx) → h'.get? s.heap.objs.size = some { cls := .type "tuple", data := .seq (nx.map fun i => items.getD i .none).toArray } → h'.objs.size = s.heap.objs.size + 1 → (∀ b o, b ≠ c → s.heap.get? b = some o → h'.get? b = some o) → Q (some (.ref s.heap.objs.size)) { s with heap := h' }) :
    wpAny (model prog w) A (pyNext (.ref c)) Q E s := by
  have hT : s.TypeIs (.ref c) "itertools.combinations" := ⟨_, hc, rfl⟩
  unfold pyNext
  refine wpAny_bind (wpAny_attempt (wpAny_callSpecial?_slot (name := Str.ofString "__next__") hT cb_slot_next
    (wpAny_call_entry cb_slot_next hT cb_entry_next ?_ (cb_args_next _))))
  show wpAny _ _ (field (.ref c) 0 >>= _) _ _ _
  refine wpAny_bind (wpAny_field hc rfl (x := .ref pool) rfl ?_)
  refine wpAny_bind (cb_numbers hc ?_)
  refine wpAny_bind (cb_int hc ?_)
  refine wpAny_bind (cb_pool hp ?_)
  show wpAny _ _ (match nextC items.size ixs with
    | some next => Builtin.Itertools.itSetNumbersFrom (.ref c) 3 next >>= fun _ => handO pool c next
    | none => setField (.ref c) 1 (rawInt 2) >>= fun _ => Builtin.Itertools.itStop) _ _ _
  rw [hn]
  show wpAny _ _ (updateFields c (fun fs => fs.extract 0 3 ++ (nx.map fun (n : Nat) => rawInt n).toArray) >>= fun _ => handO pool c nx) _ _ _
  have hcp : pool ≠ c := pool_ne hc hp
  refine wpAny_bind (wpAny_updateFields hc rfl ?_ (by simp; omega))
  have ex : ∀ (z : List Nat), ((([.ref pool, rawInt 1, old] ++ z.map fun (i : Nat) => rawInt i).toArray : Array Value).extract 0 3 ++ (nx.map fun (n : Nat) => rawInt n).toArray) = ([.ref pool, rawInt 1, old] ++ nx.map fun (i : Nat) => rawInt i).toArray := fun z => by simp
  have hg := Heap.get?_update_self (Obj.mapFields fun fs => fs.extract 0 3 ++ (nx.map fun (n : Nat) => rawInt n).toArray) hc rfl
  have sb : Heap.SameBut c s.heap (s.heap.update c (Obj.mapFields fun fs => fs.extract 0 3 ++ (nx.map fun (n : Nat) => rawInt n).toArray)) := Heap.SameBut.update ..
  generalize (s.heap.update c (Obj.mapFields fun fs => fs.extract 0 3 ++ (nx.map fun (n : Nat) => rawInt n).toArray)) = h' at *
  have hsz : h'.objs.size = s.heap.objs.size := sb.1
  refine cb_hand (st := 1) (old := old) (ixs := nx) (s := { s with heap := h' }) ?_ ((sb.2 _ hcp).trans hp) hz fun h2 q1 q2 q3 q4 => ?_
  · dsimp only
    rw [hg]
    simp only [combO, Obj.mapFields, ex]
  dsimp only at q1 q2 q3 q4 ⊢
  rw [hsz] at q1 q2 q3 ⊢
  exact ⟨_, rfl, wpAny_pure (hQ h2 q1 q2 q3 fun b o hb e => q4 b o hb ((sb.2 b hb).trans e))⟩
theorem cb_end {c pool : Addr} {items : Array Value} {k : Nat} {old : Value} {ixs : List Nat} {Q : Option Value → Shared → Prop} (hh : A.handled = none) (hc : s.heap.get? c = some (combO pool 1 old ixs)) (hp : s.heap.get? pool = some { cls := .type "tuple", data := .seq items k })
    (hn : nextC items.size ixs = none)
    (hQ : ∀ h', (∃ vs, h'.get? c = some (recObj "itertools.combinations" vs)) → (∀ b o, b ≠ c → s.heap.get? b = some o → h'.get? b = some o) → Q none { s with heap := h' }) :
    wpAny (model prog w) A (pyNext (.ref c)) Q E s := by
  have hT : s.TypeIs (.ref c) "itertools.combinations" := ⟨_, hc, rfl⟩
  unfold pyNext
  refine wpAny_bind (wpAny_attempt (wpAny_callSpecial?_slot (name := Str.ofString "__next__") hT cb_slot_next
    (wpAny_call_entry cb_slot_next hT cb_entry_next ?_ (cb_args_next _))))
  show wpAny _ _ (field (.ref c) 0 >>= _) _ _ _
  refine wpAny_bind (wpAny_field hc rfl (x := .ref pool) rfl ?_)
  refine wpAny_bind (cb_numbers hc ?_)
  refine wpAny_bind (cb_int hc ?_)
  refine wpAny_bind (cb_pool hp ?_)
  show wpAny _ _ (match nextC items.size ixs with
    | some next => Builtin.Itertools.itSetNumbersFrom (.ref c) 3 next >>= fun _ => handO pool c next
    | none => setField (.ref c) 1 (rawInt 2) >>= fun _ => Builtin.Itertools.itStop) _ _ _
  rw [hn]
  show wpAny _ _ (setField (.ref c) 1 (rawInt 2) >>= fun _ => Builtin.Itertools.itStop) _ _ _
  refine wpAny_bind (wpAny_setField_rec (a := c) hc (by simp) fun h' hg' sb => ?_)
  unfold Builtin.Itertools.itStop
  refine wpAny_bind ?_
  simp only [newExc, newTuple]
  refine wpAny_bind (wpAny_newObj_type ?_ (by size_fits))
  refine wpAny_bind (m := firstArgMember _ _) (wpAny_of_eq (a := Value.none) (by first | rfl | (simp only [firstArgMember]; rfl)) ?_)
  refine wpAny_newObj_type ?_ (by size_fits)
  simp only [raiseNew]
  refine wpAny_bind (wpAny_handled ?_)
  first | rw [show A.in1.handled = none from hh] | rw [hh]
  refine wpAny_bind (wpAny_pure (wpAny_throw ?_))
  refine wpAny_bind (wpAny_isInstance (T := "StopIteration") (b := true) ⟨_, Heap.get?_push_size _ rfl, rfl⟩ isSubtype_stop ?_)
  exact wpAny_pure (hQ _ ⟨_, Heap.get?_push_of_some _ (Heap.get?_push_of_some _ hg')⟩ fun b o hb e => Heap.get?_push_of_some _ (Heap.get?_push_of_some _ ((sb.2 b hb).trans e)))
end
end DD.CB
namespace DD.CB
open PySem PySem.Spec PyProof.Rows
/-- all choices, one behind the other -/
def Chn (n : Nat) (chs : List (List Nat)) : Prop := ∀ (j : Nat) x, chs[j]? = some x → nextC n x = chs[j + 1]?
def CbSt (h : Heap) (c pool : Addr) (chs : List (List Nat)) (i : Nat) : Prop :=
  (i = 0 ∧ ∃ x, chs[0]? = some x ∧ h.get? c = some (combO pool 0 .none x)) ∨ ∃ j x old, i = j + 1 ∧ chs[j]? = some x ∧ h.get? c = some (combO pool 1 old x)
theorem CbSt.lt {h : Heap} {c pool : Addr} {chs : List (List Nat)} {i : Nat} (x : CbSt h c pool chs i) : c < h.objs.size := by
  rcases x with ⟨_, _, _, e⟩ | ⟨_, _, _, _, _, e⟩ <;> exact Heap.lt_size e
theorem CbSt.keep {h h' : Heap} {c pool : Addr} {chs : List (List Nat)} {i : Nat} (x : CbSt h c pool chs i) (k : ∀ o, h.get? c = some o → h'.get? c = some o) : CbSt h' c pool chs i := by
  rcases x with ⟨e, y, e1, e2⟩ | ⟨j, y, old, e1, e2, e3⟩
  · exact .inl ⟨e, y, e1, k _ e2⟩
  · exact .inr ⟨j, y, old, e1, e2, k _ e3⟩
def picked (items : Array Value) (y : List Nat) : List Value := y.map fun i => items.getD i .none
section
variable {prog : Program} {w : World} {A : Around} {E : Value → Shared → Prop} {s : Shared}
theorem cb_itm {c pool : Addr} {items : Array Value} {k i : Nat} {chs : List (List Nat)} {y : List Nat} {Q : Option Value → Shared → Prop} (st : CbSt s.heap c pool chs i) (ch : Chn items.size chs) (hp : s.heap.get? pool = some { cls := .type "tuple", data := .seq items k })
    (hy : chs[i]? = some y) (hz : y.length ≤ sizeLine)
    (hQ : ∀ h', CbSt h' c pool chs (i + 1) → h'.get? s.heap.objs.size = some { cls := .type "tuple", data := .seq (picked items y).toArray } → h'.objs.size = s.heap.objs.size + 1 → (∀ b o, b ≠ c → s.heap.get? b = some o → h'.get? b = some o) → Q (some (.ref s.heap.objs.size)) { s with heap := h' }) :
    wpAny (model prog w) A (pyNext (.ref c)) Q E s := by
  rcases st with ⟨rfl, x, e1, e2⟩ | ⟨j, x, old, rfl, e1, e2⟩
  · rw [hy] at e1
    cases e1
    exact cb_first e2 hp hz fun h' q1 q2 q3 q4 => hQ h' (.inr ⟨0, y, _, rfl, hy, q1⟩) q2 q3 q4
  · exact cb_later e2 hp (by rw [ch j x e1, hy]) hz fun h' q1 q2 q3 q4 => hQ h' (.inr ⟨j + 1, y, _, rfl, hy, q1⟩) q2 q3 q4
theorem cb_don {c pool : Addr} {items : Array Value} {k i : Nat} {chs : List (List Nat)} {Q : Option Value → Shared → Prop} (hh : A.handled = none) (st : CbSt s.heap c pool chs i) (ch : Chn items.size chs) (hp : s.heap.get? pool = some { cls := .type "tuple", data := .seq items k })
    (hy : chs[i]? = none) (hQ : ∀ h', (∃ vs, h'.get? c = some (recObj "itertools.combinations" vs)) → (∀ b o, b ≠ c → s.heap.get? b = some o → h'.get? b = some o) → Q none { s with heap := h' }) :
    wpAny (model prog w) A (pyNext (.ref c)) Q E s := by
  rcases st with ⟨rfl, x, e1, e2⟩ | ⟨j, x, old, rfl, e1, e2⟩
  · rw [hy] at e1; cases e1
  · exact cb_end hh e2 hp (by rw [ch j x e1, hy]) hQ
/-- the tuples made so far -/
structure CbG (L : List (List Value)) (lo : Addr) (h : Heap) (as : List Addr) : Prop where
  rise : as.Pairwise (· < ·)
  above : ∀ a ∈ as, lo < a
  tups : ∀ (j : Nat) (a : Addr), as[j]? = some a → ∃ vs, L[j]? = some vs ∧ h.get? a = some { cls := .type "tuple", data := .seq vs.toArray }
theorem CbG.there {L : List (List Value)} {lo : Addr} {h : Heap} {as : List Addr} (g : CbG L lo h as) {a : Addr} (ha : a ∈ as) : a < h.objs.size := by
  obtain ⟨j, hj⟩ := List.mem_iff_getElem?.mp ha
  obtain ⟨_, _, e⟩ := g.tups j a hj
  exact Heap.lt_size e
theorem cb_loop {R : Result → Shared → Prop} {S c pool : Addr} {items : Array Value} {k0 : Nat} {chs : List (List Nat)} (hh : A.handled = none) (hSc : c < S) (hSp : pool < S) (hpc : pool ≠ c) (ch : Chn items.size chs) (hl : ∀ y ∈ chs, y.length ≤ sizeLine) (hn : chs.length ≤ sizeLine) (res : Value) {h₁ : Heap}
    (hR : ∀ h' tk acc cc as, (∃ vs, h'.get? c = some (recObj "itertools.combinations" vs)) → (∀ b o, b ≠ S → b ≠ c → h₁.get? b = some o → h'.get? b = some o) → h'.get? S = some { cls := .type "list", dict := none, data := .seq acc cc, slots := #[] } → as.length = chs.length → CbG (chs.map (picked items)) S h' as →
      acc.toList = as.map Value.ref → R (.ok (.ret res)) { s with heap := h', toks := tk }) :
    ∀ (k i : Nat) (h : Heap) (tk cc : Nat) (acc : Array Value) (as : List Addr), chs.length - i = k → i ≤ chs.length → CbSt h c pool chs i → h.get? pool = some { cls := .type "tuple", data := .seq items k0 } → (∀ b o, b ≠ S → b ≠ c → h₁.get? b = some o → h.get? b = some o) →
      h.get? S = some { cls := .type "list", dict := none, data := .seq acc cc, slots := #[] } → acc.toList = as.map Value.ref → as.length = i → CbG (chs.map (picked items)) S h as →
      codeAny (model prog w) A (.builtin "list.extend.loop" ⟨[.ref S, .ref c, res], []⟩) R { s with heap := h, toks := tk } := by
  have hne : S ≠ c := Nat.ne_of_gt hSc
  intro k
  induction k with
  | zero =>
    intro i h tk cc acc as hk hi hst hD hkeep hS hacc hal hG
    have hin : i = chs.length := by omega
    refine codeAny_builtin PySem.F.entry_extend_loop ?_
    rw [Around.under_plainId PySem.F.plain_extend_loop _]
    show wpAny _ A.in1 (pyNext (.ref c) >>= _) _ _ _
    refine wpAny_bind (cb_don (s := { s with heap := h, toks := tk }) (A := A.in1) hh hst ch hD (List.getElem?_eq_none (by omega)) fun h' hex he => ?_)
    refine wpAny_pure (hR h' tk acc cc as hex (fun b o h1 h2 e => he b o h2 (hkeep b o h1 h2 e)) (he S _ hne hS) (by omega) ⟨hG.rise, hG.above, fun j a hj => ?_⟩ hacc)
    obtain ⟨vs, e1, e3⟩ := hG.tups j a hj
    exact ⟨vs, e1, he a _ (Nat.ne_of_gt (Nat.lt_trans hSc (hG.above a (List.mem_of_getElem? hj)))) e3⟩
  | succ k ih =>
    intro i h tk cc acc as hk hi hst hD hkeep hS hacc hal hG
    have hlt : i < chs.length := by omega
    obtain ⟨y, hy⟩ : ∃ p, chs[i]? = some p := ⟨chs[i], List.getElem?_eq_getElem hlt⟩
    have hsz : acc.size = i := by rw [← Array.length_toList, hacc, List.length_map, hal]
    refine codeAny_builtin PySem.F.entry_extend_loop ?_
    rw [Around.under_plainId PySem.F.plain_extend_loop _]
    show wpAny _ A.in1 (pyNext (.ref c) >>= _) _ _ _
    refine wpAny_bind (cb_itm (s := { s with heap := h, toks := tk }) hst ch hD hy (hl y (List.mem_of_getElem? hy)) fun h' hst' ht hz hkp => ?_)
    dsimp only at ht hz hkp ⊢
    have hS' := hkp S _ hne hS
    have up : ∀ b o, b ≠ S → h'.get? b = some o → (h'.update S (Obj.mapSeq (·.push (Value.ref h.objs.size)))).get? b = some o := fun b o hb e => (Heap.get?_update_other _ _ (Ne.symm hb)).trans e
    have hSl : S < h.objs.size := Heap.lt_size hS
    show wpAny _ A.in1 (updateSeq S (·.push (Value.ref h.objs.size)) >>= _) _ _ _
    refine wpAny_bind ?_
    refine wpAny_updateSeq hS' rfl (wpAny_pure ⟨plainId_quiet PySem.F.plain_extend_loop _, ih (i + 1) _ tk _ (acc.push (Value.ref h.objs.size)) (as ++ [h.objs.size]) (by omega) hlt (hst'.keep fun o e => up c o (Ne.symm hne) e) (up pool _ (Nat.ne_of_lt hSp) (hkp pool _ hpc hD))
      (fun b o h1 h2 e => up b o h1 (hkp b o h2 (hkeep b o h1 h2 e))) (Heap.get?_update_self _ hS' rfl) (by rw [Array.toList_push, hacc, List.map_append]; rfl) (by rw [List.length_append, hal]; rfl) ⟨?_, ?_, ?_⟩⟩) (by rw [hsz]; omega) (by show (acc.push (Value.ref h.objs.size)).size ≤ sizeLine + 1; rw [Array.size_push, hsz]; omega)
    · refine List.pairwise_append.mpr ⟨hG.rise, List.pairwise_singleton _ _, fun a ha b hb => ?_⟩
      rw [List.mem_singleton.mp hb]
      exact hG.there ha
    · intro a ha
      rcases List.mem_append.mp ha with ha | ha
      · exact hG.above a ha
      · rw [List.mem_singleton.mp ha]; exact hSl
    · intro j b hj
      rcases Nat.lt_trichotomy j as.length with h1 | h1 | h1
      · rw [List.getElem?_append_left h1] at hj
        obtain ⟨vs, e1, e3⟩ := hG.tups j b hj
        have hb := hG.above b (List.mem_of_getElem? hj)
        exact ⟨vs, e1, up b _ (Nat.ne_of_gt hb) (hkp b _ (Nat.ne_of_gt (Nat.lt_trans hSc hb)) e3)⟩
      · subst h1
        have hb : h.objs.size = b := by simpa using hj
        subst hb
        exact ⟨picked items y, by rw [hal, List.getElem?_map, hy]; rfl, up _ _ (Nat.ne_of_gt hSl) ht⟩
      · have hnone : (as ++ [h.objs.size])[j]? = none := List.getElem?_eq_none (by rw [List.length_append, List.length_singleton]; omega)
        rw [hnone] at hj; cases hj
/-- list(combinations) -/
theorem cb_list {c pool : Addr} {items : Array Value} {k0 : Nat} {chs : List (List Nat)} {x : List Nat} {Q : Value → Shared → Prop} (hh : A.handled = none) (hx : chs[0]? = some x) (hc : s.heap.get? c = some (combO pool 0 .none x)) (hp : s.heap.get? pool = some { cls := .type "tuple", data := .seq items k0 })
    (ch : Chn items.size chs) (hl : ∀ y ∈ chs, y.length ≤ sizeLine) (hn : chs.length ≤ sizeLine)
    (hQ : ∀ h' tk acc cc as, (∃ vs, h'.get? c = some (recObj "itertools.combinations" vs)) → (∀ b o, b ≠ c → s.heap.get? b = some o → h'.get? b = some o) → h'.get? s.heap.objs.size = some { cls := .type "list", dict := none, data := .seq acc cc, slots := #[] } → as.length = chs.length → CbG (chs.map (picked items)) s.heap.objs.size h' as →
      acc.toList = as.map Value.ref → Q (.ref s.heap.objs.size) { s with heap := h', toks := tk }) :
    wpAny (model prog w) A (call (.type "list") [.ref c]) Q E s := by
  refine callType_codes (Q₁ := fun obj s₁ => obj = .ref s.heap.objs.size ∧ s₁ = { s with heap := s.heap.push { cls := .type "list", data := .seq #[] } }) PySem.F.called_list (PySem.F.typeCall_list_1 _) PySem.F.entry_list_init
    (code_list_new _ ⟨rfl, rfl⟩) fun obj s₁ h₁ => ?_
  obtain ⟨rfl, rfl⟩ := h₁
  have hS : (s.heap.push { cls := .type "list", data := .seq #[] }).get? s.heap.objs.size = some { cls := .type "list", data := .seq #[] } := Heap.get?_push_size _ rfl
  have hcl : c < s.heap.objs.size := Heap.lt_size hc
  have hpl : pool < s.heap.objs.size := Heap.lt_size hp
  have hpc := pool_ne hc hp
  refine ⟨⟨_, hS, rfl⟩, PySem.F.args_list_init_2 _ _, ?_⟩
  generalize hSS : s.heap.objs.size = S at *
  show wpAny _ _ (do let old ← Builtin.List.listItems (.ref S); Builtin.List.listUpdate (.ref S) (fun _ => #[]); letGo old.toList.reverse; Builtin.List.listExtendWith (.ref S) (.ref c) .none) _ _ _
  refine wpAny_bind ?_
  unfold Builtin.List.listItems
  refine wpAny_bind (wpAny_seqItems hS rfl (wpAny_pure ?_))
  show wpAny _ _ (updateSeq S (fun _ => #[]) >>= fun _ => letGo (#[] : Array Value).toList.reverse >>= fun _ => Builtin.List.listExtendWith (.ref S) (.ref c) .none) _ _ _
  refine wpAny_bind (wpAny_updateSeq hS rfl ?_)
  have hS₂ := Heap.get?_update_self (Obj.mapSeq (fun _ => (#[] : Array Value))) hS rfl
  have oth : ∀ b o, b ≠ S → s.heap.get? b = some o → ((s.heap.push { cls := .type "list", data := .seq #[] }).update S (Obj.mapSeq (fun _ => (#[] : Array Value)))).get? b = some o :=
    fun b o hb e => (Heap.get?_update_other _ _ (Ne.symm hb)).trans (Heap.get?_push_of_some _ e)
  refine wpAny_bind (wpAny_letGo ?_)
  generalize ((s.heap.push { cls := .type "list", data := .seq #[] }).update S (Obj.mapSeq (fun _ => (#[] : Array Value)))) = h2 at *
  have hc2 := oth c _ (Nat.ne_of_lt hcl) hc
  have hp2 := oth pool _ (Nat.ne_of_lt hpl) hp
  unfold Builtin.List.listExtendWith
  refine wpAny_bind (wpAny_typeOf (T := "itertools.combinations") ⟨_, hc2, rfl⟩ ?_)
  have h1 : Builtin.List.listSameRef (.ref S) (.ref c) = false := by simp [Builtin.List.listSameRef, show S ≠ c from Nat.ne_of_gt hcl]
  have e2 : (Value.type "itertools.combinations" == Value.type "list") = false := by decide
  have e3 : (Value.type "itertools.combinations" == Value.type "tuple") = false := by decide
  simp only [h1, e2, e3, Bool.or_false, Bool.false_eq_true, if_false]
  refine wpAny_bind (cb_pyIter hc2 ?_)
  refine wpAny_bind (wpAny_holding ?_)
  unfold Builtin.List.listLengthHint
  refine wpAny_bind (wpAny_specialOf ⟨_, hc2, rfl⟩ cb_nolen ?_)
  show wpAny _ _ (specialOf (Value.ref c) (Str.ofString "__length_hint__") >>= _) _ _ _
  refine wpAny_bind (wpAny_specialOf ⟨_, hc2, rfl⟩ cb_nohint ?_)
  refine wpAny_pure ?_
  show wpAny _ _ (rule "list.extend.makes-room" >>= fun _ => Builtin.List.listTouch (.ref S) >>= fun _ =>
    again (.builtin "list.extend.loop" ⟨[.ref S, .ref c, .none], []⟩)) _ _ _
  refine wpAny_bind (wpAny_rule ?_)
  refine wpAny_bind ?_
  show wpAny _ _ (updateSeq S (·.push .none) >>= fun _ => updateSeq S (·.pop)) _ _ _
  refine wpAny_bind (wpAny_updateSeq hS₂ rfl ?_)
  have hS₃ := Heap.get?_update_self (Obj.mapSeq (·.push Value.none)) hS₂ rfl
  refine wpAny_updateSeq hS₃ rfl ?_
  have hS₄ := Heap.get?_update_self (Obj.mapSeq (·.pop)) hS₃ rfl
  have oth2 : ∀ b o, b ≠ S → h2.get? b = some o → ((h2.update S (Obj.mapSeq (·.push Value.none))).update S (Obj.mapSeq (·.pop))).get? b = some o :=
    fun b o hb e => (Heap.get?_update_other _ _ (Ne.symm hb)).trans ((Heap.get?_update_other _ _ (Ne.symm hb)).trans e)
  refine wpAny_pure ⟨plainId_quiet PySem.F.plain_extend_loop _, ?_⟩
  refine cb_loop (A := A.in1) (items := items) (k0 := k0) (chs := chs) (s := s) (h₁ := s.heap) (pool := pool) (show A.in1.handled = none from hh) hcl hpl hpc ch hl hn .none (fun h' tk' acc cc as hex hk' hS' hl' hG hacc => ?_)
    chs.length 0 _ _ _ #[] [] (Nat.sub_zero _) (Nat.zero_le _) (.inl ⟨rfl, x, hx, oth2 c _ (Nat.ne_of_lt hcl) hc2⟩) (oth2 pool _ (Nat.ne_of_lt hpl) hp2) (fun b o hb _ e => oth2 b o hb (oth b o hb e)) hS₄ rfl rfl
    ⟨List.Pairwise.nil, (fun _ ha => nomatch ha), (fun j a hj => by simp at hj)⟩
  refine ⟨rfl, hQ h' tk' acc cc as hex (fun b o hb e => hk' b o ?_ hb e) hS' hl' hG hacc⟩
  rw [← hSS]; exact Nat.ne_of_lt (Heap.lt_size e)
end
end DD.CB
namespace DD.CB
open PySem PySem.Spec PyProof.Rows
theorem range_chs : True := trivial
theorem meets_comb {rng : Addr} {a b c : Int} {t u v t2 : Tok} {n r : Nat} (hsmall : Builtin.Range.small a b c = true) (hn : Builtin.Range.rangeSize a b c = n) (hlen : n ≤ 1000) (hr : r ≤ n) :
    Meets (Builtin.«itertools.combinations.__new__» ⟨[.type "itertools.combinations", .ref rng, .int (r : Int) t2], []⟩) (fun A R s => A.handled = none ∧ IsRange s.heap rng a b c t u v ∧
      ∀ (h' : Heap) (tk : Nat) (acc : Array Value), (∀ b o, s.heap.get? b = some o → h'.get? b = some o) → ItemsOf (fun i v => ∃ t, v = .int (a + i * c) t) acc n →
        R (.ok (.ret (.ref (h'.push { cls := .type "tuple", data := .seq acc }).objs.size))) { s with heap := (h'.push { cls := .type "tuple", data := .seq acc }).push (combO h'.objs.size 0 .none (List.range r)), toks := tk }) :=
  .of_wp fun prog w A R s h => by
    obtain ⟨hh, h1, h⟩ := h
    unfold Builtin.«itertools.combinations.__new__»
    refine wpAny_bind ?_
    show wpAny _ _ (Builtin.Itertools.itClassAndRest "combinations" ⟨[.type "itertools.combinations", .ref rng, .int (r : Int) t2], []⟩ >>= _) _ _ _
    refine wpAny_bind ?_
    unfold Builtin.Itertools.itClassAndRest
    show wpAny _ _ (isType (Value.type "itertools.combinations") >>= _) _ _ _
    refine wpAny_bind (wpAny_of_eq (a := true) rfl ?_)
    refine PySem.W.KFB.if_not rfl ?_
    refine wpAny_bind (wpAny_of_eq (a := true) cb_sub ?_)
    refine PySem.W.KFB.if_not rfl ?_
    refine wpAny_pure ?_
    dsimp only
    refine wpAny_bind (wpAny_of_eq (a := [some (Value.ref rng), some (Value.int (r : Int) t2)]) (by first | rfl | kernel_rfl) ?_)
    dsimp only
    refine wpAny_bind ?_
    unfold Builtin.Itertools.itSsizeArg
    refine wpAny_bind (wpAny_of_eq (a := (r : Int)) (by first | rfl | kernel_rfl) ?_)
    rw [if_neg (by simp; omega)]
    refine wpAny_pure ?_
    refine wpAny_bind (L2.collect_range (A := A.in1) hh h1 hsmall hn (by omega) fun h' tk acc hk hi => ?_)
    have hz : acc.toList.length = n := by rw [Array.length_toList]; exact hi.1
    rw [if_neg (by omega), if_neg (by simp [Builtin.Itertools.itTooMany]; omega)]
    refine wpAny_bind (wpAny_newTuple ?_ (by rw [hz, sizeLine_eq]; omega))
    refine wpAny_pure ?_
    dsimp only
    rw [hz, Int.toNat_natCast, if_neg (by omega)]
    refine wpAny_bind ?_
    unfold Builtin.Itertools.itNewRecord
    rw [if_pos (by first | rfl | decide +kernel)]
    have e : acc.toList.toArray = acc := by simp
    have hq := h h' tk acc hk hi
    rw [e]
    have hs2 : (h'.push { cls := .type "tuple", data := .seq acc }).objs.size = h'.objs.size + 1 := Heap.size_push ..
    refine wpAny_newObj_type ?_ ?_
    · exact wpAny_pure ⟨_, rfl, hq⟩
    · show (([Value.ref h'.objs.size, rawInt 0, Value.none] ++ (List.range r).map fun (i : Nat) => rawInt i).toArray).size ≤ sizeLine + 2
      rw [List.size_toArray, List.length_append, List.length_map, List.length_range, sizeLine_eq]
      show 3 + r ≤ _
      omega
section
variable {prog : Program} {w : World} {A : Around} {E : Value → Shared → Prop} {s : Shared}
/-- combinations(range, r) -/
theorem cb_make {rng : Addr} {a b c : Int} {t u v t2 : Tok} {n r : Nat} {Q : Value → Shared → Prop} (hh : A.handled = none) (h1 : IsRange s.heap rng a b c t u v) (hsmall : Builtin.Range.small a b c = true) (hn : Builtin.Range.rangeSize a b c = n) (hlen : n ≤ 1000) (hr : r ≤ n)
    (hQ : ∀ (h' : Heap) (tk : Nat) (acc : Array Value) (pool cb : Addr), (∀ b o, s.heap.get? b = some o → h'.get? b = some o) → ItemsOf (fun i v => ∃ t, v = .int (a + i * c) t) acc n → s.heap.get? pool = none → s.heap.get? cb = none → pool ≠ cb →
      h'.get? pool = some { cls := .type "tuple", data := .seq acc } → h'.get? cb = some (combO pool 0 .none (List.range r)) → Q (.ref cb) { s with heap := h', toks := tk }) :
    wpAny (model prog w) A (call (.type "itertools.combinations") [.ref rng, .int (r : Int) t2]) Q E s := by
  refine callType_new cb_called (by decide) (cb_typeCall _ _) (cb_newCall _ _) (fun obj => F.args_object_init_3 obj _ _) cb_entry_new (meets_comb hsmall hn hlen hr) ⟨hh, h1, fun h' tk acc hk hi => ?_⟩
  · have hs1 : (h'.push { cls := .type "tuple", data := .seq acc }).objs.size = h'.objs.size + 1 := Heap.size_push ..
    have hno : ∀ p, h'.objs.size ≤ p → s.heap.get? p = none := fun p hp => by
      cases e : s.heap.get? p with
      | none => rfl
      | some o => exact absurd (Heap.lt_size (hk p o e)) (Nat.not_lt.mpr hp)
    have g1 : ((h'.push { cls := .type "tuple", data := .seq acc }).push (combO h'.objs.size 0 .none (List.range r))).get? (h'.objs.size + 1) = some (combO h'.objs.size 0 .none (List.range r)) := by
      have := Heap.get?_push_size (h'.push { cls := .type "tuple", data := .seq acc }) (o := combO h'.objs.size 0 .none (List.range r)) rfl
      rw [hs1] at this; exact this
    have g2 : ((h'.push { cls := .type "tuple", data := .seq acc }).push (combO h'.objs.size 0 .none (List.range r))).get? h'.objs.size = some { cls := .type "tuple", data := .seq acc } := Heap.get?_push_of_some _ (Heap.get?_push_size _ rfl)
    show _ ∧ _
    rw [hs1]
    exact ⟨⟨_, g1, rfl⟩, hQ _ tk acc h'.objs.size (h'.objs.size + 1) (fun b o e => Heap.get?_push_of_some _ (Heap.get?_push_of_some _ (hk b o e))) hi (hno _ (Nat.le_refl _)) (hno _ (Nat.le_succ _)) (Nat.ne_of_lt (Nat.lt_succ_self _)) g2 g1⟩
end
end DD.CB
namespace DD.CB
open PySem PySem.Spec PyProof.Rows L2
/-! ### the rules -/
def rngO (lo hi : Int) (t u v : Tok) : Obj := { cls := .type "range", dict := none, data := .fields #[.int lo t, .int hi u, .int 1 v], slots := #[] }
/-- a range that stays as it is -/
def RngF (p : Addr) (lo hi : Int) (t u v : Tok) : HO := .frz (rngO lo hi t u v) (.ext fun h => h.get? p = some (rngO lo hi t u v))
theorem rngF_ok {P : Program} {w : World} {H : Hp} {h : Heap} {a : Addr} {lo hi : Int} {t u v : Tok} (e : h.get? a = some (rngO lo hi t u v)) : ObjOk P w H h a (RngF a lo hi t u v) :=
  ⟨e, e, ⟨_, e⟩, fun _ _ p k => k _ p⟩
theorem cr_range1 {X : Cx} : CallR X (.type "range") (fun vs H Q => ∃ j, vs = [V.int j] ∧ ∀ p t u v, H p = none → Q (.ref p) (upd H p (RngF p 0 j t u v))) := by
  intro pins s σ H vs us Q I r h
  obtain ⟨j, rfl, q⟩ := h
  obtain ⟨u2, rfl, rj⟩ := r.one
  obtain ⟨u, rfl⟩ := rj
  refine call_range_1 ⟨.ref s.heap.objs.size, _, I.laid (t' := s.toks + 1 + 1) (fun b o e => Heap.get?_push_of_some _ e) (Nat.le_refl _) (rngF_ok (Heap.get?_push_size _ rfl)), rfl, q _ _ _ _ (I.hok.fresh (Nat.le_refl _))⟩
def combV (pool : Addr) (st : Int) (old : Value) (ixs : List Nat) : Array Value := ([.ref pool, rawInt st, old] ++ ixs.map fun (i : Nat) => rawInt i).toArray
theorem combO_rec (pool : Addr) (st : Int) (old : Value) (ixs : List Nat) : combO pool st old ixs = recObj "itertools.combinations" (combV pool st old ixs) := rfl
def rngV (lo : Int) (n : Nat) : List V := (List.range n).map fun (i : Nat) => V.int (lo + i)
theorem vals_rngV {lo : Int} {n : Nat} {acc : Array Value} (h : ItemsOf (fun i v => ∃ t, v = .int (lo + i * 1) t) acc n) : Vals (rngV lo n) acc.toList := by
  have hl : acc.toList.length = n := by rw [Array.length_toList]; exact h.1
  have := L2.vals_of_get acc.toList (fun i => V.int (lo + (i : Nat))) fun j u hj => by
    rw [Array.getElem?_toList] at hj
    obtain ⟨t, rfl⟩ := h.2 j u hj
    exact ⟨t, by rw [Int.mul_one]⟩
  rw [hl] at this
  exact this
theorem objAt {P : Program} {w : World} {H : Hp} {h : Heap} {a : Addr} {o : HO} (x : ObjOk P w H h a o) : ∃ ob, h.get? a = some ob := by
  induction o with
  | lst xs => obtain ⟨_, _, _, _, e⟩ := x; exact ⟨_, e⟩
  | tup xs => obtain ⟨_, _, _, ob, e, _⟩ := x; exact ⟨_, e⟩
  | dK kvs => obtain ⟨_, _, _, _, o, _, _, e, _⟩ := x; exact ⟨_, e⟩
  | dT kvs => obtain ⟨_, _, _, _, o, _, _, e, _⟩ := x; exact ⟨_, e⟩
  | set S n => obtain ⟨o, _, _, _, e, _⟩ := x; exact ⟨_, e⟩
  | ins C dx fs => obtain ⟨_, _, _, e, _⟩ := x; exact ⟨_, e⟩
  | own y => obtain ⟨_, e⟩ := x; exact ⟨_, e⟩
  | xd fs => obtain ⟨_, ⟨_, _, _, e, _⟩, _⟩ := x; exact ⟨_, e⟩
  | rng lo hi => obtain ⟨_, _, _, e⟩ := x; exact ⟨_, e⟩
  | frz ob u => obtain ⟨e, _⟩ := x; exact ⟨_, e⟩
  | tbl ps => exact ⟨_, show h.get? a = some _ from x⟩
  | met f y => exact ⟨_, show h.get? a = some _ from x⟩
  | ext φ => obtain ⟨_, ⟨_, e⟩, _⟩ := x; exact ⟨_, e⟩
section
variable {X : Cx} {pins : List (Addr × Obj)} {σ : L2.St} {H H' : Hp} {s : Shared}
theorem none_of (I : Inv X pins σ H s) {p : Addr} (h : s.heap.get? p = none) : H p = none := by
  cases e : H p with
  | none => rfl
  | some u =>
    obtain ⟨ob, q⟩ := objAt (I.hok p u e)
    rw [h] at q; cases q
/-- many objects laid at once -/
theorem layG {h' : Heap} {tk : Nat} (I : Inv X pins σ H s) (k : ∀ b o, s.heap.get? b = some o → h'.get? b = some o) (kp : ∀ b u, H b = some u → H' b = some u) (fr : ∀ b o, s.heap.get? b = some o → H b = none → H' b = none)
    (new : ∀ b u, H b = none → H' b = some u → ObjOk X.prog X.w H' h' b u) : Inv X pins σ H' { s with heap := h', toks := tk } :=
  I.call' (ch := []) rfl ⟨fun b o q _ _ _ => k b o q, fun b o q _ _ _ => ⟨o.slots, k b o q⟩, fun b o q n _ => fr b o q n, fun b o q _ => ⟨o, k b o q⟩, fun b xs q => kp b _ q, fun b o u q => kp b _ q, fun b ps q => ⟨#[], by rw [kp b _ q]; simp⟩⟩
    (fun b u q => by
      cases e : H b with
      | none => exact new b u e q
      | some u2 =>
        have := kp b u2 e
        rw [q] at this
        cases this
        exact (I.hok b u e).stay (fun d v _ y => k d v y) (fun d y => kp d _ y) fun d xs y => kp d _ y)
    I.bare (fun b hb => nomatch hb)
end
/-- the tuple that choices are made of -/
def PoolO (pool : Addr) (lo : Int) (n : Nat) : HO := .ext fun h => ∃ its : List Value, Vals (rngV lo n) its ∧ h.get? pool = some { cls := .type "tuple", data := .seq its.toArray }
theorem poolO_ok {P : Program} {w : World} {H : Hp} {h : Heap} {a : Addr} {lo : Int} {n : Nat} {its : List Value} (r : Vals (rngV lo n) its) (e : h.get? a = some { cls := .type "tuple", data := .seq its.toArray }) : ObjOk P w H h a (PoolO a lo n) :=
  ⟨⟨its, r, e⟩, ⟨_, e⟩, fun _ _ ⟨i, r, p⟩ k => ⟨i, r, k _ p⟩⟩
theorem cr_comb {X : Cx} (hc : X.calm = true) : CallR X (.type "itertools.combinations") (fun vs H Q => ∃ a lo n r, vs = [V.ref a, V.int ((r : Nat) : Int)] ∧ (∃ t u v, H a = some (RngF a lo (lo + ((n : Nat) : Int)) t u v)) ∧ -1000 ≤ lo ∧ lo ≤ 1000 ∧ n ≤ 1000 ∧ r ≤ n ∧
    ∀ pool c, H pool = none → H c = none → pool ≠ c → Q (.ref c) (upd (upd H pool (PoolO pool lo n)) c (RecO c "itertools.combinations" (combV pool 0 .none (List.range r))))) := by
  intro pins s σ H vs us Q I rv h
  obtain ⟨a, lo, n, r, rfl, ⟨t, u, v, hH⟩, l1, l2, hn, hr, q⟩ := h
  obtain ⟨u1, u2, rfl, ri, rj⟩ := vals2 rv
  cases ri
  obtain ⟨t2, rfl⟩ := rj
  have hg : IsRange s.heap a lo (lo + (n : Int)) 1 t u v := (I.hok _ _ hH).1
  have hz : Builtin.Range.rangeSize lo (lo + (n : Int)) 1 = n := by
    have := rangeSize_nat lo (lo + (n : Int))
    rw [show (lo + (n : Int) - lo).toNat = n by omega] at this
    exact this
  refine cb_make (I.ok.hd hc) hg (small_one (by omega) (by omega) (by omega) (by omega)) hz hn hr fun h' tk acc pool cb hk hi np nc ne g1 g2 => ?_
  have hp0 := none_of I np
  have hc0 := none_of I nc
  refine ⟨.ref cb, _, layG (tk := tk) (H' := upd (upd H pool (PoolO pool lo n)) cb (RecO cb "itertools.combinations" (combV pool 0 .none (List.range r)))) I hk (fun b u e => ?_) (fun b o e hb => ?_) (fun b u hb e => ?_), rfl, q pool cb hp0 hc0 ne⟩
  · have n1 : b ≠ cb := fun z => by rw [z, hc0] at e; cases e
    have n2 : b ≠ pool := fun z => by rw [z, hp0] at e; cases e
    rw [upd_ne n1, upd_ne n2]; exact e
  · have n1 : b ≠ cb := fun z => by rw [z, nc] at e; cases e
    have n2 : b ≠ pool := fun z => by rw [z, np] at e; cases e
    rw [upd_ne n1, upd_ne n2]; exact hb
  · by_cases n1 : b = cb
    · subst n1
      rw [upd_same] at e
      cases e
      exact recO_ok g2
    · rw [upd_ne n1] at e
      by_cases n2 : b = pool
      · subst n2
        rw [upd_same] at e
        cases e
        exact poolO_ok (vals_rngV hi) (by rw [Array.toArray_toList]; exact g1)
      · rw [upd_ne n2, hb] at e; cases e
end DD.CB
namespace DD.CB
open PySem PySem.Spec PyProof.Rows L2
def chosen (lo : Int) (y : List Nat) : List V := y.map fun i => V.int (lo + (i : Nat))
theorem getD_rng {lo : Int} {n i : Nat} {its : List Value} (r : Vals (rngV lo n) its) (hi : i < n) : RelV (V.int (lo + (i : Nat))) (its.toArray.getD i .none) := by
  have e : (rngV lo n)[i]? = some (V.int (lo + (i : Nat))) := by simp [rngV, hi]
  obtain ⟨u, h1, h2⟩ := r.get e
  have : its.toArray.getD i .none = u := by
    simp [Array.getD_eq_getD_getElem?, h1]
  rw [this]; exact h2
theorem picked_vals {lo : Int} {n : Nat} {its : List Value} (r : Vals (rngV lo n) its) : ∀ y : List Nat, (∀ i ∈ y, i < n) → Vals (chosen lo y) (picked its.toArray y)
  | [], _ => .nil
  | i :: y, h => .cons (getD_rng r (h i (by simp))) (picked_vals r y fun j hj => h j (by simp [hj]))
/-- tuples tracked at their addresses -/
def putC : Hp → List Addr → List (List V) → Hp
  | H, a :: as, p :: ps => putC (upd H a (.tup p)) as ps
  | H, _, _ => H
theorem putC_off {b : Addr} : ∀ (as : List Addr) (ps : List (List V)) (H : Hp), b ∉ as → putC H as ps b = H b
  | [], _, _, _ => rfl
  | _ :: _, [], _, _ => rfl
  | a :: as, p :: ps, H, h => by
    show putC (upd H a (.tup p)) as ps b = H b
    rw [putC_off as ps _ (fun z => h (List.mem_cons_of_mem _ z)), upd_ne (fun z => h (by rw [z]; exact List.mem_cons_self))]
theorem putC_at : ∀ (as : List Addr) (ps : List (List V)) (H : Hp), as.length = ps.length → as.Nodup → Paired (fun (t : Addr) (p : List V) => putC H as ps t = some (.tup p)) as ps
  | [], [], _, _, _ => .nil
  | [], _ :: _, _, h, _ => by cases h
  | _ :: _, [], _, h, _ => by cases h
  | a :: as, p :: ps, H, h, hn => by
    have hn' := List.nodup_cons.mp hn
    have ih := putC_at as ps (upd H a (.tup p)) (Nat.succ.inj h) hn'.2
    refine .cons ?_ ih
    show putC (upd H a (.tup p)) as ps a = some (.tup p)
    rw [putC_off as ps _ hn'.1, upd_same]
theorem cr_listComb {X : Cx} (hcalm : X.calm = true) : CallR X (.type "list") (fun vs H Q => ∃ c pool lo n chs x, vs = [V.ref c] ∧ H c = some (RecO c "itertools.combinations" (combV pool 0 .none x)) ∧ H pool = some (PoolO pool lo n) ∧ chs[0]? = some x ∧ Chn n chs ∧
    (∀ y ∈ chs, y.length ≤ 1000 ∧ ∀ i ∈ y, i < n) ∧ chs.length ≤ 1000 ∧
    ∀ (H' : Hp) (l : Addr) (as : List Addr), (∀ b u, b ≠ c → H b = some u → H' b = some u) → H l = none → H' l = some (.lst (as.map V.ref)) → as.length = chs.length → (∀ (j : Nat) a y, as[j]? = some a → chs[j]? = some y → H' a = some (.tup (chosen lo y))) → Q (.ref l) H') := by
  intro pins s σ H vs us Q I rv h
  obtain ⟨c, pool, lo, n, chs, x, rfl, hc, hp, hx, ch, hy, hl, q⟩ := h
  obtain ⟨u1, rfl, ri⟩ := rv.one
  cases ri
  have gc := I.recO hc
  obtain ⟨⟨its, rp, gp⟩, _, _⟩ := I.hok _ _ hp
  have hz : its.toArray.size = n := by
    have := rp.length
    simp [rngV] at this
    simp; omega
  have hsl : (1000 : Nat) ≤ sizeLine := by rw [sizeLine_eq]; omega
  refine cb_list (items := its.toArray) (chs := chs) (I.ok.hd hcalm) hx gc gp (by rw [hz]; exact ch) (fun y h => Nat.le_trans (hy y h).1 hsl) (Nat.le_trans hl hsl) fun h' tk acc cc as hex hk hS hlen hG hacc => ?_
  obtain ⟨G, g1, g2⟩ := restrict h' fun b => (s.heap.get? b).isSome
  have old : ∀ b o, s.heap.get? b = some o → G.get? b = h'.get? b := fun b o e => g1 b (by rw [e]; rfl)
  have new : ∀ b, s.heap.get? b = none → G.get? b = none := fun b e => g2 b (by rw [e]; rfl)
  have up : ∀ b o, G.get? b = some o → h'.get? b = some o := fun b o e => by
    cases e2 : s.heap.get? b with
    | none => rw [new b e2] at e; cases e
    | some u => rw [← old b u e2]; exact e
  generalize hE : (HO.ext fun h => ∃ ob, h.get? c = some ob) = oE
  obtain ⟨vs, hv⟩ := hex
  have Gc : G.get? c = some (recObj "itertools.combinations" vs) := by rw [old c _ gc]; exact hv
  have I1 : Inv X pins σ (upd H c oE) { s with heap := G, toks := tk } := by
    refine I.write (e := c) (by rw [hc]; exact True.intro) (.inl rfl) (fun b u hb e => ?_) ⟨_, Gc⟩ ?_
    · rw [old b u e]; exact hk b u hb e
    · rw [← hE]; exact ⟨⟨_, Gc⟩, ⟨_, Gc⟩, fun _ _ ⟨o, e⟩ k => ⟨o, k o e⟩⟩
  have low : ∀ b o, s.heap.get? b = some o → b ≠ s.heap.objs.size ∧ b ∉ as := fun b o e => ⟨Nat.ne_of_lt (Heap.lt_size e), fun z => absurd (Heap.lt_size e) (Nat.not_lt.mpr (Nat.le_of_lt (hG.above b z)))⟩
  have nd : as.Nodup := List.Pairwise.imp (fun {a b} (h : a < b) => Nat.ne_of_lt h) hG.rise
  have hSn : s.heap.objs.size ∉ as := fun z => Nat.lt_irrefl _ (hG.above _ z)
  have hSc : s.heap.objs.size ≠ c := Nat.ne_of_gt (Heap.lt_size gc)
  have lowH : ∀ b u, upd H c oE b = some u → b ≠ s.heap.objs.size ∧ b ∉ as := fun b u e => by
    by_cases hb : b = c
    · subst hb; exact low b _ gc
    · rw [upd_ne hb] at e
      obtain ⟨o, e2⟩ := objAt (I.hok b u e)
      exact low b o e2
  let H2 : Hp := putC (upd (upd H c oE) s.heap.objs.size (.lst (as.map V.ref))) as (chs.map (chosen lo))
  have atP := putC_at as (chs.map (chosen lo)) (upd (upd H c oE) s.heap.objs.size (.lst (as.map V.ref))) (by rw [List.length_map]; exact hlen) nd
  have off : ∀ b, b ∉ as → b ≠ s.heap.objs.size → H2 b = upd H c oE b := fun b h1 h2 => by show putC _ as _ b = _; rw [putC_off as _ _ h1, upd_ne h2]
  have eS : H2 s.heap.objs.size = some (.lst (as.map V.ref)) := by show putC _ as _ _ = _; rw [putC_off as _ _ hSn, upd_same]
  have tup : ∀ (j : Nat) a y, as[j]? = some a → chs[j]? = some y → H2 a = some (.tup (chosen lo y)) := fun j a y e1 e2 => by
    obtain ⟨p, h1, h2⟩ := LiI.paired_get atP e1
    rw [List.getElem?_map, e2] at h1
    cases h1
    exact h2
  have I2 : Inv X pins σ H2 { s with heap := h', toks := tk } := by
    refine layG (s := { s with heap := G, toks := tk }) (tk := tk) I1 up (fun b u e => ?_) (fun b o e hb => ?_) (fun b u hb e => ?_)
    · obtain ⟨n1, n2⟩ := lowH b u e
      rw [off b n2 n1]; exact e
    · cases e2 : s.heap.get? b with
      | none => rw [show G.get? b = none from new b e2] at e; cases e
      | some o2 =>
        obtain ⟨n1, n2⟩ := low b o2 e2
        rw [off b n2 n1]; exact hb
    · by_cases n2 : b ∈ as
      · obtain ⟨j, hj⟩ := List.mem_iff_getElem?.mp n2
        obtain ⟨vs2, e1, e3⟩ := hG.tups j b hj
        rw [List.getElem?_map] at e1
        obtain ⟨y, ey, rfl⟩ := Option.map_eq_some_iff.mp e1
        rw [tup j b y hj ey] at e
        cases e
        have hym := hy y (List.mem_of_getElem? ey)
        exact ⟨by rw [chosen, List.length_map]; exact Nat.le_trans hym.1 hsl, _, picked_vals rp y hym.2, ⟨_, e3, rfl, _, rfl⟩⟩
      · by_cases n1 : b = s.heap.objs.size
        · subst n1
          rw [eS] at e
          cases e
          refine ⟨by rw [List.length_map]; omega, acc.toList, cc, by rw [hacc]; exact LiI.vals_refs as, ?_⟩
          rw [Array.toArray_toList]; exact hS
        · rw [off b n2 n1, hb] at e; cases e
  refine ⟨.ref s.heap.objs.size, H2, I2, rfl, q H2 _ as (fun b u hb e => ?_) (I.hok.fresh (Nat.le_refl _)) eS hlen tup⟩
  have e' : upd H c oE b = some u := by rw [upd_ne hb]; exact e
  obtain ⟨n1, n2⟩ := lowH b u e'
  rw [off b n2 n1]; exact e'
end DD.CB
namespace DD.CB
open PySem PySem.Spec PyProof.Rows L2
variable [Tabs]
theorem nextC_eq (n : Nat) (x : List Nat) : nextC n x = nextCh n x := rfl
def chnB (n : Nat) (chs : List (List Nat)) : Bool := (List.range chs.length).all fun j => match chs[j]? with
  | some x => decide (nextC n x = chs[j + 1]?)
  | none => true
theorem chn_of {n : Nat} {chs : List (List Nat)} (h : chnB n chs = true) : Chn n chs := fun j x e => by
  unfold chnB at h
  rw [List.all_eq_true] at h
  have := h j (List.mem_range.mpr (List.getElem?_eq_some_iff.mp e).1)
  rw [e] at this
  exact of_decide_eq_true this
theorem chs_fin : ∀ n ∈ List.range 5, ∀ r ∈ List.range (n + 1), chnB n (chsL n r) = true ∧ (chsL n r)[0]? = some (List.range r) ∧ (chsL n r).length ≤ 6 ∧ ∀ y ∈ chsL n r, y.length ≤ 4 ∧ ∀ i ∈ y, i < n := by decide +kernel
theorem Wd.grow {K : PySem.W.Frag} {w : World} {u : Vw} {M : Sto} (W : Wd K w u M) {H' : Hp} (g : ∀ b o, u.H b = some o → H' b = some o) : let u' : Vw := ⟨u.iot, u.n, H'⟩; Ext K u u' ∧ Wd K w u' M := by
  intro u'
  have x : Ext K u u' := ⟨⟨Nat.le_refl _, fun _ _ => rfl, fun a xs h => by
    rcases h with (h | ⟨ob, h⟩) | h
    · exact .inl (.inl (g _ _ h))
    · exact .inl (.inr ⟨ob, g _ _ h⟩)
    · exact .inr h, fun a xs h => by
    rcases h with ⟨ob, h⟩ | h
    · exact .inl ⟨ob, g _ _ h⟩
    · exact .inr h⟩, fun a o φ h => g _ _ h⟩
  refine ⟨x, fun P hP => ?_, W.n, W.inj, fun i ob e => (W.at_ i ob e).mono x fun m => ?_⟩
  · obtain ⟨ps, h1, h2⟩ := W.tab P hP
    exact ⟨ps, g _ _ h1, h2⟩
  · obtain ⟨ho, q⟩ := (W.at_ i ob e).there m
    show H' _ = u.H _
    rw [q, g _ _ q]
theorem rds_tups {K : PySem.W.Frag} {u : Vw} : ∀ {as : List Addr} {chs : List (List Nat)}, as.length = chs.length → (∀ (j : Nat) a y, as[j]? = some a → chs[j]? = some y → u.H a = some (.tup (chosen 0 y))) → RDs K u (chs.map fun y => .tup (y.map fun (i : Nat) => .int i)) (as.map V.ref)
  | [], [], _, _ => .nil
  | [], _ :: _, h, _ => by simp at h
  | _ :: _, [], h, _ => by simp at h
  | a :: as, y :: chs, h, f => by
    refine .cons (.tup (vs := chosen 0 y) (.inl (.inl (f 0 a y rfl rfl))) ?_) (rds_tups (by simpa using h) fun j a' y' h1 h2 => f (j + 1) a' y' (by simpa using h1) (by simpa using h2))
    clear f h
    induction y with
    | nil => exact .nil
    | cons i y ih =>
      refine .cons ?_ ih
      have : (V.int (0 + (i : Nat)) : V) = V.int ((i : Nat) : Int) := by rw [Int.zero_add]
      show RD K u (.int ((i : Nat) : Int)) (V.int (0 + ((i : Nat) : Int)))
      rw [this]; exact .int _
theorem vals_cons {x : V} {xs : List V} {vs : List Value} (h : Vals (x :: xs) vs) : ∃ u us, vs = u :: us ∧ RelV x u ∧ Vals xs us := match vs, h with
  | u :: us, .cons a b => ⟨u, us, rfl, a, b⟩
theorem vals_nil {vs : List Value} (h : Vals [] vs) : vs = [] := match vs, h with
  | [], .nil => rfl
section
variable {X : Cx} {F : Fns}
theorem pe_callTfun {T : String} {r : List V → Hp → VK → Prop} {x : Str} {p pos : Pos} {e : Expr} {es : List Expr} {t : TA} (hc : CallR X (.type T) r) (hg : Gl X x) (hm : X.mg x = some (.type T)) (ha : PA X (e :: es) t) (hdb : (x == ("__debug__" : Str)) = false)
    (he : starEach (e :: es) X.env = (false, eval e X.env) :: starEach es X.env) (hpl : (backTo pos (starEach es X.env)).any (·.1) = false) : PE X (.Call (.Name x p) (e :: es) [] pos) (tCB r t) := by
  refine ⟨fun pins s σ H Q I h => ?_⟩
  refine wpAny_Call_Name_kw (ld_glob I hg hm ?_ hdb)
  exact PyProof.Rows.callWith_type1 (thn (ha.run pos pins s σ H _ I h) fun us s1 ⟨vs, H1, I1, r1, q1⟩ => hc pins s1 σ H1 vs us Q I1 r1 q1) he hpl
theorem de_comb {x : Str} {p p2 p3 q q2 q3 : Pos} {a b : Expr} {xa xb : Ex} (hc : X.calm = true) (hgl : Gl X "list") (hml : X.mg "list" = none) (hgr : Gl X "range") (hmr : X.mg "range" = none) (hgx : Gl X x) (hmx : X.mg x = some (.type "itertools.combinations")) (hdb : (x == ("__debug__" : Str)) = false)
    (ha : DE X a (evE F xa)) (hb : DE X b (evE F xb)) (sa : noStars [a] = true) (sb : noStars [b] = true) :
    DE X (.Call (.Name "list" p) [.Call (.Name x p2) [.Call (.Name "range" p3) [a] [] q3, b] [] q2] [] q) (evE F (.bi .comb [xa, xb])) := by
  simp only [noStars, Bool.and_eq_true, Bool.not_eq_true', and_true] at sa sb
  refine peBy fun σ H Q ⟨u, M, δ, eH, W, S, d, M', e, fin⟩ => ⟨_, pe_callTy (cr_listComb hc) hgl hml boot_list (pa_cons (pe_callTfun (cr_comb hc) hgx hmx (pa_cons (pe_callTy cr_range1 hgr hmr boot_range (pa_cons ha pa_nil (star_cons sa)) (by decide) (by decide) (star_cons sa) rfl) (pa_cons hb pa_nil (star_cons sb)) (star_cons rfl)) hdb (star_cons rfl) (star_any (by simp [noStars, sb]))) pa_nil (star_cons rfl)) (by decide) (by decide) (star_cons rfl) rfl, ?_⟩
  obtain ⟨x1, M1, y1, M2, e1, e2, e3⟩ : ∃ x1 M1 y1 M2, evE F xa δ M = some (x1, M1) ∧ evE F xb δ M1 = some (y1, M2) ∧ combB [x1, y1] M2 = some (d, M') := by
    rw [evE] at e
    split at e
    · rename_i ds M2 h
      rw [evEs] at h
      split at h
      · rename_i x1 M1 h1
        rw [evEs] at h
        split at h
        · rename_i zs M3 h3
          split at h3
          · rename_i y1 M4 h4
            rw [evEs] at h3
            cases h3
            cases h
            exact ⟨_, _, _, _, h1, h4, e⟩
          · cases h3
        · cases h
      · cases h
    · cases e
  unfold combB at e3
  split at e3
  · rename_i M2 _ _ n r hL
    simp only [List.cons.injEq, and_true] at hL
    obtain ⟨rfl, rfl⟩ := hL
    split at e3
    · rename_i hnr
      cases e3
      show tD X.K X.w (evE F xa) σ H _
      refine ⟨u, M, δ, eH, W, S, _, M1, e1, fun u1 v1 E1 W1 r1 => ?_⟩
      cases r1
      refine ⟨n, rfl, fun pr t0 t1 t2 hpr => ?_⟩
      obtain ⟨E2, W2⟩ := W1.tup (o := RngF pr 0 n t0 t1 t2) hpr
      refine ⟨_, M1, δ, rfl, W2, S.mono (E1.trans E2), _, M2, e2, fun u3 v3 E3 W3 r3 => ?_⟩
      cases r3
      have hR : u3.H pr = some (RngF pr 0 n t0 t1 t2) := E3.frz _ _ _ (upd_same ..)
      have en : n = ((n.toNat : Nat) : Int) := by omega
      have er : r = ((r.toNat : Nat) : Int) := by omega
      refine ⟨pr, 0, n.toNat, r.toNat, by rw [← er], ⟨t0, t1, t2, by rw [Int.zero_add, ← en]; exact hR⟩, by decide, by decide, by omega, by omega, fun pool c hp0 hc0 hne => ?_⟩
      obtain ⟨f1, f2, f3, f4⟩ := chs_fin n.toNat (List.mem_range.mpr (by omega)) r.toNat (List.mem_range.mpr (by omega))
      refine ⟨c, pool, 0, n.toNat, chsL n.toNat r.toNat, _, rfl, upd_same .., (upd_ne hne).trans (upd_same ..), f2, chn_of f1, fun y hy => ⟨Nat.le_trans (f4 y hy).1 (by decide), (f4 y hy).2⟩, by omega, fun H' l as g hl0 hl hlen ht => ?_⟩
      have g3 : ∀ b o, u3.H b = some o → H' b = some o := fun b o e => by
        have n1 : b ≠ c := fun z => by rw [z, hc0] at e; cases e
        have n2 : b ≠ pool := fun z => by rw [z, hp0] at e; cases e
        exact g b o n1 (by rw [upd_ne n1, upd_ne n2]; exact e)
      have hl3 : u3.H l = none := by
        cases e : u3.H l with
        | none => rfl
        | some o =>
          have n1 : l ≠ c := fun z => by rw [z, hc0] at e; cases e
          have n2 : l ≠ pool := fun z => by rw [z, hp0] at e; cases e
          rw [upd_ne n1, upd_ne n2, e] at hl0; cases hl0
      -- all but the list
      obtain ⟨E4, W4⟩ := Wd.grow W3 (H' := fun b => if b = l then none else H' b) fun b o e => by
        have : b ≠ l := fun z => by rw [z, hl3] at e; cases e
        rw [if_neg this]; exact g3 b o e
      have eH2 : upd (fun b => if b = l then none else H' b) l (.lst (as.map V.ref)) = H' := by
        funext b
        by_cases hb : b = l
        · subst hb; rw [upd_same, hl]
        · rw [upd_ne hb, if_neg hb]
      have tups : ∀ (j : Nat) a y, as[j]? = some a → (chsL n.toNat r.toNat)[j]? = some y → (if a = l then none else H' a) = some (HO.tup (chosen 0 y)) := fun j a y h1 h2 => by
        have := ht j a y h1 h2
        have hal : a ≠ l := fun z => by rw [z, hl] at this; cases this
        rw [if_neg hal]; exact this
      obtain ⟨E5, W5, r5⟩ := W4.new (p := l) (o := .lst (as.map V.ref)) (ob := .lst ((chsL n.toNat r.toNat).map fun y => .tup (y.map fun (i : Nat) => .int i))) (if_pos rfl) fun u' E h => ⟨_, h, (rds_tups hlen tups).mono E⟩
      have hn : u3.n = M2.length := W3.n
      have := fin _ _ ((((E1.trans E2).trans E3).trans E4).trans E5) W5 (by rw [← hn]; exact r5)
      dsimp only at this
      rw [eH2] at this
      exact this
    · cases e3
  · cases e3
end
end DD.CB
namespace DD
open PySem PySem.Spec PyProof.Rows L2
variable [Tabs]

/-! ### looks at the text -/
def vName : Expr → Option Str
  | .Name x _ => some x
  | _ => none
def vConst : Expr → Option Const
  | .Constant c _ _ => some c
  | _ => none
def vTuple : Expr → Option (List Expr)
  | .Tuple es _ _ => some es
  | _ => none
def vList : Expr → Option (List Expr)
  | .List es _ => some es
  | _ => none
def vBin : Expr → Option (Expr × Operator × Expr)
  | .BinOp a o b _ => some (a, o, b)
  | _ => none
def vUn : Expr → Option (UnaryOp × Expr)
  | .UnaryOp o a _ => some (o, a)
  | _ => none
def vCmp : Expr → Option (Expr × CmpOp × Expr)
  | .Compare a [o] [b] _ => some (a, o, b)
  | _ => none
def vCmp2 : Expr → Option (Expr × CmpOp × CmpOp × Expr × Expr)
  | .Compare a [o, o2] [b, c] _ => some (a, o, o2, b, c)
  | _ => none
def vBool : Expr → Option (BoolOp × List Expr)
  | .BoolOp o es _ => some (o, es)
  | _ => none
def vIf : Expr → Option (Expr × Expr × Expr)
  | .IfExp c a b _ => some (c, a, b)
  | _ => none
def vSub : Expr → Option (Expr × Expr)
  | .Subscript a b _ => some (a, b)
  | _ => none
def vDict0 : Expr → Bool
  | .Dict [] [] _ => true
  | _ => false
theorem vDict0_eq {e : Expr} (h : vDict0 e = true) : ∃ p, e = .Dict [] [] p := by unfold vDict0 at h; split at h; exact ⟨_, rfl⟩; cases h
def vSlc : Expr → Option (Option Expr × Option Expr × Option Expr)
  | .Slice l h s _ => some (l, h, s)
  | _ => none
def vRev : Expr → Bool
  | .UnaryOp .USub (.Constant (.int 1) _ _) _ => true
  | _ => false
def kwDef : Keyword → Bool
  | ⟨some n, .Constant .none _ _, _⟩ => decide (n = Str.ofString "default")
  | _ => false
def kwStart (k : Int) : List Keyword → Bool
  | [] => decide (k = 0)
  | [⟨some n, .Constant (.int i) _ _, _⟩] => decide (n = Str.ofString "start") && decide (i = k) && decide (-(2 ^ 62) ≤ k) && decide (k < 2 ^ 62)
  | _ => false
def vCall : Expr → Option (Str × List Expr × List Keyword)
  | .Call (.Name x _) es kws _ => some (x, es, kws)
  | _ => none
def vMeth : Expr → Option (Expr × Str × Pos × List Expr × List Keyword × Pos)
  | .Call (.Attribute o m ap) es kws p => some (o, m, ap, es, kws, p)
  | _ => none
def vLC : Expr → Option (Expr × Expr × Expr × List Expr × Int × Scope × Pos)
  | .ListComp e [⟨t, i, ifs, a⟩] sc p => some (e, t, i, ifs, a, sc, p)
  | _ => none
def vDC : Expr → Option (Expr × Expr × Expr × Expr × List Expr × Int × Scope × Pos)
  | .DictComp k v [⟨t, i, ifs, a⟩] sc p => some (k, v, t, i, ifs, a, sc, p)
  | _ => none
def vGen : Expr → Option (Expr × Expr × Expr × List Expr × Int × Scope × Pos)
  | .GeneratorExp e [⟨t, i, ifs, a⟩] sc p => some (e, t, i, ifs, a, sc, p)
  | _ => none
section
variable {e : Expr}
theorem vName_eq {x} (h : vName e = some x) : ∃ p, e = .Name x p := by unfold vName at h; split at h <;> cases h; exact ⟨_, rfl⟩
theorem vConst_eq {x} (h : vConst e = some x) : ∃ k p, e = .Constant x k p := by unfold vConst at h; split at h <;> cases h; exact ⟨_, _, rfl⟩
theorem vTuple_eq {x} (h : vTuple e = some x) : ∃ k p, e = .Tuple x k p := by unfold vTuple at h; split at h <;> cases h; exact ⟨_, _, rfl⟩
theorem vList_eq {x} (h : vList e = some x) : ∃ p, e = .List x p := by unfold vList at h; split at h <;> cases h; exact ⟨_, rfl⟩
theorem vBin_eq {a o b} (h : vBin e = some (a, o, b)) : ∃ p, e = .BinOp a o b p := by unfold vBin at h; split at h <;> cases h; exact ⟨_, rfl⟩
theorem vUn_eq {o a} (h : vUn e = some (o, a)) : ∃ p, e = .UnaryOp o a p := by unfold vUn at h; split at h <;> cases h; exact ⟨_, rfl⟩
theorem vCmp_eq {a o b} (h : vCmp e = some (a, o, b)) : ∃ p, e = .Compare a [o] [b] p := by unfold vCmp at h; split at h <;> cases h; exact ⟨_, rfl⟩
theorem vCmp2_eq {a o o2 b c} (h : vCmp2 e = some (a, o, o2, b, c)) : ∃ p, e = .Compare a [o, o2] [b, c] p := by unfold vCmp2 at h; split at h <;> cases h; exact ⟨_, rfl⟩
theorem vBool_eq {o es} (h : vBool e = some (o, es)) : ∃ p, e = .BoolOp o es p := by unfold vBool at h; split at h <;> cases h; exact ⟨_, rfl⟩
theorem vIf_eq {c a b} (h : vIf e = some (c, a, b)) : ∃ p, e = .IfExp c a b p := by unfold vIf at h; split at h <;> cases h; exact ⟨_, rfl⟩
theorem vSub_eq {a b} (h : vSub e = some (a, b)) : ∃ p, e = .Subscript a b p := by unfold vSub at h; split at h <;> cases h; exact ⟨_, rfl⟩
theorem vSlc_eq {a b c} (h : vSlc e = some (a, b, c)) : ∃ p, e = .Slice a b c p := by unfold vSlc at h; split at h <;> cases h; exact ⟨_, rfl⟩
theorem vCall_eq {x es kws} (h : vCall e = some (x, es, kws)) : ∃ p q, e = .Call (.Name x p) es kws q := by unfold vCall at h; split at h <;> cases h; exact ⟨_, _, rfl⟩
theorem vMeth_eq {o m ap es kws p} (h : vMeth e = some (o, m, ap, es, kws, p)) : e = .Call (.Attribute o m ap) es kws p := by unfold vMeth at h; split at h <;> cases h; rfl
theorem vLC_eq {a t i ifs as sc p} (h : vLC e = some (a, t, i, ifs, as, sc, p)) : e = .ListComp a [⟨t, i, ifs, as⟩] sc p := by unfold vLC at h; split at h <;> cases h; rfl
theorem vDC_eq {k v t i ifs as sc p} (h : vDC e = some (k, v, t, i, ifs, as, sc, p)) : e = .DictComp k v [⟨t, i, ifs, as⟩] sc p := by unfold vDC at h; split at h <;> cases h; rfl
theorem vGen_eq {a t i ifs as sc p} (h : vGen e = some (a, t, i, ifs, as, sc, p)) : e = .GeneratorExp a [⟨t, i, ifs, as⟩] sc p := by unfold vGen at h; split at h <;> cases h; rfl
end

/-! ### the text is the term -/
structure Gl0 where
  fns : List Str
  pars : List (List Str)
  csts : List (Str × D)
  blts : List Str
  bfs : List (Str × String)
  kws : Str → List Str → List Nat → Bool := fun _ _ _ => false
  tys : List (Str × String) := []
  dfs : Str → List D → Bool := fun _ _ => false
  tb : List Str → Bool := fun _ => false
  ga : List Str → Ex → Nat → Ex → Scope → Expr → Bool := fun _ _ _ _ _ _ => false
def visB (sc : Scope) (x : Str) : Bool := match sc.names.lookup x with
  | some .local => true
  | some .cell => true
  | some .free => true
  | _ => false
def locB (sc : Scope) (x : Str) : Bool := match sc.names.lookup x with
  | some .local => true
  | some .cell => true
  | _ => false
def lclB (sc : Scope) (x : Str) : Bool := match sc.names.lookup x with
  | some .local => true
  | _ => false
def glB (sc : Scope) (x : Str) : Bool := match sc.names.lookup x with
  | some .globalImplicit => true
  | _ => false
theorem vis_of {sc : Scope} {x : Str} (h : visB sc x = true) : Vis sc x := by
  unfold visB at h; split at h <;> first | exact .inl (by assumption) | exact .inr (.inl (by assumption)) | exact .inr (.inr (by assumption)) | cases h
theorem loc_of {sc : Scope} {x : Str} (h : locB sc x = true) : Loc sc x := by
  unfold locB at h; split at h <;> first | exact .inl (by assumption) | exact .inr (by assumption) | cases h
theorem lcl_of {sc : Scope} {x : Str} (h : lclB sc x = true) : sc.names.lookup x = some .local := by
  unfold lclB at h; split at h <;> first | assumption | cases h
theorem gl_of {sc : Scope} {x : Str} (h : glB sc x = true) : sc.names.lookup x = some .globalImplicit := by
  unfold glB at h; split at h <;> first | assumption | cases h
def okNm (x : Str) : Bool := !(x == ("__debug__" : Str)) && !(x == ("__classdict__" : Str)) && decide (x ≠ ("__name__" : Str))
def bopOf : Bop → Operator
  | .add => .Add
  | .sub => .Sub
  | .mul => .Mult
  | .fdiv => .FloorDiv
  | .mod => .Mod
  | .pow => .Pow
def copOf : Cop → CmpOp
  | .eq => .Eq
  | .ne => .NotEq
  | .lt => .Lt
  | .le => .LtE
  | .gt => .Gt
  | .ge => .GtE
  | .inn => .In
  | .notin => .NotIn
  | .isn => .Is
  | .isnt => .IsNot
  | .deq => .Eq
def chkK : D → Const → Bool
  | .non, .none => true
  | .bl a, .bool b => a == b
  | .int a, .int b => decide (a = b)
  | .str a, .str b => decide (a = b)
  | _, _ => false
def biNm : Bi → Option (Str × Bool × String)
  | .abs => some ("abs", false, "abs")
  | .len => some ("len", false, "len")
  | .int => some ("int", true, "int")
  | .all => some ("all", false, "all")
  | .sum => some ("sum", false, "sum")
  | .max => some ("max", false, "max")
  | .min => some ("min", false, "min")
  | .divmod => some ("divmod", false, "divmod")
  | .tuple => some ("tuple", true, "tuple")
  | .list => some ("list", true, "list")
  | .sorted => some ("sorted", false, "sorted")
  | .repr => some ("repr", false, "repr")
  | .str => some ("str", true, "str")
  | _ => none
def clsNm : Cls → String
  | .int => "int"
  | .bool => "bool"
  | .str => "str"
  | .tuple => "tuple"
  | .list => "list"
  | .dict => "dict"
def clsStr (c : Cls) : Str := Str.ofString (clsNm c)
def mthNm : Mth → String × String × String
  | .append => ("append", "list", "list.append")
  | .extend => ("extend", "list", "list.extend")
  | .get => ("get", "dict", "dict.get")
  | .pop => ("pop", "dict", "dict.pop")
  | .setdefault => ("setdefault", "dict", "dict.setdefault")
  | .popl => ("pop", "list", "list.pop")
def notCall0 : Expr → Bool
  | .Call (.Name _ _) [] [] _ => false
  | _ => true
theorem base_of {o : Expr} {m : Str} {env : PySem.Env} (h : notCall0 o = true) : attributeBase o m env (eval o env) = eval o env := by
  unfold attributeBase
  split
  · simp [notCall0] at h
  · rfl
def ownOf (N : List Str) (t : Tgc) : List (Str × Nat) := (ownC t).map fun i => (N.getD i ("" : Str), i)
def chkNm (N : List Str) (sc : Scope) (i : Nat) (e : Expr) : Bool := match vName e with
  | some x => decide (N[i]? = some x) && lclB sc x
  | none => false
def chkNms (N : List Str) (sc : Scope) : List Nat → List Expr → Bool
  | [], [] => true
  | i :: is, e :: es => chkNm N sc i e && chkNms N sc is es
  | _, _ => false
def chkTc (N : List Str) (sc : Scope) (t : Tgc) (e : Expr) : Bool := match t with
  | .one i => chkNm N sc i e
  | .many is => match vTuple e with
    | some es => chkNms N sc is es
    | none => false

section
variable (G : Gl0) (N : List Str)
mutual
def chkE : Ex → Scope → Expr → Bool
  | .lk _ x, sc, e => chkE x sc e && (vLC e).isSome
  | .var i, sc, e => match vName e with
    | some x => decide (N[i]? = some x) && visB sc x && okNm x
    | none => false
  | .con c, _, e => match vConst e with
    | some k => chkK c k
    | none => false
  | .glob x c, sc, e => match vName e with
    | some y => decide (x = y) && glB sc y && decide ((x, c) ∈ G.csts) && okNm y
    | none => false
  | .tup es, sc, e => match vTuple e with
    | some as => chkEs es sc as && decide (es.length ≤ 1000)
    | none => false
  | .lst es, sc, e => match vList e with
    | some as => chkEs es sc as && decide (es.length ≤ 1000)
    | none => false
  | .dct ks vs, _, e => vDict0 e && ks.isEmpty && vs.isEmpty
  | .bin o a b, sc, e => match vBin e with
    | some (a', o', b') => decide (o' = bopOf o) && chkE a sc a' && chkE b sc b'
    | none => false
  | .neg a, sc, e => match vUn e with
    | some (.USub, a') => chkE a sc a'
    | _ => false
  | .cmp o a b, sc, e => match vCmp e with
    | some (a', o', b') => decide (o' = copOf o) && chkE a sc a' && chkE b sc b' && !behindInMarks o' b'
    | none => false
  | .cmp2 o o2 a b c, sc, e => match vCmp2 e with
    | some (a', o', o2', b', c') => decide (o' = copOf o) && decide (o2' = copOf o2) && chkE a sc a' && chkE b sc b' && chkE c sc c' && !lastMarks [o', o2'] [b', c']
    | none => false
  | .band es, sc, e => match vBool e with
    | some (.And, as) => chkEs es sc as && !as.isEmpty
    | _ => false
  | .bor es, sc, e => match vBool e with
    | some (.Or, as) => chkEs es sc as && !as.isEmpty
    | _ => false
  | .bnot a, sc, e => match vUn e with
    | some (.Not, a') => chkE a sc a'
    | _ => false
  | .ife c a b, sc, e => match vIf e with
    | some (c', a', b') => chkE c sc c' && chkE a sc a' && chkE b sc b'
    | none => false
  | .sub a i, sc, e => match vSub e with
    | some (a', i') => chkE a sc a' && chkE i sc i' && notSlice i'
    | none => false
  | .slc a lo hi, sc, e => match vSub e with
    | some (a', i') => match vSlc i' with
      | some (lo', hi', none) => chkE a sc a' && chkO lo sc lo' && chkO hi sc hi'
      | _ => false
    | none => false
  | .rev a, sc, e => match vSub e with
    | some (a', i') => match vSlc i' with
      | some (none, none, some st) => chkE a sc a' && vRev st
      | _ => false
    | none => false
  | .call f es, sc, e => match vCall e with
    | some (x, as, []) => decide (G.fns[f]? = some x) && glB sc x && okNm x && chkEs es sc as && !as.isEmpty && noStars as
    | _ => false
  | .calld f es ds, sc, e => match vCall e with
    | some (x, as, []) => decide (G.fns[f]? = some x) && G.dfs x ds && glB sc x && okNm x && chkEs es sc as && !as.isEmpty && noStars as
    | _ => false
  | .callk f es ks, sc, e => match vCall e with
    | some (x, [], kws) => decide (G.fns[f]? = some x) && decide (G.pars[f]? = some ks) && glB sc x && okNm x && decide (kwNames kws = some ks) && chkEs es sc (kws.map kwVal)
    | _ => false
  | .callp f es ks pi, sc, e => match vCall e with
    | some (x, [], kws) => decide (G.fns[f]? = some x) && G.kws x ks pi && glB sc x && okNm x && decide (kwNames kws = some ks) && chkEs es sc (kws.map kwVal) && decide (es.length = ks.length) && pi.all fun i => decide (i < ks.length)
    | _ => false
  | .bi b es, sc, e => match vCall e with
    | some (x, as, []) => match b with
      | .gcd => decide ((x, "math.gcd") ∈ G.bfs) && glB sc x && okNm x && chkEs es sc as && !as.isEmpty && noStars as
      | .isi c => decide (x = ("isinstance" : Str)) && decide (x ∈ G.blts) && glB sc x && okNm x && decide (clsStr c ∈ G.blts) && glB sc (clsStr c) && okNm (clsStr c) && (match es, as with
        | [x1], [a1, a2] => chkE x1 sc a1 && decide (vName a2 = some (clsStr c)) && noStars [a1, a2]
        | _, _ => false)
      | .comb => decide (x = ("list" : Str)) && decide (x ∈ G.blts) && glB sc x && (match es, as with
        | [xa, xb], [a1] => match vCall a1 with
          | some (y, [a2, b2], []) => decide ((y, "itertools.combinations") ∈ G.tys) && glB sc y && okNm y && (match vCall a2 with
            | some (z, [a3], []) => decide (z = ("range" : Str)) && decide (z ∈ G.blts) && glB sc z && chkE xa sc a3 && chkE xb sc b2 && noStars [a3] && noStars [b2]
            | _ => false)
          | _ => false
        | _, _ => false)
      | _ => match biNm b with
        | some (y, _, _) => decide (x = y) && decide (x ∈ G.blts) && glB sc x && okNm x && chkEs es sc as && !as.isEmpty && noStars as
        | none => false
    | some (x, as, kw :: kws) => match b with
      | .maxd => decide (x = ("max" : Str)) && decide (x ∈ G.blts) && glB sc x && kwDef kw && kws.isEmpty && (match es, as with
        | [x1], [a1] => chkE x1 sc a1 && noStars [a1]
        | _, _ => false)
      | _ => false
    | _ => false
  | .mth m o es, sc, e => match vMeth e with
    | some (o', m', ap, as, [], p) => decide (m' = Str.ofString (mthNm m).1) && chkE o sc o' && chkEs es sc as && !as.isEmpty && noStars as && notCall0 o' && (ap.endLine == p.line) && decide (as.length < 29)
    | _ => false
  | .lc elt t it ifs, sc, e => match vLC e with
    | some (e', t', i', ifs', a, sc2, _) => decide (a = 0) && chkI it sc t' i' && notSet i' && blkC N sc sc2 (ownOf N t) && chkTc N (relS sc2 sc) t t' && chkE elt (relS sc2 sc) e' && chkEs ifs (relS sc2 sc) ifs' && decide (ifs.length ≤ 1)
    | none => false
  | .dc ke ve t it ifs, sc, e => match vDC e with
    | some (k', v', t', i', ifs', a, sc2, _) => decide (a = 0) && chkI it sc t' i' && notSet i' && blkC N sc sc2 (ownOf N t) && chkTc N (relS sc2 sc) t t' && chkE ke (relS sc2 sc) k' && chkE ve (relS sc2 sc) v' && chkEs ifs (relS sc2 sc) ifs' && decide (ifs.length ≤ 1)
    | none => false
  | .allg elt i it, sc, e => G.ga N elt i it sc e
def chkEs : List Ex → Scope → List Expr → Bool
  | [], _, as => as.isEmpty
  | x :: xs, sc, as => match as with
    | a :: as => chkE x sc a && chkEs xs sc as && !isStar a
    | [] => false
def chkO : Option Ex → Scope → Option Expr → Bool
  | none, _, a => a.isNone
  | some x, sc, a => match a with
    | some a => chkE x sc a
    | none => false
def chkI : Itx → Scope → Expr → Expr → Bool
  | .ex x, sc, _, e => chkE x sc e
  | .rng es, sc, _, e => match vCall e with
    | some (x, as, []) => decide (x = ("range" : Str)) && decide (x ∈ G.blts) && glB sc x && chkEs es sc as && noStars as && (decide (as.length = 1) || decide (as.length = 2))
    | _ => false
  | .zip a b, sc, tg, e => match vCall e with
    | some (x, [a', b'], []) => decide (x = ("zip" : Str)) && decide (x ∈ G.blts) && glB sc x && chkE a sc a' && chkE b sc b' && noStars [a', b'] && (vTuple tg).isSome
    | _ => false
  | .enum a k, sc, tg, e => match vCall e with
    | some (x, [a'], kws) => decide (x = ("enumerate" : Str)) && decide (x ∈ G.blts) && glB sc x && chkE a sc a' && noStars [a'] && (vTuple tg).isSome && kwStart k kws
    | _ => false
  | .items _, _, _, _ => false
  | .vals _, _, _, _ => false
  | .keys x, sc, _, e => chkE x sc e
end
end
end DD
namespace DD
open PySem PySem.Spec PyProof.Rows L2
variable [Tabs]
section
variable {X : Cx} {F : Fns}
theorem zipD_len (xs ys : List D) : (zipD xs ys).length = min xs.length ys.length := by
  unfold zipD
  rw [List.length_map, List.length_zip]
theorem zipD_at {xs ys : List D} {i : Nat} {x y : D} (hx : xs[i]? = some x) (hy : ys[i]? = some y) : (zipD xs ys)[i]? = some (.tup [x, y]) := by
  unfold zipD
  have h : (xs.zip ys)[i]? = some (x, y) := List.getElem?_zip_eq_some.mpr ⟨hx, hy⟩
  rw [List.getElem?_map, h]
  rfl
theorem walk_zT {K : PySem.W.Frag} {w : World} {u : Vw} {a b : Addr} {xs ys : List D} {vs ws : List V} (ha : SqT K u.H a vs) (hb : SqT K u.H b ws) (rx : RDs K u xs vs) (ry : RDs K u ys ws) : WalkD K w (RZ.ItzT K a b) (zipD xs ys) (fun _ => true) u := by
  refine ⟨fun H => SqT K H a vs ∧ SqT K H b ws, YPair (fun i => vs[i]?) (fun i => ws[i]?), ⟨fun i H hi q => ?_, fun H q => ?_, fun i H x H' hi q y => ?_⟩, fun u1 M1 E W1 _ => ⟨E.tups _ _ ha, E.tups _ _ hb⟩, fun i x H' u1 M1 hi E W1 _ y => ?_⟩
  · rw [zipD_len, rx.length, ry.length] at hi
    exact ⟨vs, ws, vs[i]'(by omega), ws[i]'(by omega), q.1, q.2, by simp [show i < vs.length by omega], by simp [show i < ws.length by omega]⟩
  · refine ⟨vs, ws, q.1, q.2, ?_⟩
    rw [zipD_len, rx.length, ry.length]
    omega
  · obtain ⟨T, x', y', e, n, e2, h1, h2⟩ := y
    exact ⟨T, x', y', e, n, e2, h1 vs q.1, h2 ws q.2⟩
  · obtain ⟨T, x', y', rfl, n, rfl, h1, h2⟩ := y
    obtain ⟨d1, p1, q1⟩ := (rx.mono E).getV h1
    obtain ⟨d2, p2, q2⟩ := (ry.mono E).getV h2
    obtain ⟨E2, W2⟩ := W1.tup (o := .tup [x', y']) n
    exact ⟨_, rfl, E2, W2, _, zipD_at p1 p2, .tup (SqT.of upd_same) (.cons (q1.mono E2) (.cons (q2.mono E2) .nil))⟩
theorem di_zip {a b : Expr} {p pos tpos : Pos} {elts : List Expr} {kk : Nat} {x y : Ex} (hg : Gl X "zip") (hm : X.mg "zip" = none) (ha : DA X [a, b] (evEs F [x, y])) (hst : noStars [a, b] = true) :
    PI X (.Tuple elts kk tpos) (.Call (.Name "zip" p) [a, b] [] pos) (tID X.K X.w (evI F (.zip x y))) := by
  simp only [noStars, Bool.and_eq_true, Bool.not_eq_true', and_true] at hst
  refine piBy fun σ H R ⟨u, M, δ, eH, W, S, zs, ok, M', e, q⟩ => ?_
  rw [evI] at e
  split at e
  · rename_i dx M1 e1
    split at e
    · rename_i dy M2 e2
      have e3 : evEs F [x, y] δ M = some ([dx, dy], M2) := by
        rw [evEs, e1]
        simp only
        rw [evEs, e2]
        simp only
        rw [evEs]
      split at e
      · rename_i xs ys
        cases e
        refine ⟨_, RZ.pi_zipA hg hm ha (star_cons hst.1) (by rw [star_cons hst.2]; rfl), u, M, δ, eH, W, S, _, _, e3, fun u1 vs E1 W1 r1 => ?_⟩
        obtain ⟨v, v', rfl, rv, rv'⟩ := rds2 r1
        cases rv with
        | @tup _ va aa ha ra =>
        cases rv' with
        | @tup _ vb bb hb rb =>
        exact ⟨aa, bb, va, vb, rfl, .inr ⟨ha, hb, q u1 _ E1 W1 (walk_zT ha hb ra rb)⟩⟩
      · cases e
    · cases e
  · cases e
/-! ### t[::-1] of a tuple -/
end
end DD
namespace DD
open PySem PySem.Spec PyProof.Rows L2
variable [Tabs]
/-! ### enumerate of a tuple -/
theorem meets_enum1 {v : Value} {o : Obj} {H : Heap → Prop} (B : Begins v o H) :
    Meets (Builtin.«enumerate.__new__» ⟨[.type "enumerate", v], []⟩) (fun _ R s => H s.heap ∧
      R (.ok (.ret (.ref (s.heap.push o).objs.size))) { s with heap := (s.heap.push o).push { cls := .type "enumerate", data := .fields #[.none, .bool false, .ref s.heap.objs.size, rawInt 0, .none, .none] } }) :=
  .of_wp fun prog w A R s h => by
    obtain ⟨hp, g, d, tk, os⟩ := s; obtain ⟨h1, h⟩ := h
    have hsub := sub_enumerate
    have q1 : ∀ {A' : Around} {E : Value → Shared → Prop} {Q : Value → Shared → Prop}, Q (.ref hp.objs.size) ⟨hp.push o, g, d, tk, os⟩ → wpAny (model prog w) A' (pyIter v) Q E ⟨hp, g, d, tk, os⟩ :=
      fun q => B.iter prog w _ _ ⟨hp, g, d, tk, os⟩ _ h1 q
    wp_walk using q1
    refine wpAny_stack_any fun st => wpAny_pure ?_
    split
    · rename_i c _ _ _ _ _
      cases (c == Value.type "enumerate")
      · wp_walk using q1
        exact ⟨_, rfl, h⟩
      · wp_walk using q1
        exact ⟨_, rfl, h⟩
    · wp_walk using q1
      exact ⟨_, rfl, h⟩
section
variable {prog : Program} {w : World} {A : Around} {E : Value → Shared → Prop} {s : Shared}
theorem enum_begins1 {v : Value} {o : Obj} {H : Heap → Prop} {Q : Value → Shared → Prop} (B : Begins v o H) (h1 : H s.heap)
    (h : ∀ h', IsEnum h' (s.heap.objs.size + 1) s.heap.objs.size 0 .none → h'.get? s.heap.objs.size = some o → h'.objs.size = s.heap.objs.size + 2 →
      (∀ b o, s.heap.get? b = some o → h'.get? b = some o) → Q (.ref (s.heap.objs.size + 1)) { s with heap := h' }) :
    wpAny (model prog w) A (call (.type "enumerate") [v]) Q E s := by
  refine callType_new F.called_enumerate (by decide) (F.typeCall_enumerate_1 _) (F.newCall_enumerate_1 _) (fun obj => F.args_object_init_2 obj _) F.entry_enumerate_new
    (meets_enum1 B) ⟨h1, ?_⟩
  have hz : (s.heap.push o).objs.size = s.heap.objs.size + 1 := Heap.size_push ..
  show _ ∧ _
  rw [hz]
  have he : IsEnum ((s.heap.push o).push { cls := .type "enumerate", data := .fields #[.none, .bool false, .ref s.heap.objs.size, rawInt 0, .none, .none] }) (s.heap.objs.size + 1) s.heap.objs.size 0 .none := by
    have := Heap.get?_push_size (s.heap.push o) (o := { cls := .type "enumerate", data := .fields #[.none, .bool false, .ref s.heap.objs.size, rawInt 0, .none, .none] }) rfl
    rw [hz] at this; exact this
  refine ⟨⟨_, he, rfl⟩, h _ he (Heap.get?_push_of_some _ (Heap.get?_push_size _ B.free)) (by rw [Heap.size_push, hz]) fun b o x => Heap.get?_push_of_some _ (Heap.get?_push_of_some _ x)⟩
theorem callWith_typeKw {M : Model} {pos : Pos} {T : String} {e : Expr} {rest : List Expr} {kws : List Keyword} {env : PySem.Env} {Q : Value → Shared → Prop}
    (h : wpAny M A (spliced (backTo pos (starEach (e :: rest) env))) (fun vs s₁ => wpAny M A (evalAll ((backToKw pos (keywordEach kws env)).map (·.2)))
      (fun kvs s₂ => wpAny M A (call (.type T) vs (((backToKw pos (keywordEach kws env)).filterMap (·.1)).zip kvs)) Q E s₂) E s₁) E s)
    (he : backTo pos (starEach (e :: rest) env) = (false, eval e env) :: backTo pos (starEach rest env))
    (hplain : (backTo pos (starEach (e :: rest) env)).any (·.1) = false)
    (hall : (backToKw pos (keywordEach kws env)).all (·.1.isSome) = true)
    (hkw : (backToKw pos (keywordEach kws env)).any (·.1.isNone) = false) :
    wpAny M A (callWith pos (.type T) [] (backTo pos (starEach (e :: rest) env)) (backToKw pos (keywordEach kws env))) Q E s := by
  have h2 : wpAny M A (evalArgs (.type T) true (backTo pos (starEach (e :: rest) env)) (backToKw pos (keywordEach kws env))) (fun a s₁ => wpAny M A (call (.type T) ([] ++ a.pos) a.kw) Q E s₁) E s := by
    rw [he] at h ⊢
    exact evalArgs_kwB hall h
  unfold callWith
  refine wpAny_bind (wpAny_holding (wpAny_mono h2 (fun a s₁ h₁ => wpAny_bind (wpAny_standAt ?_)) fun _ _ x => x))
  simp only [hplain, hkw, Bool.or_false]
  refine wpAny_bind (wpAny_pure ?_)
  exact wpAny_bind (wpAny_mono h₁ (fun r s₂ hr => wpAny_bind (wpAny_holding (wpAny_point (wpAny_pure hr)))) fun _ _ x => x)
end
theorem draws_end {prog : Program} {w : World} {A : Around} (hh : A.handled = none) (it t : Addr) (items : Array Value) {i : Nat} (hi : items[i]? = none) :
    Draws prog w A it [it, t] i (fun _ _ => True) (fun j h => j = i ∧ h.IsTupleIter it t i ∧ h.IsTuple t items) where
  live := fun _ _ st => let ⟨o, ho, _⟩ := st.2.1; ⟨o, ho⟩
  frame := fun _ _ _ st hk => ⟨st.1, st.2.1.at fun o e => hk it (by simp) o e, st.2.2.at fun o e => hk t (by simp) o e⟩
  item := fun j s Q E hj st hQ => absurd st.1 (by omega)
  done := fun s Q E st hE => wpAny_nextOf_tuple_end hh st.2.1 st.2.2 hi hE
/-- the tuple at a, each item in a new pair behind a count from c -/
def IteT (K : PySem.W.Frag) (a : Addr) (c : Int) : It :=
  ⟨fun i H => ∃ (xs : List V) (x : V), SqT K H a xs ∧ xs[i]? = some x, fun i H v H' => ∃ T x, v = .ref T ∧ H T = none ∧ H' = upd H T (.tup [.int (c + (i : Int)), x]) ∧ ∀ xs, SqT K H a xs → xs[i]? = some x, fun i H => ∃ xs : List V, SqT K H a xs ∧ xs.length ≤ i⟩
theorem turn_enumT {P : Program} {w : World} {K : PySem.W.Frag} {elts : List Expr} {kk : Nat} {tpos : Pos} (a e it : Addr) (c : Int) (hat : a ≠ it) :
    Turn P w K (.Tuple elts kk tpos) (IteT K a c) [e, it] e (fun i h => (∃ old, IsEnum h e it (c + (i : Int)) old) ∧ h.IsTupleIter it a i ∧ e ≠ it ∧ e ≠ a) where
  mem := by simp
  obj := fun i h st b hb => by
    obtain ⟨⟨old, he⟩, ⟨o, ho, hc, hd⟩, _⟩ := st
    have e' : b = e ∨ b = it := by simpa using hb
    rcases e' with z | z
    · rw [z]; exact ⟨_, he, fun v q => nomatch q⟩
    · rw [z]; exact ⟨o, ho, fun v q => by rw [hd] at q; cases q⟩
  keep := fun i h h' st k => let ⟨⟨old, he⟩, hi, hne, hea⟩ := st; ⟨⟨old, k e (by simp) _ he⟩, hi.at fun o q => k it (by simp) o q, hne, hea⟩
  item := by
    intro X hP hw hK hc i pins s σ H E I hf st hg
    subst hP hw hK
    obtain ⟨⟨old, he⟩, hit, hne, hea⟩ := st
    obtain ⟨xs, x, hq, hx⟩ := hg
    obtain ⟨its, rv, p, hz⟩ := I.tuple hq
    obtain ⟨u, hu, ru⟩ := rv.get hx
    have hel : e < s.heap.objs.size := Heap.lt_size he
    have hil : it < s.heap.objs.size := by obtain ⟨_, q, _⟩ := hit; exact Heap.lt_size q
    have hi : i < its.toArray.size := by
      have := (List.getElem?_eq_some_iff.mp hx).1
      have := rv.length
      simp; omega
    have D := Draws.tuple (prog := X.prog) (w := X.w) (A := X.A.in1) (I.ok.hd hc) it a hat its.toArray
    refine wpAny_pyNext_enum_itemC (c := c + (i : Int)) D he ⟨hit, p⟩ hi hne (by simp [hne, hea]) fun x' h' tk hPx ho hst' hT hsz hk => ?_
    have hxu : x' = u := by
      have h1 : its[i]? = some u := hu
      have h2 : its.toArray[i]? = some x' := hPx
      rw [List.getElem?_toArray, h1] at h2
      exact (Option.some.inj h2).symm
    subst hxu
    refine ⟨_, rfl, wpAny_letOwnedTupleGo_enum (s := { s with heap := h', toks := tk + 1 }) ho fun h'' he' sb => ?_⟩
    have hT2 : h''.get? s.heap.objs.size = some { cls := .type "tuple", data := .seq #[.int (c + (i : Int)) tk, x'] } := (sb.2 _ (Nat.ne_of_gt hel)).trans hT
    have new : ObjOk X.prog X.w (upd H s.heap.objs.size (.tup [.int (c + (i : Int)), x])) h'' s.heap.objs.size (.tup [.int (c + (i : Int)), x]) :=
      ⟨by show 2 ≤ sizeLine; decide, [.int (c + (i : Int)) tk, x'], .cons ⟨_, rfl⟩ (.cons ru .nil), ⟨_, hT2, rfl, _, rfl⟩⟩
    have I1 : Inv X pins σ (upd H s.heap.objs.size (.tup [.int (c + (i : Int)), x])) { s with heap := h'', toks := tk + 1 } :=
      I.turnedNew (ch := [e, it]) (fun b ob hb q => (sb.2 b (fun z => hb (by simp [z]))).trans (hk b ob (fun z => hb (by simp [z])) (fun z => hb (by simp [z])) q)) hf (Nat.le_refl _) new
    refine ⟨.ref s.heap.objs.size, _, I1, rfl, ⟨_, x, rfl, I.hok.fresh (Nat.le_refl _), rfl, fun ys hy => by rw [I.tuple_inj hy hq]; exact hx⟩, ⟨⟨x', ?_⟩, hst'.1.at fun o q => (sb.2 it (Ne.symm hne)).trans q, hne, hea⟩, fun b hb => ?_⟩
    · have e1 : c + ((i + 1 : Nat) : Int) = c + (i : Int) + 1 := by omega
      rw [e1]; exact he'
    · have hb' : b < s.heap.objs.size := by
        have e' : b = e ∨ b = it := by simpa using hb
        rcases e' with z | z
        · rw [z]; exact hel
        · rw [z]; exact hil
      rw [upd_ne (Nat.ne_of_lt hb')]
      exact (hf b hb).1
  done := by
    intro X hP hw hK hc i pins s σ H E I hf st hg
    subst hP hw hK
    obtain ⟨⟨old, he⟩, hit, hne, hea⟩ := st
    obtain ⟨xs, hq, hx⟩ := hg
    obtain ⟨its, rv, p, hz⟩ := I.tuple hq
    obtain ⟨f0, f1, f2, f3, f4, f5⟩ := hf it (by simp)
    have hl := rv.length
    have D := draws_end (prog := X.prog) (w := X.w) (A := X.A.in1) (I.ok.hd hc) it a its.toArray (i := i) (by simp; omega)
    exact wpAny_pyNext_enum_endD (n := i) D he ⟨rfl, hit, p⟩ fun h' eb => ⟨rfl, I.turned (t' := s.toks) (fun b o hb q => eb b o hb q) f0 f1 f3 f4 f5⟩
  self := fun A i s Q E st h => let ⟨⟨_, he⟩, _⟩ := st; wpAny_pyIter_enum he h
def iEnumT (K : PySem.W.Frag) (c : Int) (ta : TA) : TI := fun σ H R => ta σ H fun vs H1 => ∃ a xs, vs = [.ref a] ∧ SqT K H1 a xs ∧ R (IteT K a c) H1
theorem enum_end {X : Cx} {pins : List (Addr × Obj)} {σ : L2.St} {H1 : Hp} {s1 : Shared} {a : Addr} {its : List Value} {c : Int} {elts : List Expr} {kk : Nat} {tpos : Pos} {R : It → Hp → Prop} {h' : Heap} (I1 : Inv X pins σ H1 s1) (p' : s1.heap.IsTuple a its.toArray) (he : IsEnum h' (s1.heap.objs.size + 1) s1.heap.objs.size c .none)
    (ho : h'.get? s1.heap.objs.size = some { cls := .type "tuple_iterator", data := .fields #[.ref a, .int 0 0] }) (hk : ∀ b o, s1.heap.get? b = some o → h'.get? b = some o) (q : R (IteT X.K a c) H1) :
    wpAny (model X.prog X.w) X.A (pyIter (.ref (s1.heap.objs.size + 1))) (PIE X pins σ (.Tuple elts kk tpos) R) X.xe { s1 with heap := h' } := by
  refine wpAny_pyIter_enum he ?_
  have I2 : Inv X pins σ H1 { s1 with heap := h' } := I1.kept (t' := s1.toks) hk
  have hal : a < s1.heap.objs.size := by obtain ⟨o, q, _⟩ := p'; exact Heap.lt_size q
  refine ⟨s1.heap.objs.size + 1, [s1.heap.objs.size + 1, s1.heap.objs.size], _, _, H1, rfl, I2, turn_enumT a (s1.heap.objs.size + 1) s1.heap.objs.size c (Nat.ne_of_lt hal), ⟨⟨.none, by simpa using he⟩, ⟨_, ho, rfl, rfl⟩, Nat.succ_ne_self _, Nat.ne_of_gt (Nat.lt_succ_of_lt hal)⟩, fun b hb => ?_, q⟩
  have e' : b = s1.heap.objs.size + 1 ∨ b = s1.heap.objs.size := by simpa using hb
  have hle : s1.heap.objs.size ≤ b := by
    rcases e' with z | z
    · rw [z]; exact Nat.le_add_right _ _
    · rw [z]; exact Nat.le_refl _
  exact I1.fpOk hle (I1.hok.fresh hle)
theorem pi_enumT {X : Cx} {e : Expr} {ta : TA} {p pos tpos : Pos} {elts : List Expr} {kk : Nat} (hg : Gl X "enumerate") (hm : X.mg "enumerate" = none) (ha : PA X [e] ta) (hs : starEach [e] X.env = [(false, eval e X.env)]) :
    PI X (.Tuple elts kk tpos) (.Call (.Name "enumerate" p) [e] [] pos) (iEnumT X.K 0 ta) := by
  refine ⟨fun pins s σ H R I h => ?_⟩
  refine Call_ (ld_blt I hg hm boot_enumerate (PyProof.Rows.callWith_type1 (thn (ha.run pos pins s σ H _ I h) fun us s1 ⟨vs, H1, I1, r1, q1⟩ => ?_) hs rfl))
  obtain ⟨a, xs, ex, hq, q⟩ := q1
  subst ex
  cases r1 with
  | cons r rr =>
    cases rr
    cases r
    obtain ⟨its, rv, p', hz⟩ := I1.tuple hq
    exact enum_begins1 (begins_tuple a its.toArray) p' fun h' he ho hsz hk => enum_end I1 p' he ho hk q
theorem pi_enumS {X : Cx} {e : Expr} {ta : TA} {p pos tpos pk pn : Pos} {elts : List Expr} {kk kq : Nat} {c : Int} (hc0 : -(2 ^ 63) ≤ c) (hc1 : c < 2 ^ 63) (hg : Gl X "enumerate") (hm : X.mg "enumerate" = none) (ha : PA X [e] ta) (he : backTo pos (starEach [e] X.env) = (false, eval e X.env) :: backTo pos (starEach [] X.env)) (hpl : (backTo pos (starEach [e] X.env)).any (·.1) = false) :
    PI X (.Tuple elts kk tpos) (.Call (.Name "enumerate" p) [e] [⟨some (Str.ofString "start"), .Constant (.int c) kq pk, pn⟩] pos) (iEnumT X.K c ta) := by
  refine ⟨fun pins s σ H R I h => ?_⟩
  have hk : PK X [⟨some (Str.ofString "start"), .Constant (.int c) kq pk, pn⟩] (tCons (tC (.int c)) tNil) := pk_cons pe_int pk_nil
  refine wpAny_Call_Name_kw (ld_blt I hg hm boot_enumerate ?_)
  refine callWith_typeKw (thn (ha.run pos pins s σ H _ I h) fun us s1 ⟨vs, H1, I1, r1, q1⟩ => ?_) he hpl rfl rfl
  obtain ⟨a, xs, ex, hq, q⟩ := q1
  subst ex
  cases r1 with
  | cons r rr =>
    cases rr
    cases r
    refine thn (hk.run pos pins s1 σ H1 (fun zs H2 => zs = [.int c] ∧ H2 = H1) I1 ⟨rfl, rfl⟩) fun ws s2 ⟨zs, H2, I2, r2, ez, eH⟩ => ?_
    subst ez eH
    obtain ⟨w0, rfl, rw0⟩ := vals1 r2
    obtain ⟨tk, rfl⟩ := rw0
    obtain ⟨its, rv, p', hz⟩ := I2.tuple hq
    exact enum_begins_start (begins_tuple a its.toArray) p' hc0 hc1 fun h' he ho hsz hk => enum_end I2 p' he ho hk q
section
variable {X : Cx} {F : Fns}
theorem enumD_len (xs : List D) (c : Int) : (enumD xs c).length = xs.length := by
  unfold enumD
  rw [List.length_map, List.length_zip, List.length_range, Nat.min_self]
theorem enumD_at {xs : List D} {c : Int} {i : Nat} {x : D} (hx : xs[i]? = some x) : (enumD xs c)[i]? = some (.tup [.int (c + (i : Int)), x]) := by
  unfold enumD
  have hi : i < xs.length := (List.getElem?_eq_some_iff.mp hx).1
  have h : ((List.range xs.length).zip xs)[i]? = some (i, x) := List.getElem?_zip_eq_some.mpr ⟨by simp [hi], hx⟩
  rw [List.getElem?_map, h]
  rfl
theorem walk_eT {K : PySem.W.Frag} {w : World} {u : Vw} {a : Addr} {xs : List D} {vs : List V} {c : Int} (ha : SqT K u.H a vs) (rx : RDs K u xs vs) : WalkD K w (IteT K a c) (enumD xs c) (fun _ => true) u := by
  refine ⟨fun H => SqT K H a vs, fun i H v H' => ∃ T x, v = .ref T ∧ H T = none ∧ H' = upd H T (.tup [.int (c + (i : Int)), x]) ∧ ∀ ys, SqT K H a ys → ys[i]? = some x, ⟨fun i H hi q => ?_, fun H q => ?_, fun i H x H' hi q y => y⟩, fun u1 M1 E W1 _ => E.tups _ _ ha, fun i x H' u1 M1 hi E W1 _ y => ?_⟩
  · rw [enumD_len, rx.length] at hi
    exact ⟨vs, vs[i]'hi, q, by simp [hi]⟩
  · exact ⟨vs, q, by rw [enumD_len, rx.length]; exact Nat.le_refl _⟩
  · obtain ⟨T, x', rfl, n, rfl, h1⟩ := y
    obtain ⟨d1, p1, q1⟩ := (rx.mono E).getV (h1 vs (E.tups _ _ ha))
    obtain ⟨E2, W2⟩ := W1.tup (o := .tup [.int (c + (i : Int)), x']) n
    exact ⟨_, rfl, E2, W2, _, enumD_at p1, .tup (SqT.of upd_same) (.cons (.int _) (.cons (q1.mono E2) .nil))⟩
theorem di_enum {a : Expr} {p pos tpos : Pos} {elts : List Expr} {kk : Nat} {x : Ex} (hg : Gl X "enumerate") (hm : X.mg "enumerate" = none) (ha : DA X [a] (evEs F [x])) (hst : noStars [a] = true) :
    PI X (.Tuple elts kk tpos) (.Call (.Name "enumerate" p) [a] [] pos) (tID X.K X.w (evI F (.enum x 0))) := by
  simp only [noStars, Bool.and_eq_true, Bool.not_eq_true', and_true] at hst
  refine piBy fun σ H R ⟨u, M, δ, eH, W, S, zs, ok, M', e, q⟩ => ?_
  rw [evI] at e
  split at e
  · rename_i dx M1 e1
    have e3 : evEs F [x] δ M = some ([dx], M1) := by
      rw [evEs, e1]
      simp only
      rw [evEs]
    split at e
    · rename_i xs
      cases e
      refine ⟨_, pi_enumT hg hm ha (star_cons hst), u, M, δ, eH, W, S, _, _, e3, fun u1 vs E1 W1 r1 => ?_⟩
      obtain ⟨v, rfl, rv⟩ := rds1 r1
      cases rv with
      | @tup _ va aa ha ra =>
      exact ⟨aa, va, rfl, ha, q u1 _ E1 W1 (walk_eT ha ra)⟩
    · cases e
  · cases e
theorem di_enumS {a : Expr} {p pos tpos pk pn : Pos} {elts : List Expr} {kk kq : Nat} {c : Int} {x : Ex} (hc0 : -(2 ^ 63) ≤ c) (hc1 : c < 2 ^ 63) (hg : Gl X "enumerate") (hm : X.mg "enumerate" = none) (ha : DA X [a] (evEs F [x])) (hst : noStars [a] = true) :
    PI X (.Tuple elts kk tpos) (.Call (.Name "enumerate" p) [a] [⟨some (Str.ofString "start"), .Constant (.int c) kq pk, pn⟩] pos) (tID X.K X.w (evI F (.enum x c))) := by
  simp only [noStars, Bool.and_eq_true, Bool.not_eq_true', and_true] at hst
  refine piBy fun σ H R ⟨u, M, δ, eH, W, S, zs, ok, M', e, q⟩ => ?_
  rw [evI] at e
  split at e
  · rename_i dx M1 e1
    have e3 : evEs F [x] δ M = some ([dx], M1) := by
      rw [evEs, e1]
      simp only
      rw [evEs]
    split at e
    · rename_i xs
      cases e
      refine ⟨_, pi_enumS hc0 hc1 hg hm ha (by rw [star_cons hst]; rfl) (by rw [star_cons hst]; rfl), u, M, δ, eH, W, S, _, _, e3, fun u1 vs E1 W1 r1 => ?_⟩
      obtain ⟨v, rfl, rv⟩ := rds1 r1
      cases rv with
      | @tup _ va aa ha ra =>
      exact ⟨aa, va, rfl, ha, q u1 _ E1 W1 (walk_eT ha ra)⟩
    · cases e
  · cases e
end
end DD
namespace DD
open PySem PySem.Spec PyProof.Rows L2
variable [Tabs]
/-! ### t[::-1] of a tuple -/
section
variable {prog : Program} {w : World} {A : Around} {E : Value → Shared → Prop} {s : Shared}
theorem rev_places (n : Nat) : Builtin.Slice.sliceAdjust none none (-1) (n : Int) = ((n : Int) - 1, -1) ∧ Builtin.Slice.slicePlaces ((n : Int) - 1) (-1) (-1) = n := by
  refine ⟨?_, ?_⟩
  · simp [Builtin.Slice.sliceAdjust]
  · unfold Builtin.Slice.slicePlaces
    simp
    omega
theorem slice_rev {sl : Addr} {vl vu vs : Value} {n : Nat} {Q : Int × Int × Nat → Shared → Prop} (hs : s.heap.IsSliceOf sl vl vu vs) (pl : IsPart vl none) (pu : IsPart vu none) (ps : IsPart vs (some (-1))) (h : Q ((n : Int) - 1, -1, n) s) :
    wpAny (model prog w) A (Builtin.Slice.sliceApplied (.ref sl) (pure (n : Int))) Q E s := by
  obtain ⟨so, h1, h2, h3⟩ := id hs
  obtain ⟨e1, e2⟩ := rev_places n
  unfold Builtin.Slice.sliceApplied Builtin.Slice.sliceFields
  refine wpAny_bind (wpAny_bind (wpAny_field h1 h3 (x := vl) rfl (wpAny_bind (wpAny_field h1 h3 (x := vu) rfl (wpAny_bind (wpAny_field h1 h3 (x := vs) rfl (wpAny_pure (wpAny_bind (HT.slicePart_ ps ?_)))))))))
  show wpAny _ _ (if ((-1 : Int) == 0) = true then _ else _) _ _ s
  rw [if_neg (by decide)]
  refine wpAny_bind (HT.slicePart_ pl (wpAny_bind (HT.slicePart_ pu (wpAny_bind (wpAny_pure ?_)))))
  show wpAny _ _ (match Builtin.Slice.sliceAdjust none none (-1) (n : Int) with | (lo, hi) => pure (lo, (-1 : Int), Builtin.Slice.slicePlaces lo hi (-1))) _ _ s
  rw [e1]
  show wpAny _ _ (pure ((n : Int) - 1, (-1 : Int), Builtin.Slice.slicePlaces ((n : Int) - 1) (-1) (-1))) _ _ s
  rw [e2]
  exact wpAny_pure h
theorem filterMap_same {α β : Type} {f g : α → Option β} : ∀ {l : List α}, (∀ m ∈ l, f m = g m) → l.filterMap f = l.filterMap g
  | [], _ => rfl
  | a :: l, h => by
    rw [List.filterMap_cons, List.filterMap_cons, h a List.mem_cons_self, filterMap_same fun m hm => h m (List.mem_cons_of_mem _ hm)]
theorem rev_pick (xs : Array Value) : ((List.range xs.size).filterMap fun (m : Nat) => xs[(((xs.size : Nat) : Int) - 1 + (m : Int) * (-1)).toNat]?).toArray = xs.toList.reverse.toArray := by
  congr 1
  have e : (List.range xs.size).filterMap (fun (m : Nat) => xs[(((xs.size : Nat) : Int) - 1 + (m : Int) * (-1)).toNat]?) = ((List.range xs.size).map fun k => xs.size - 1 - k).filterMap (xs[·]?) := by
    rw [List.filterMap_map]
    refine filterMap_same fun m hm => ?_
    have hm := List.mem_range.mp hm
    have : (((xs.size : Nat) : Int) - 1 + (m : Int) * (-1)).toNat = xs.size - 1 - m := by omega
    simp only [Function.comp, this]
  rw [e, PySem.W.krv_range, List.filterMap_reverse, PySem.W.krv_all]
theorem tuple_rev {t sl : Addr} {items : Array Value} {vl vu vs : Value} {Q : Value → Shared → Prop} (ht : IsTup s.heap t items) (hs : s.heap.IsSliceOf sl vl vu vs) (pl : IsPart vl none) (pu : IsPart vu none) (ps : IsPart vs (some (-1)))
    (h : Q (.ref s.heap.objs.size) { s with heap := s.heap.push { cls := .type "tuple", data := .seq items.toList.reverse.toArray } }) (hz : items.size ≤ sizeLine) : wpAny (model prog w) A (getItem (.ref t) (.ref sl)) Q E s := by
  have fits : sizeOk (.seq items.toList.reverse.toArray) := by
    show items.toList.reverse.toArray.size ≤ sizeLine
    simpa using hz
  have sT : s.TypeIs (.ref sl) "slice" := let ⟨so, h1, h2, _⟩ := hs; ⟨so, h1, h2⟩
  have no : ¬ ((((items.size : Nat) : Int) - 1 == 0 && (-1 : Int) == 1 && items.size == items.size) = true) := by simp
  unfold getItem
  try with_reducible refine wpAny_holding ?_
  first | refine wpAny_bind (wpAny_pure ?_) | skip
  refine wpAny_bind (wpAny_sequenceKey ht.typeIs (by decide) (wpAny_bind (wpAny_callSpecial?_slot (name := Str.ofString "__getitem__") ht.typeIs PyProof.Rows.slot_tuple_getitem (wpAny_call_entry PyProof.Rows.slot_tuple_getitem ht.typeIs entry_tuple_getitem ?_ (args_tuple_getitem _ _)))))
  show wpAny _ _ (Builtin.Tuple.tupleItemsOf (.ref t) >>= _) _ _ s
  refine wpAny_bind (tupleItemsOf_ ht (wpAny_bind (wpAny_typeOf sT ?_)))
  rw [if_pos (by decide)]
  refine wpAny_bind (slice_rev hs pl pu ps ?_)
  show wpAny _ _ (if (((items.size : Nat) : Int) - 1 == 0 && (-1 : Int) == 1 && items.size == items.size) = true then _ else _) _ _ s
  rw [if_neg no, rev_pick]
  first
    | exact wpAny_bind (m := Builtin.Tuple.tupleExact _) (wpAny_newObj_type (wpAny_pure ⟨_, rfl, wpAny_pure h⟩) fits)
    | exact wpAny_bind (m := Builtin.Tuple.tupleExact _) (wpAny_newObj_type (wpAny_bind (wpAny_pure (wpAny_pure ⟨_, rfl, wpAny_pure h⟩))) fits)
    | exact wpAny_bind (wpAny_bind (m := Builtin.Tuple.tupleExact _) (wpAny_newObj_type (wpAny_pure (wpAny_pure ⟨_, rfl, wpAny_pure h⟩)) fits))
    | exact wpAny_bind (wpAny_bind (m := Builtin.Tuple.tupleExact _) (wpAny_newObj_type (wpAny_pure ⟨_, rfl, wpAny_pure h⟩) fits))
end
section
variable {X : Cx} {F : Fns}
def tRevT (K : PySem.W.Frag) (te : TE) : TE := fun σ H Q => te σ H fun x H1 => ∃ a xs, x = .ref a ∧ SqT K H1 a xs ∧ ∀ p, H1 p = none → Q (.ref p) (upd H1 p (.tup xs.reverse))
theorem pe_revT {e : Expr} {te : TE} {k : Nat} {p1 p2 p3 pos : Pos} (he : PE X e te) : PE X (.Subscript e (.Slice none none (some (.UnaryOp .USub (.Constant (.int 1) k p1) p2)) p3) pos) (tRevT X.K te) := ⟨fun pins s σ H Q I h => by
  refine Subscript_ (thn (he.run pins s σ H _ I h) fun v s1 ⟨x, H1, I1, r1, a, xs, ex, hx, q⟩ => ?_)
  subst ex
  cases r1
  have hst : PO X (some (.UnaryOp .USub (.Constant (.int 1) k p1) p2)) (tPart (tUn (rU fun i => .int (-i)) (tC (.int 1)))) := po_some (pe_un un_neg pe_int)
  refine wpAny_Slice (thn (po_none.run pins s1 σ H1 (fun o H2 => o = none ∧ H2 = H1) I1 ⟨rfl, rfl⟩) fun vl s2 ⟨l, H2, I2, pl, el, e2⟩ => ?_)
  subst el e2
  refine thn (po_none.run pins s2 σ H2 (fun o H3 => o = none ∧ H3 = H2) I2 ⟨rfl, rfl⟩) fun vu s3 ⟨u, H3, I3, pu, eu, e3⟩ => ?_
  subst eu e3
  refine thn (hst.run pins s3 σ H3 (fun o H4 => o = some (-1) ∧ H4 = H3) I3 ⟨1, rfl, -1, rfl, rfl, rfl⟩) fun vs s4 ⟨o, H4, I4, ps, eo, e4⟩ => ?_
  subst eo e4
  have I5 := I4.kept (h' := s4.heap.push { cls := .type "slice", data := .fields #[vl, vu, vs] }) (t' := s4.toks) fun b ob q => Heap.get?_push_of_some _ q
  obtain ⟨its, r, ht, hz⟩ := I5.tuple hx
  have hlen := r.length
  refine tail_any (ops := [.ref a, .ref s4.heap.objs.size]) ht.typeIs (PyProof.Rows.slot_tuple_getitem.lookup) (tuple_rev ht (Heap.IsSliceOf.new _ vl vu vs) pl pu ps ?_ (by rw [List.size_toArray]; omega)) (by with_unfolding_all rfl)
  exact ⟨.ref _, _, I5.laid (t' := s4.toks) (o := .tup xs.reverse) (fun b ob q => Heap.get?_push_of_some _ q) (Nat.le_refl _) ⟨by rw [List.length_reverse]; exact hz, its.reverse, r.reverse, by simpa using IsTup.new (s4.heap.push { cls := .type "slice", data := .fields #[vl, vu, vs] }) its.reverse.toArray⟩, rfl, q _ (I5.hok.fresh (Nat.le_refl _))⟩⟩
theorem de_rev {e : Expr} {x : Ex} {k : Nat} {p1 p2 p3 pos : Pos} (h : DE X e (evE F x)) : DE X (.Subscript e (.Slice none none (some (.UnaryOp .USub (.Constant (.int 1) k p1) p2)) p3) pos) (evE F (.rev x)) :=
  peBy fun σ H Q ⟨u, M, δ, eH, W, S, d, M', e, fin⟩ => ⟨_, pe_revT h, by
    rw [evE] at e
    split at e
    · rename_i y M1 e1
      obtain ⟨d', e2, e3⟩ := Option.map_eq_some_iff.mp e
      cases e3
      refine ⟨u, M, δ, eH, W, S, y, _, e1, fun u1 v1 E1 W1 r1 => ?_⟩
      cases y with
      | tup xs =>
        cases e2
        cases r1 with
        | @tup _ vs a ha ra =>
        refine ⟨a, vs, rfl, ha, fun p hp => ?_⟩
        have fin1 : Fin1 X.K X.w u1 (.tup xs.reverse) M' Q := fun u2 v2 E2 W2 r2 => fin u2 v2 (E1.trans E2) W2 r2
        exact fin1.tup W1 ra.reverse p hp
      | _ => simp [revD] at e2
    · cases e⟩
end
end DD
namespace DD
open PySem PySem.Spec PyProof.Rows L2
variable [Tabs]

def rM (K : PySem.W.Frag) (w : World) (m : Mth) : V → List V → Hp → VK → Prop := fun x vs H Q =>
  ∃ u M a ds, u.H = H ∧ Wd K w u M ∧ RD K u a x ∧ RDs K u ds vs ∧ ∃ d M', mthD m a ds M = some (d, M') ∧ Fin1 K w u d M' Q
def rIxD (K : PySem.W.Frag) (w : World) : R2 := fun x y H Q => ∃ u M a b d, u.H = H ∧ Wd K w u M ∧ RD K u a x ∧ RD K u b y ∧ ixD M a b = some d ∧ ∀ v, RD K u d v → Q v H
def rIsiD (K : PySem.W.Frag) (w : World) (c : Cls) : List V → Hp → VK → Prop := fun vs H Q =>
  ∃ u M d x b, u.H = H ∧ Wd K w u M ∧ RD K u d x ∧ vs = [x, .ty (clsNm c)] ∧ isiD c d M = some b ∧ Q (.bl b) H
/-- the rules by values that a context has -/
structure Rl (X : Cx) : Prop where
  cmp : ∀ o, OpR X (compareOp (copOf o)) (rC X.K X.w (opC o))
  bin : ∀ o, OpR X (binaryOp (bopOf o)) (rD X.K X.w (opB o))
  bi : ∀ b y t nm, biNm b = some (y, t, nm) → CallR X (if t then .type nm else .builtin nm) (aD X.K X.w (biD b))
  isi : ∀ c, CallR X (.builtin "isinstance") (rIsiD X.K X.w c)
  ix : IxR X (rIxD X.K X.w)
  set : PSet X (tSetD X.K X.w)
  mth : ∀ m, MtR X (mthNm m).2.2 (rM X.K X.w m)
  dct : ∀ pos, PE X (.Dict [] [] pos) (fun σ H Q => ∃ u M, u.H = H ∧ Wd X.K X.w u M ∧ Fin1 X.K X.w u (.loc M.length) (M ++ [.dct []]) Q)

/-- the orders of names that the text uses -/
def KwN (G : Gl0) (K : PySem.W.Frag) (fd : FuncData) (ps : List Str) (x : Str) : Prop := (∀ ks pi, G.kws x ks pi = true → KwP K fd ps ks pi) ∧
  (∀ ds, G.dfs x ds = true → ∃ us vs, Binds K fd ps us ∧ Vals vs us ∧ ∀ vw, RDs K vw ds vs)
structure Ok (G : Gl0) (F : Fns) (k r : Nat) (N : List Str) (sc : Scope) (X : Cx) : Prop where
  eN : X.N = N
  nd : N.Nodup
  eS : X.env.scope = sc
  kind : sc.kind = .function
  calm : X.calm = true
  room : RoomG r X.A
  kr : k ≤ r
  tb : G.tb N = true → ∃ c P, X.env.code = .ref c ∧ P ∈ Tabs.ts ∧ GxR.TabB X.base X.mg c P
  own : ∀ i x, G.fns[i]? = some x → ∃ f fd ps, X.mg x = some (.ref f) ∧ PySem.W.keepIn X.K (.ref f) = true ∧ (G.pars[i]? = some ps ∧ KwB X.K fd ps ∧ KwN G X.K fd ps x) ∧ Binds X.K fd ps [] ∧ FnG X.prog X.w X.K X.mg X.base k f fd ps (aD X.K X.w (F i))
  blt : ∀ x ∈ G.blts, X.mg x = none
  cst : ∀ p ∈ G.csts, ∃ u v, X.mg p.1 = some u ∧ RelV v u ∧ ∀ vw, RD X.K vw p.2 v
  bf : (∀ p ∈ G.bfs, X.mg p.1 = some (.builtin p.2)) ∧ ∀ p ∈ G.tys, X.mg p.1 = some (.type p.2)

theorem biNm_boot {b : Bi} {y : Str} {t : Bool} {nm : String} (h : biNm b = some (y, t, nm)) : bootBuiltins y = some (if t then .type nm else .builtin nm) ∧ y ≠ ("__name__" : Str) := by
  unfold biNm at h
  split at h <;> cases h <;> exact ⟨by decide +kernel, by decide +kernel⟩
theorem cls_boot (c : Cls) : bootBuiltins (clsStr c) = some (.type (clsNm c)) := by cases c <;> decide +kernel
theorem okNm_of {x : Str} (h : okNm x = true) : (x == ("__debug__" : Str)) = false ∧ (x == ("__classdict__" : Str)) = false ∧ x ≠ ("__name__" : Str) := by
  unfold okNm at h
  simp only [Bool.and_eq_true, Bool.not_eq_true', decide_eq_true_eq] at h
  exact ⟨h.1.1, h.1.2, h.2⟩

section
variable {X : Cx} {F : Fns} {pos : Pos}
/-- a method of a built-in kind, its kind told by the reading -/
theorem pe_bmT {o e : Expr} {es : List Expr} {to : TE} {t : TA} {name : Str} {apos cpos : Pos} {T id : String} {r : V → List V → Hp → VK → Prop} {ty : V → Hp → Prop} (pa : PlainAttrs T) (slot : Slot T name id) (hty : typeOf (.builtin id) = pure (.type "method_descriptor")) (hm : MtR X id r) (ho : PE X o to) (ha : PA X (e :: es) t)
    (htv : ∀ pins s σ H x v, Inv X pins σ H s → RelV x v → ty x H → s.TypeIs v T ∧ ∀ a, v = .ref a → ∃ ob, s.heap.get? a = some ob ∧ ob.dict = none)
    (hbase : attributeBase o name X.env (eval o X.env) = eval o X.env)
    (hfew : ((backTo cpos (starEach (e :: es) X.env)).all (fun x => !x.1) && (backToKw cpos (keywordEach [] X.env)).all (fun x => x.1.isSome)
      && decide ((e :: es).length + ([] : List Keyword).length + (if ([] : List Keyword).isEmpty then 0 else 1) < 30)) = true)
    (hline : (apos.endLine == cpos.line) = true) (hs : starEach (e :: es) X.env = (false, eval e X.env) :: starEach es X.env) (hplain : (backTo cpos (starEach es X.env)).any (·.1) = false) :
    PE X (.Call (.Attribute o name apos) (e :: es) [] cpos) (fun σ H Q => to σ H fun x H1 => ty x H1 ∧ t σ H1 fun xs H2 => r x xs H2 Q) := by
  refine ⟨fun pins s σ H Q I h => ?_⟩
  refine wpAny_Call_method_late hbase hfew hline rfl (thn (ho.run pins s σ H _ I h) fun v s1 ⟨x, H1, I1, r1, ty1, q1⟩ => ?_)
  obtain ⟨h1, h2⟩ := htv pins s1 σ H1 x v I1 r1 ty1
  refine ⟨T, id, pa, slot, hty, h1, h2, ?_⟩
  have hA := ha.run cpos pins s1 σ H1 _ I1 q1
  rw [hs] at hA ⊢
  refine Calls.callWith_builtin (by show (false || (backTo cpos (starEach es X.env)).any (·.1)) = false; rw [hplain] <;> rfl) (Calls.evalArgs_plain ?_)
  exact thn hA fun us s2 ⟨vs, H2, I2, r2, q2⟩ => hm pins s2 σ H2 x vs v us Q I2 r1 r2 q2

/-- a list, a dict of the store -/
def tyD (K : PySem.W.Frag) (w : World) (T : String) : V → Hp → Prop := fun x H => ∃ u M i, u.H = H ∧ Wd K w u M ∧ x = .ref (u.iot i) ∧ ((T = "list" ∧ ∃ xs, M[i]? = some (.lst xs)) ∨ (T = "dict" ∧ ∃ kvs, M[i]? = some (.dct kvs)))
theorem tyD_is {T : String} {pins : List (Addr × Obj)} {s : Shared} {σ : L2.St} {H : Hp} {x : V} {v : Value} (I : Inv X pins σ H s) (r : RelV x v) (h : tyD X.K X.w T x H) : s.TypeIs v T ∧ ∀ a, v = .ref a → ∃ ob, s.heap.get? a = some ob ∧ ob.dict = none := by
  obtain ⟨u, M, i, rfl, W, rfl, h⟩ := h
  cases r
  rcases h with ⟨rfl, xs, h⟩ | ⟨rfl, kvs, h⟩
  · obtain ⟨_, vs, q, _⟩ := W.lst h
    obtain ⟨_, its, n, _, e⟩ := I.hok _ _ q
    exact ⟨⟨_, e, rfl⟩, fun a ha => by cases ha; exact ⟨_, e, rfl⟩⟩
  · obtain ⟨es, q, _⟩ := W.at_ i _ h
    obtain ⟨⟨o, ep, e, c, _⟩, _⟩ := I.hok _ _ q
    exact ⟨⟨o, e, c.1⟩, fun a ha => by cases ha; exact ⟨o, e, c.2.1⟩⟩
theorem mth_loc {m : Mth} {a : D} {M : Sto} (h : preM m a M = true) : ∃ i, a = .loc i ∧ (((mthNm m).2.1 = "list" ∧ ∃ xs, M[i]? = some (.lst xs)) ∨ ((mthNm m).2.1 = "dict" ∧ ∃ kvs, M[i]? = some (.dct kvs))) := by
  unfold preM at h
  split at h
  · split at h <;> first | exact ⟨_, rfl, .inl ⟨rfl, _, by assumption⟩⟩ | exact ⟨_, rfl, .inr ⟨rfl, _, by assumption⟩⟩ | cases h
  · cases h
theorem star_all {env : PySem.Env} {p : Pos} {es : List Expr} (h : noStars es = true) : (backTo p (starEach es env)).all (fun x => !x.1) = true := by
  have z := star_any (env := env) (pos := p) h
  rw [List.all_eq_true]
  intro x hx
  rw [List.any_eq_false] at z
  simpa using z x hx
theorem de_mth (rl : Rl X) {m : Mth} {apos cpos : Pos} {o a : Expr} {es : List Expr} {xo : Ex} {xs : List Ex} (ho : DE X o (evE F xo)) (h : DA X (a :: es) (evEs F xs)) (hb : notCall0 o = true) (hline : (apos.endLine == cpos.line) = true) (hst : noStars (a :: es) = true) (hlen : (a :: es).length < 29) :
    DE X (.Call (.Attribute o (Str.ofString (mthNm m).1) apos) (a :: es) [] cpos) (evE F (.mth m xo xs)) := by
  have hs := hst
  simp only [noStars, Bool.and_eq_true, Bool.not_eq_true'] at hs
  have hfew : ((backTo cpos (starEach (a :: es) X.env)).all (fun x => !x.1) && (backToKw cpos (keywordEach [] X.env)).all (fun x => x.1.isSome) && decide ((a :: es).length + ([] : List Keyword).length + (if ([] : List Keyword).isEmpty then 0 else 1) < 30)) = true := by
    rw [star_all hst]
    have h2 : (backToKw cpos (keywordEach [] X.env)).all (fun x => x.1.isSome) = true := rfl
    rw [h2]
    simp only [Bool.true_and, decide_eq_true_eq]
    show (a :: es).length + 0 + 0 < 30
    omega
  have key : ∀ T, T = (mthNm m).2.1 → PlainAttrs T → Slot T (Str.ofString (mthNm m).1) (mthNm m).2.2 → typeOf (.builtin (mthNm m).2.2) = pure (.type "method_descriptor") →
      DE X (.Call (.Attribute o (Str.ofString (mthNm m).1) apos) (a :: es) [] cpos) (evE F (.mth m xo xs)) := by
    intro T hT pa slot hty
    refine peBy fun σ H Q ⟨u, M, δ, eH, W, S, d, M', e, fin⟩ => ⟨_, pe_bmT (ty := tyD X.K X.w T) pa slot hty (rl.mth m) ho h (fun pins s σ H x v I r t => tyD_is I r t) (base_of hb) hfew hline (star_cons hs.1) (star_any hs.2), ?_⟩
    rw [evE] at e
    split at e
    · rename_i x M1 e1
      split at e
      · rename_i hpre
        split at e
        · rename_i ds M2 e2
          refine ⟨u, M, δ, eH, W, S, x, M1, e1, fun u1 v1 E1 W1 r1 => ⟨?_, u1, M1, δ, rfl, W1, S.mono E1, ds, M2, e2, fun u2 vs E2 W2 r2 => ?_⟩⟩
          · obtain ⟨i, hi, hk⟩ := mth_loc hpre
            subst hi
            cases r1
            rw [← hT] at hk
            exact ⟨u1, M1, i, rfl, W1, rfl, hk⟩
          · exact ⟨u2, M2, x, ds, rfl, W2, r1.mono E2, r2, d, M', e, fun u3 v3 E3 W3 r3 => fin u3 v3 ((E1.trans E2).trans E3) W3 r3⟩
        · cases e
      · cases e
    · cases e
  cases m
  · exact key "list" rfl PySem.F.plainAttrs_list PySem.F.slot_list_append PySem.F.type_list_append
  · exact key "list" rfl PySem.F.plainAttrs_list PySem.F.slot_list_extend PySem.F.type_list_extend
  · exact key "dict" rfl PySem.F.plainAttrs_dict PySem.F.slot_dict_get PySem.F.type_dict_get
  · exact key "dict" rfl PySem.F.plainAttrs_dict PySem.F.slot_dict_pop PySem.F.type_dict_pop
  · exact key "dict" rfl PySem.F.plainAttrs_dict PySem.F.slot_dict_setdefault PySem.F.type_dict_setdefault
  · exact key "list" rfl PySem.F.plainAttrs_list PySem.F.slot_list_pop PySem.F.type_list_pop
/-- isinstance(x, T) -/
theorem de_isi (rl : Rl X) {c : Cls} {a : Expr} {x1 : Ex} {p p2 : Pos} (hg : Gl X "isinstance") (hm : X.mg "isinstance" = none) (hg2 : Gl X (clsStr c)) (hm2 : X.mg (clsStr c) = none) (ha : DE X a (evE F x1)) (hst : noStars [a, .Name (clsStr c) p2] = true)
    (hn2 : clsStr c ≠ "__name__") (hd2 : (clsStr c == ("__debug__" : Str)) = false) : DE X (.Call (.Name "isinstance" p) [a, .Name (clsStr c) p2] [] pos) (evE F (.bi (.isi c) [x1])) := by
  have hs := hst
  simp only [noStars, Bool.and_eq_true, Bool.not_eq_true', and_true] at hs
  have hT : PE X (.Name (clsStr c) p2) (tC (.ty (clsNm c))) := pe_bltn hg2 hm2 (cls_boot c) rfl hn2 hd2
  have hA : PA X [a, .Name (clsStr c) p2] (tCons (tD X.K X.w (evE F x1)) (tCons (tC (.ty (clsNm c))) tNil)) := pa_cons ha (pa_cons hT pa_nil (star_cons rfl)) (star_cons hs.1)
  refine peBy fun σ H Q ⟨u, M, δ, eH, W, S, d, M', e, fin⟩ => ⟨_, pe_callB (rl.isi c) hg hm boot_isinstance hA (by decide) (by decide) (star_cons hs.1) (star_any (by simp [noStars, hs.2])), ?_⟩
  rw [evE] at e
  split at e
  · rename_i ds M1 e1
    rw [evEs] at e1
    split at e1
    · rename_i d1 M2 e2
      rw [evEs] at e1
      cases e1
      simp only [biD, isiB] at e
      obtain ⟨b, e3, e4⟩ := Option.map_eq_some_iff.mp e
      cases e4
      refine ⟨u, M, δ, eH, W, S, d1, _, e2, fun u1 v1 E1 W1 r1 => ?_⟩
      exact ⟨u1, _, d1, v1, b, rfl, W1, r1, rfl, e3, fin u1 _ E1 W1 (.bl _)⟩
    · cases e1
  · cases e
end
end DD
namespace DD
open PySem PySem.Spec PyProof.Rows L2 PySem.W PySem.Calls
section
variable {prog : Program} {w : World} {A : Around} {E : Value → Shared → Prop} {s : Shared}
/-- what a tuple holds, collected -/
theorem cl_tup {t : Addr} {ws : List Value}
    {P : List Value → Shared → Prop} (ht : IsTup s.heap t ws.toArray)
    (hw : ws.length ≤ sizeLine)
    (q : P ws { s with heap := ((s.heap.push (seqObj "list" #[] 0)).update
        s.heap.objs.size (Obj.mapSeq (· ++ ws.toArray))) }) :
    wpAny (model prog w) A (collect (.ref t)) P E s := by
  obtain ⟨ob, e1, e2, m, e3⟩ := ht
  have e4 : (s.heap.push (seqObj "list" #[] 0)).get? t = some ob :=
    Heap.get?_push_of_some _ e1
  have tt : (Value.type "tuple" == Value.type "tuple") = true := by rfl
  have nw : (s.heap.push (seqObj "list" #[] 0)).get? s.heap.objs.size =
      some (seqObj "list" #[] 0) := Heap.get?_push_size _ rfl
  unfold collect
  refine wpAny_bind (wpAny_runValue
    (codeAny_builtin entry_proto_collect' ?_))
  show wpAny _ _ (do
    again (.builtin "list.__iadd__" ⟨[← newList [], .ref t], []⟩)) _ _ s
  refine wpAny_bind (wpAny_newList (wpAny_pure
    ⟨Code.quiet_builtin _ (by decide +kernel),
      codeAny_builtin entry_list_iadd' ?_⟩))
  show wpAny _ _ (Builtin.List.listExtendWith (.ref s.heap.objs.size)
    (.ref t) (.ref s.heap.objs.size)) _ _
    { s with heap := s.heap.push (seqObj "list" #[] 0) }
  unfold Builtin.List.listExtendWith
  refine wpAny_bind (wpAny_typeOf (T := "tuple") ⟨ob, e4, e2⟩ ?_)
  rw [if_pos (by rw [tt]; simp)]
  refine wpAny_bind (listItems_at e4 e3 ?_)
  refine wpAny_bind (listItems_at (xs := #[]) (n := 0) nw rfl ?_)
  rw [if_neg (by simp)]
  refine wpAny_bind (listUpdate_at (xs := #[]) (n := 0) nw rfl ?_
    (Nat.zero_le _) (by
      show (#[] ++ ws.toArray).size ≤ sizeLine + 1
      simp only [Array.size_append, List.size_toArray, List.length_nil]
      omega))
  refine wpAny_pure ?_
  show wpAny (model prog w) A (do
      let o ← load s.heap.objs.size
      match o.data with
      | .seq xs _ => pure xs.toList
      | _ => unsupported "internal:collect") P E _
  refine wpAny_bind (wpAny_load (get?_update_seq nw _) ?_)
  show wpAny _ _ (pure ((#[] : Array Value) ++ ws.toArray).toList) P E _
  rw [show ((#[] : Array Value) ++ ws.toArray).toList = ws by simp]
  exact wpAny_pure q
/-- sorted of a tuple -/
theorem st_tup {R : Value → D × PyData → Prop} {t : Addr} {ws : List Value} {bs : List (D × PyData)} {enc : D × PyData → PyData}
    {P : Value → Shared → Prop} (ht : IsTup s.heap t ws.toArray) (e : EachIs R ws bs)
    (er : EachIs (fun v b => ∃ as, Reads s.heap v (enc b) as) ws bs) (ha : AllAlike (bs.map enc)) (hk : Sortable (bs.map enc))
    (hb : bs.length ≤ sizeLine) (hu : ∀ b, b ∈ bs → A.units + 2 + (enc b).depth < cLine)
    (q : ∀ out, out.length = bs.length → EachIs R out (bs.mergeSort (dataLe false enc)) →
      P (.ref (s.heap.objs.size + 1)) { s with heap := sortedAll s.heap ws (List.toArray out) }) :
    wpAny (model prog w) A (call (.builtin "sorted") [.ref t]) P E s := by
  have hw : ws.length ≤ sizeLine := by rw [e.length]; exact hb
  have er2 : EachIs (fun v b => ∃ as, Reads (sortingHeap (copyHeap s.heap ws)
      (s.heap.objs.size + 1) ws) v (enc b) as) ws bs :=
    er.mono fun _ _ ⟨as, r⟩ => ⟨as, PyProof.Rows.Reads.keeps (fun _ _ => sorting_copy_old) r⟩
  have hs : ((s.heap.push (seqObj "list" #[] 0)).update s.heap.objs.size
      (Obj.mapSeq (· ++ ws.toArray))).objs.size = s.heap.objs.size + 1 := by
    rw [Heap.size_update, size_push']
  have S := SortsAt.data (prog := prog) (w := w) (A := A.in1.in1)
    (s := { s with heap := sortingHeap (copyHeap s.heap ws) (s.heap.objs.size + 1) ws })
    (each_map (R := fun v d => ∃ as, Reads (sortingHeap (copyHeap s.heap ws)
      (s.heap.objs.size + 1) ws) v d as) enc er2) ha hk (bound_map hu)
  have fin := q _ (by rw [sortVals_length false rfl]; exact e.length)
    (sortVals_data false e er2 ha)
  refine call_function_entry_kw kind_sorted plain_sorted entry_sorted (args_sorted1 _) ?_
  unfold Builtin.«sorted»
  refine wpAny_bind (m := checkCount "sorted" 1 1 _) (wpAny_pure ?_)
  refine wpAny_bind (cl_tup ht hw ?_)
  refine wpAny_bind (wpAny_newList ?_ hw)
  show wpAny _ _ _ _ _ { s with heap := copyHeap s.heap ws }
  rw [hs]
  refine wpAny_bind (wpAny_holding (wpAny_call_entry_kw slot_list_sort
    ⟨_, copyHeap_at s.heap ws, rfl⟩ entry_list_sort ?_ (args_list_sort _)))
  refine list_sort_vals (s := { s with heap := copyHeap s.heap ws })
    (copyHeap_at s.heap ws) S hw ?_
  exact ⟨_, rfl, wpAny_pure ⟨_, rfl, fin⟩⟩
end
end DD
namespace DD
open PySem PySem.Spec PyProof.Rows L2
variable [Tabs]

/-! ### t * 0, t * 1 -/
theorem tup_mul1 (l : Addr) (items : Array Value) (n : Nat) (dd : Option Addr) (sl : Array (Option Value)) (u : Tok) :
    Meets (Builtin.«tuple.__mul__» ⟨[.ref l, .int 1 u], []⟩) (fun _ R s => s.heap.get? l = some { cls := .type "tuple", dict := dd, data := .seq items n, slots := sl } ∧ R (.ok (.ret (Value.ref l))) s) :=
  .of_wp fun prog w A R s h => by
    obtain ⟨hp, g, d, tk, os⟩ := s
    obtain ⟨hl, h⟩ := h
    have f1 := AutoSeq1.idx_int
    wp_walk using wpAny_loadPart' hl
    exact ⟨_, rfl, h⟩
theorem tup_mul0 (l : Addr) (items : Array Value) (n : Nat) (dd : Option Addr) (sl : Array (Option Value)) (u : Tok) (c1 : (items.isEmpty || (0 : Int) == 1) = false) :
    Meets (Builtin.«tuple.__mul__» ⟨[.ref l, .int 0 u], []⟩) (fun _ R s => s.heap.get? l = some { cls := .type "tuple", dict := dd, data := .seq items n, slots := sl } ∧
      R (.ok (.ret (Value.ref s.heap.objs.size))) { s with heap := s.heap.push { cls := Value.type "tuple", data := Data.seq #[] }, toks := s.toks }) :=
  .of_wp fun prog w A R s h => by
    obtain ⟨hp, g, d, tk, os⟩ := s
    obtain ⟨hl, h⟩ := h
    have f1 := AutoSeq1.idx_int
    wp_walk using wpAny_loadPart' hl
    repeat (first
      | (refine wpAny_ite_false (decide_eq_false (by rw [c1]; exact Bool.false_ne_true)) ?_; wp_walk using wpAny_loadPart' hl)
      | exact ⟨_, rfl, h⟩)
theorem op_rep01 {X : Cx} : OpR X (binaryOp .Mult) (fun x y H Q => ∃ l k xs, x = .ref l ∧ y = .int k ∧ SqT X.K H l xs ∧ xs ≠ [] ∧ (k = 0 ∨ k = 1) ∧ (k = 1 → Q (.ref l) H) ∧ (k = 0 → ∀ p, H p = none → Q (.ref p) (upd H p (.tup [])))) := by
  intro pins s σ H x y v u Q I rx ry h
  obtain ⟨l, k, xs, rfl, rfl, hT, hne, hk, q1, q0⟩ := h
  cases rx
  obtain ⟨t, rfl⟩ := ry
  obtain ⟨its, r, ⟨⟨cls, dd, data, sl⟩, ho, hc, n, hd⟩, hs⟩ := I.tuple hT
  simp only at hc hd
  subst hc hd
  have hn : its ≠ [] := fun e => hne (by
    have := r.length
    rw [e] at this
    exact List.eq_nil_of_length_eq_zero this)
  have hi : its.toArray.isEmpty = false := by
    cases its with
    | nil => exact absurd rfl hn
    | cons a b => rfl
  rcases hk with rfl | rfl
  · refine wpAny_binaryOp_repeat_ref (T := "tuple") (U := "int") (by decide) ⟨_, ho, rfl⟩ (fun s' => typeIs_int s' 0 t) noFill_tuple_mul F.fills_int_mul F.slot_int_rmul repeat_tuple F.slot_int_index.lookup
      (call_meets F.slot_int_rmul (typeIs_int s 0 t) F.entry_int_rmul (F.args_int_rmul_2 _ _) (int_rmul_tuple 0 t l its.toArray n dd sl)
        ⟨ho, rfl, ⟨_, ho, rfl⟩, call_meets F.slot_tuple_mul ⟨_, ho, rfl⟩ F.entry_tuple_mul (F.args_tuple_mul_2 _ _) (tup_mul0 l its.toArray n dd sl t (by rw [hi]; rfl)) ⟨ho, ?_⟩⟩)
    refine ⟨.ref s.heap.objs.size, _, I.laid (t' := s.toks) (o := .tup []) (fun b ob q => Heap.get?_push_of_some _ q) (Nat.le_refl _) ?_, rfl, q0 rfl _ (I.hok.fresh (Nat.le_refl _))⟩
    exact ⟨by rw [sizeLine_eq]; exact Nat.zero_le _, [], .nil, IsTup.new _ _⟩
  · refine wpAny_binaryOp_repeat_ref (T := "tuple") (U := "int") (by decide) ⟨_, ho, rfl⟩ (fun s' => typeIs_int s' 1 t) noFill_tuple_mul F.fills_int_mul F.slot_int_rmul repeat_tuple F.slot_int_index.lookup
      (call_meets F.slot_int_rmul (typeIs_int s 1 t) F.entry_int_rmul (F.args_int_rmul_2 _ _) (int_rmul_tuple 1 t l its.toArray n dd sl)
        ⟨ho, rfl, ⟨_, ho, rfl⟩, call_meets F.slot_tuple_mul ⟨_, ho, rfl⟩ F.entry_tuple_mul (F.args_tuple_mul_2 _ _) (tup_mul1 l its.toArray n dd sl t) ⟨ho, ?_⟩⟩)
    exact ⟨.ref l, H, I, rfl, q1 rfl⟩

/-! ### tuples in order -/
theorem op_ltA {X : Cx} (hu : X.A.units + 64 < cLine) : OpR X (compareOp .Lt) (rLtA X.K) := by
  intro pins s σ H x y v u Q I rx ry h
  obtain ⟨a, b, p, q, rfl, rfl, dp, dq, al, sp, sq, hq⟩ := h
  obtain ⟨as, r1⟩ := Dp.reads I _ _ v dp rx
  obtain ⟨bs, r2⟩ := Dp.reads I _ _ u dq ry
  have hr := SeqAt.room_of_shaped (db := .tuple q) sp hu
  exact W.rcLt_alike _ _ X.A s v u as bs r1 r2 al (by simp) hr X.prog X.w X.xe _ ⟨.bl _, H, I, rfl, hq⟩
theorem readsAll_at {h : Heap} : ∀ {vs : List Value} {ds : List PyData} {as : List Addr} (j : Nat) (hj : j < vs.length), ReadsAll h vs ds as → ∃ as', Reads h vs[j] (ds.getD j .none) as'
  | _, _, _, _, hj, .nil => absurd hj (Nat.not_lt_zero _)
  | _, _, _, 0, _, .cons r _ => ⟨_, r⟩
  | _, _, _, j + 1, hj, .cons _ rs => readsAll_at j (Nat.lt_of_succ_lt_succ hj) rs
theorem readsAll_len {h : Heap} : ∀ {vs : List Value} {ds : List PyData} {as : List Addr}, ReadsAll h vs ds as → vs.length = ds.length
  | _, _, _, .nil => rfl
  | _, _, _, .cons _ rs => by simp [readsAll_len rs]
theorem alikeAll_at : ∀ {xs ys : List PyData} (j : Nat), j < xs.length → j < ys.length → W.alikeAll xs ys = true → W.alike (xs.getD j .none) (ys.getD j .none) = true
  | x :: xs, y :: ys, 0, _, _, h => (W.alike_all_cons h).1
  | x :: xs, y :: ys, j + 1, h1, h2, h => alikeAll_at j (Nat.lt_of_succ_lt_succ h1) (Nat.lt_of_succ_lt_succ h2) (W.alike_all_cons h).2
theorem intTups_at : ∀ {xs : List PyData} (j : Nat), j < xs.length → intTups xs = true → intTup (xs.getD j .none) = true
  | x :: xs, 0, _, h => by rw [intTups, Bool.and_eq_true] at h; exact h.1
  | x :: xs, j + 1, h1, h => by rw [intTups, Bool.and_eq_true] at h; exact intTups_at j (Nat.lt_of_succ_lt_succ h1) h.2
theorem depth_at : ∀ {xs : List PyData} (j : Nat), j < xs.length → (xs.getD j .none).depth ≤ PyData.depthAll xs
  | x :: xs, 0, _ => by rw [PyData.depthAll]; exact Nat.le_max_left _ _
  | x :: xs, j + 1, h1 => by rw [PyData.depthAll]; exact Nat.le_trans (depth_at j (Nat.lt_of_succ_lt_succ h1)) (Nat.le_max_right _ _)
theorem leVs_lex : ∀ (k i : Nat) (xs ys : List PyData), i + k = min xs.length ys.length → leVs (xs.drop i) (ys.drop i) =
    Ob.lexAt (fun j => PyData.eqv (xs.getD j .none) (ys.getD j .none)) (fun j => leV (xs.getD j .none) (ys.getD j .none)) (decide (xs.length ≤ ys.length)) i k
  | 0, i, xs, ys, h => by
    rw [Ob.lexAt_zero]
    rcases Nat.lt_or_ge xs.length ys.length with hl | hl
    · have hi : i = xs.length := by omega
      rw [hi, List.drop_length, leVs, decide_eq_true (by omega)]
    · have hi : i = ys.length := by omega
      rw [hi, List.drop_length]
      by_cases he : xs.length = ys.length
      · rw [← he, List.drop_length, leVs, decide_eq_true (by omega)]
      · rw [List.drop_eq_getElem_cons (by omega), leVs, decide_eq_false (by omega)]
  | k + 1, i, xs, ys, h => by
    have h1 : i < xs.length := by omega
    have h2 : i < ys.length := by omega
    rw [Ob.lexAt_succ, List.drop_eq_getElem_cons h1, List.drop_eq_getElem_cons h2, leVs]
    have e1 : xs.getD i .none = xs[i] := by simp [List.getD, h1]
    have e2 : ys.getD i .none = ys[i] := by simp [List.getD, h2]
    rw [e1, e2, leVs_lex k (i + 1) xs ys (by omega)]
theorem rcLe : ∀ (n : Nat) (p q : PyData), p.depth ≤ n → ∀ (A : Around) (s : Shared) (a b : Value) (as bs : List Addr), Reads s.heap a p as → Reads s.heap b q bs → W.alike p q = true → intTup p = true → intTup q = true → A.units + n < cLine → Ob.RcOp .LtE A s a b (leV p q)
  | n, .int x, q, hd, A, s, a, b, as, bs, r1, r2, al, ip, iq, hu => by
    cases q with
    | int y =>
      cases r1; cases r2
      rw [leV]
      exact Ob.RcOp.le_int _ _ _ _
    | _ => simp [W.alike] at al
  | 0, .tuple xs, q, hd, A, s, a, b, as, bs, r1, r2, al, ip, iq, hu => by rw [PyData.depth] at hd; omega
  | n + 1, .tuple xs, q, hd, A, s, a, b, as, bs, r1, r2, al, ip, iq, hu => by
    cases q with
    | tuple ys =>
      cases r1 with
      | tuple g1 g2 g3 g4 =>
      cases r2 with
      | tuple k1 k2 k3 k4 =>
      rw [PyData.depth] at hd
      rw [W.alike] at al
      rw [intTup] at ip iq
      have l1 := readsAll_len g4; rw [Array.length_toList] at l1
      have l2 := readsAll_len k4; rw [Array.length_toList] at l2
      have R := Ob.RcOp.tuples_le (A := A) (s := s) (e := fun j => PyData.eqv (xs.getD j .none) (ys.getD j .none)) (r := fun j => leV (xs.getD j .none) (ys.getD j .none)) ⟨_, g1, g2, _, g3⟩ ⟨_, k1, k2, _, k3⟩ (by omega) (fun j h1 h2 => by
        obtain ⟨as', ra⟩ := readsAll_at j (by first | exact h1 | omega) g4
        obtain ⟨bs', rb⟩ := readsAll_at j (by first | exact h2 | omega) k4
        have z1 : j < xs.length := by omega
        have z2 : j < ys.length := by omega
        have := depth_at (xs := xs) j z1
        have hu2 : A.in1.units + min (xs.getD j .none).depth (ys.getD j .none).depth < cLine := by
          show A.units + 1 + _ < _
          have := Nat.min_le_left (xs.getD j .none).depth (ys.getD j .none).depth
          omega
        have q := W.eqAt_alike _ _ A.in1 s _ _ as' bs' ra rb (alikeAll_at j z1 z2 al) hu2
        simpa using q) (fun j h1 h2 _ => by
        obtain ⟨as', ra⟩ := readsAll_at j (by first | exact h1 | omega) g4
        obtain ⟨bs', rb⟩ := readsAll_at j (by first | exact h2 | omega) k4
        have z1 : j < xs.length := by omega
        have z2 : j < ys.length := by omega
        have := depth_at (xs := xs) j z1
        have q := rcLe n _ _ (by omega) A.in1 s _ _ as' bs' ra rb (alikeAll_at j z1 z2 al) (intTups_at j z1 ip) (intTups_at j z2 iq) (by show A.units + 1 + n < cLine; omega)
        simpa using q)
      have e := leVs_lex (min xs.length ys.length) 0 xs ys (by omega)
      rw [List.drop_zero, List.drop_zero] at e
      rw [leV, e]
      rw [l1, l2] at R
      exact R
    | _ => simp [W.alike] at al
  | n, .none, _, _, _, _, _, _, _, _, _, _, _, ip, _, _ => by simp [intTup] at ip
  | n, .bool _, _, _, _, _, _, _, _, _, _, _, _, ip, _, _ => by simp [intTup] at ip
  | n, .str _, _, _, _, _, _, _, _, _, _, _, _, ip, _, _ => by simp [intTup] at ip
  | n, .list _, _, _, _, _, _, _, _, _, _, _, _, ip, _, _ => by simp [intTup] at ip
  | n, .dict _, _, _, _, _, _, _, _, _, _, _, _, ip, _, _ => by simp [intTup] at ip
theorem cmp_le_A {X : Cx} (hu : X.A.units + 64 < cLine) : OpR X (compareOp .LtE) (rC X.K X.w leD) := fun pins s σ H x y v u Q I rx ry ⟨uw, M, a, b, eH, W, ra, rb, c, e, q⟩ => by
  subst eH
  unfold leD at e
  split at e
  · cases e; cases ra; cases rb
    exact op_le pins s σ uw.H _ _ v u Q I rx ry ⟨_, _, rfl, rfl, q⟩
  · split at e
    · rename_i p p' e1 e2
      split at e
      · rename_i hs
        cases e
        simp only [Bool.and_eq_true] at hs
        obtain ⟨as, r1⟩ := Dp.reads I _ _ v (dp_of W _ _ _ _ ra e1) rx
        obtain ⟨bs, r2⟩ := Dp.reads I _ _ u (dp_of W _ _ _ _ rb e2) ry
        have := SeqAt.depth_of_shaped hs.1.1.1.2
        exact rcLe 64 p p' this X.A s v u as bs r1 r2 hs.1.1.1.1 hs.1.2 hs.2 hu X.prog X.w X.xe _ ⟨.bl _, uw.H, I, rfl, q⟩
      · cases e
    · cases e
  · cases e
end DD
namespace DD
open PySem PySem.Spec PyProof.Rows L2
variable [Tabs]

/-! ### isinstance -/
def tyNm (M : Sto) : D → Option String
  | .non => some "NoneType"
  | .bl _ => some "bool"
  | .int _ => some "int"
  | .str _ => some "str"
  | .tup _ => some "tuple"
  | .loc i => match M[i]? with
    | some (.lst _) => some "list"
    | some (.dct _) => some "dict"
    | _ => none
theorem isi_nm {c : Cls} {d : D} {M : Sto} {b : Bool} (h : isiD c d M = some b) : ∃ T, tyNm M d = some T ∧ kitB T (clsNm c) = some b := by
  cases d with
  | loc i => rcases hM : M[i]? with _ | (xs | kvs | xs) <;> cases c <;> simp [isiD, hM] at h <;> subst h <;> exact ⟨_, by simp only [tyNm, hM] <;> rfl, by decide +kernel⟩
  | _ => cases c <;> simp [isiD] at h <;> subst h <;> exact ⟨_, rfl, by decide +kernel⟩
section
variable {X : Cx}
theorem kit_D {pins : List (Addr × Obj)} {σ : L2.St} {s : Shared} {u : Vw} {M : Sto} {d : D} {x : V} {v : Value} {T : String} (I : Inv X pins σ u.H s) (W : Wd X.K X.w u M) (rd : RD X.K u d x) (rx : RelV x v) (h : tyNm M d = some T) :
    ∃ P : Heap → Prop, PySem.W.KitX X.K v (.type T) P ∧ P s.heap ∧ v ≠ .builtin "__main__.__loader__#opaque" := by
  cases rd with
  | non => cases h; exact kit_of I rx (.base .non)
  | bl b => cases h; exact kit_of I rx (.base (.bl b))
  | int i => cases h; exact kit_of I rx (.base (.int i))
  | str y => cases h; exact kit_of I rx (.base (.str y))
  | tup hs _ =>
    cases h
    rcases hs with (hs | ⟨o, hs⟩) | ⟨o, its, n, h1, h2, _⟩
    · exact kit_of I rx (.base (.tup hs))
    · exact kit_of I rx (.fTuple hs)
    · exact kit_of I rx (.kTuple h1 h2)
  | loc hi =>
    rename_i i
    unfold tyNm at h
    simp only at h
    split at h
    · rename_i xs hM
      cases h
      obtain ⟨_, vs, q, _⟩ := W.lst hM
      exact kit_of I rx (.base (.lst q))
    · rename_i kvs hM
      cases h
      obtain ⟨es, q, _⟩ := W.at_ i _ hM
      obtain ⟨⟨o, ep, e, c, _⟩, _⟩ := I.hok _ _ q
      obtain rfl : v = Value.ref (u.iot i) := rx
      exact ⟨_, PySem.W.kitx_dict, ⟨o, e, c.1⟩, fun z => nomatch z⟩
    · cases h
theorem isi_D (c : Cls) : CallR X (.builtin "isinstance") (rIsiD X.K X.w c) := fun pins s σ H vs us Q I r ⟨u, M, d, x, b, eH, W, rd, ev, e, q⟩ => by
  subst eH ev
  obtain ⟨u1, u2, rfl, r1, r2⟩ := vals2 r
  obtain rfl : u2 = Value.type (clsNm c) := r2
  obtain ⟨T, h1, h2⟩ := isi_nm e
  obtain ⟨P, Z, p, hx⟩ := kit_D I W rd r1 h1
  exact PySem.W.kia_one Z I.kIn p (kit_ty h2) hx fun tk => ⟨.bl b, u.H, I.tok tk, rfl, q⟩

/-! ### sum -/
theorem sum_tup {prog : Program} {w : World} {A : Around} {E : Value → Shared → Prop} {s : Shared} {t : Addr} {its : List Value} {ns : List Int} {Q : Value → Shared → Prop} (hh : A.handled = none) (ht : s.heap.IsTuple t its.toArray) (hi : IntsAre its ns)
    (h : ∀ h' tk t', (∀ b o, s.heap.get? b = some o → h'.get? b = some o) → Q (.int ns.sum t') { s with heap := h', toks := tk }) : wpAny (model prog w) A (call (.builtin "sum") [.ref t]) Q E s := by
  obtain ⟨xs, e⟩ := hi.allInts.items
  have hn : numsOf (intItems xs).toList = ns := by rw [← e]; exact hi.numsOf
  rw [nums_intItems] at hn
  rw [e] at ht
  have hlt : t < s.heap.objs.size := by obtain ⟨_, q, _⟩ := ht; exact Heap.lt_size q
  refine call_sum_walkG (wpAny_pyIter_tuple ht ⟨_, [_, t], [_], _, _, _, numAt xs, rfl, Walks.tuple (A := A.in1) hh _ t (Nat.ne_of_lt hlt) (intItems xs), ⟨⟨_, Heap.get?_push_size _ rfl, rfl, rfl⟩, ht.push _⟩, fun b hb => ?_, (fun _ _ => intItems_at), fun h' tk t' hk => ?_⟩)
  · show b < (s.heap.push _).objs.size
    rw [Heap.size_push]
    rcases List.mem_cons.mp hb with rfl | hb
    · exact Nat.lt_succ_self _
    · rcases List.mem_cons.mp hb with rfl | hb
      · exact Nat.lt_succ_of_lt hlt
      · cases hb
  · have := h h' tk t' (fun b o q => hk b o (fun z => by
      rcases List.mem_cons.mp z with rfl | z
      · exact absurd (Heap.lt_size q) (Nat.lt_irrefl _)
      · cases z) (Heap.get?_push_of_some _ q))
    rw [← hn] at this
    simpa [intItems, preSum_eq, List.take_of_length_le] using this
theorem bi_sum (hc : X.calm = true) : CallR X (.builtin "sum") (aD X.K X.w sumB) := callBy fun vs H Q ⟨u, M, ds, eH, W, r, d, M', e, fin⟩ => by
  subst eH
  unfold sumB at e
  split at e
  · rename_i x M1
    obtain ⟨v, rfl, rx⟩ := rds1 r
    split at e
    · rename_i xs hs
      obtain ⟨ns, e1, e2⟩ := Option.map_eq_some_iff.mp e
      cases e2
      obtain ⟨a, ws, rfl, hq, rs⟩ := seq_rd W rx hs
      have ew := ints_rd rs e1
      subst ew
      rcases hq with hq | hq
      · exact ⟨_, cr_sum hc, a, ns, rfl, hq, fin.now W (.int _)⟩
      · refine ⟨fun vs H Q => ∃ (a : Addr) (ns : List Int), vs = [V.ref a] ∧ SqT X.K H a (ns.map V.int) ∧ Q (.int ns.sum) H, fun pins s σ H vs us Q I r ⟨a, ns, ev, hs, q⟩ => ?_, a, ns, rfl, hq, fin.now W (.int _)⟩
        subst ev
        obtain ⟨its, rv, hl, _⟩ := I.tuple hs
        rw [Vals.ref1 r]
        exact sum_tup (I.ok.hd hc) hl rv.ints fun h' tk t' hk => ⟨.int _, H, I.kept hk, ⟨_, rfl⟩, q⟩
    · cases e
  · cases e

/-! ### repr -/
mutual
theorem pyOf_facts {M : Sto} : ∀ (n : Nat) (d : D) (p : PyData), pyOf M n d = some p → p.depth ≤ n ∧ p.hasDict = false
  | n, .non, p, h => by rw [pyOf] at h; cases h; exact ⟨by simp [PyData.depth], by simp [PyData.hasDict]⟩
  | n, .bl b, p, h => by rw [pyOf] at h; cases h; exact ⟨by simp [PyData.depth], by simp [PyData.hasDict]⟩
  | n, .int b, p, h => by rw [pyOf] at h; cases h; exact ⟨by simp [PyData.depth], by simp [PyData.hasDict]⟩
  | n, .str b, p, h => by rw [pyOf] at h; cases h; exact ⟨by simp [PyData.depth], by simp [PyData.hasDict]⟩
  | 0, .tup _, p, h => by rw [pyOf] at h; cases h
  | 0, .loc _, p, h => by rw [pyOf] at h; cases h
  | n + 1, .tup xs, p, h => by
    rw [pyOf] at h
    obtain ⟨ps, h1, rfl⟩ := Option.map_eq_some_iff.mp h
    obtain ⟨a, b⟩ := pysOf_facts n xs ps h1
    exact ⟨by rw [PyData.depth]; omega, by rw [PyData.hasDict]; exact b⟩
  | n + 1, .loc i, p, h => by
    rw [pyOf] at h
    split at h
    · rename_i xs hM
      obtain ⟨ps, h1, rfl⟩ := Option.map_eq_some_iff.mp h
      obtain ⟨a, b⟩ := pysOf_facts n xs ps h1
      exact ⟨by rw [PyData.depth]; omega, by rw [PyData.hasDict]; exact b⟩
    · cases h
theorem pysOf_facts {M : Sto} : ∀ (n : Nat) (ds : List D) (ps : List PyData), pysOf M n ds = some ps → PyData.depthAll ps ≤ n ∧ PyData.hasDictAll ps = false
  | n, [], ps, h => by rw [pysOf] at h; cases h; exact ⟨by simp [PyData.depthAll], by simp [PyData.hasDictAll]⟩
  | n, x :: xs, ps, h => by
    rw [pysOf] at h
    obtain ⟨p, h1, h2⟩ := Option.bind_eq_some_iff.mp h
    obtain ⟨qs, h3, rfl⟩ := Option.map_eq_some_iff.mp h2
    obtain ⟨a, b⟩ := pyOf_facts n x p h1
    obtain ⟨c, d⟩ := pysOf_facts n xs qs h3
    exact ⟨by rw [PyData.depthAll]; omega, by rw [PyData.hasDictAll, b, d]; rfl⟩
end
theorem bi_repr (hg : X.A.guards = some []) (hu : X.A.units + 64 < cLine) : CallR X (.builtin "repr") (aD X.K X.w reprB) := fun pins s σ H vs us Q I r ⟨u, M, ds, eH, W, rd, d, M', e, fin⟩ => by
  subst eH
  unfold reprB at e
  split at e
  · rename_i x M1
    obtain ⟨v, rfl, rx⟩ := rds1 rd
    split at e
    · rename_i p hp
      split at e
      · rename_i hs
        cases e
        simp only [Bool.and_eq_true, decide_eq_true_eq] at hs
        have rx' := rx
        cases rx' with
        | non => simp [canRepr] at hs
        | bl b =>
          have hp : some (PyData.bool b) = some p := by rw [← hp, pyP, pyOf]
          cases hp
          obtain ⟨w, rfl, rw⟩ := vals1 r
          cases rw
          exact PySem.P.repr_of_bool ⟨.str _, u.H, I.kept (h' := s.heap) (fun _ _ q => q), ⟨_, rfl⟩, fin.now W (.str _)⟩
        | int i =>
          have hp : some (PyData.int i) = some p := by rw [← hp, pyP, pyOf]
          cases hp
          obtain ⟨w, rfl, t, rfl⟩ := vals1 r
          have hs2 := hs.1.2
          simp only [PyData.showable, decide_eq_true_eq] at hs2
          exact PySem.P.repr_of_int hs2 ⟨.str _, u.H, I.kept (h' := s.heap) (fun _ _ q => q), ⟨_, rfl⟩, fin.now W (.str _)⟩
        | str i =>
          have hp : some (PyData.str i) = some p := by rw [← hp, pyP, pyOf]
          cases hp
          obtain ⟨w, rfl, t, rfl⟩ := vals1 r
          exact PySem.P.repr_of_str ⟨.str _, u.H, I.kept (h' := s.heap) (fun _ _ q => q), ⟨_, rfl⟩, fin.now W (.str _)⟩ hs.2
        | tup h1 h2 =>
          obtain ⟨as, rr⟩ := Dp.reads I _ _ (.ref _) (dp_of W _ _ _ _ rx hp) rfl
          obtain ⟨f1, f2⟩ := pyOf_facts _ _ _ hp
          rw [Vals.ref1 r]
          exact PySem.repr_of_reads' rr hs.1.2 (fun z => by rw [f2] at z; cases z) hg (by have : p.depth ≤ 40 := f1; omega) (fun _ _ q => q) (fun h' uu tk hk => ⟨.str p.shown, u.H, I.kept hk, ⟨_, rfl⟩, fin.now W (.str _)⟩) hs.2
        | loc h1 =>
          obtain ⟨as, rr⟩ := Dp.reads I _ _ (.ref _) (dp_of W _ _ _ _ rx hp) rfl
          obtain ⟨f1, f2⟩ := pyOf_facts _ _ _ hp
          rw [Vals.ref1 r]
          exact PySem.repr_of_reads' rr hs.1.2 (fun z => by rw [f2] at z; cases z) hg (by have : p.depth ≤ 40 := f1; omega) (fun _ _ q => q) (fun h' uu tk hk => ⟨.str p.shown, u.H, I.kept hk, ⟨_, rfl⟩, fin.now W (.str _)⟩) hs.2
      · cases e
    · cases e
  · cases e

/-! ### sorted -/
theorem eachIs_of {K : PySem.W.Frag} {u : Vw} {h : Heap} : ∀ {xs : List D} {ps : List PyData} {vs : List V} {its : List Value} {as : List Addr}, RDs K u xs vs → Vals vs its → ReadsAll h its ps as → PySem.W.EachIs (fun v (b : D × PyData) => ∃ x, RelV x v ∧ RD K u b.1 x) its (xs.zip ps) ∧ PySem.W.EachIs (fun v (b : D × PyData) => ∃ as, Reads h v b.2 as) its (xs.zip ps)
  | [], ps, _, _, _, rd, rv, rr => by
    cases rd; cases rv; cases rr
    exact ⟨.nil, .nil⟩
  | x :: xs, ps, _, _, _, rd, rv, rr => by
    cases rd with
    | cons r rs =>
    cases rv with
    | cons q qs =>
    cases rr with
    | cons z zs =>
    obtain ⟨a, b⟩ := eachIs_of rs qs zs
    exact ⟨.cons ⟨_, q, r⟩ a, .cons ⟨_, z⟩ b⟩
theorem of_each {K : PySem.W.Frag} {u : Vw} : ∀ {out : List Value} {bs : List (D × PyData)}, PySem.W.EachIs (fun v (b : D × PyData) => ∃ x, RelV x v ∧ RD K u b.1 x) out bs → ∃ vs, Vals vs out ∧ RDs K u (bs.map (·.1)) vs
  | _, _, .nil => ⟨[], .nil, .nil⟩
  | _, _, .cons ⟨x, a, b⟩ r => by
    obtain ⟨vs, c, d⟩ := of_each r
    exact ⟨x :: vs, .cons a c, .cons b d⟩
theorem pysOf_len {M : Sto} {n : Nat} : ∀ {xs : List D} {ps : List PyData}, pysOf M n xs = some ps → xs.length = ps.length
  | [], ps, h => by rw [pysOf] at h; cases h; rfl
  | x :: xs, ps, h => by
    rw [pysOf] at h
    obtain ⟨p, _, h2⟩ := Option.bind_eq_some_iff.mp h
    obtain ⟨qs, h3, rfl⟩ := Option.map_eq_some_iff.mp h2
    simp [pysOf_len h3]
theorem zip_snd {α β : Type} : ∀ {xs : List α} {ps : List β}, xs.length = ps.length → (xs.zip ps).map (·.2) = ps
  | [], [], _ => rfl
  | [], _ :: _, h => by simp at h
  | _ :: _, [], h => by simp at h
  | x :: xs, p :: ps, h => by simp [zip_snd (xs := xs) (ps := ps) (by simpa using h)]
theorem bi_sorted (hu : X.A.units + 80 < cLine) (sd : CallR X (.builtin "sorted") (fun vs H Q => ∃ u M i kvs ys, u.H = H ∧ Wd X.K X.w u M ∧ vs = [.ref (u.iot i)] ∧ M[i]? = some (.dct kvs) ∧ sortD M (kvs.map (·.1)) = some ys ∧ Fin1 X.K X.w u (.loc M.length) (M ++ [.lst ys]) Q)) : CallR X (.builtin "sorted") (aD X.K X.w sortedB) := fun pins s σ H vs us Q I r ⟨u, M, ds, eH, W, rd, d, M', e, fin⟩ => by
  subst eH
  unfold sortedB at e
  split at e
  · rename_i i M1
    obtain ⟨v, rfl, rx⟩ := rds1 rd
    split at e
    · rename_i xs hM
      obtain ⟨ys, e1, e2⟩ := Option.map_eq_some_iff.mp e
      cases e2
      cases rx
      obtain ⟨_, ws, q, rs⟩ := W.lst hM
      obtain ⟨its, rv, hl, _⟩ := I.list (SqL.of q)
      rw [Vals.ref1 r]
      unfold sortD at e1
      split at e1
      · rename_i ps hps
        split at e1
        · rename_i hc
          cases e1
          simp only [Bool.and_eq_true, Bool.or_eq_true, List.all_eq_true, decide_eq_true_eq] at hc
          obtain ⟨⟨⟨⟨_, c2⟩, c3⟩, c4⟩, c5⟩ := hc
          obtain ⟨as, hr⟩ := Dp.readsAll I ps ws its (dps_of W _ _ _ _ rs hps) rv
          obtain ⟨z1, z2⟩ := eachIs_of rs rv hr
          have hlen := pysOf_len hps
          have hmap : (xs.zip ps).map (fun b : D × PyData => b.2) = ps := zip_snd hlen
          refine PySem.W.sorted_data (enc := fun b : D × PyData => b.2) hl.isList z1 z2 (by rw [hmap]; exact fun d hd d' hd' => c2 d hd d' hd') ?_ (by rw [List.length_zip, ← hlen, Nat.min_self]; exact c5) (fun b hb => ?_) fun out ho hE => ?_
          · rw [hmap]
            rcases c4 with c4 | c4
            · refine .inl fun d hd => ?_
              have := c4 d hd
              split at this
              · exact ⟨_, _, rfl⟩
              · simp at this
            · refine .inr fun d hd => ?_
              have := c4 d hd
              split at this
              · exact ⟨by simp, by simp⟩
              · cases this
          · have hb2 : b.2 ∈ ps := (List.of_mem_zip hb).2
            have := SeqAt.depth_of_shaped (c3 b.2 hb2)
            omega
          · obtain ⟨zs, k1, k2⟩ := of_each hE
            obtain ⟨ep, he'⟩ := PyProof.Rows.sortedAll_at s.heap its out.toArray
            have hz : out.length ≤ sizeLine := by rw [ho, List.length_zip, ← hlen, Nat.min_self]; exact c5
            refine ⟨.ref _, upd u.H (s.heap.objs.size + 1) (.lst zs), I.laid (t' := s.toks) (fun _ _ => PyProof.Rows.sortedAll_old) (Nat.le_succ _) ⟨by rw [k1.length]; exact hz, out, ep, k1, he'⟩, rfl, ?_⟩
            exact fin.lst W k2 _ (I.hok.fresh (Nat.le_succ _))
        · cases e1
      · cases e1
    · rename_i kvs hM
      obtain ⟨ys, e1, e2⟩ := Option.map_eq_some_iff.mp e
      cases e2
      cases rx
      exact sd pins s σ u.H _ us Q I r ⟨u, _, _, kvs, ys, rfl, W, rfl, hM, e1, fin⟩
    · cases e
  · rename_i ws M1
    obtain ⟨v, rfl, rx⟩ := rds1 rd
    obtain ⟨ys, e1, e2⟩ := Option.map_eq_some_iff.mp e
    cases e2
    cases rx with
    | tup q rs =>
    obtain ⟨its, rv, hl, _⟩ := I.tuple q
    rw [Vals.ref1 r]
    unfold sortD at e1
    split at e1
    · rename_i ps hps
      split at e1
      · rename_i hc
        cases e1
        simp only [Bool.and_eq_true, Bool.or_eq_true, List.all_eq_true, decide_eq_true_eq] at hc
        obtain ⟨⟨⟨⟨_, c2⟩, c3⟩, c4⟩, c5⟩ := hc
        obtain ⟨as, hr⟩ := Dp.readsAll I ps _ its (dps_of W _ _ _ _ rs hps) rv
        obtain ⟨z1, z2⟩ := eachIs_of rs rv hr
        have hlen := pysOf_len hps
        have hmap := zip_snd hlen
        refine st_tup (enc := fun b : D × PyData => b.2) hl z1 z2 (by rw [hmap]; exact fun d hd d' hd' => c2 d hd d' hd') ?_ (by rw [List.length_zip, ← hlen, Nat.min_self]; exact c5) (fun b hb => ?_) fun out ho hE => ?_
        · rw [hmap]
          rcases c4 with c4 | c4
          · refine .inl fun d hd => ?_
            have := c4 d hd
            split at this
            · exact ⟨_, _, rfl⟩
            · simp at this
          · refine .inr fun d hd => ?_
            have := c4 d hd
            split at this
            · exact ⟨by simp, by simp⟩
            · cases this
        · have hb2 : b.2 ∈ ps := (List.of_mem_zip hb).2
          have := SeqAt.depth_of_shaped (c3 b.2 hb2)
          omega
        · obtain ⟨zs, k1, k2⟩ := of_each hE
          obtain ⟨ep, he'⟩ := PyProof.Rows.sortedAll_at s.heap its out.toArray
          have hz : out.length ≤ sizeLine := by rw [ho, List.length_zip, ← hlen, Nat.min_self]; exact c5
          refine ⟨.ref _, upd u.H (s.heap.objs.size + 1) (.lst zs), I.laid (t' := s.toks) (fun _ _ => PyProof.Rows.sortedAll_old) (Nat.le_succ _) ⟨by rw [k1.length]; exact hz, out, ep, k1, he'⟩, rfl, ?_⟩
          exact fin.lst W k2 _ (I.hok.fresh (Nat.le_succ _))
      · cases e1
    · cases e1
  · cases e
end
end DD
namespace DD
open PySem PySem.Spec PyProof.Rows L2
variable [Tabs]

/-! ### dicts: their keys tuples -/
mutual
theorem keyOf_inj : ∀ (a b : D) (k : NestedKey), keyOf a = some k → keyOf b = some k → a = b
  | .non, b, k, h, g => by cases b <;> simp [keyOf] at h g <;> subst h <;> first | rfl | (simp at g)
  | .int i, b, k, h, g => by cases b <;> simp [keyOf] at h g <;> subst h <;> first | (simp at g; subst g; rfl) | (simp at g)
  | .str i, b, k, h, g => by cases b <;> simp [keyOf] at h g <;> subst h <;> first | (simp at g; subst g; rfl) | (simp at g)
  | .bl i, b, k, h, g => by simp [keyOf] at h
  | .loc i, b, k, h, g => by simp [keyOf] at h
  | .tup xs, b, k, h, g => by
    rw [keyOf] at h
    obtain ⟨ks, h1, rfl⟩ := Option.map_eq_some_iff.mp h
    cases b with
    | tup ys =>
      rw [keyOf] at g
      obtain ⟨ls, g1, g2⟩ := Option.map_eq_some_iff.mp g
      cases g2
      rw [keysOf_inj xs ys ks h1 g1]
    | _ => simp [keyOf] at g
theorem keysOf_inj : ∀ (as bs : List D) (ks : List NestedKey), keysOf as = some ks → keysOf bs = some ks → as = bs
  | [], bs, ks, h, g => by
    rw [keysOf] at h; cases h
    cases bs with
    | nil => rfl
    | cons b bs =>
      rw [keysOf] at g
      obtain ⟨k, _, g2⟩ := Option.bind_eq_some_iff.mp g
      obtain ⟨ls, _, g4⟩ := Option.map_eq_some_iff.mp g2
      cases g4
  | a :: as, bs, ks, h, g => by
    rw [keysOf] at h
    obtain ⟨k, h1, h2⟩ := Option.bind_eq_some_iff.mp h
    obtain ⟨ls, h3, rfl⟩ := Option.map_eq_some_iff.mp h2
    cases bs with
    | nil => rw [keysOf] at g; cases g
    | cons b bs =>
      rw [keysOf] at g
      obtain ⟨k', g1, g2⟩ := Option.bind_eq_some_iff.mp g
      obtain ⟨ls', g3, g4⟩ := Option.map_eq_some_iff.mp g2
      cases g4
      rw [keyOf_inj a b k h1 g1, keysOf_inj as bs ls h3 g3]
end
section
variable {X : Cx} {pins : List (Addr × Obj)} {σ : L2.St} {s : Shared} {u : Vw} {M : Sto}
mutual
theorem nested_of {H : Hp} (I : Inv X pins σ H s) (eH : u.H = H) : ∀ (d : D) (v : V) (val : Value) (k : NestedKey), RD X.K u d v → RelV v val → keyOf d = some k → NestedIs s.heap k val
  | .non, v, val, k, r, rv, h => by rw [keyOf] at h; cases h; cases r; cases rv; exact .none
  | .int i, v, val, k, r, rv, h => by rw [keyOf] at h; cases h; cases r; obtain ⟨t, rfl⟩ := rv; exact .int _ _
  | .str i, v, val, k, r, rv, h => by rw [keyOf] at h; cases h; cases r; obtain ⟨t, rfl⟩ := rv; exact .text _ _
  | .bl i, v, val, k, r, rv, h => by simp [keyOf] at h
  | .loc i, v, val, k, r, rv, h => by simp [keyOf] at h
  | .tup xs, v, val, k, r, rv, h => by
    rw [keyOf] at h
    obtain ⟨ks, h1, rfl⟩ := Option.map_eq_some_iff.mp h
    cases r with
    | tup hs rs =>
    rw [eH] at hs
    cases rv
    obtain ⟨its, r2, pl, _⟩ := I.tuple hs
    obtain ⟨o, e, c, n, e2⟩ := pl
    exact .tup e c e2 (by simpa using nesteds_of I eH xs _ its ks rs r2 h1)
theorem nesteds_of {H : Hp} (I : Inv X pins σ H s) (eH : u.H = H) : ∀ (ds : List D) (vs : List V) (vals : List Value) (ks : List NestedKey), RDs X.K u ds vs → Vals vs vals → keysOf ds = some ks → NestedAll s.heap ks vals
  | [], _, _, _, r, rv, h => by rw [keysOf] at h; cases h; cases r; cases rv; exact .nil
  | d :: ds, _, _, _, r, rv, h => by
    rw [keysOf] at h
    obtain ⟨k, h1, h2⟩ := Option.bind_eq_some_iff.mp h
    obtain ⟨ls, h3, rfl⟩ := Option.map_eq_some_iff.mp h2
    cases r with
    | cons r rs =>
    cases rv with
    | cons q qs => exact .cons (nested_of I eH d _ _ k r q h1) (nesteds_of I eH ds _ _ ls rs qs h3)
end
end
/-- an entry, with its key, where it lies, its value -/
structure Ent (K : PySem.W.Frag) (u : Vw) (kv : D × D) (x : NestedKey × Addr × Value) : Prop where
  key : keyOf kv.1 = some x.1
  dep : x.1.depth ≤ 8
  rk : RD K u kv.1 (.ref x.2.1)
  rv : ∃ v, RelV v x.2.2 ∧ RD K u kv.2 v
section
variable {K : PySem.W.Frag} {prog : Program} {w : World} {u : Vw} {M : Sto}
theorem ent_of {kv : D × D} {e : DictEntry} (h : REn K w u kv e) : ∃ x, Ent K u kv x ∧ e = entryOfKey (nestedKind prog w) x := by
  obtain ⟨⟨ys, hy, k, h1, h2, h3⟩, ⟨x, h4, h5⟩, h6⟩ := h
  obtain ⟨kd, dv⟩ := kv
  simp only at hy h1 h5
  subst hy
  cases h5 with
  | tup hs rs =>
    rename_i vs a
    obtain ⟨eh, ek, ev⟩ := e
    obtain rfl : ek = Value.ref a := h4
    obtain rfl : eh = k.hash w := h3
    exact ⟨(k, a, ev), ⟨h1, h2, .tup hs rs, h6⟩, rfl⟩
theorem ren_of {kv : D × D} {x : NestedKey × Addr × Value} (h : Ent K u kv x) : REn K w u kv (entryOfKey (nestedKind prog w) x) := by
  obtain ⟨h1, h2, h3, h4⟩ := h
  obtain ⟨kd, dv⟩ := kv
  obtain ⟨k, a, val⟩ := x
  simp only at h1 h2 h3 h4
  cases kd with
  | tup ys => exact ⟨⟨ys, rfl, k, h1, h2, rfl⟩, ⟨.ref a, rfl, h3⟩, h4⟩
  | loc n => simp [keyOf] at h1
  | non => cases h3
  | bl b => cases h3
  | int b => cases h3
  | str b => cases h3
theorem ents_of : ∀ {kvs : List (D × D)} {es : List DictEntry}, Paired (REn K w u) kvs es → ∃ xs, Paired (Ent K u) kvs xs ∧ es = xs.map (entryOfKey (nestedKind prog w))
  | _, _, .nil => ⟨[], .nil, rfl⟩
  | _, _, .cons h t => by
    obtain ⟨x, a, b⟩ := ent_of (prog := prog) h
    obtain ⟨xs, c, d⟩ := ents_of t
    exact ⟨x :: xs, .cons a c, by rw [List.map_cons, b, d]⟩
theorem rens_of : ∀ {kvs : List (D × D)} {xs : List (NestedKey × Addr × Value)}, Paired (Ent K u) kvs xs → Paired (REn K w u) kvs (xs.map (entryOfKey (nestedKind prog w)))
  | _, _, .nil => .nil
  | _, _, .cons h t => .cons (ren_of h) (rens_of t)
theorem Ent.eq_iff {kv : D × D} {x : NestedKey × Addr × Value} {kd : D} {k : NestedKey} (h : Ent K u kv x) (hk : keyOf kd = some k) : kv.1 = kd ↔ x.1 = k := by
  constructor
  · intro e
    have := h.key
    rw [e, hk] at this
    exact (Option.some.inj this).symm
  · intro e
    exact keyOf_inj _ _ k (by rw [h.key, e]) hk
theorem ents_look {kd : D} {k : NestedKey} (hk : keyOf kd = some k) : ∀ {kvs : List (D × D)} {xs : List (NestedKey × Addr × Value)}, Paired (Ent K u) kvs xs →
    (∀ d, lookD kvs kd = some d → ∃ p, atKey xs k = some p ∧ ∃ v, RelV v p.2 ∧ RD K u d v) ∧ (lookD kvs kd = none → atKey xs k = none)
  | _, _, .nil => ⟨fun d h => by simp [lookD] at h, fun _ => rfl⟩
  | kv :: kvs, x :: xs, .cons h t => by
    obtain ⟨a, b⟩ := ents_look hk t
    have e := h.eq_iff hk
    unfold lookD atKey at a b ⊢
    by_cases hh : kv.1 = kd
    · have h2 : x.1 = k := e.mp hh
      simp only [List.find?_cons, hh, h2, decide_true, Option.map_some]
      exact ⟨fun d q => by cases q; exact ⟨_, rfl, h.rv⟩, fun q => by cases q⟩
    · have h2 : ¬ x.1 = k := fun z => hh (e.mpr z)
      simp only [List.find?_cons, hh, h2, decide_false]
      exact ⟨a, b⟩
theorem ents_any {kd : D} {k : NestedKey} (hk : keyOf kd = some k) : ∀ {kvs : List (D × D)} {xs : List (NestedKey × Addr × Value)}, Paired (Ent K u) kvs xs → (kvs.any fun kv => kv.1 = kd) = (atKey xs k).isSome
  | _, _, .nil => rfl
  | kv :: kvs, x :: xs, .cons h t => by
    have a := ents_any hk t
    have e := h.eq_iff hk
    unfold atKey at a ⊢
    by_cases hh : kv.1 = kd
    · have h2 : x.1 = k := e.mp hh
      simp [List.find?_cons, hh, h2]
    · have h2 : ¬ x.1 = k := fun z => hh (e.mpr z)
      simp only [List.any_cons, List.find?_cons, hh, h2, decide_false, Bool.false_or]
      exact a
theorem ents_map {kd d : D} {k : NestedKey} {val : Value} (hk : keyOf kd = some k) (hv : ∃ v, RelV v val ∧ RD K u d v) : ∀ {kvs : List (D × D)} {xs : List (NestedKey × Addr × Value)}, Paired (Ent K u) kvs xs →
    Paired (Ent K u) (kvs.map fun kv => if kv.1 = kd then (kv.1, d) else kv) (xs.map (putAt k val))
  | _, _, .nil => .nil
  | kv :: kvs, x :: xs, .cons h t => by
    have e := h.eq_iff hk
    refine .cons ?_ (ents_map hk hv t)
    unfold putAt
    dsimp only
    by_cases hh : kv.1 = kd
    · rw [if_pos hh, if_pos (e.mp hh)]
      exact ⟨h.key, h.dep, h.rk, hv⟩
    · rw [if_neg hh, if_neg fun z => hh (e.mpr z)]
      exact h
theorem ents_app : ∀ {kvs kvs2 : List (D × D)} {xs xs2 : List (NestedKey × Addr × Value)}, Paired (Ent K u) kvs xs → Paired (Ent K u) kvs2 xs2 → Paired (Ent K u) (kvs ++ kvs2) (xs ++ xs2)
  | _, _, _, _, .nil, h => h
  | _, _, _, _, .cons a t, h => .cons a (ents_app t h)
theorem ents_put {kd d : D} {k : NestedKey} {a : Addr} {val : Value} (hk : keyOf kd = some k) (hd : k.depth ≤ 8) (hr : RD K u kd (.ref a)) (hv : ∃ v, RelV v val ∧ RD K u d v) {kvs : List (D × D)} {xs : List (NestedKey × Addr × Value)} (h : Paired (Ent K u) kvs xs) :
    Paired (Ent K u) (putD kvs kd d) (storedH xs k a val) := by
  unfold putD storedH
  rw [ents_any hk h]
  split
  · exact ents_map hk hv h
  · exact ents_app h (.cons ⟨hk, hd, hr, hv⟩ .nil)
theorem ents_del {kd : D} {k : NestedKey} (hk : keyOf kd = some k) : ∀ {kvs : List (D × D)} {xs : List (NestedKey × Addr × Value)}, Paired (Ent K u) kvs xs → Paired (Ent K u) (delD kvs kd) (withoutH xs k)
  | _, _, .nil => .nil
  | kv :: kvs, x :: xs, .cons h t => by
    have e := h.eq_iff hk
    have a := ents_del hk t
    unfold delD withoutH at a ⊢
    by_cases hh : kv.1 = kd
    · have h2 : x.1 = k := e.mp hh
      simp only [List.filter_cons, hh, h2, ne_eq, not_true_eq_false, decide_false, Bool.false_eq_true, if_false]
      exact a
    · have h2 : ¬ x.1 = k := fun z => hh (e.mpr z)
      simp only [List.filter_cons, hh, h2, ne_eq, not_false_eq_true, decide_true, if_true]
      exact .cons h a
theorem ents_keys : ∀ {kvs : List (D × D)} {xs : List (NestedKey × Addr × Value)}, Paired (Ent K u) kvs xs → kvs.map (fun kv => keyOf kv.1) = xs.map (fun x => some x.1)
  | _, _, .nil => rfl
  | _, _, .cons h t => by rw [List.map_cons, List.map_cons, h.key, ents_keys t]
theorem ents_nodup {kvs : List (D × D)} {xs : List (NestedKey × Addr × Value)} (h : Paired (Ent K u) kvs xs) (hx : (xs.map (·.1)).Nodup) : (kvs.map (·.1)).Nodup := by
  have e : (kvs.map (·.1)).map keyOf = (xs.map (·.1)).map some := by
    rw [List.map_map, List.map_map]
    exact ents_keys h
  have : ((kvs.map (·.1)).map keyOf).Nodup := by
    rw [e]
    exact List.Pairwise.map _ (fun a b hab z => hab (Option.some.inj z)) hx
  exact List.Pairwise.of_map keyOf (fun a b hab z => hab (by rw [z])) this
theorem nodup_ents {kvs : List (D × D)} {xs : List (NestedKey × Addr × Value)} (h : Paired (Ent K u) kvs xs) (hx : (kvs.map (·.1)).Nodup) : (xs.map (·.1)).Nodup := by
  induction h with
  | nil => exact List.Pairwise.nil
  | @cons kv x kvs xs a t ih =>
    rw [List.map_cons, List.nodup_cons] at hx ⊢
    refine ⟨fun hm => hx.1 ?_, ih hx.2⟩
    have e := ents_keys t
    have : some x.1 ∈ xs.map (fun x => some x.1) := by
      obtain ⟨y, h1, h2⟩ := List.mem_map.mp hm
      exact List.mem_map.mpr ⟨y, h1, by rw [h2]⟩
    rw [← e] at this
    obtain ⟨kv2, h1, h2⟩ := List.mem_map.mp this
    exact List.mem_map.mpr ⟨kv2, h1, keyOf_inj _ _ x.1 h2 a.key⟩
theorem ents_len {kvs : List (D × D)} {xs : List (NestedKey × Addr × Value)} (h : Paired (Ent K u) kvs xs) : kvs.length = xs.length := Paired.length h
end
section
variable {X : Cx} {pins : List (Addr × Obj)} {σ : L2.St} {s : Shared} {u : Vw} {M : Sto} {i : Nat} {kvs : List (D × D)}
theorem dict_at (I : Inv X pins σ u.H s) (W : Wd X.K X.w u M) (h : M[i]? = some (.dct kvs)) : ∃ xs, Paired (Ent X.K u) kvs xs ∧ u.H (u.iot i) = some (.ext (RawD (u.iot i) (xs.map (entryOfKey (nestedKind X.prog X.w))))) ∧
    s.heap.DictOfH (nestedKind X.prog X.w) (u.iot i) xs ∧ (u.iot i == sysModules) = false ∧ kvs.length ≤ sizeLine := by
  obtain ⟨es, e, r, nd, hs, hl⟩ := W.at_ i _ h
  obtain ⟨xs, h1, rfl⟩ := ents_of (prog := X.prog) r
  obtain ⟨⟨o, ep, g1, g2, g3⟩, _⟩ := I.hok _ _ e
  refine ⟨xs, h1, e, ⟨o, _, ep, g1, g2, g3, by simp, fun x hx => ?_, nodup_ents h1 nd⟩, hs, hl⟩
  have key : ∀ {kvs : List (D × D)} {xs : List (NestedKey × Addr × Value)}, Paired (Ent X.K u) kvs xs → ∀ x ∈ xs, ∃ kv, Ent X.K u kv x := by
    intro kvs xs h
    induction h with
    | nil => intro x hx; cases hx
    | cons a t ih =>
      intro x hx
      rcases List.mem_cons.mp hx with rfl | hx
      · exact ⟨_, a⟩
      · exact ih x hx
  obtain ⟨kv, en⟩ := key h1 x hx
  exact ⟨nested_of I rfl kv.1 _ _ x.1 en.rk rfl en.key, en.dep⟩
theorem dict_rd (I : Inv X pins σ u.H s) (W : Wd X.K X.w u M) (h : M[i]? = some (.dct kvs) ∨ M[i]? = some (.fdct kvs)) : ∃ xs, Paired (Ent X.K u) kvs xs ∧ s.heap.DictOfH (nestedKind X.prog X.w) (u.iot i) xs := by
  have st : ∃ es, RawD (u.iot i) es s.heap ∧ Paired (REn X.K X.w u) kvs es ∧ (kvs.map (·.1)).Nodup := by
    rcases h with h | h
    · obtain ⟨es, e, r, nd, _⟩ := W.at_ i _ h
      exact ⟨es, (I.hok _ _ e).1, r, nd⟩
    · obtain ⟨es, od, e, r, nd, _⟩ := W.at_ i _ h
      exact ⟨es, (I.hok _ _ e).2.1, r, nd⟩
  obtain ⟨es, ⟨o, ep, g1, g2, g3⟩, r, nd⟩ := st
  obtain ⟨xs, h1, rfl⟩ := ents_of (prog := X.prog) r
  refine ⟨xs, h1, ⟨o, _, ep, g1, g2, g3, by simp, fun x hx => ?_, nodup_ents h1 nd⟩⟩
  have key : ∀ {kvs : List (D × D)} {xs : List (NestedKey × Addr × Value)}, Paired (Ent X.K u) kvs xs → ∀ x ∈ xs, ∃ kv, Ent X.K u kv x := by
    intro kvs xs h
    induction h with
    | nil => intro x hx; cases hx
    | cons a t ih =>
      intro x hx
      rcases List.mem_cons.mp hx with rfl | hx
      · exact ⟨_, a⟩
      · exact ih x hx
  obtain ⟨kv, en⟩ := key h1 x hx
  exact ⟨nested_of I rfl kv.1 _ _ x.1 en.rk rfl en.key, en.dep⟩
theorem okKey_spec {k : D} (h : okKey k = true) : ∃ q, keyOf k = some q ∧ q.depth ≤ 8 := by
  unfold okKey at h
  split at h
  · split at h
    · rename_i q hq
      exact ⟨q, hq, by simpa using h⟩
    · cases h
  · cases h
/-- a dict is written -/
theorem dict_put (I : Inv X pins σ u.H s) (W : Wd X.K X.w u M) (h : M[i]? = some (.dct kvs)) {kvs' : List (D × D)} {xs' : List (NestedKey × Addr × Value)} (r : Paired (Ent X.K u) kvs' xs') (hl : kvs'.length ≤ sizeLine) {h' : Heap} {tk : Nat}
    (hm : h'.DictOfH (nestedKind X.prog X.w) (u.iot i) xs') (hs : Heap.SameBut (u.iot i) s.heap h') :
    ∃ u' : Vw, Ext X.K u u' ∧ Wd X.K X.w u' (M.set i (.dct kvs')) ∧ Inv X pins σ u'.H { s with heap := h', toks := tk } := by
  obtain ⟨es, e, _, _, hsys, _⟩ := W.at_ i _ h
  obtain ⟨o, es', ep, g1, g2, g3, g4, _, g6⟩ := hm
  have ea : es' = (xs'.map (entryOfKey (nestedKind X.prog X.w))).toArray := by
    rw [← g4]
  rw [ea] at g3
  obtain ⟨x, W'⟩ := W.put (o := .ext (RawD (u.iot i) (xs'.map (entryOfKey (nestedKind X.prog X.w))))) (ob := .dct kvs') h rfl (by rw [e]; trivial) rfl fun u' x hh => ⟨_, hh, Paired.mapP (rens_of r) fun _ _ z => z.mono x, ents_nodup r g6, hsys, hl⟩
  refine ⟨_, x, W', I.write (t' := tk) (x := u.iot i) (e := u.iot i) (by rw [e]; trivial) (.inl rfl) (fun b ob n q => (hs.2 b n).trans q) ⟨o, g1⟩ ?_⟩
  exact ⟨⟨o, ep, g1, g2, g3⟩, ⟨o, g1⟩, RawD.stable⟩
end
end DD
namespace DD
open PySem PySem.Spec PyProof.Rows L2
variable [Tabs]
section
variable {X : Cx}
theorem room8 {A : Around} (hu : A.units + 80 < cLine) {prog : Program} {w : World} : (nestedKind prog w).room A.in1 := by
  show A.units + 1 + 8 < cLine
  omega
theorem key_is {pins : List (Addr × Obj)} {σ : L2.St} {s : Shared} {u : Vw} {kd : D} {v : V} {val : Value} {q : NestedKey} (I : Inv X pins σ u.H s) (r : RD X.K u kd v) (rv : RelV v val) (hk : keyOf kd = some q) (hd : q.depth ≤ 8) (ht : ∃ ys, kd = .tup ys) :
    ∃ a, v = .ref a ∧ val = .ref a ∧ (nestedKind X.prog X.w).is s.heap q a := by
  obtain ⟨ys, rfl⟩ := ht
  obtain ⟨a, rfl⟩ := RD.tup_ref r
  obtain rfl : val = Value.ref a := rv
  exact ⟨a, rfl, rfl, nested_of I rfl _ _ _ _ r rfl hk, hd⟩
theorem okKey_tup {k : D} (h : okKey k = true) : (∃ ys, k = .tup ys) ∧ ∃ q, keyOf k = some q ∧ q.depth ≤ 8 := by
  refine ⟨?_, okKey_spec h⟩
  unfold okKey at h
  split at h
  · exact ⟨_, rfl⟩
  · cases h
theorem ix_dict (hu : X.A.units + 80 < cLine) : IxR X (fun x y H Q => ∃ u M i k kvs d, u.H = H ∧ Wd X.K X.w u M ∧ RD X.K u (.loc i) x ∧ RD X.K u (.tup k) y ∧ (M[i]? = some (.dct kvs) ∨ M[i]? = some (.fdct kvs)) ∧ okKey (.tup k) = true ∧ lookD kvs (.tup k) = some d ∧ ∀ v, RD X.K u d v → Q v H) :=
  fun value slice pins s σ H x y v uv Q I rx ry ⟨u, M, i, k, kvs, d, eH, W, ra, rb, hM, hk, hl, q⟩ hs => by
  subst eH
  cases ra
  obtain rfl : v = Value.ref (u.iot i) := rx
  obtain ⟨ht, nk, h1, h2⟩ := okKey_tup hk
  obtain ⟨a, rfl, rfl, hkey⟩ := key_is I rb ry h1 h2 ht
  obtain ⟨xs, r, hm⟩ := dict_rd I W hM
  obtain ⟨p, hp, v', g1, g2⟩ := (ents_look h1 r).1 d hl
  exact subscriptTail_builtinR (x := p.2) hm.typeIs F.slot_dict_getitem.lookup (wpAny_getItem_heap (Q := fun z s' => z = p.2 ∧ EP X pins σ Q z s') (room8 hu) hkey hm hp ⟨rfl, v', u.H, I.tok _, g1, q v' g2⟩) hs
theorem set_dict (hu : X.A.units + 80 < cLine) : PSet X (fun o i v H Q => ∃ u M n k kvs d, u.H = H ∧ Wd X.K X.w u M ∧ RD X.K u (.loc n) o ∧ RD X.K u (.tup k) i ∧ RD X.K u d v ∧ M[n]? = some (.dct kvs) ∧ okKey (.tup k) = true ∧ kvs.length < sizeLine ∧
      ∀ u', Ext X.K u u' → Wd X.K X.w u' (M.set n (.dct (putD kvs (.tup k) d))) → Q u'.H) :=
  fun pins s σ H o i v ov iv uv Q I ro ri rv ⟨u, M, n, k, kvs, d, eH, W, ra, rb, rd, hM, hk, hl, q⟩ => by
  subst eH
  cases ra
  obtain rfl : ov = Value.ref (u.iot n) := ro
  obtain ⟨ht, nk, h1, h2⟩ := okKey_tup hk
  obtain ⟨a, rfl, rfl, hkey⟩ := key_is I rb ri h1 h2 ht
  obtain ⟨xs, r, _, hm, _, hlen⟩ := dict_at I W hM
  refine wpAny_setItem_heap (room8 hu) hkey hm (fun h' hm' hs => ?_) (by rw [← ents_len r]; exact hlen)
  obtain ⟨u', E', W', I'⟩ := dict_put (tk := s.toks + (nestedKind X.prog X.w).draws nk) I W hM (ents_put h1 h2 rb ⟨v, rv, rd⟩ r) (by unfold putD; split <;> simp <;> omega) hm' hs
  exact ⟨u'.H, I', q u' E' W'⟩
theorem in_dict (hu : X.A.units + 80 < cLine) (neg : Bool) : OpR X (compareOp (if neg then .NotIn else .In)) (fun x y H Q => ∃ u M i k kvs, u.H = H ∧ Wd X.K X.w u M ∧ RD X.K u (.loc i) y ∧ RD X.K u k x ∧ M[i]? = some (.dct kvs) ∧ okKey k = true ∧ Q (.bl (if neg then !(lookD kvs k).isSome else (lookD kvs k).isSome)) H) :=
  fun pins s σ H x y v uv Q I rx ry ⟨u, M, i, k, kvs, eH, W, ra, rb, hM, hk, q⟩ => by
  subst eH
  cases ra
  obtain rfl : uv = Value.ref (u.iot i) := ry
  obtain ⟨ht, nk, h1, h2⟩ := okKey_tup hk
  obtain ⟨a, rfl, rfl, hkey⟩ := key_is I rb rx h1 h2 ht
  obtain ⟨xs, r, _, hm, hsys, _⟩ := dict_at I W hM
  have e : (lookD kvs k).isSome = (atKey xs nk).isSome := by
    obtain ⟨l1, l2⟩ := ents_look h1 r
    cases hq : lookD kvs k with
    | none => rw [l2 hq]; rfl
    | some d => obtain ⟨p, hp, _⟩ := l1 d hq; rw [hp]; rfl
  rw [e] at q
  cases neg
  · exact wpAny_in_heap (room8 hu) hkey hsys hm ⟨.bl _, u.H, I.tok _, rfl, q⟩
  · exact notIn_keyed (room8 hu) hkey hsys ⟨xs, hm, rfl⟩ (by rw [valueAt_pairsH, Option.isSome_map]; exact ⟨.bl _, u.H, I.tok _, rfl, q⟩)
theorem len_dict : CallR X (.builtin "len") (fun vs H Q => ∃ u M i kvs, u.H = H ∧ Wd X.K X.w u M ∧ vs = [.ref (u.iot i)] ∧ i < u.n ∧ M[i]? = some (.dct kvs) ∧ Q (.int kvs.length) H) :=
  fun pins s σ H vs us Q I r ⟨u, M, i, kvs, eH, W, ev, _, hM, q⟩ => by
  subst eH ev
  rw [Vals.ref1 r]
  obtain ⟨xs, r, _, hm, hsys, hl⟩ := dict_at I W hM
  refine call_len_dictH hsys hm (by rw [← ents_len r]; rw [sizeLine_eq] at hl; omega) ?_
  rw [← ents_len r]
  exact ⟨.int _, u.H, I.tok _, ⟨_, rfl⟩, q⟩
theorem keys_rds {u : Vw} : ∀ {kvs : List (D × D)} {xs : List (NestedKey × Addr × Value)}, Paired (Ent X.K u) kvs xs → RDs X.K u (kvs.map (·.1)) (xs.map fun x => V.ref x.2.1)
  | _, _, .nil => .nil
  | _, _, .cons h t => .cons h.rk (keys_rds t)
theorem list_dict (hc : X.calm = true) : CallR X (.type "list") (fun vs H Q => ∃ u M i kvs, u.H = H ∧ Wd X.K X.w u M ∧ vs = [.ref (u.iot i)] ∧ i < u.n ∧ M[i]? = some (.dct kvs) ∧ Fin1 X.K X.w u (.loc M.length) (M ++ [.lst (kvs.map (·.1))]) Q) :=
  fun pins s σ H vs us Q I r ⟨u, M, i, kvs, eH, W, ev, _, hM, fin⟩ => by
  subst eH ev
  rw [Vals.ref1 r]
  obtain ⟨xs, r, _, hm, hsys, hl⟩ := dict_at I W hM
  obtain ⟨o, es, ep, ho, hx, hdt, he, _, _⟩ := hm
  have l1 : es.size = xs.length := size_of_entries he
  have l2 := ents_len r
  refine PySem.W.kdl_call (kdl_raw hsys hx hdt) (I.ok.hd hc) ho (by omega) fun h' tk acc' c' kp e it => ?_
  have hlen : acc'.toList.length = xs.length := by rw [Array.length_toList, it.1]; exact l1
  have rv : Vals (xs.map fun x => V.ref x.2.1) acc'.toList := by
    refine vals_of_at (by rw [List.length_map, hlen]) fun j y z h1 h2 => ?_
    obtain ⟨en, hen, hv⟩ := it.2 j z (by rw [← Array.getElem?_toList]; exact h2)
    have qe := entry_at he j
    rw [hen] at qe
    rw [List.getElem?_map] at h1
    obtain ⟨b, hb, rfl⟩ := Option.map_eq_some_iff.mp h1
    rw [hb] at qe
    cases qe
    exact hv
  refine ⟨.ref s.heap.objs.size, _, I.laid (t' := tk) (o := .lst (xs.map fun x => V.ref x.2.1)) kp (Nat.le_refl _) ⟨by rw [List.length_map]; omega, acc'.toList, c', rv, by rw [Array.toArray_toList]; exact e⟩, rfl, fin.lst W (keys_rds r) _ (I.hok.fresh (Nat.le_refl _))⟩
theorem new_dict {pos : Pos} : PE X (.Dict [] [] pos) (fun σ H Q => ∃ u M, u.H = H ∧ Wd X.K X.w u M ∧ Fin1 X.K X.w u (.loc M.length) (M ++ [.dct []]) Q) := ⟨fun pins s σ H Q I ⟨u, M, eH, W, fin⟩ => by
  subst eH
  have hf := I.hok.fresh (Nat.le_refl s.heap.objs.size)
  obtain ⟨e, W', rl⟩ := W.new (o := .ext (RawD s.heap.objs.size [])) (ob := .dct []) hf fun u' e h => ⟨[], h, .nil, List.Pairwise.nil, beq_eq_false_iff_ne.mpr (Ne.symm (Nat.ne_of_lt I.big)), Nat.zero_le _⟩
  have q := fin _ (.ref s.heap.objs.size) e W'
  rw [← W.n] at q
  refine wpAny_Dict_empty ⟨.ref s.heap.objs.size, _, I.laid (a := s.heap.objs.size) (o := .ext (RawD s.heap.objs.size [])) (t' := s.toks) (fun _ _ q => Heap.get?_push_of_some _ q) (Nat.le_refl _) ?_, rfl, q rl⟩
  exact ⟨⟨_, 0, Heap.get?_push_size _ rfl, ⟨rfl, rfl, rfl⟩, rfl⟩, ⟨_, Heap.get?_push_size _ rfl⟩, RawD.stable⟩⟩
end
end DD
namespace DD
open PySem PySem.Spec PyProof.Rows L2
variable [Tabs]
/-! ### == of dicts: their keys tuples, their values fractions -/
section
variable {prog : Program} {w : World} {K : Type} [DecidableEq K] {knd : HeapKind prog w K} {A : Around} {E : Value → Shared → Prop} {s : Shared}
abbrev HEn (K : Type) := K × Addr × Value
inductive HitsH (prog : Program) (w : World) {K : Type} [DecidableEq K] (A : Around) (s : Shared) (kb : List (HEn K)) : List (HEn K) → Bool → Prop
  | nil : HitsH prog w A s kb [] true
  | miss {x : HEn K} {r : List (HEn K)} : atKey kb x.1 = none → HitsH prog w A s kb (x :: r) false
  | hit {x : HEn K} {p : Addr × Value} {r : List (HEn K)} {e b : Bool} : atKey kb x.1 = some p → SeqAt.EqAt A s x.2.2 p.2 e → HitsH prog w A s kb r b → HitsH prog w A s kb (x :: r) (e && b)
theorem HitsH.inv {kb : List (HEn K)} {x : HEn K} {r : List (HEn K)} {b : Bool} (h : HitsH prog w A s kb (x :: r) b) :
    (atKey kb x.1 = none ∧ b = false) ∨ ∃ p e b', atKey kb x.1 = some p ∧ SeqAt.EqAt A s x.2.2 p.2 e ∧ HitsH prog w A s kb r b' ∧ b = (e && b') := by
  cases h with
  | miss hn => exact .inl ⟨hn, rfl⟩
  | hit hy he hr => exact .inr ⟨_, _, _, hy, he, hr, rfl⟩
theorem atKey_at {xs : List (HEn K)} {k : K} {j : Nat} {p : Addr × Value} (hn : (xs.map (·.1)).Nodup) (h : xs[j]? = some (k, p)) : atKey xs k = some p := by
  unfold atKey
  have hm : (k, p) ∈ xs := List.mem_of_getElem? h
  induction xs generalizing j with
  | nil => cases hm
  | cons x xs ih =>
    rw [List.map_cons, List.nodup_cons] at hn
    by_cases hx : x.1 = k
    · rw [List.find?_cons_of_pos (by simpa using hx)]
      rcases List.mem_cons.mp hm with e | e
      · rw [← e]; rfl
      · exact (hn.1 (by rw [hx]; exact List.mem_map.mpr ⟨_, e, rfl⟩)).elim
    · rw [List.find?_cons_of_neg (by simpa using hx)]
      rcases List.mem_cons.mp hm with e | e
      · exact (hx (by rw [← e])).elim
      · obtain ⟨j', hj'⟩ := List.mem_iff_getElem?.mp e
        exact ih hn.2 hj' e
theorem samePairsH {nm : String} {a b : Addr} {ka kb : List (HEn K)} {r : Bool} {Q : Bool → Shared → Prop} (hu : knd.room A) (ha : (a == sysModules) = false) (hb : (b == sysModules) = false)
    (da : s.heap.DictOfH knd a ka) (db : s.heap.DictOfH knd b kb) (hits : ka.length = kb.length → HitsH prog w A s kb ka r) (h : Q (ka.length == kb.length && r) s) :
    wpAny (model prog w) A (Builtin.Dict.samePairs nm a b) Q E s := by
  obtain ⟨oa, es, ep, hoa, _, hda, hea, hka, hna⟩ := da
  obtain ⟨ob, es', ep', hob, _, hdb, heb, hkb, hnb⟩ := db
  have hla : es.size = ka.length := size_of_entries hea
  have hlb : es'.size = kb.length := size_of_entries heb
  rw [← hla, ← hlb] at h
  unfold Builtin.Dict.samePairs Builtin.Dict.showsAll
  rw [if_neg (show ¬ (a == sysModules) = true by rw [ha]; exact Bool.false_ne_true), if_neg (show ¬ (b == sysModules) = true by rw [hb]; exact Bool.false_ne_true)]
  refine wpAny_bind (wpAny_pure (wpAny_bind (wpAny_pure ?_)))
  refine wpAny_bind (wpAny_dictEntries hoa hda ?_)
  dsimp only
  refine wpAny_bind (wpAny_dictEntries hob hdb ?_)
  by_cases hsz : es.size = es'.size
  case neg =>
    rw [if_pos (by simpa using hsz)]
    have hbf : (es.size == es'.size) = false := by simpa using hsz
    rw [hbf, Bool.false_and] at h
    exact wpAny_bind (wpAny_rule (wpAny_pure h))
  case pos =>
    have h' : Q r s := by simpa [hsz] using h
    have hits' := hits (by rw [← hla, ← hlb]; exact hsz)
    rw [if_neg (by rw [hsz]; simp)]
    refine wpAny_bind (wpAny_dictEpoch hoa hda ?_)
    refine wpAny_bind ?_
    rw [Std.Legacy.Range.forIn_eq_forIn_range']
    simp only [Std.Legacy.Range.size, Nat.sub_zero, Nat.add_sub_cancel, Nat.div_one]
    refine wpAny_forIn_list _
      (fun rest q s' => s' = s ∧ q = (none, ()) ∧ ∃ i, rest = List.range' i (es.size - i) ∧ i ≤ es.size ∧ HitsH prog w A s kb (ka.drop i) r)
      _ ?_ ?_ _ _ ⟨rfl, rfl, 0, by simp, Nat.zero_le _, hits'⟩
    · rintro x rest q s' ⟨rfl, rfl, i, hr, hi, hpre⟩
      have hlt : i < es.size := by
        rcases Nat.lt_or_ge i es.size with h | h
        · exact h
        · rw [Nat.sub_eq_zero_of_le h] at hr; simp at hr
      obtain ⟨rfl, hrest⟩ : x = i ∧ rest = List.range' (i + 1) (es.size - (i + 1)) := by
        have e : es.size - i = (es.size - (i + 1)) + 1 := by omega
        rw [e, List.range'_succ] at hr
        injection hr with h1 h2
        exact ⟨h1, h2⟩
      refine wpAny_bind (wpAny_dictEntries hoa hda ?_)
      rw [Array.getElem?_eq_getElem hlt]
      have hlt' : x < ka.length := by rw [← hla]; exact hlt
      obtain ⟨z, hz⟩ : ∃ z, ka[x] = z := ⟨_, rfl⟩
      have hdrop : ka.drop x = z :: ka.drop (x + 1) := by rw [← hz]; exact List.drop_eq_getElem_cons hlt'
      have hent : es[x] = entryOfKey knd z := by
        have := entry_at hea x
        rw [Array.getElem?_eq_getElem hlt, List.getElem?_eq_getElem hlt', hz, Option.map_some] at this
        exact Option.some.inj this
      have hkz : knd.is s'.heap z.1 z.2.1 := hka z (by rw [← hz]; exact List.getElem_mem _)
      rw [hdrop] at hpre
      show wpAny _ _ (holding [es[x].key, es[x].val] _ >>= _) _ _ _
      rw [hent]
      refine wpAny_bind (wpAny_holding (wpAny_bind (wpAny_dictFind_heap hu hkz hob hdb heb hkb hnb (fun hnone => ?_) fun j p hj => ?_)))
      · have hn : atKey kb z.1 = none := by
          unfold atKey
          rw [List.find?_eq_none.mpr, Option.map_none]
          intro y hy
          obtain ⟨j, hj⟩ := List.mem_iff_getElem?.mp hy
          simp only [decide_eq_true_eq]
          exact fun e => hnone j y.2 (by rw [hj, ← e])
        rcases hpre.inv with ⟨_, er⟩ | ⟨p, _, _, hy, _⟩
        · rw [er] at h'
          refine wpAny_pure ?_
          show wpAny _ _ (if (!false) = true then _ else _) _ _ _
          rw [if_pos (by decide)]
          exact wpAny_pure (wpAny_pure h')
        · rw [hn] at hy; exact nomatch hy
      · have hv' : atKey kb z.1 = some p := atKey_at hnb hj
        have hej := entry_at heb j
        rw [hj, Option.map_some] at hej
        refine wpAny_bind (wpAny_dictEntries hob hdb ?_)
        rw [hej]
        rcases hpre.inv with ⟨hn, _⟩ | ⟨p', e, b', hy, he, hrr, er⟩
        · rw [hv'] at hn; exact nomatch hn
        · have ep' : p = p' := Option.some.inj (hv'.symm.trans hy)
          subst ep'
          refine wpAny_holding (he _ _ _ _ ?_)
          cases e with
          | false =>
            rw [er, Bool.false_and] at h'
            show wpAny _ _ (if (!false) = true then _ else _) _ _ _
            rw [if_pos (by decide)]
            exact wpAny_pure (wpAny_pure h')
          | true =>
            rw [Bool.true_and] at er
            rw [← er] at hrr
            show wpAny _ _ (if (!true) = true then _ else _) _ _ _
            rw [if_neg (by decide)]
            refine wpAny_bind (wpAny_dictEpoch hoa hda ?_)
            rw [if_neg (by simp)]
            exact wpAny_pure ⟨rfl, rfl, x + 1, hrest, hlt, hrr⟩
    · rintro q s' ⟨rfl, rfl, i, hr, hi, hpre⟩
      have hin : i = es.size := by
        rcases Nat.lt_or_ge i es.size with h | h
        · have e : es.size - i = (es.size - (i + 1)) + 1 := by omega
          rw [e, List.range'_succ] at hr; exact nomatch hr
        · exact Nat.le_antisymm hi h
      refine wpAny_pure ?_
      rw [hin, hla, List.drop_length] at hpre
      cases hpre
      exact h'
theorem eq_dictsH {a b : Addr} {ka kb : List (HEn K)} {r : Bool} (hr : knd.room A.in1) (ha : (a == sysModules) = false) (hb : (b == sysModules) = false)
    (da : s.heap.DictOfH knd a ka) (db : s.heap.DictOfH knd b kb) (hu : A.units < cLine) (hits : ka.length = kb.length → HitsH prog w A.in1 s kb ka r) (Q : Value → Shared → Prop) (h : Q (.bool (ka.length == kb.length && r)) s) : wpAny (model prog w) A (compareOp .Eq (.ref a) (.ref b)) Q E s := by
  refine wpAny_richCompare_same_room (op := .Eq) da.typeIs db.typeIs PySem.F.slot_dict_eq (wpAny_call_entry PySem.F.slot_dict_eq da.typeIs PySem.F.entry_dict_eq ?_ (PySem.F.args_dict_eq_2 _ _)) hu
  show wpAny _ _ (Builtin.Dict.dictSlotArgs "__eq__" ⟨[.ref a, .ref b], []⟩ >>= _) _ _ s
  refine wpAny_bind ?_
  unfold Builtin.Dict.dictSlotArgs
  refine wpAny_bind (wpAny_notOrdered_dict da.typeIs ?_)
  show wpAny _ _ (pure (Value.ref a, Value.ref b)) _ _ s
  refine wpAny_pure ?_
  refine wpAny_bind (wpAny_isInstance (T := "dict") db.typeIs PySem.F.sub_dict_dict ?_)
  simp only [Bool.not_true, Bool.false_eq_true, if_false]
  refine wpAny_bind (wpAny_pure (wpAny_bind (wpAny_pure ?_)))
  refine wpAny_bind (samePairsH hr ha hb da db hits ?_)
  refine wpAny_pure ⟨_, rfl, ?_, ?_⟩
  · exact fun x => nomatch x
  · simpa using h
end
section
variable {X : Cx} {pins : List (Addr × Obj)} {σ : L2.St} {s : Shared} {u : Vw} {M : Sto}
theorem fracV_eq {d : D} (h : fracV d = true) : ∃ a b, d = .tup [.int a, .int b] := by
  unfold fracV at h; split at h
  · exact ⟨_, _, rfl⟩
  · cases h
theorem frac_eqAt (I : Inv X pins σ u.H s) {A : Around} (hu : A.units + 1 < cLine) {d d' : D} (hd : fracV d = true) (hd' : fracV d' = true) {x x' : Value} (hx : ∃ v, RelV v x ∧ RD X.K u d v) (hx' : ∃ v, RelV v x' ∧ RD X.K u d' v) : SeqAt.EqAt A s x x' (decide (d' = d)) := by
  obtain ⟨a, b, rfl⟩ := fracV_eq hd
  obtain ⟨a', b', rfl⟩ := fracV_eq hd'
  obtain ⟨v, rv, rd⟩ := hx
  obtain ⟨v', rv', rd'⟩ := hx'
  cases rd with
  | tup h1 r1 =>
  cases rd' with
  | tup h2 r2 =>
  rename_i vs l vs' l'
  obtain rfl : x = Value.ref l := rv
  obtain rfl : x' = Value.ref l' := rv'
  obtain ⟨its, q1, p1, _⟩ := I.tuple h1
  obtain ⟨its', q2, p2, _⟩ := I.tuple h2
  have two : ∀ {a b : Int} {vs : List V}, RDs X.K u [.int a, .int b] vs → vs = [V.int a, V.int b] := by
    intro a b vs r
    cases r with
    | cons y1 ys =>
    cases ys with
    | cons y2 ys =>
    cases ys
    cases y1; cases y2
    rfl
  have two' : ∀ {a b : Int} {its : List Value}, Vals [V.int a, V.int b] its → ∃ t t', its = [.int a t, .int b t'] := by
    intro a b its q
    cases q with
    | cons z1 zs =>
    cases zs with
    | cons z2 zs =>
    cases zs
    obtain ⟨t, rfl⟩ := z1
    obtain ⟨t', rfl⟩ := z2
    exact ⟨t, t', rfl⟩
  have f1 := two r1
  have f2 := two r2
  subst f1 f2
  obtain ⟨t1, t2, rfl⟩ := two' q1
  obtain ⟨t3, t4, rfl⟩ := two' q2
  by_cases hl : l = l'
  · subst hl
    have := I.tuple_inj h1 h2
    injection this with g1 g2
    injection g1 with g1
    injection g2 with g2
    injection g2 with g2
    subst g1 g2
    rw [decide_eq_true rfl]
    exact SeqAt.EqAt.same _
  · have := SeqAt.EqAt.of_refs hl (SeqAt.RcAt.tuples (A := A) (e := fun j => if j = 0 then a == a' else b == b') p1 p2 (by omega) fun j h1 h2 => ?_)
    · have e : decide ((.tup [.int a', .int b'] : D) = .tup [.int a, .int b]) = ((List.range (min [Value.int a t1, Value.int b t2].toArray.size [Value.int a' t3, Value.int b' t4].toArray.size)).all (fun j => if j = 0 then a == a' else b == b') && [Value.int a t1, Value.int b t2].toArray.size == [Value.int a' t3, Value.int b' t4].toArray.size) := by
        have h0 : List.range 2 = [0, 1] := rfl
        simp only [List.size_toArray, List.length_cons, List.length_nil, Nat.zero_add, Nat.reduceAdd, Nat.min_self, h0, List.all_cons, List.all_nil, beq_self_eq_true, Bool.and_true, if_true, Nat.one_ne_zero, if_false]
        rw [Bool.eq_iff_iff]
        simp
        constructor
        · rintro ⟨rfl, rfl⟩; exact ⟨rfl, rfl⟩
        · rintro ⟨rfl, rfl⟩; exact ⟨rfl, rfl⟩
      rw [e]; exact this
    · have hj : j = 0 ∨ j = 1 := by simp at h1; omega
      rcases hj with rfl | rfl
      · exact SeqAt.EqAt.int_int a t1 a' t3
      · exact SeqAt.EqAt.int_int b t2 b' t4
theorem hits_of (I : Inv X pins σ u.H s) {A : Around} (hu : A.units + 1 < cLine) {kb : List (D × D)} {xb : List (NestedKey × Addr × Value)} (rb : Paired (Ent X.K u) kb xb) (hb : kb.all (fun e => fracV e.2) = true) :
    ∀ {ka : List (D × D)} {xa : List (NestedKey × Addr × Value)}, Paired (Ent X.K u) ka xa → ka.all (fun e => fracV e.2) = true → HitsH X.prog X.w A s xb xa (ka.all fun e => decide (lookD kb e.1 = some e.2))
  | _, _, .nil, _ => .nil
  | kv :: ka, x :: xa, .cons h t, ha => by
    simp only [List.all_cons, Bool.and_eq_true] at ha
    have ih := hits_of I hu rb hb t ha.2
    obtain ⟨g1, g2⟩ := ents_look h.key rb
    rw [List.all_cons]
    cases hl : lookD kb kv.1 with
    | none =>
      simp only [reduceCtorEq, decide_false, Bool.false_and]
      exact .miss (g2 hl)
    | some d =>
      obtain ⟨p, hp, hv⟩ := g1 d hl
      have hfd : fracV d = true := by
        unfold lookD at hl
        obtain ⟨e, he, rfl⟩ := Option.map_eq_some_iff.mp hl
        exact List.all_eq_true.mp hb e (List.mem_of_find?_eq_some he)
      have e : decide (some d = some kv.2) = decide (d = kv.2) := by simp
      rw [e]
      exact .hit hp (frac_eqAt I hu ha.1 hfd h.rv hv) ih
theorem cmp_deq_D (hu : X.A.units + 80 < cLine) : OpR X (compareOp .Eq) (rC X.K X.w deqD) := fun pins s σ H x y v uv Q I rx ry ⟨u, M, a, b, eH, W, ra, rb, c, e, q⟩ => by
  subst eH
  have at_ : ∀ {z : D} {ks : List (D × D)}, dictAt M z = some ks → ∃ i, z = .loc i ∧ M[i]? = some (.dct ks) := by
    intro z ks hd
    unfold dictAt at hd
    split at hd
    · rename_i i
      split at hd
      · rename_i kvs' hM
        cases hd
        exact ⟨i, rfl, hM⟩
      · cases hd
    · cases hd
  unfold deqD at e
  split at e
  · rename_i ka kb h1 h2
    split at e
    · rename_i hf
      simp only [Bool.and_eq_true] at hf
      obtain ⟨i, rfl, hi⟩ := at_ h1
      obtain ⟨j, rfl, hj⟩ := at_ h2
      cases ra
      cases rb
      obtain rfl : v = Value.ref (u.iot i) := rx
      obtain rfl : uv = Value.ref (u.iot j) := ry
      obtain ⟨xa, ea, _, da, sa, _⟩ := dict_at I W hi
      obtain ⟨xb, eb, _, db, sb, _⟩ := dict_at I W hj
      refine eq_dictsH (r := ka.all fun e => decide (lookD kb e.1 = some e.2)) (room8 hu) sa sb da db (by omega) (fun _ => hits_of I (by show X.A.units + 1 + 1 < cLine; omega) eb hf.2 ea hf.1) _ ?_
      have e2 : (xa.length == xb.length && ka.all fun e => decide (lookD kb e.1 = some e.2)) = c := by
        rw [← ents_len ea, ← ents_len eb]
        have : (ka.length == kb.length) = decide (ka.length = kb.length) := by rw [Bool.eq_iff_iff]; simp
        rw [this]
        exact Option.some.inj e
      rw [e2]
      exact ⟨.bl c, u.H, I, rfl, q⟩
    · cases e
  · cases e
end
end DD
namespace DD
open PySem PySem.Spec PyProof.Rows L2 PySem.W PySem.Calls
variable [Tabs]
theorem sorted_dict {X : Cx} (hu : X.A.units + 80 < cLine) (hc : X.calm = true) : CallR X (.builtin "sorted") (fun vs H Q => ∃ u M i kvs ys, u.H = H ∧ Wd X.K X.w u M ∧ vs = [.ref (u.iot i)] ∧ M[i]? = some (.dct kvs) ∧ sortD M (kvs.map (·.1)) = some ys ∧ Fin1 X.K X.w u (.loc M.length) (M ++ [.lst ys]) Q) :=
  fun pins s σ H vs us Q I r ⟨u, M, i, kvs, ys, eH, W, ev, hM, e1, fin⟩ => by
  subst eH ev
  rw [Vals.ref1 r]
  obtain ⟨xs, r, _, hm, hsys, hl⟩ := dict_at I W hM
  obtain ⟨o, es, ep, ho, hx, hdt, he, _, _⟩ := hm
  have l1 : es.size = xs.length := size_of_entries he
  have l2 := ents_len r
  refine call_function_entry_kw kind_sorted plain_sorted entry_sorted (args_sorted1 _) ?_
  unfold Builtin.«sorted»
  refine wpAny_bind (m := checkCount "sorted" 1 1 _) (wpAny_pure ?_)
  refine wpAny_bind (kdu_collect (A := X.A.in1) (kdl_raw hsys hx hdt) (I.ok.hd hc) ho (by omega) fun h' tk acc kp it => ?_)
  have hlen : acc.toList.length = xs.length := by rw [Array.length_toList, it.1]; exact l1
  have rv : Vals (xs.map fun x => V.ref x.2.1) acc.toList := by
    refine vals_of_at (by rw [List.length_map, hlen]) fun j y z h1 h2 => ?_
    obtain ⟨en, hen, hv⟩ := it.2 j z (by rw [← Array.getElem?_toList]; exact h2)
    have qe := entry_at he j
    rw [hen] at qe
    rw [List.getElem?_map] at h1
    obtain ⟨b, hb, rfl⟩ := Option.map_eq_some_iff.mp h1
    rw [hb] at qe
    cases qe
    exact hv
  have I' : Inv X pins σ u.H { s with heap := h', toks := tk } := I.kept kp
  have rs := keys_rds r
  generalize hws : acc.toList = ws at *
  unfold sortD at e1
  split at e1
  · rename_i ps hps
    split at e1
    · rename_i hcc
      cases e1
      simp only [Bool.and_eq_true, Bool.or_eq_true, List.all_eq_true, decide_eq_true_eq] at hcc
      obtain ⟨⟨⟨⟨_, c2⟩, c3⟩, c4⟩, c5⟩ := hcc
      obtain ⟨as, hr⟩ := Dp.readsAll I' ps _ ws (dps_of W _ _ _ _ rs hps) rv
      obtain ⟨z1, z2⟩ := eachIs_of rs rv hr
      have hplen := pysOf_len hps
      have hmap := zip_snd hplen
      have hw : ws.length ≤ sizeLine := by rw [hlen]; omega
      have hL : (h'.push (seqObj "list" ws.toArray 0)).get? h'.objs.size = some (seqObj "list" ws.toArray 0) := Heap.get?_push_size _ rfl
      have oldS : ∀ b o, h'.get? b = some o → (sortingHeap (h'.push (seqObj "list" ws.toArray 0)) h'.objs.size ws).get? b = some o := fun b o e => sortingHeap_old (Nat.ne_of_lt (Heap.lt_size e)) (Heap.get?_push_of_some _ e)
      have hb : (List.zip (kvs.map (·.1)) ps).length ≤ sizeLine := by rw [List.length_zip, ← hplen, Nat.min_self]; exact c5
      have hd : ∀ b, b ∈ List.zip (kvs.map (·.1)) ps → X.A.in1.in1.units + (b.2).depth < cLine := fun b hb => by
        have hb2 : b.2 ∈ ps := (List.of_mem_zip hb).2
        have := SeqAt.depth_of_shaped (c3 b.2 hb2)
        show X.A.units + 2 + _ < _
        omega
      have ha : AllAlike ((List.zip (kvs.map (·.1)) ps).map fun b : D × PyData => b.2) := by rw [hmap]; exact fun d hd d' hd' => c2 d hd d' hd'
      have hk : Sortable ((List.zip (kvs.map (·.1)) ps).map fun b : D × PyData => b.2) := by
        rw [hmap]
        rcases c4 with c4 | c4
        · refine .inl fun d hd => ?_
          have := c4 d hd
          split at this
          · exact ⟨_, _, rfl⟩
          · simp at this
        · refine .inr fun d hd => ?_
          have := c4 d hd
          split at this
          · exact ⟨by simp, by simp⟩
          · cases this
      have er2 : EachIs (fun v b => ∃ as, Reads (sortingHeap (h'.push (seqObj "list" ws.toArray 0)) h'.objs.size ws) v ((fun b : D × PyData => b.2) b) as) ws (List.zip (kvs.map (·.1)) ps) :=
        z2.mono fun _ _ ⟨as, r⟩ => ⟨as, PyProof.Rows.Reads.keeps (fun _ _ => oldS _ _) r⟩
      have S := SortsAt.data (prog := X.prog) (w := X.w) (A := X.A.in1.in1)
        (s := { s with heap := sortingHeap (h'.push (seqObj "list" ws.toArray 0)) h'.objs.size ws, toks := tk })
        (each_map (R := fun v d => ∃ as, Reads (sortingHeap (h'.push (seqObj "list" ws.toArray 0)) h'.objs.size ws) v d as) (fun b : D × PyData => b.2) er2) ha hk (bound_map hd)
      refine wpAny_bind (wpAny_newList ?_ hw)
      refine wpAny_bind (wpAny_holding (wpAny_call_entry_kw slot_list_sort ⟨_, hL, rfl⟩ entry_list_sort ?_ (args_list_sort _)))
      refine list_sort_vals (s := { s with heap := h'.push (seqObj "list" ws.toArray 0), toks := tk }) hL S hw ?_
      refine ⟨_, rfl, wpAny_pure ⟨_, rfl, ?_⟩⟩
      have hE := sortVals_data false z1 er2 ha
      have hol := sortVals_length (κ := dataKind (sortingHeap (h'.push (seqObj "list" ws.toArray 0)) h'.objs.size ws) ((List.zip (kvs.map (·.1)) ps).map fun b : D × PyData => b.2)) (vs := ws) false rfl
      generalize sortVals (dataKind (sortingHeap (h'.push (seqObj "list" ws.toArray 0)) h'.objs.size ws) ((List.zip (kvs.map (·.1)) ps).map fun b : D × PyData => b.2)) false ws ws = out at *
      obtain ⟨zs, k1, k2⟩ := of_each hE
      obtain ⟨ep2, hat⟩ := sortedHeap_at (out := out.toArray) hL
      have no : ∀ {H0 : Heap}, True := fun {_} => trivial
      have fresh : s.heap.get? h'.objs.size = none := by
        cases e : s.heap.get? h'.objs.size with
        | none => rfl
        | some o => exact absurd (Heap.lt_size (kp _ o e)) (Nat.lt_irrefl _)
      have hn := CB.none_of I fresh
      refine ⟨.ref h'.objs.size, upd u.H h'.objs.size (.lst zs), I.laidN (t' := tk) (fun b o e => ?_) fresh hn ⟨by rw [k1.length, hol]; exact hw, out, ep2, k1, hat⟩, rfl, ?_⟩
      · have hlt := Heap.lt_size (kp b o e)
        rw [sortedHeap_old (Nat.ne_of_lt hlt) (by rw [size_push']; exact Nat.lt_succ_of_lt hlt)]
        exact Heap.get?_push_of_some _ (kp b o e)
      · exact fin.lst W k2 _ hn
    · cases e1
  · cases e1
end DD
namespace DD
open PySem PySem.Spec PyProof.Rows L2
variable [Tabs]
section
variable {K : PySem.W.Frag} {u : Vw}
theorem flat_of {d : D} {v : V} (r : RD K u d v) (h : flatD d = true) : flatV v = true := by
  cases r <;> first | rfl | (simp [flatD] at h)
theorem flats_of : ∀ {ds : List D} {vs : List V}, RDs K u ds vs → ds.all flatD = true → vs.all flatV = true
  | _, _, .nil, _ => rfl
  | _, _, .cons r rs, h => by
    rw [List.all_cons, Bool.and_eq_true] at h ⊢
    exact ⟨flat_of r h.1, flats_of rs h.2⟩
theorem eq_of {a b : D} {v z : V} (r : RD K u a v) (q : RD K u b z) (ha : flatD a = true) (hb : flatD b = true) : eqF a b = eqV v z := by
  cases r <;> cases q <;> first | (simp [flatD] at ha; done) | (simp [flatD] at hb; done) | rfl | (simp only [eqF, eqV]; first | rfl | (rw [Bool.eq_iff_iff]; simp))
theorem any_of {x : D} {z : V} (q : RD K u x z) (hx : flatD x = true) : ∀ {ds : List D} {vs : List V}, RDs K u ds vs → ds.all flatD = true → (ds.any fun y => eqF y x) = inV z vs
  | _, _, .nil, _ => rfl
  | _, _, .cons r rs, h => by
    rw [List.all_cons, Bool.and_eq_true] at h
    unfold inV
    rw [List.any_cons, List.any_cons, eq_of r q h.1 hx]
    have := any_of q hx rs h.2
    unfold inV at this
    rw [this]
end
section
variable {X : Cx}
theorem cmp_in_D (hu : X.A.units + 80 < cLine) (neg : Bool) : OpR X (compareOp (if neg then .NotIn else .In)) (rC X.K X.w fun x y M => (inD x y M).map fun b => if neg then !b else b) := opBy fun x y H Q ⟨u, M, a, b, eH, W, ra, rb, c, e, q⟩ => by
  subst eH
  obtain ⟨c0, e0, rfl⟩ := Option.map_eq_some_iff.mp e
  unfold inD at e0
  split at e0
  · rename_i kvs hd
    split at e0
    · rename_i hk
      cases e0
      unfold dictAt at hd
      split at hd
      · rename_i i
        split at hd
        · rename_i kvs' hM
          cases hd
          exact ⟨_, in_dict hu neg, u, M, i, a, kvs, rfl, W, rb, ra, hM, hk, q⟩
        · cases hd
      · cases hd
    · cases e0
  · split at e0
    · rename_i ys hs
      split at e0
      · rename_i hf
        cases e0
        simp only [Bool.and_eq_true] at hf
        obtain ⟨p, vs, rfl, hq, rs⟩ := seq_rd W rb hs
        rw [any_of ra hf.1 rs hf.2] at q
        cases neg
        · exact ⟨_, op_in_seq, p, vs, rfl, hq, flat_of ra hf.1, flats_of rs hf.2, q⟩
        · exact ⟨_, op_notIn_seq, p, vs, rfl, hq, flat_of ra hf.1, flats_of rs hf.2, q⟩
      · split at e0
        · rename_i n d ds e1 _ e2
          split at e0
          · rename_i hs
            cases e0
            simp only [Bool.and_eq_true] at hs
            cases neg
            · exact ⟨_, op_inD (by omega), _, _, dp_of W _ _ _ _ ra e1, dp_of W _ _ _ _ rb e2, hs.1, hs.2, q⟩
            · exact ⟨_, op_notInD (by omega), _, _, dp_of W _ _ _ _ ra e1, dp_of W _ _ _ _ rb e2, hs.1, hs.2, q⟩
          · cases e0
        · cases e0
    · cases e0
/-! ### methods of dicts -/
theorem mt_get_D (hu : X.A.units + 80 < cLine) : MtR X "dict.get" (rM X.K X.w .get) := fun pins s σ H x vs v us Q I rx r ⟨u, M, a, ds, eH, W, ra, rd, d, M', e, fin⟩ => by
  subst eH
  simp only [mthD] at e
  unfold getM at e
  split at e
  · rename_i M1 i k z
    split at e
    · rename_i kvs hM
      split at e
      · rename_i hk
        cases e
        cases ra
        obtain rfl : v = Value.ref (u.iot i) := rx
        obtain ⟨v1, v2, rfl, r1, r2⟩ := rds2 rd
        obtain ⟨u1, u2, rfl, q1, q2⟩ := vals2 r
        obtain ⟨ht, nk, h1, h2⟩ := okKey_tup hk
        obtain ⟨b, rfl, rfl, hkey⟩ := key_is I r1 q1 h1 h2 ht
        obtain ⟨xs, rr, _, hm, hsys, _⟩ := dict_at I W hM
        refine getOr_keyed (room8 hu) hkey hsys ⟨xs, hm, rfl⟩ ?_
        rw [valueAt_pairsH]
        obtain ⟨l1, l2⟩ := ents_look h1 rr
        cases hq : lookD kvs k with
        | none =>
          rw [l2 hq]
          rw [hq] at fin
          exact ⟨v2, u.H, I.tok _, q2, fin.now W r2⟩
        | some dd =>
          obtain ⟨p, hp, vv, g1, g2⟩ := l1 dd hq
          rw [hp]
          rw [hq] at fin
          exact ⟨vv, u.H, I.tok _, g1, fin.now W g2⟩
      · cases e
    · cases e
  · cases e
theorem mt_setdefault_D (hu : X.A.units + 80 < cLine) : MtR X "dict.setdefault" (rM X.K X.w .setdefault) := fun pins s σ H x vs v us Q I rx r ⟨u, M, a, ds, eH, W, ra, rd, d, M', e, fin⟩ => by
  subst eH
  simp only [mthD] at e
  unfold setdefaultM at e
  split at e
  · rename_i M1 i k z
    split at e
    · rename_i kvs hM
      split at e
      · rename_i hk
        cases ra
        obtain rfl : v = Value.ref (u.iot i) := rx
        obtain ⟨v1, v2, rfl, r1, r2⟩ := rds2 rd
        obtain ⟨u1, u2, rfl, q1, q2⟩ := vals2 r
        obtain ⟨ht, nk, h1, h2⟩ := okKey_tup hk
        obtain ⟨b, rfl, rfl, hkey⟩ := key_is I r1 q1 h1 h2 ht
        obtain ⟨xs, rr, _, hm, hsys, hlen⟩ := dict_at I W hM
        obtain ⟨l1, l2⟩ := ents_look h1 rr
        refine call_setdefault_heap (hsz := by rw [← ents_len rr]; exact hlen) (room8 hu) hkey hsys hm (fun p hp => ?_) fun hn h' hm' hs => ?_
        · cases hq : lookD kvs k with
          | none => rw [l2 hq] at hp; cases hp
          | some dd =>
            obtain ⟨p', hp', vv, g1, g2⟩ := l1 dd hq
            rw [hq] at e
            cases e
            rw [hp] at hp'
            cases hp'
            exact ⟨vv, u.H, I.tok _, g1, fin.now W g2⟩
        · cases hq : lookD kvs k with
          | some dd =>
            obtain ⟨p', hp', _⟩ := l1 dd hq
            rw [hn] at hp'; cases hp'
          | none =>
            rw [hq] at e
            simp only at e
            split at e
            · rename_i hl
              cases e
              obtain ⟨u', E', W', I'⟩ := dict_put (tk := s.toks + (nestedKind X.prog X.w).draws nk) I W hM (ents_put h1 h2 r1 ⟨v2, q2, r2⟩ rr) (by unfold putD; split <;> simp <;> omega) hm' hs
              exact ⟨v2, u'.H, I', q2, fin u' _ E' W' (r2.mono E')⟩
            · cases e
      · cases e
    · cases e
  · cases e
theorem mt_pop_D (hu : X.A.units + 80 < cLine) : MtR X "dict.pop" (rM X.K X.w .pop) := fun pins s σ H x vs v us Q I rx r ⟨u, M, a, ds, eH, W, ra, rd, d, M', e, fin⟩ => by
  subst eH
  simp only [mthD] at e
  unfold popM at e
  split at e
  · rename_i M1 i k
    split at e
    · rename_i kvs hM
      split at e
      · rename_i hk
        obtain ⟨dd, hq, e2⟩ := Option.map_eq_some_iff.mp e
        cases e2
        cases ra
        obtain rfl : v = Value.ref (u.iot i) := rx
        obtain ⟨v1, rfl, r1⟩ := rds1 rd
        obtain ⟨u1, rfl, q1⟩ := vals1 r
        obtain ⟨ht, nk, h1, h2⟩ := okKey_tup hk
        obtain ⟨b, rfl, rfl, hkey⟩ := key_is I r1 q1 h1 h2 ht
        obtain ⟨xs, rr, _, hm, hsys, hlen⟩ := dict_at I W hM
        obtain ⟨p, hp, vv, g1, g2⟩ := (ents_look h1 rr).1 _ hq
        refine call_pop_heap (hsz := by rw [← ents_len rr]; exact hlen) (more := []) (.inl rfl) (F.args_dict_pop_2 _ _) (room8 hu) hkey hsys hm hp fun h' hm' hs => ?_
        obtain ⟨u', E', W', I'⟩ := dict_put (tk := s.toks + (nestedKind X.prog X.w).draws nk) I W hM (ents_del h1 rr) (Nat.le_trans (List.length_filter_le _ _) hlen) hm' hs
        exact ⟨vv, u'.H, I', g1, fin u' _ E' W' (g2.mono E')⟩
      · cases e
    · cases e
  · cases e
/-- all that a context has -/
theorem rules {k : Nat} {X : Cx} (hc : X.calm = true) (hr : RoomG k X.A) : Rl X := by
  have h200 : X.A.units + 80 < cLine := by have := hr.rm.un; omega
  have h64 : X.A.units + 64 < cLine := by omega
  refine ⟨fun o => ?_, fun o => ?_, fun b y t nm hb => ?_, isi_D, ix_seq_D (ix_dict h200), set_D (set_dict h200), fun m => ?_, fun pos => new_dict⟩
  · cases o
    · exact cmp_eq_D h64
    · exact cmp_ne_D h64
    · exact cmp_lt_D (op_ltA h64)
    · exact cmp_le_A h64
    · exact cmp_gt_D
    · exact cmp_ge_D
    · exact opBy fun x y H Q ⟨u, M, a, b, eH, W, ra, rb, c, e, q⟩ => ⟨_, cmp_in_D h200 false, u, M, a, b, eH, W, ra, rb, c, by simpa [opC] using e, q⟩
    · exact opBy fun x y H Q ⟨u, M, a, b, eH, W, ra, rb, c, e, q⟩ => ⟨_, cmp_in_D h200 true, u, M, a, b, eH, W, ra, rb, c, by simpa [opC] using e, q⟩
    · exact cmp_is_D
    · exact cmp_isnt_D
    · exact cmp_deq_D h200
  · cases o
    · exact op_add_D
    · exact op_sub_D
    · exact op_mul_D op_rep01
    · exact op_fdiv_D
    · exact op_mod_D
    · exact op_pow_D
  · unfold biNm at hb
    split at hb <;> cases hb
    · exact bi_abs
    · exact bi_len len_dict
    · exact bi_int
    · exact bi_all hc
    · exact bi_sum hc
    · exact bi_max hc
    · exact bi_min hc
    · exact bi_divmod
    · exact bi_tuple
    · exact bi_list (list_dict hc)
    · exact bi_sorted h200 (sorted_dict h200 hc)
    · exact bi_repr hr.gd h64
    · exact bi_str
  · cases m
    · exact mt_append_D
    · exact mt_extend_D
    · exact mt_get_D h200
    · exact mt_pop_D h200
    · exact mt_setdefault_D h200
    · exact mt_popl_D
end
end DD
namespace DD
open PySem PySem.Spec PyProof.Rows L2
variable [Tabs]
/-! ### max(xs, default=None) -/
section
variable {X : Cx} {F : Fns}
theorem readsAll_ints {h : Heap} : ∀ {us : List Value} {ns : List Int}, IntsAre us ns → ReadsAll h us (ns.map .int) []
  | _, _, .nil => .nil
  | _, _, .cons n t r => .cons (.int n t) (readsAll_ints r)
theorem max_default (hc : X.calm = true) (hu : X.A.units + 64 < cLine) : CallRK X (.builtin "max") [Str.ofString "default"] (fun vs zs H Q => zs = [.non] ∧ aD X.K X.w maxdB vs H Q) := fun pins s σ H xs zs us ws Q I r rz ⟨ez, u, M, ds, eH, W, rd, d, M', e, fin⟩ => by
  subst eH ez
  obtain ⟨w0, rfl, rw0⟩ := vals1 rz
  cases rw0
  unfold maxdB at e
  split at e
  · rename_i M1 i
    obtain ⟨v, rfl, rx⟩ := rds1 rd
    cases rx
    rw [Vals.ref1 r]
    have key : ∀ (xs : List D) (ns : List Int), M[i]? = some (.lst xs) → intsOf xs = some ns → (ns = [] → Fin1 X.K X.w u .non M Q) → (∀ y ys, ns = y :: ys → Fin1 X.K X.w u (.int (ys.foldl max y)) M Q) →
        wpAny (model X.prog X.w) X.A (call (.builtin "max") [.ref (u.iot i)] ([Str.ofString "default"].zip [Value.none])) (EP X pins σ Q) X.xe s := by
      intro xs ns hM hi f0 f1
      obtain ⟨_, vs, q, rs⟩ := W.lst hM
      have ev := ints_rd rs hi
      subst ev
      obtain ⟨its, rv, hl, _⟩ := I.list (SqL.of q)
      refine PySem.W.max_list_default (xs := ns.map .int) (I.ok.hd hc) hl.isList (by simpa using readsAll_ints rv.ints) ⟨?_, ?_⟩ ?_ (fun h0 h' tk hk => ?_) fun y ys j v h' tk bs he hv hr hk => ?_
      · intro x hx y hy
        obtain ⟨a, _, rfl⟩ := List.mem_map.mp hx
        obtain ⟨b, _, rfl⟩ := List.mem_map.mp hy
        simp [PySem.W.alike]
      · intro x hx
        obtain ⟨a, _, rfl⟩ := List.mem_map.mp hx
        simp
      · rw [PySem.W.depth_ints]
        omega
      · exact ⟨.non, u.H, I.kept hk, rfl, (f0 (List.map_eq_nil_iff.mp h0)).now W .non⟩
      · cases ns with
        | nil => cases he
        | cons n ns =>
          rw [List.map_cons] at he
          injection he with e1 e2
          subst e1 e2
          rw [PySem.W.maxD_ints] at hr
          cases hr
          exact ⟨.int _, u.H, I.kept hk, ⟨_, rfl⟩, (f1 n ns rfl).now W (.int _)⟩
    split at e
    · rename_i hM
      cases e
      exact key [] [] hM rfl (fun _ => fin) fun y ys z => by cases z
    · rename_i xs hne hM
      obtain ⟨m, h1, h2⟩ := Option.map_eq_some_iff.mp e
      cases h2
      obtain ⟨ns, h3, h4⟩ := Option.bind_eq_some_iff.mp h1
      refine key xs ns hM h3 (fun z => ?_) fun y ys z => ?_
      · subst z; simp [maxL] at h4
      · subst z
        rw [maxL] at h4
        cases h4
        exact fin
    · cases e
  · cases e
theorem de_maxd {p pos pk pn : Pos} {a : Expr} {x : Ex} (hc : X.calm = true) (hu : X.A.units + 64 < cLine) (hg : Gl X "max") (hm : X.mg "max" = none) (h : DA X [a] (evEs F [x])) (hst : noStars [a] = true) {kk : Nat} :
    DE X (.Call (.Name "max" p) [a] [⟨some (Str.ofString "default"), .Constant .none kk pk, pn⟩] pos) (evE F (.bi .maxd [x])) := by
  have hs := hst
  simp only [noStars, Bool.and_eq_true, Bool.not_eq_true', and_true] at hs
  have hk : PK X [⟨some (Str.ofString "default"), .Constant .none kk pk, pn⟩] (tCons (tC .non) tNil) := pk_cons pe_non pk_nil
  refine peBy fun σ H Q q => ⟨_, pe_callBK (max_default hc hu) hg hm boot_max h hk (by decide) (by decide) (by rw [star_cons hs]; rfl) (by rw [star_cons hs]; rfl) rfl rfl rfl, ?_⟩
  obtain ⟨u, M, δ, eH, W, S, d, M', e, fin⟩ := q
  rw [evE] at e
  split at e
  · rename_i ds M1 e1
    exact ⟨u, M, δ, eH, W, S, ds, M1, e1, fun u1 vs E1 W1 r1 => ⟨rfl, u1, M1, ds, rfl, W1, r1, d, M', e, fun u2 v2 E2 W2 r2 => fin u2 v2 (E1.trans E2) W2 r2⟩⟩
  · cases e
end
end DD
namespace DD
open PySem PySem.Spec PyProof.Rows L2
variable [Tabs]
/-- what a comprehension stores -/
def tPut (K : PySem.W.Frag) (w : World) (D : Addr) (y z : V) (H : Hp) (N : Hp → Prop) : Prop :=
  ∃ u M n k d kvs, u.H = H ∧ Wd K w u M ∧ RD K u (.tup k) y ∧ RD K u d z ∧ n < u.n ∧ u.iot n = D ∧ M[n]? = some (.dct kvs) ∧ okKey (.tup k) = true ∧ kvs.length < sizeLine ∧ ∀ u', Ext K u u' → Wd K w u' (M.set n (.dct (putD kvs (.tup k) d))) → N u'.H
theorem put_run {X : Cx} (hu : X.A.units + 80 < cLine) {pins : List (Addr × Obj)} {σ : L2.St} {H : Hp} {s : Shared} {E : Value → Shared → Prop} {D : Addr} {y z : V} {a b : Value} {N : Hp → Prop} (I : Inv X pins σ H s)
    (ry : RelV y a) (rz : RelV z b) (h : tPut X.K X.w D y z H N) {Q : Unit → Shared → Prop} (q : ∀ H' s', Inv X pins σ H' s' → N H' → Q () s') : wpAny (model X.prog X.w) X.A (dictSet D a b) Q E s := by
  obtain ⟨u, M, n, k, d, kvs, eH, W, rk, rd, hn, hD, hM, ok, hl, fin⟩ := h
  subst eH hD
  obtain ⟨ht, nk, h1, h2⟩ := okKey_tup ok
  obtain ⟨c, rfl, rfl, hkey⟩ := key_is I rk ry h1 h2 ht
  obtain ⟨xs, r, _, hm, _, hlen⟩ := dict_at I W hM
  refine wpAny_dictSet_heap (show X.A.units + 8 < cLine by omega) hkey hm (fun h' hm' hs => ?_) (by rw [← ents_len r]; exact hlen)
  obtain ⟨u', E', W', I'⟩ := dict_put (tk := s.toks + (nestedKind X.prog X.w).draws nk) I W hM (ents_put h1 h2 rk ⟨z, rz, rd⟩ r) (by unfold putD; split <;> simp <;> omega) hm' hs
  exact q u'.H _ I' (fin u' E' W')
def tDn (K : PySem.W.Frag) (w : World) (wi : TI) (g : TG) (tt : TT) (tk tv : TE) (vs : List Nat) : TE := fun σ H Q => wi σ H fun J H1 => ∀ D, H1 D = none → (D == sysModules) = false → ∃ W : Nat → Nat → Hp → Prop, (∃ m, W 0 m (upd H1 D (.ext (RawD D [])))) ∧
  ∀ i m H, W i m H → (J.stop i H ∧ Q (.ref D) H) ∨ (J.go i H ∧ ∃ Nx : Hp → Prop, (∀ H', Nx H' → ∃ m', m' < m ∧ W (i + 1) m' H') ∧
    ∀ x H', J.yld i H x H' → g x (wipe σ vs) H' fun σ2 H2 => wipe σ2 vs = wipe σ vs ∧ tt σ2 H2 fun b H3 => if b = true then tk σ2 H3 fun y H4 => tv σ2 H4 fun z H5 => tPut K w D y z H5 Nx else Nx H3)
section
variable {X : Cx}
theorem dn_core {pins : List (Addr × Obj)} {s : Shared} {σ : L2.St} {H : Hp} {Q : VK} {kx vx tg iter : Expr} {ifs : List Expr} {scope : Scope} {own : List (Str × Nat)} {pos pos' : Pos} {wi : TI} {g : TG} {tt : TT} {tk tv : TE} {use : Option (Value → Sem Unit)} {Qf : Value → Shared → Prop}
    (hu : X.A.units + 80 < cLine) (hc : X.calm = true) (hN : X.N.Nodup) (I : Inv X pins σ H s) (hi : PI X tg iter wi) (ok : BlkOk X.N X.env.scope scope own)
    (hg : ∀ (sh : Shared) (hp : Hp) (ca : Addr) (ls : List (Str × Addr)) (fs : List Addr), PG (X.blk sh hp scope (compEnvC scope ls ca X.env) fs) tg g) (ht : ∀ (sh : Shared) (hp : Hp) (ca : Addr) (ls : List (Str × Addr)) (fs : List Addr), PTs (X.blk sh hp scope (compEnvC scope ls ca X.env) fs) ifs tt)
    (hk : ∀ (sh : Shared) (hp : Hp) (ca : Addr) (ls : List (Str × Addr)) (fs : List Addr), PE (X.blk sh hp scope (compEnvC scope ls ca X.env) fs) kx tk)
    (he : ∀ (sh : Shared) (hp : Hp) (ca : Addr) (ls : List (Str × Addr)) (fs : List Addr), PE (X.blk sh hp scope (compEnvC scope ls ca X.env) fs) vx tv) (hs : ∀ x, foldedSetIterable iter X.env x = pure x)
    (h : tDn X.K X.w wi g tt tk tv (own.map (·.2)) σ H Q)
    (hRR : ∀ D C s' m H', Inv X pins σ H' s' → Q (.ref D) H' → s'.heap.Ns C m → FpOk X pins H' C → compPost (model X.prog X.w) X.A X.xe use Qf (.ref D) C (.ok .next) s') :
    wpAny (model X.prog X.w) X.A (comprehension (.DictComp kx vx [⟨tg, iter, ifs, 0⟩] scope pos) scope X.env pos' newDict false (eval iter X.env) use) Qf X.xe s := by
  have hfr : ∀ y ∈ scope.names, y.2 = .free → ∃ c, X.env.cells.lookup y.1 = some c := fun y hy e => by
    rcases ok.free y hy e with k | k
    · exact I.ok.has _ (.inl k)
    · exact I.ok.has _ (.inr k)
  refine wpAny_comprehension_free (use := use) rfl hs (closure_ok hfr) ok.kind (fun y hy e => by rw [ok.uniq y hy, e])
    (thn (hi.run pins s σ H _ I h) fun xv z1 hx => thn hx fun itv z2 h2 => ?_)
  obtain ⟨it, fp, tn, J, P2, e, J2, T, st2, f2, q⟩ := h2
  subst e
  refine wpAny_newObj_type (newEnv_comp ?_)
  generalize hD : z2.heap.objs.size = D
  have nD : P2 D = none := J2.hok.fresh (Nat.le_of_eq hD)
  obtain ⟨W, ⟨m0, w0⟩, trn⟩ := q D nD (by rw [← hD]; exact beq_eq_false_iff_ne.mpr (Ne.symm (Nat.ne_of_lt J2.big)))
  -- the new list
  generalize hs3 : ({ z2 with heap := z2.heap.push { cls := .type "dict", data := .dict #[] } } : Shared) = z3
  have J3 : Inv X pins σ (upd P2 D (.ext (RawD D []))) z3 := by
    rw [← hs3]
    refine J2.laid (t' := z2.toks) (fun b o e => Heap.get?_push_of_some _ e) (Nat.le_of_eq hD) ?_
    rw [← hD]
    exact ⟨⟨_, 0, Heap.get?_push_size _ rfl, ⟨rfl, rfl, rfl⟩, rfl⟩, ⟨_, Heap.get?_push_size _ rfl⟩, RawD.stable⟩
  have h3 : z3.heap = z2.heap.push { cls := .type "dict", data := .dict #[] } := by rw [← hs3]
  have zs : ∀ b ∈ fp, b < z2.heap.objs.size := fun b hb => by
    obtain ⟨o, e, _⟩ := T.obj _ _ st2 b hb
    exact Heap.lt_size e
  have g3 : ∀ b ∈ fp, FpOk X pins (upd P2 D (.ext (RawD D []))) b ∧ b < z3.heap.objs.size := fun b hb => by
    have hlt := zs b hb
    refine ⟨⟨?_, (f2 b hb).2⟩, by rw [h3, Heap.size_push]; exact Nat.lt_succ_of_lt hlt⟩
    rw [upd_ne (by rw [← hD]; exact Nat.ne_of_lt hlt)]
    exact (f2 b hb).1
  have v3 : tn 0 z3.heap := T.keep _ _ _ st2 fun b _ o e => by rw [h3]; exact Heap.get?_push_of_some _ e
  have J4 := block_start J3 ok hN g3
  have pgx := hg z3 (upd P2 D (.ext (RawD D []))) z3.heap.objs.size (cellsFrom (z3.heap.objs.size + 1) scope.names (cloFrom X.env.cells scope.names [])) fp
  have ptx := ht z3 (upd P2 D (.ext (RawD D []))) z3.heap.objs.size (cellsFrom (z3.heap.objs.size + 1) scope.names (cloFrom X.env.cells scope.names [])) fp
  have pkx := hk z3 (upd P2 D (.ext (RawD D []))) z3.heap.objs.size (cellsFrom (z3.heap.objs.size + 1) scope.names (cloFrom X.env.cells scope.names [])) fp
  have pex := he z3 (upd P2 D (.ext (RawD D []))) z3.heap.objs.size (cellsFrom (z3.heap.objs.size + 1) scope.names (cloFrom X.env.cells scope.names [])) fp
  show codeAny _ _ (.compStart (.DictComp kx vx [⟨tg, iter, ifs, 0⟩] scope pos) 0 (.ref it) (.ref D) (compEnvC scope (cellsFrom (z3.heap.objs.size + 1) scope.names (cloFrom X.env.cells scope.names [])) z3.heap.objs.size X.env)) (compPost (model X.prog X.w) X.A X.xe use Qf (.ref D) z3.heap.objs.size) { z3 with heap := pushCells (z3.heap.push { cls := .type "dict", data := .dict #[] }) scope.names }
  have nfq : ∀ b ∈ fp, (upd P2 D (.ext (RawD D []))) b = none := fun b hb => (g3 b hb).1.1
  generalize hcx : compEnvC scope (cellsFrom (z3.heap.objs.size + 1) scope.names (cloFrom X.env.cells scope.names [])) z3.heap.objs.size X.env = cx at J4 pgx ptx pkx pex ⊢
  have cl0 : cx.locals = z3.heap.objs.size := by subst hcx; rfl
  generalize hH3 : upd P2 D (.ext (RawD D [])) = P3 at J3 J4 pgx ptx pkx pex w0 nfq g3
  generalize hs4 : ({ z3 with heap := pushCells (z3.heap.push { cls := .type "dict", data := .dict #[] }) scope.names } : Shared) = z4 at J4 ⊢
  have v4 : tn 0 z4.heap := T.keep _ _ _ v3 fun b _ o e => by rw [← hs4]; exact pushCells_keeps _ _ _ _ (Heap.get?_push_of_some _ e)
  have sta : ∀ {σ' : L2.St} {H' : Hp} {s' : Shared}, Inv (X.blk z3 P3 scope cx fp) [] σ' H' s' → (∀ b ∈ fp, H' b = none) → ∀ b ∈ fp, FpOk (X.blk z3 P3 scope cx fp) [] H' b := fun {σ' H' s'} I' hnx b hb =>
    ⟨hnx b hb, (I'.ok.exf b hb).1, I'.ok.exfs b hb, .inl hb, fun x c e => (I'.ok.exf b hb).2 x c e, fun p hp => absurd (show p ∈ ([] : List (Addr × Obj)) ++ [] from hp) (by simp)⟩
  have lop : codeAny (model X.prog X.w) X.A (.compLoop (.DictComp kx vx [⟨tg, iter, ifs, 0⟩] scope pos) 0 (.ref it) (.ref D) cx) (compPost (model X.prog X.w) X.A X.xe use Qf (.ref D) z3.heap.objs.size) z4 := by
    refine compLoop_anyD (fun n s' => ∃ i H', Inv (X.blk z3 P3 scope cx fp) [] (wipe σ (own.map (·.2))) H' s' ∧ tn i s'.heap ∧ (∀ b ∈ fp, H' b = none) ∧ W i n H') ?_ m0 ⟨0, P3, J4, v4, nfq, w0⟩
    rintro n z5 ⟨i, P5, J5, v5, m5, ww5⟩
    rcases trn i n P5 ww5 with ⟨stop, qq⟩ | ⟨go, Nx, hNx, step⟩
    · have tdx := T.done (X.blk z3 P3 scope cx fp) rfl rfl rfl hc i [] z5 _ P5 (fun _ _ => False) J5 (sta J5 m5) v5 stop
      refine thnF tdx fun r z6 ⟨hr, J6⟩ => ?_
      subst hr
      -- back in the def's context
      have J7 : Inv X pins σ P5 z6 := J3.call' (ch := fp) J6.os J6.base J6.hok J6.bare fun b hb => ⟨(g3 b hb).1.2.2.2.1, (g3 b hb).1.2.1, (g3 b hb).1.2.2.2.2.1, (g3 b hb).1.2.2.2.2.2⟩
      have nCx : P5 z3.heap.objs.size = none := by
        have z : P5 cx.locals = none := J6.free
        rw [cl0] at z
        exact z
      obtain ⟨m, hnx, _⟩ := J6.loc
      have hnx : z6.heap.Ns cx.locals m := hnx
      rw [cl0] at hnx
      exact hRR D z3.heap.objs.size z6 m P5 J7 qq hnx (J3.fpOk (Nat.le_refl _) nCx)
    · have tix := T.item (X.blk z3 P3 scope cx fp) rfl rfl rfl hc i [] z5 _ P5 (fun _ _ => False) J5 (sta J5 m5) v5 go
      refine thnF tix fun r z6 ⟨u, hr, h6⟩ => ?_
      subst hr
      refine thnF h6 fun _ z7 ⟨x, P7, J7, rr7, yy7, v7, m7⟩ => ?_
      have J7' := J7.pinned (sta J7 m7) (T.obj _ _ v7)
      refine thnF (pgx.run _ z7 _ P7 x u _ J7' rr7 (step x P7 yy7)) fun _ z8 ⟨σ8, P8, J8, hww, qq8⟩ => ?_
      refine thnF (ptx.run _ z8 σ8 P8 _ J8 qq8) fun b z9 ⟨P9, J9, qq9⟩ => ?_
      -- the turn's end
      have fini : ∀ {s' : Shared} {H' : Hp}, Inv (X.blk z3 P3 scope cx fp) ([] ++ pinsAt fp z7.heap) σ8 H' s' → Nx H' → ∃ m, m < n ∧ ∃ i H', Inv (X.blk z3 P3 scope cx fp) [] (wipe σ (own.map (·.2))) H' s' ∧ tn i s'.heap ∧ (∀ b ∈ fp, H' b = none) ∧ W i m H' := fun {s' H'} I' nxx => by
        obtain ⟨m', hmm, wz⟩ := hNx H' nxx
        have pin' : ∀ b ∈ fp, ∀ o, z7.heap.get? b = some o → s'.heap.get? b = some o ∧ H' b = none := fun b hb o e =>
          let z := I'.pin (b, o) (List.mem_append_right _ (List.mem_append_right _ (mem_pinsAt hb e)))
          ⟨z.1, z.2.1⟩
        have hlx : (wipe σ (own.map (·.2))).length = σ8.length := by rw [← hww, wipe_length]
        refine ⟨m', hmm, i + 1, H', (I'.unpinned (pins := [])).weak hlx (fun j v e => ?_), T.keep _ _ _ v7 fun b hb o e => (pin' b hb o e).1, fun b hb => ?_, wz⟩
        · rw [← hww] at e
          exact (wipe_some e).1
        · obtain ⟨o, e, _⟩ := T.obj _ _ v7 b hb
          exact (pin' b hb o e).2
      cases b with
      | false =>
        simp only [Bool.false_eq_true, if_false] at qq9 ⊢
        exact fini J9 qq9
      | true =>
        simp only [if_true] at qq9 ⊢
        refine thnF (pkx.run _ z9 σ8 P9 _ J9 qq9) fun z z10 ⟨ky, P10, J10, rk, qq10⟩ => ?_
        refine thnF (pex.run _ z10 σ8 P10 _ J10 qq10) fun vb z11 ⟨vy, P11, J11, rv, put⟩ => ?_
        exact put_run (X := X.blk z3 P3 scope cx fp) hu J11 rk rv put fun H' s' I' nx => fini I' nx
  exact codeAny_compStart_dict lop (T.self X.A 0 _ _ _ v4 lop)
/-- as a value -/
theorem pe_dn {kx vx tg iter : Expr} {ifs : List Expr} {scope : Scope} {own : List (Str × Nat)} {pos : Pos} {wi : TI} {g : TG} {tt : TT} {tk tv : TE} (hu : X.A.units + 80 < cLine) (hc : X.calm = true) (hN : X.N.Nodup) (hi : PI X tg iter wi) (ok : BlkOk X.N X.env.scope scope own)
    (hg : ∀ (sh : Shared) (hp : Hp) (ca : Addr) (ls : List (Str × Addr)) (fs : List Addr), PG (X.blk sh hp scope (compEnvC scope ls ca X.env) fs) tg g) (ht : ∀ (sh : Shared) (hp : Hp) (ca : Addr) (ls : List (Str × Addr)) (fs : List Addr), PTs (X.blk sh hp scope (compEnvC scope ls ca X.env) fs) ifs tt)
    (hk : ∀ (sh : Shared) (hp : Hp) (ca : Addr) (ls : List (Str × Addr)) (fs : List Addr), PE (X.blk sh hp scope (compEnvC scope ls ca X.env) fs) kx tk)
    (he : ∀ (sh : Shared) (hp : Hp) (ca : Addr) (ls : List (Str × Addr)) (fs : List Addr), PE (X.blk sh hp scope (compEnvC scope ls ca X.env) fs) vx tv) (hs : ∀ x, foldedSetIterable iter X.env x = pure x := by intro _; rfl) :
    PE X (.DictComp kx vx [⟨tg, iter, ifs, 0⟩] scope pos) (tDn X.K X.w wi g tt tk tv (own.map (·.2))) := by
  refine ⟨fun pins s σ H Q I h => ?_⟩
  rw [arm_eval_DictComp]
  refine dn_core hu hc hN I hi ok hg ht hk he hs h fun D C s' m H' I' q hnx f => ⟨m, hnx, fun h'' sb => ?_⟩
  obtain ⟨f0, f1, f2, g3, f4, f5⟩ := f
  exact ⟨.ref D, H', I'.turned (t' := s'.toks) (fun b o hb e => (sb.2 b hb).trans e) f0 f1 g3 f4 f5, rfl, q⟩
theorem dn_it {J : It} {n : Nat} {G : Hp → Prop} {Y : Nat → Hp → V → Hp → Prop} {K : PySem.W.Frag} {w : World} (wk : Walk J n G Y) {g : TG} {tt : TT} {tk tv : TE} {vs : List Nat} {σ : L2.St} {P1 : Hp} {D : Addr} {Qd : Hp → Prop} (Pv : Nat → Hp → Prop)
    (h0 : Pv 0 (upd P1 D (.ext (RawD D [])))) (hG : ∀ i H, i ≤ n → Pv i H → G H)
    (step : ∀ i x H H', i < n → Pv i H → Y i H x H' → g x (wipe σ vs) H' fun σ2 H2 => wipe σ2 vs = wipe σ vs ∧ tt σ2 H2 fun b H3 => if b = true then tk σ2 H3 fun y H4 => tv σ2 H4 fun z H5 => tPut K w D y z H5 (Pv (i + 1)) else Pv (i + 1) H3)
    (hd : ∀ H, Pv n H → Qd H) : ∃ W : Nat → Nat → Hp → Prop, (∃ m, W 0 m (upd P1 D (.ext (RawD D [])))) ∧ ∀ i m H, W i m H → (J.stop i H ∧ Qd H) ∨ (J.go i H ∧ ∃ Nx : Hp → Prop, (∀ H', Nx H' → ∃ m', m' < m ∧ W (i + 1) m' H') ∧
      ∀ x H', J.yld i H x H' → g x (wipe σ vs) H' fun σ2 H2 => wipe σ2 vs = wipe σ vs ∧ tt σ2 H2 fun b H3 => if b = true then tk σ2 H3 fun y H4 => tv σ2 H4 fun z H5 => tPut K w D y z H5 Nx else Nx H3) := by
  refine ⟨fun i m H => i ≤ n ∧ Pv i H ∧ m = n - i, ⟨_, Nat.zero_le _, h0, rfl⟩, ?_⟩
  rintro i m H ⟨hi, p, rfl⟩
  rcases Nat.lt_or_ge i n with lt | ge
  · exact .inr ⟨wk.goes i H lt (hG i H hi p), Pv (i + 1), fun H' p' => ⟨n - (i + 1), by omega, lt, p', rfl⟩, fun x H' y => step i x H H' lt p (wk.yields i H x H' lt (hG i H hi p) y)⟩
  · obtain rfl : i = n := by omega
    exact .inl ⟨wk.stops H (hG _ H hi p), hd H p⟩
theorem loopD_ok {kf vf : Env → Sto → Option (D × Sto)} {cond : Env → Sto → Option (Bool × Sto)} {bind : D → Option Env} {ok : Sto → Bool} {n : Nat} {xs : List D} {M M2 : Sto} (h : loopD kf vf cond bind ok n xs M = some M2) : ok M = true := by
  cases xs with
  | nil =>
    rw [loopD] at h
    split at h
    · assumption
    · cases h
  | cons x xs =>
    rw [loopD] at h
    split at h
    · assumption
    · cases h
theorem wipe_wipe : ∀ (vs ws : List Nat) (σ : L2.St), (∀ i ∈ ws, i ∈ vs) → wipe (wipe σ ws) vs = wipe σ vs := by
  intro vs ws
  induction ws with
  | nil => intro σ _; rfl
  | cons z zs ih =>
    intro σ hz
    show wipe ((wipe σ zs).set z none) vs = _
    rw [wipe_set (hz z List.mem_cons_self), ih σ fun i hi => hz i (List.mem_cons_of_mem _ hi)]
theorem dc_read {F : Fns} {t : Tgc} {it : Itx} {ke ve : Ex} {ifs : List Ex} {σ : L2.St} {H : Hp} {Q : VK} (h : tD X.K X.w (evE F (.dc ke ve t it ifs)) σ H Q) :
    tDn X.K X.w (tID X.K X.w (evI F it)) (gC X.K t) (tCD X.K X.w (evC F ifs)) (tD X.K X.w (evE F ke)) (tD X.K X.w (evE F ve)) (ownC t) σ H Q := by
  obtain ⟨u, M, δ, eH, W, S, d, M', e, fin⟩ := h
  rw [evE] at e
  split at e
  · rename_i xs ok M1 e1
    split at e
    · rename_i M2 e2
      cases e
      refine ⟨u, M, δ, eH, W, S, xs, ok, M1, e1, fun u1 J E1 W1 wk L hL hsys => ?_⟩
      obtain ⟨E2, W2, rl⟩ := W1.new (o := .ext (RawD L [])) (ob := .dct []) hL fun u' e h => ⟨[], h, .nil, List.Pairwise.nil, hsys, Nat.zero_le _⟩
      obtain ⟨G, Y, w1, hG, hY⟩ := wk.ex
      generalize hu2 : (⟨fun i => if i = u1.n then L else u1.iot i, u1.n + 1, upd u1.H L (.ext (RawD L []))⟩ : Vw) = u2 at E2 W2 rl
      have hH2 : u2.H = upd u1.H L (.ext (RawD L [])) := by rw [← hu2]
      have hi2 : u2.iot M1.length = L := by rw [← hu2, ← W1.n]; exact if_pos rfl
      have hn : M1.length < u2.n := by rw [W2.n]; simp
      have S2 : Sl X.K u2 δ σ := S.mono (E1.trans E2)
      refine dn_it w1 (fun i H => ∃ u3 M3, u3.H = H ∧ Ext X.K u2 u3 ∧ Wd X.K X.w u3 M3 ∧ loopD (fun δ' M' => evE F ke δ' M') (fun δ' M' => evE F ve δ' M') (fun δ' M' => evC F ifs δ' M') (fun d => bindC t d (wipeD δ (ownC t))) ok M1.length (xs.drop i) M3 = some M') ⟨u2, _, hH2, Ext.refl, W2, e2⟩ ?_ ?_ ?_
      · rintro i H hi ⟨u3, M3, rfl, E3, W3, e3⟩
        exact hG u3 M3 (E2.trans E3) W3 (loopD_ok e3)
      · rintro i x H H' hi ⟨u3, M3, rfl, E3, W3, e3⟩ y
        have hok := loopD_ok e3
        obtain ⟨u4, rfl, E4, W4, d, hd, rd⟩ := hY i x H' u3 M3 hi (E2.trans E3) W3 hok y
        rw [List.drop_eq_getElem_cons hi] at e3
        have hdx : xs[i] = d := by rw [List.getElem?_eq_getElem hi] at hd; exact Option.some.inj hd
        rw [hdx, loopD, if_pos hok] at e3
        split at e3
        · rename_i δ4 hb
          have S4 := (S2.mono (E3.trans E4)).wipe (ownC t)
          refine gC_ok hb rd S4 fun σ' S' hw => ⟨by rw [hw]; exact wipe_wipe _ _ σ fun i hi => hi, ?_⟩
          split at e3
          · rename_i M5 e5
            refine ⟨u4, M3, δ4, rfl, W4, S', true, M5, e5, fun u5 E5 W5 => iteT ?_⟩
            split at e3
            · rename_i kd M6 e6
              refine ⟨u5, M5, δ4, rfl, W5, S'.mono E5, kd, M6, e6, fun u6 yv E6 W6 r6 => ?_⟩
              split at e3
              · rename_i vd M7 e7
                refine ⟨u6, M6, δ4, rfl, W6, (S'.mono E5).mono E6, vd, M7, e7, fun u7 zv E7 W7 r7 => ?_⟩
                split at e3
                · rename_i kvs e8
                  split at e3
                  · rename_i hz
                    simp only [Bool.and_eq_true, decide_eq_true_eq] at hz
                    obtain ⟨⟨ks, rfl⟩, _⟩ := okKey_tup hz.1
                    have EE := (((E3.trans E4).trans E5).trans E6).trans E7
                    have hL7 : u7.iot M1.length = L := by rw [EE.same _ hn, hi2]
                    exact ⟨u7, M7, M1.length, ks, vd, kvs, rfl, W7, r6.mono E7, r7, Nat.lt_of_lt_of_le hn EE.le, hL7, e8, hz.1, hz.2, fun u8 E8 W8 => ⟨u8, _, rfl, EE.trans E8, W8, e3⟩⟩
                  · cases e3
                · cases e3
              · cases e3
            · cases e3
          · rename_i M5 e5
            exact ⟨u4, M3, δ4, rfl, W4, S', false, M5, e5, fun u5 E5 W5 => iteF ⟨u5, M5, rfl, (E3.trans E4).trans E5, W5, e3⟩⟩
          · cases e3
        · cases e3
      · rintro H ⟨u3, M3, rfl, E3, W3, e3⟩
        have hok := loopD_ok e3
        rw [List.drop_length, loopD, if_pos hok] at e3
        cases e3
        have rl3 : RD X.K u3 (.loc M1.length) (.ref L) := by
          have := rl.mono E3
          rw [W1.n] at this
          exact this
        exact fin u3 _ ((E1.trans E2).trans E3) W3 rl3
    · cases e
  · cases e
theorem de_dc {F : Fns} {k v tg iter : Expr} {ifs : List Expr} {scope : Scope} {own : List (Str × Nat)} {pos : Pos} {t : Tgc} {it : Itx} {ke ve : Ex} {xi : List Ex} (hu : X.A.units + 80 < cLine) (hc : X.calm = true) (hN : X.N.Nodup) (hi : PI X tg iter (tID X.K X.w (evI F it))) (ok : BlkOk X.N X.env.scope scope own) (ho : own.map (·.2) = ownC t)
    (hg : ∀ (sh : Shared) (hp : Hp) (ca : Addr) (ls : List (Str × Addr)) (fs : List Addr), PG (X.blk sh hp scope (compEnvC scope ls ca X.env) fs) tg (gC X.K t)) (ht : ∀ (sh : Shared) (hp : Hp) (ca : Addr) (ls : List (Str × Addr)) (fs : List Addr), PTs (X.blk sh hp scope (compEnvC scope ls ca X.env) fs) ifs (tCD X.K X.w (evC F xi)))
    (hk : ∀ (sh : Shared) (hp : Hp) (ca : Addr) (ls : List (Str × Addr)) (fs : List Addr), PE (X.blk sh hp scope (compEnvC scope ls ca X.env) fs) k (tD X.K X.w (evE F ke))) (hv : ∀ (sh : Shared) (hp : Hp) (ca : Addr) (ls : List (Str × Addr)) (fs : List Addr), PE (X.blk sh hp scope (compEnvC scope ls ca X.env) fs) v (tD X.K X.w (evE F ve))) (hs : notSet iter = true) :
    DE X (.DictComp k v [⟨tg, iter, ifs, 0⟩] scope pos) (evE F (.dc ke ve t it xi)) :=
  peBy fun σ H Q q => ⟨_, pe_dn hu hc hN hi ok hg ht hk hv (folded_of hs), by rw [ho]; exact dc_read q⟩
/-- name = {..}, the name a local of the same row -/
theorem ps_setDn {i : Nat} {y : Str} {py : Pos} {kx vx tg iter : Expr} {ifs : List Expr} {scope : Scope} {own : List (Str × Nat)} {pos spos : Pos} {wi : TI} {g : TG} {tt : TT} {tk tv : TE} (hu : X.A.units + 80 < cLine) (hc : X.calm = true) (hN : X.N.Nodup) (hy : X.N[i]? = some y) (hyl : X.env.scope.names.lookup y = some .local)
    (hsw : swapsWith (.DictComp kx vx [⟨tg, iter, ifs, 0⟩] scope pos) (some (.Name y py)) spos.line X.env = pure true) (hi : PI X tg iter wi) (ok : BlkOk X.N X.env.scope scope own)
    (hg : ∀ (sh : Shared) (hp : Hp) (ca : Addr) (ls : List (Str × Addr)) (fs : List Addr), PG (X.blk sh hp scope (compEnvC scope ls ca X.env) fs) tg g) (ht : ∀ (sh : Shared) (hp : Hp) (ca : Addr) (ls : List (Str × Addr)) (fs : List Addr), PTs (X.blk sh hp scope (compEnvC scope ls ca X.env) fs) ifs tt)
    (hk : ∀ (sh : Shared) (hp : Hp) (ca : Addr) (ls : List (Str × Addr)) (fs : List Addr), PE (X.blk sh hp scope (compEnvC scope ls ca X.env) fs) kx tk) (he : ∀ (sh : Shared) (hp : Hp) (ca : Addr) (ls : List (Str × Addr)) (fs : List Addr), PE (X.blk sh hp scope (compEnvC scope ls ca X.env) fs) vx tv) (hs : ∀ x, foldedSetIterable iter X.env x = pure x) :
    PS X (.Assign [.Name y py] (.DictComp kx vx [⟨tg, iter, ifs, 0⟩] scope pos) spos) (tAsg (tDn X.K X.w wi g tt tk tv (own.map (·.2))) (gName i)) := by
  refine ⟨fun pins s σ H En I h => ?_⟩
  rw [exec_Assign_Name_used _ _ _ _ hsw]
  refine wpAny_bind (wpAny_standAt (wpAny_bind ?_))
  show wpAny _ X.A (do let _ ← comprehension (.DictComp kx vx [⟨tg, iter, ifs, 0⟩] scope pos) scope X.env (firstIterPos [⟨tg, iter, ifs, 0⟩] pos) newDict false (eval iter X.env) (some (assign (.Name y py) X.env))) _ _ s
  have h : tDn X.K X.w wi g tt tk tv (own.map (·.2)) σ H (fun x P1 => gName i x σ P1 En.nx) := h
  refine wpAny_bind (thn (dn_core (Qf := fun _ s' => SP X pins En .next s') hu hc hN I hi ok hg ht hk he hs h fun L C s' m H' I' q hn f => ?_) fun _ s' hq => wpAny_pure (wpAny_pure hq))
  show wpAny _ _ (assign (.Name y py) X.env (.ref L)) _ _ _
  refine wpAny_assign_Name (store_ok2 (v := V.ref L) I' hN hy (.inl hyl) rfl (fun s2 I2 ⟨a, sb, ha⟩ => ?_) (.inr hyl))
  obtain ⟨f0, f1, f2, f3, f4, f5⟩ := f
  have haC : C ≠ a := ha.elim (fun z => z ▸ f1) fun z e => f4 y a z e.symm
  exact ⟨m, hn.sameBut sb haC, fun h3 sb3 => ⟨_, H', I2.turned (t' := s2.toks) (fun b o hb e => (sb3.2 b hb).trans e) f0 f1 f3 f4 f5, q⟩⟩
theorem ds_asgDc {F : Fns} {fu : Nat} {kx vx tg iter : Expr} {ifs : List Expr} {scope : Scope} {own : List (Str × Nat)} {lpos pos : Pos} {t : Tgc} {it : Itx} {ke ve : Ex} {xi : List Ex} {i : Nat} {y : Str} {py : Pos} (hu : X.A.units + 80 < cLine) (hc : X.calm = true) (hN : X.N.Nodup) (hy : X.N[i]? = some y) (hyl : X.env.scope.names.lookup y = some .local)
    (hsw : swapsWith (.DictComp kx vx [⟨tg, iter, ifs, 0⟩] scope lpos) (some (.Name y py)) pos.line X.env = pure true) (hi : PI X tg iter (tID X.K X.w (evI F it))) (ok : BlkOk X.N X.env.scope scope own) (ho : own.map (·.2) = ownC t)
    (hg : ∀ (sh : Shared) (hp : Hp) (ca : Addr) (ls : List (Str × Addr)) (fs : List Addr), PG (X.blk sh hp scope (compEnvC scope ls ca X.env) fs) tg (gC X.K t)) (ht : ∀ (sh : Shared) (hp : Hp) (ca : Addr) (ls : List (Str × Addr)) (fs : List Addr), PTs (X.blk sh hp scope (compEnvC scope ls ca X.env) fs) ifs (tCD X.K X.w (evC F xi)))
    (hk : ∀ (sh : Shared) (hp : Hp) (ca : Addr) (ls : List (Str × Addr)) (fs : List Addr), PE (X.blk sh hp scope (compEnvC scope ls ca X.env) fs) kx (tD X.K X.w (evE F ke))) (hv : ∀ (sh : Shared) (hp : Hp) (ca : Addr) (ls : List (Str × Addr)) (fs : List Addr), PE (X.blk sh hp scope (compEnvC scope ls ca X.env) fs) vx (tD X.K X.w (evE F ve))) (hs : notSet iter = true) :
    DS X (.Assign [.Name y py] (.DictComp kx vx [⟨tg, iter, ifs, 0⟩] scope lpos) pos) (exS F fu (.asg (.one i) (.dc ke ve t it xi))) :=
  psBy fun Dn σ H q => ⟨_, ps_setDn hu hc hN hy hyl hsw hi ok hg ht hk hv (folded_of hs), asg1_read (fun _ _ _ z => by rw [ho]; exact dc_read z) q⟩
end
end DD
namespace DD
open PySem PySem.Spec PyProof.Rows L2
variable [Tabs]

section
variable {G : Gl0} {F : Fns} {k r : Nat} {N : List Str} {sc : Scope} {X : Cx}
/-- a comprehension's block -/
theorem Ok.blk (ok : Ok G F k r N sc X) {scope : Scope} (hk : scope.kind = .function) (s : Shared) (H : Hp) (C : Addr) (cl : List (Str × Addr)) (fp : List Addr) : Ok G F k r N (relS scope sc) (X.blk s H scope (compEnvC scope cl C X.env) fp) where
  eN := ok.eN
  nd := ok.nd
  eS := by
    show relabel scope X.env = relS scope sc
    rw [← ok.eS]; rfl
  kind := hk
  calm := ok.calm
  room := ok.room
  kr := ok.kr
  tb := ok.tb
  own := ok.own
  blt := ok.blt
  cst := ok.cst
  bf := ok.bf
theorem chkK_of {c : D} {q : Const} (h : chkK c q = true) {kk : Nat} {p : Pos} {F : Fns} : DE X (.Constant q kk p) (evE F (.con c)) := by
  cases c <;> cases q <;> simp [chkK] at h
  · exact de_con pe_non fun _ => .non
  · subst h; exact de_con pe_bl fun _ => .bl _
  · subst h; exact de_con pe_int fun _ => .int _
  · subst h; exact de_con pe_str fun _ => .str _
theorem dt_ife {c a b : Expr} {pos : Pos} {xc xa xb : Ex} (hc : DT X c (evE F xc)) (ha : DT X a (evE F xa)) (hb : DT X b (evE F xb)) : DT X (.IfExp c a b pos) (evE F (.ife xc xa xb)) := by
  refine ⟨fun pins s σ H Q I ⟨u, M, δ, eH, W, S, d, M', c, e, e2, q⟩ => ?_⟩
  rw [evE] at e
  split at e
  · rename_i x M1 e1
    split at e
    · rename_i e3
      refine isTrue_IfExp (thn (hc.run pins s σ H (fun c' H1 => ∃ u1, u1.H = H1 ∧ Ext X.K u u1 ∧ Wd X.K X.w u1 M1 ∧ c' = true) I ⟨u, M, δ, eH, W, S, x, M1, true, e1, e3, fun u1 E1 W1 => ⟨u1, rfl, E1, W1, rfl⟩⟩) fun c' s1 ⟨H1, I1, u1, eH1, E1, W1, hc'⟩ => ?_)
      subst hc'
      exact ite_tt (ha.run pins s1 σ H1 Q I1 ⟨u1, M1, δ, eH1, W1, S.mono E1, d, M', c, e, e2, fun u2 E2 W2 => q u2 (E1.trans E2) W2⟩)
    · rename_i e3
      refine isTrue_IfExp (thn (hc.run pins s σ H (fun c' H1 => ∃ u1, u1.H = H1 ∧ Ext X.K u u1 ∧ Wd X.K X.w u1 M1 ∧ c' = false) I ⟨u, M, δ, eH, W, S, x, M1, false, e1, e3, fun u1 E1 W1 => ⟨u1, rfl, E1, W1, rfl⟩⟩) fun c' s1 ⟨H1, I1, u1, eH1, E1, W1, hc'⟩ => ?_)
      subst hc'
      exact ite_ff (hb.run pins s1 σ H1 Q I1 ⟨u1, M1, δ, eH1, W1, S.mono E1, d, M', c, e, e2, fun u2 E2 W2 => q u2 (E1.trans E2) W2⟩)
    · cases e
  · cases e
theorem chkNm_of {i : Nat} {e : Expr} (h : chkNm N sc i e = true) (ok : Ok G F k r N sc X) : PG X e (gName i) := by
  unfold chkNm at h
  split at h
  · rename_i x hx
    obtain ⟨p, rfl⟩ := vName_eq hx
    simp only [Bool.and_eq_true, decide_eq_true_eq] at h
    have hl : X.env.scope.names.lookup x = some .local := by rw [ok.eS]; exact lcl_of h.2
    exact pg_name (by rw [ok.eN]; exact ok.nd) (by rw [ok.eN]; exact h.1) (.inl hl) (.inr hl)
  · cases h
theorem chkNms_of : ∀ {is : List Nat} {es : List Expr}, chkNms N sc is es = true → Ok G F k r N sc X → PGs X es (gNames is) ∧ es.length = is.length
  | [], [], _, _ => ⟨pgs_nil, rfl⟩
  | i :: is, e :: es, h, ok => by
    rw [chkNms, Bool.and_eq_true] at h
    obtain ⟨a, b⟩ := chkNms_of h.2 ok
    have h1 := h.1
    unfold chkNm at h1
    split at h1
    · rename_i x hx
      obtain ⟨p, rfl⟩ := vName_eq hx
      exact ⟨pgs_cons (chkNm_of h.1 ok) a, by simp [b]⟩
    · cases h1
  | [], _ :: _, h, _ => by simp [chkNms] at h
  | _ :: _, [], h, _ => by simp [chkNms] at h
theorem assignEach_noStar {env : PySem.Env} : ∀ {es : List Expr}, noStars es = true → assignEach es env = es.map fun e => (false, assign e env)
  | [], _ => rfl
  | e :: es, h => by
    simp only [noStars, Bool.and_eq_true, Bool.not_eq_true'] at h
    have q := assignEach_noStar (env := env) h.2
    cases e <;> first | (show _ :: assignEach es env = _; rw [q]; rfl) | simp [isStar] at h
theorem chkNms_star : ∀ {is : List Nat} {es : List Expr}, chkNms N sc is es = true → noStars es = true
  | [], [], _ => rfl
  | i :: is, e :: es, h => by
    rw [chkNms, Bool.and_eq_true] at h
    have h1 := h.1
    unfold chkNm at h1
    split at h1
    · rename_i x hx
      obtain ⟨p, rfl⟩ := vName_eq hx
      simp [noStars, isStar, chkNms_star h.2]
    · cases h1
  | [], _ :: _, h => by simp [chkNms] at h
  | _ :: _, [], h => by simp [chkNms] at h
theorem pg_tup' {es : List Expr} {kk : Nat} {p : Pos} {t : TGs} {n : Nat} (hc : X.calm = true) (h : PGs X es t) (hs : noStars es = true) (hn : es.length = n) : PG X (.Tuple es kk p) (gTup X.K n t) := by
  have e := assignEach_noStar (env := X.env) hs
  have h1 : (assignEach es X.env).length = n := by rw [e, List.length_map, hn]
  refine pg_tup hc h ?_ ?_
  · exact h1
  · rw [e, List.findIdx?_map]
    rw [List.findIdx?_eq_none_iff]
    intro x _; rfl
theorem chkTc_of {t : Tgc} {e : Expr} (h : chkTc N sc t e = true) (ok : Ok G F k r N sc X) : PG X e (gC X.K t) := by
  cases t with
  | one i => exact chkNm_of h ok
  | many is =>
    simp only [chkTc] at h
    split at h
    · rename_i es he
      obtain ⟨kk, p, rfl⟩ := vTuple_eq he
      obtain ⟨a, b⟩ := chkNms_of h ok
      exact pg_tup' ok.calm a (chkNms_star h) b
    · cases h
end
section
variable {G : Gl0} {F : Fns} {k r : Nat} {N : List Str} (rl : ∀ (k : Nat) (X : Cx), X.calm = true → RoomG k X.A → Rl X) (hga : ∀ elt i it sc e, G.ga N elt i it sc e = true → ∀ X : Cx, Ok G F k r N sc X → DE X e (evE F (.allg elt i it)) ∧ DT X e (evE F (.allg elt i it)))
include rl hga
mutual
theorem soundE : ∀ (x : Ex) (sc : Scope) (e : Expr), chkE G N x sc e = true → ∀ X : Cx, Ok G F k r N sc X → DE X e (evE F x) ∧ DT X e (evE F x)
  | .var i, sc, e, h, X, ok => by
    rw [chkE] at h
    split at h
    · rename_i x hx
      obtain ⟨p, rfl⟩ := vName_eq hx
      simp only [Bool.and_eq_true, decide_eq_true_eq] at h
      obtain ⟨n1, n2, n3⟩ := okNm_of h.2
      have d : DE X (.Name x p) (evE F (.var i)) := de_var (by rw [ok.eN]; exact h.1.1) (by rw [ok.eS]; exact vis_of h.1.2) n1 n2
      exact ⟨d, dt_val d fun _ => rfl⟩
    · cases h
  | .con c, sc, e, h, X, ok => by
    rw [chkE] at h
    split at h
    · rename_i q hq
      obtain ⟨kk, p, rfl⟩ := vConst_eq hq
      have d : DE X (.Constant q kk p) (evE F (.con c)) := chkK_of h
      exact ⟨d, dt_val d fun _ => rfl⟩
    · cases h
  | .glob x c, sc, e, h, X, ok => by
    rw [chkE] at h
    split at h
    · rename_i y hx
      obtain ⟨p, rfl⟩ := vName_eq hx
      simp only [Bool.and_eq_true, decide_eq_true_eq] at h
      obtain ⟨⟨⟨rfl, h2⟩, h3⟩, h4⟩ := h
      obtain ⟨n1, n2, n3⟩ := okNm_of h4
      obtain ⟨u, v, a, b, c'⟩ := ok.cst _ h3
      have hg : Gl X x := by
        show X.env.scope.names.lookup x = _
        rw [ok.eS]; exact gl_of h2
      have d : DE X (.Name x p) (evE F (.glob x c)) := de_glob (pe_glob hg a b n1) c'
      exact ⟨d, dt_val d fun _ => rfl⟩
    · cases h
  | .tup es, sc, e, h, X, ok => by
    rw [chkE] at h
    split at h
    · rename_i as hx
      obtain ⟨kk, p, rfl⟩ := vTuple_eq hx
      simp only [Bool.and_eq_true, decide_eq_true_eq] at h
      obtain ⟨a, _, _⟩ := soundEs es sc as h.1 X ok
      have d : DE X (.Tuple as kk p) (evE F (.tup es)) := de_tup a (Nat.le_trans h.2 (by decide))
      exact ⟨d, dt_val d fun _ => rfl⟩
    · cases h
  | .lst es, sc, e, h, X, ok => by
    rw [chkE] at h
    split at h
    · rename_i as hx
      obtain ⟨p, rfl⟩ := vList_eq hx
      simp only [Bool.and_eq_true, decide_eq_true_eq] at h
      obtain ⟨a, _, _⟩ := soundEs es sc as h.1 X ok
      have d : DE X (.List as p) (evE F (.lst es)) := de_lst a (Nat.le_trans h.2 (by decide))
      exact ⟨d, dt_val d fun _ => rfl⟩
    · cases h
  | .lk i x, sc, e, h, X, ok => by
    rw [chkE] at h
    simp only [Bool.and_eq_true, Option.isSome_iff_exists] at h
    obtain ⟨h, q, hx⟩ := h
    have he := vLC_eq hx
    subst he
    have d := de_lk (i := i) (soundE x sc _ h X ok).1
    exact ⟨d, dt_val d fun _ => rfl⟩
  | .dct ks vs, sc, e, h, X, ok => by
    rw [chkE] at h
    simp only [Bool.and_eq_true, List.isEmpty_iff] at h
    obtain ⟨⟨h1, rfl⟩, rfl⟩ := h
    obtain ⟨p, rfl⟩ := vDict0_eq h1
    · have d : DE X (.Dict [] [] p) (evE F (.dct [] [])) := peBy fun σ H Q ⟨u, M, δ, eH, W, S, d, M', e, fin⟩ => ⟨_, (rl r X ok.calm ok.room).dct p, by
        rw [evE] at e; cases e; exact ⟨u, M, eH, W, fin⟩⟩
      exact ⟨d, dt_val d fun _ => rfl⟩
  | .bin o a b, sc, e, h, X, ok => by
    rw [chkE] at h
    split at h
    · rename_i a' o' b' hx
      obtain ⟨p, rfl⟩ := vBin_eq hx
      simp only [Bool.and_eq_true, decide_eq_true_eq] at h
      obtain ⟨⟨rfl, h2⟩, h3⟩ := h
      have d : DE X (.BinOp a' (bopOf o) b' p) (evE F (.bin o a b)) := de_bin ((rl r X ok.calm ok.room).bin o) (soundE a sc a' h2 X ok).1 (soundE b sc b' h3 X ok).1
      exact ⟨d, dt_val d fun _ => rfl⟩
    · cases h
  | .neg a, sc, e, h, X, ok => by
    rw [chkE] at h
    split at h
    · rename_i a' hx
      obtain ⟨p, rfl⟩ := vUn_eq hx
      have d : DE X (.UnaryOp .USub a' p) (evE F (.neg a)) := de_neg (soundE a sc a' h X ok).1
      exact ⟨d, dt_val d fun _ => rfl⟩
    · cases h
  | .cmp o a b, sc, e, h, X, ok => by
    rw [chkE] at h
    split at h
    · rename_i a' o' b' hx
      obtain ⟨p, rfl⟩ := vCmp_eq hx
      simp only [Bool.and_eq_true, decide_eq_true_eq, Bool.not_eq_true'] at h
      obtain ⟨⟨⟨rfl, h2⟩, h3⟩, h4⟩ := h
      exact de_cmp ((rl r X ok.calm ok.room).cmp o) (soundE a sc a' h2 X ok).1 (soundE b sc b' h3 X ok).1 h4
    · cases h
  | .cmp2 o o2 a b c, sc, e, h, X, ok => by
    rw [chkE] at h
    split at h
    · rename_i a' o' o2' b' c' hx
      obtain ⟨p, rfl⟩ := vCmp2_eq hx
      simp only [Bool.and_eq_true, decide_eq_true_eq, Bool.not_eq_true'] at h
      obtain ⟨⟨⟨⟨⟨rfl, rfl⟩, h2⟩, h3⟩, h5⟩, h4⟩ := h
      exact de_cmp2 ((rl r X ok.calm ok.room).cmp o) ((rl r X ok.calm ok.room).cmp o2) (soundE a sc a' h2 X ok).1 (soundE b sc b' h3 X ok).1 (soundE c sc c' h5 X ok).1 h4
    · cases h
  | .band es, sc, e, h, X, ok => by
    rw [chkE] at h
    split at h
    · rename_i as hx
      obtain ⟨p, rfl⟩ := vBool_eq hx
      simp only [Bool.and_eq_true, Bool.not_eq_true', List.isEmpty_eq_false_iff] at h
      obtain ⟨_, a, b⟩ := soundEs es sc as h.1 X ok
      obtain ⟨c, d⟩ := de_and (pos := p) a b h.2
      have e1 : evE F (.band es) = evAnd F es := by funext δ M; rw [evE]
      rw [e1]
      exact ⟨c, d.pt⟩
    · cases h
  | .bor es, sc, e, h, X, ok => by
    rw [chkE] at h
    split at h
    · rename_i as hx
      obtain ⟨p, rfl⟩ := vBool_eq hx
      simp only [Bool.and_eq_true, Bool.not_eq_true', List.isEmpty_eq_false_iff] at h
      obtain ⟨_, a, b⟩ := soundEs es sc as h.1 X ok
      obtain ⟨c, d⟩ := de_or (pos := p) a b h.2
      have e1 : evE F (.bor es) = evOr F es := by funext δ M; rw [evE]
      rw [e1]
      exact ⟨c, d.pt⟩
    · cases h
  | .bnot a, sc, e, h, X, ok => by
    rw [chkE] at h
    split at h
    · rename_i a' hx
      obtain ⟨p, rfl⟩ := vUn_eq hx
      obtain ⟨c, d⟩ := soundE a sc a' h X ok
      exact de_not c d
    · cases h
  | .ife c a b, sc, e, h, X, ok => by
    rw [chkE] at h
    split at h
    · rename_i c' a' b' hx
      obtain ⟨p, rfl⟩ := vIf_eq hx
      simp only [Bool.and_eq_true] at h
      have h1 := soundE c sc c' h.1.1 X ok
      have h2 := soundE a sc a' h.1.2 X ok
      have h3 := soundE b sc b' h.2 X ok
      exact ⟨de_ife h1.2 h2.1 h3.1, dt_ife h1.2 h2.2 h3.2⟩
    · cases h
  | .sub a i, sc, e, h, X, ok => by
    rw [chkE] at h
    split at h
    · rename_i a' i' hx
      obtain ⟨p, rfl⟩ := vSub_eq hx
      simp only [Bool.and_eq_true] at h
      have d : DE X (.Subscript a' i' p) (evE F (.sub a i)) := de_sub (rl r X ok.calm ok.room).ix (soundE a sc a' h.1.1 X ok).1 (soundE i sc i' h.1.2 X ok).1 h.2
      exact ⟨d, dt_val d fun _ => rfl⟩
    · cases h
  | .slc a lo hi, sc, e, h, X, ok => by
    rw [chkE] at h
    split at h
    · rename_i a' i' hx
      obtain ⟨p, rfl⟩ := vSub_eq hx
      split at h
      · rename_i lo' hi' hx2
        obtain ⟨p2, rfl⟩ := vSlc_eq hx2
        simp only [Bool.and_eq_true] at h
        have d : DE X (.Subscript a' (.Slice lo' hi' none p2) p) (evE F (.slc a lo hi)) := de_slc (soundE a sc a' h.1.1 X ok).1 (soundO lo sc lo' h.1.2 X ok) (soundO hi sc hi' h.2 X ok)
        exact ⟨d, dt_val d fun _ => rfl⟩
      · cases h
    · cases h
  | .rev a, sc, e, h, X, ok => by
    rw [chkE] at h
    split at h
    · rename_i a' i' hx
      obtain ⟨p, rfl⟩ := vSub_eq hx
      split at h
      · rename_i st hx2
        obtain ⟨p2, rfl⟩ := vSlc_eq hx2
        simp only [Bool.and_eq_true] at h
        obtain ⟨h1, h2⟩ := h
        unfold vRev at h2
        split at h2
        · rename_i kq pa pb
          have d := de_rev (k := kq) (p1 := pa) (p2 := pb) (p3 := p2) (pos := p) (soundE a sc a' h1 X ok).1
          exact ⟨d, dt_val d fun _ => rfl⟩
        · cases h2
      · cases h
    · cases h
  | .call f es, sc, e, h, X, ok => by
    rw [chkE] at h
    split at h
    · rename_i x as hx
      obtain ⟨p, q, rfl⟩ := vCall_eq hx
      simp only [Bool.and_eq_true, decide_eq_true_eq, Bool.not_eq_true', List.isEmpty_eq_false_iff] at h
      obtain ⟨⟨⟨⟨⟨h1, h2⟩, h3⟩, h4⟩, h5⟩, h6⟩ := h
      obtain ⟨a, _, _⟩ := soundEs es sc as h4 X ok
      obtain ⟨n1, n2, n3⟩ := okNm_of h3
      obtain ⟨fa, fd, ps, m1, m2, _, m3, m4⟩ := ok.own f x h1
      have hg : Gl X x := by
        show X.env.scope.names.lookup x = _
        rw [ok.eS]; exact gl_of h2
      cases as with
      | nil => exact absurd rfl h5
      | cons b bs =>
        have d : DE X (.Call (.Name x p) (b :: bs) [] q) (evE F (.call f es)) := de_call m4 (ok.room.mono ok.kr) hg m1 m2 m3 a n1 h6
        exact ⟨d, dt_val d fun _ => rfl⟩
    · cases h
  | .calld f es ds, sc, e, h, X, ok => by
    rw [chkE] at h
    split at h
    · rename_i x as hx
      obtain ⟨p, q, rfl⟩ := vCall_eq hx
      simp only [Bool.and_eq_true, decide_eq_true_eq, Bool.not_eq_true', List.isEmpty_eq_false_iff] at h
      obtain ⟨⟨⟨⟨⟨⟨h1, h1'⟩, h2⟩, h3⟩, h4⟩, h5⟩, h6⟩ := h
      obtain ⟨a, _, _⟩ := soundEs es sc as h4 X ok
      obtain ⟨n1, n2, n3⟩ := okNm_of h3
      obtain ⟨fa, fd, ps, m1, m2, ⟨_, m6⟩, m3, m4⟩ := ok.own f x h1
      obtain ⟨us, vs, b1, b2, b3⟩ := m6.2.2 ds h1'
      have hg : Gl X x := by
        show X.env.scope.names.lookup x = _
        rw [ok.eS]; exact gl_of h2
      cases as with
      | nil => exact absurd rfl h5
      | cons b bs =>
        have d : DE X (.Call (.Name x p) (b :: bs) [] q) (evE F (.calld f es ds)) := de_calld m4 (ok.room.mono ok.kr) hg m1 m2 b1 b2 b3 a n1 h6
        exact ⟨d, dt_val d fun _ => rfl⟩
    · cases h
  | .callk f es ks, sc, e, h, X, ok => by
    rw [chkE] at h
    split at h
    · rename_i x kws hx
      obtain ⟨p, q, rfl⟩ := vCall_eq hx
      simp only [Bool.and_eq_true, decide_eq_true_eq] at h
      obtain ⟨⟨⟨⟨⟨h1, h1'⟩, h2⟩, h3⟩, h4⟩, h5⟩ := h
      obtain ⟨_, a, hl⟩ := soundEs es sc (kws.map kwVal) h5 X ok
      obtain ⟨n1, n2, n3⟩ := okNm_of h3
      obtain ⟨fa, fd, ps, m1, m2, ⟨m5, m6⟩, m3, m4⟩ := ok.own f x h1
      rw [h1'] at m5
      cases m5
      have hg : Gl X x := by
        show X.env.scope.names.lookup x = _
        rw [ok.eS]; exact gl_of h2
      obtain ⟨w1, w2, w3⟩ := kw_facts (env := X.env) (pos := q) h4
      have d : DE X (.Call (.Name x p) [] kws q) (evE F (.callk f es ks)) := de_callk m4 (ok.room.mono ok.kr) hg m1 m2 m6.1 (dk_of (fun i e y he hy => (a i e y he hy).1) (by simpa using hl)) w1 w2 n1 (by rw [w3]; rfl)
      exact ⟨d, dt_val d fun _ => rfl⟩
    · cases h
  | .callp f es ks pi, sc, e, h, X, ok => by
    rw [chkE] at h
    split at h
    · rename_i x kws hx
      obtain ⟨p, q, rfl⟩ := vCall_eq hx
      simp only [Bool.and_eq_true, decide_eq_true_eq, List.all_eq_true] at h
      obtain ⟨⟨⟨⟨⟨⟨⟨h1, h1'⟩, h2⟩, h3⟩, h4⟩, h5⟩, h6⟩, h7⟩ := h
      obtain ⟨_, a, hl⟩ := soundEs es sc (kws.map kwVal) h5 X ok
      obtain ⟨n1, n2, n3⟩ := okNm_of h3
      obtain ⟨fa, fd, ps, m1, m2, ⟨m5, m6⟩, m3, m4⟩ := ok.own f x h1
      have hg : Gl X x := by
        show X.env.scope.names.lookup x = _
        rw [ok.eS]; exact gl_of h2
      obtain ⟨w1, w2, w3⟩ := kw_facts (env := X.env) (pos := q) h4
      have d : DE X (.Call (.Name x p) [] kws q) (evE F (.callp f es ks pi)) := de_callp m4 (ok.room.mono ok.kr) hg m1 m2 (m6.2.1 ks pi h1') h7 h6 (dk_of (fun i e y he hy => (a i e y he hy).1) (by simpa using hl)) w1 w2 n1 (by rw [w3]; rfl)
      exact ⟨d, dt_val d fun _ => rfl⟩
    · cases h
  | .bi b es, sc, e, h, X, ok => by
    rw [chkE] at h
    split at h
    · rename_i x as hx
      obtain ⟨p, q, rfl⟩ := vCall_eq hx
      split at h
      · -- gcd
        simp only [Bool.and_eq_true, decide_eq_true_eq, Bool.not_eq_true', List.isEmpty_eq_false_iff] at h
        obtain ⟨⟨⟨⟨⟨h1, h2⟩, h3⟩, h4⟩, h5⟩, h6⟩ := h
        obtain ⟨a, _, _⟩ := soundEs es sc as h4 X ok
        obtain ⟨n1, n2, n3⟩ := okNm_of h3
        have hg : Gl X x := by
          show X.env.scope.names.lookup x = _
          rw [ok.eS]; exact gl_of h2
        cases as with
        | nil => exact absurd rfl h5
        | cons b bs =>
          have d : DE X (.Call (.Name x p) (b :: bs) [] q) (evE F (.bi .gcd es)) := de_bf (nm := "math.gcd") bi_gcd hg (ok.bf.1 _ h1) a n1 h6
          exact ⟨d, dt_val d fun _ => rfl⟩
      · -- isinstance
        rename_i c
        simp only [Bool.and_eq_true, decide_eq_true_eq] at h
        obtain ⟨⟨⟨⟨⟨⟨⟨rfl, h2⟩, h3⟩, h4⟩, h5⟩, h6⟩, h7⟩, h8⟩ := h
        split at h8
        · rename_i x1 a1 a2
          simp only [Bool.and_eq_true, decide_eq_true_eq] at h8
          obtain ⟨p2, rfl⟩ := vName_eq h8.1.2
          obtain ⟨n1, n2, n3⟩ := okNm_of h7
          have hg : Gl X "isinstance" := by
            show X.env.scope.names.lookup _ = _
            rw [ok.eS]; exact gl_of h3
          have hg2 : Gl X (clsStr c) := by
            show X.env.scope.names.lookup _ = _
            rw [ok.eS]; exact gl_of h6
          have d : DE X (.Call (.Name "isinstance" p) [a1, .Name (clsStr c) p2] [] q) (evE F (.bi (.isi c) [x1])) := de_isi (rl r X ok.calm ok.room) hg (ok.blt _ h2) hg2 (ok.blt _ h5) (soundE x1 sc a1 h8.1.1 X ok).1 h8.2 n3 n1
          exact ⟨d, dt_val d fun _ => rfl⟩
        · cases h8
      · -- list(combinations(range))
        simp only [Bool.and_eq_true, decide_eq_true_eq] at h
        obtain ⟨⟨⟨rfl, h2⟩, h3⟩, h4⟩ := h
        split at h4
        · rename_i xa xb a1
          split at h4
          · rename_i y a2 b2 hy
            obtain ⟨p2, q2, rfl⟩ := vCall_eq hy
            simp only [Bool.and_eq_true, decide_eq_true_eq] at h4
            obtain ⟨⟨⟨h5, h6⟩, h7⟩, h8⟩ := h4
            split at h8
            · rename_i z a3 hz
              obtain ⟨p3, q3, rfl⟩ := vCall_eq hz
              simp only [Bool.and_eq_true, decide_eq_true_eq] at h8
              obtain ⟨⟨⟨⟨⟨⟨rfl, h9⟩, h10⟩, h11⟩, h12⟩, h13⟩, h14⟩ := h8
              obtain ⟨n1, n2, n3⟩ := okNm_of h7
              have hgl : Gl X "list" := by
                show X.env.scope.names.lookup _ = _
                rw [ok.eS]; exact gl_of h3
              have hgr : Gl X "range" := by
                show X.env.scope.names.lookup _ = _
                rw [ok.eS]; exact gl_of h10
              have hgy : Gl X y := by
                show X.env.scope.names.lookup _ = _
                rw [ok.eS]; exact gl_of h6
              have d : DE X _ (evE F (.bi .comb [xa, xb])) := CB.de_comb (p := p) (p2 := p2) (p3 := p3) (q := q) (q2 := q2) (q3 := q3) ok.calm hgl (ok.blt _ h2) hgr (ok.blt _ h9) hgy (ok.bf.2 _ h5) n1 (soundE xa sc a3 h11 X ok).1 (soundE xb sc b2 h12 X ok).1 h13 h14
              exact ⟨d, dt_val d fun _ => rfl⟩
            · cases h8
          · cases h4
        · cases h4
      · split at h
        · rename_i y t nm hb
          simp only [Bool.and_eq_true, decide_eq_true_eq, Bool.not_eq_true', List.isEmpty_eq_false_iff] at h
          obtain ⟨⟨⟨⟨⟨⟨rfl, h1⟩, h2⟩, h3⟩, h4⟩, h5⟩, h6⟩ := h
          obtain ⟨a, _, _⟩ := soundEs es sc as h4 X ok
          obtain ⟨n1, n2, n3⟩ := okNm_of h3
          obtain ⟨hv, hn⟩ := biNm_boot hb
          have hg : Gl X x := by
            show X.env.scope.names.lookup x = _
            rw [ok.eS]; exact gl_of h2
          cases as with
          | nil => exact absurd rfl h5
          | cons b' bs =>
            have hc := (rl r X ok.calm ok.room).bi b x t nm hb
            have d : DE X (.Call (.Name x p) (b' :: bs) [] q) (evE F (.bi b es)) := by
              cases t with
              | true => exact de_ty hc hg (ok.blt _ h1) hv a hn n1 h6
              | false => exact de_bi (id := x) hc hg (ok.blt _ h1) hv a hn n1 h6
            exact ⟨d, dt_val d fun _ => rfl⟩
        · cases h
    · rename_i x as kw kws hx
      obtain ⟨p, q, rfl⟩ := vCall_eq hx
      split at h
      · simp only [Bool.and_eq_true, decide_eq_true_eq, List.isEmpty_iff] at h
        obtain ⟨⟨⟨⟨⟨rfl, h1⟩, h2⟩, h3⟩, rfl⟩, h4⟩ := h
        split at h4
        · rename_i x1 a1
          simp only [Bool.and_eq_true] at h4
          have hg : Gl X "max" := by
            show X.env.scope.names.lookup _ = _
            rw [ok.eS]; exact gl_of h2
          have hu : X.A.units + 64 < cLine := by have := ok.room.rm.un; omega
          have hst : noStars [a1] = true := h4.2
          have hs := hst
          simp only [noStars, Bool.and_eq_true, Bool.not_eq_true', and_true] at hs
          have ha : DA X [a1] (evEs F [x1]) := da_cons (soundE x1 sc a1 h4.1 X ok).1 da_nil (star_cons hs)
          unfold kwDef at h3
          split at h3
          · rename_i nm kq pa pb
            have e3 := of_decide_eq_true h3
            subst e3
            have d := de_maxd (p := p) (pos := q) (pk := pa) (pn := pb) (kk := kq) ok.calm hu hg (ok.blt _ h1) ha hst
            exact ⟨d, dt_val d fun _ => rfl⟩
          · cases h3
        · cases h4
      · cases h
    · cases h
  | .mth m o es, sc, e, h, X, ok => by
    rw [chkE] at h
    split at h
    · rename_i o' m' ap as p hx
      have := vMeth_eq hx
      subst this
      simp only [Bool.and_eq_true, decide_eq_true_eq, Bool.not_eq_true', List.isEmpty_eq_false_iff] at h
      obtain ⟨⟨⟨⟨⟨⟨⟨rfl, h1⟩, h2⟩, h3⟩, h4⟩, h5⟩, h6⟩, h7⟩ := h
      obtain ⟨a, _, _⟩ := soundEs es sc as h2 X ok
      cases as with
      | nil => exact absurd rfl h3
      | cons b bs =>
        have d := de_mth (m := m) (apos := ap) (cpos := p) (rl r X ok.calm ok.room) (soundE o sc o' h1 X ok).1 a h5 h6 h4 h7
        exact ⟨d, dt_val d fun _ => rfl⟩
    · cases h
  | .lc elt t it ifs, sc, e, h, X, ok => by
    rw [chkE] at h
    split at h
    · rename_i e' t' i' ifs' a sc2 p hx
      have := vLC_eq hx
      subst this
      simp only [Bool.and_eq_true, decide_eq_true_eq] at h
      obtain ⟨⟨⟨⟨⟨⟨⟨rfl, h1⟩, h2⟩, h3⟩, h4⟩, h5⟩, h6⟩, h7⟩ := h
      have hb : BlkOk X.N X.env.scope sc2 (ownOf N t) := by rw [ok.eN, ok.eS]; exact blkOk_by h3
      have ho : (ownOf N t).map (·.2) = ownC t := by
        unfold ownOf
        rw [List.map_map]
        exact List.map_id' _
      have d : DE X (.ListComp e' [⟨t', i', ifs', 0⟩] sc2 p) (evE F (.lc elt t it ifs)) := by
        refine de_lc ok.calm (by rw [ok.eN]; exact ok.nd) (soundI it sc t' i' h1 X ok) hb ho (fun s H C cl fp => chkTc_of h4 (ok.blk hb.kind s H C cl fp)) (fun s H C cl fp => ?_) (fun s H C cl fp => (soundE elt (relS sc2 sc) e' h5 _ (ok.blk hb.kind s H C cl fp)).1) h2
        obtain ⟨_, q, ql⟩ := soundEs ifs (relS sc2 sc) ifs' h6 _ (ok.blk hb.kind s H C cl fp)
        cases ifs with
        | nil =>
          cases ifs' with
          | nil => exact dcs_nil
          | cons _ _ => simp at ql
        | cons x xs =>
          cases xs with
          | cons _ _ => simp at h7
          | nil =>
            cases ifs' with
            | nil => simp at ql
            | cons c cs =>
              cases cs with
              | cons _ _ => simp at ql
              | nil => exact dcs_one (q 0 c x rfl rfl).2
      exact ⟨d, dt_val d fun _ => rfl⟩
    · cases h
  | .dc ke ve t it ifs, sc, e, h, X, ok => by
    rw [chkE] at h
    split at h
    · rename_i k' v' t' i' ifs' a sc2 p hx
      have := vDC_eq hx
      subst this
      simp only [Bool.and_eq_true, decide_eq_true_eq] at h
      obtain ⟨⟨⟨⟨⟨⟨⟨⟨rfl, h1⟩, h2⟩, h3⟩, h4⟩, h5⟩, h5v⟩, h6⟩, h7⟩ := h
      have hb : BlkOk X.N X.env.scope sc2 (ownOf N t) := by rw [ok.eN, ok.eS]; exact blkOk_by h3
      have ho : (ownOf N t).map (·.2) = ownC t := by
        unfold ownOf
        rw [List.map_map]
        exact List.map_id' _
      have d : DE X (.DictComp k' v' [⟨t', i', ifs', 0⟩] sc2 p) (evE F (.dc ke ve t it ifs)) := by
        refine de_dc (by have := ok.room.rm.un; omega) ok.calm (by rw [ok.eN]; exact ok.nd) (soundI it sc t' i' h1 X ok) hb ho (fun s H C cl fp => chkTc_of h4 (ok.blk hb.kind s H C cl fp)) (fun s H C cl fp => ?_) (fun s H C cl fp => (soundE ke (relS sc2 sc) k' h5 _ (ok.blk hb.kind s H C cl fp)).1) (fun s H C cl fp => (soundE ve (relS sc2 sc) v' h5v _ (ok.blk hb.kind s H C cl fp)).1) h2
        obtain ⟨_, q, ql⟩ := soundEs ifs (relS sc2 sc) ifs' h6 _ (ok.blk hb.kind s H C cl fp)
        cases ifs with
        | nil =>
          cases ifs' with
          | nil => exact dcs_nil
          | cons _ _ => simp at ql
        | cons x xs =>
          cases xs with
          | cons _ _ => simp at h7
          | nil =>
            cases ifs' with
            | nil => simp at ql
            | cons c cs =>
              cases cs with
              | cons _ _ => simp at ql
              | nil => exact dcs_one (q 0 c x rfl rfl).2
      exact ⟨d, dt_val d fun _ => rfl⟩
    · cases h
  | .allg elt i it, sc, e, h, X, ok => by
    rw [chkE] at h
    exact hga elt i it sc e h X ok
theorem soundEs : ∀ (xs : List Ex) (sc : Scope) (as : List Expr), chkEs G N xs sc as = true → ∀ X : Cx, Ok G F k r N sc X → DA X as (evEs F xs) ∧ (∀ (i : Nat) e x, as[i]? = some e → xs[i]? = some x → DE X e (evE F x) ∧ DT X e (evE F x)) ∧ as.length = xs.length
  | [], sc, as, h, X, ok => by
    rw [chkEs, List.isEmpty_iff] at h
    subst h
    exact ⟨da_nil, fun i e x h => by simp at h, rfl⟩
  | x :: xs, sc, [], h, X, ok => by simp [chkEs] at h
  | x :: xs, sc, a :: as, h, X, ok => by
    rw [chkEs] at h
    · simp only [Bool.and_eq_true, Bool.not_eq_true'] at h
      have h1 := soundE x sc a h.1.1 X ok
      obtain ⟨h2, h3, h4⟩ := soundEs xs sc as h.1.2 X ok
      refine ⟨da_cons h1.1 h2 (star_cons h.2), fun i e y he hy => ?_, by simp [h4]⟩
      cases i with
      | zero => simp at he hy; subst he; subst hy; exact h1
      | succ i => exact h3 i e y (by simpa using he) (by simpa using hy)
theorem soundO : ∀ (x : Option Ex) (sc : Scope) (a : Option Expr), chkO G N x sc a = true → ∀ X : Cx, Ok G F k r N sc X → PO X a (tOD X.K X.w (evO F x))
  | none, sc, a, h, X, ok => by
    rw [chkO, Option.isNone_iff_eq_none] at h
    subst h
    exact do_none
  | some x, sc, none, h, X, ok => by simp [chkO] at h
  | some x, sc, some a, h, X, ok => by
    rw [chkO] at h
    exact do_some (soundE x sc a h X ok).1
theorem soundI : ∀ (x : Itx) (sc : Scope) (tg e : Expr), chkI G N x sc tg e = true → ∀ X : Cx, Ok G F k r N sc X → PI X tg e (tID X.K X.w (evI F x))
  | .ex x, sc, tg, e, h, X, ok => by
    rw [chkI] at h
    exact di_ex (soundE x sc e h X ok).1
  | .keys x, sc, tg, e, h, X, ok => by
    rw [chkI] at h
    exact di_keys (soundE x sc e h X ok).1
  | .rng es, sc, tg, e, h, X, ok => by
    rw [chkI] at h
    split at h
    · rename_i x as hx
      obtain ⟨p, q, rfl⟩ := vCall_eq hx
      simp only [Bool.and_eq_true, decide_eq_true_eq, Bool.or_eq_true] at h
      obtain ⟨⟨⟨⟨⟨rfl, h1⟩, h2⟩, h3⟩, h4⟩, h5⟩ := h
      obtain ⟨a, _, hl⟩ := soundEs es sc as h3 X ok
      have hg : Gl X "range" := by
        show X.env.scope.names.lookup _ = _
        rw [ok.eS]; exact gl_of h2
      rcases h5 with h5 | h5
      · match as, es, hl, h5 with
        | [b], [y], _, _ => exact di_rng1 hg (ok.blt _ h1) a h4
      · match as, es, hl, h5 with
        | [b, c], [y, z], _, _ => exact di_rng2 hg (ok.blt _ h1) a h4
    · cases h
  | .zip a b, sc, tg, e, h, X, ok => by
    rw [chkI] at h
    split at h
    · rename_i x a' b' hx
      obtain ⟨p, q, rfl⟩ := vCall_eq hx
      simp only [Bool.and_eq_true, decide_eq_true_eq] at h
      obtain ⟨⟨⟨⟨⟨⟨rfl, h1⟩, h2⟩, h3⟩, h4⟩, h5⟩, h6⟩ := h
      obtain ⟨elts, h7⟩ := Option.isSome_iff_exists.mp h6
      obtain ⟨kk, tp, rfl⟩ := vTuple_eq h7
      have hg : Gl X "zip" := by
        show X.env.scope.names.lookup _ = _
        rw [ok.eS]; exact gl_of h2
      have hs := h5
      simp only [noStars, Bool.and_eq_true, Bool.not_eq_true', and_true] at hs
      exact di_zip hg (ok.blt _ h1) (da_cons (soundE a sc a' h3 X ok).1 (da_cons (soundE b sc b' h4 X ok).1 da_nil (star_cons hs.2)) (star_cons hs.1)) h5
    · cases h
  | .enum a c, sc, tg, e, h, X, ok => by
    rw [chkI] at h
    split at h
    · rename_i x a' kws hx
      obtain ⟨p, q, rfl⟩ := vCall_eq hx
      simp only [Bool.and_eq_true, decide_eq_true_eq] at h
      obtain ⟨⟨⟨⟨⟨⟨rfl, h1⟩, h2⟩, h3⟩, h5⟩, h6⟩, h7⟩ := h
      obtain ⟨elts, h8⟩ := Option.isSome_iff_exists.mp h6
      obtain ⟨kk, tp, rfl⟩ := vTuple_eq h8
      have hg : Gl X "enumerate" := by
        show X.env.scope.names.lookup _ = _
        rw [ok.eS]; exact gl_of h2
      have hs := h5
      simp only [noStars, Bool.and_eq_true, Bool.not_eq_true', and_true] at hs
      have da := da_cons (soundE a sc a' h3 X ok).1 da_nil (star_cons hs)
      unfold kwStart at h7
      split at h7
      · have h7 := of_decide_eq_true h7
        subst h7
        exact di_enum hg (ok.blt _ h1) da h5
      · simp only [Bool.and_eq_true, decide_eq_true_eq] at h7
        obtain ⟨⟨⟨rfl, rfl⟩, h9⟩, h10⟩ := h7
        exact di_enumS (by omega) (by omega) hg (ok.blt _ h1) da h5
      · cases h7
    · cases h
  | .items _, _, _, _, h, _, _ => by simp [chkI] at h
  | .vals _, _, _, _, h, _, _ => by simp [chkI] at h
end
end
end DD
namespace DD
open PySem PySem.Spec PyProof.Rows L2
variable [Tabs]

/-- an env of that scope -/
def env0 (sc : Scope) : PySem.Env := { scope := sc, locals := 0, globals := 0, cells := [], qual := "", func := none, code := .none, frame := none, builtins := 0 }
def pureOf {α : Type} : Sem α → Option α
  | .pure a => some a
  | _ => none
theorem pureOf_eq {α : Type} {t : Sem α} {a : α} (h : pureOf t = some a) : t = pure a := by
  cases t <;> simp [pureOf] at h
  subst h; rfl
theorem sws_env {e : Expr} {t : Option Expr} {l : Nat} {env : PySem.Env} : swapsWith e t l env = swapsWith e t l (env0 env.scope) := rfl
theorem swt_env {ts : List Expr} {v : Expr} {env : PySem.Env} : swappedStores ts v env = swappedStores ts v (env0 env.scope) := rfl
theorem swo_env {ts : List Expr} {v : Expr} {l : Nat} {env : PySem.Env} : swapsWithSole ts v l env = swapsWithSole ts v l (env0 env.scope) := by
  cases ts with
  | nil => rfl
  | cons t ts => cases ts <;> rfl

section
variable (G : Gl0) (N : List Str)
mutual
def chkTg : Tg → Scope → Expr → Bool
  | .one i, sc, e => match vName e with
    | some x => decide (N[i]? = some x) && locB sc x
    | none => false
  | .sub o i, sc, e => match vSub e with
    | some (o', i') => chkE G N o sc o' && chkE G N i sc i' && notSlice i'
    | none => false
  | .many ts, sc, e => match vTuple e with
    | some es => chkTgs ts sc es && noStars es
    | none => false
def chkTgs : List Tg → Scope → List Expr → Bool
  | [], _, es => es.isEmpty
  | t :: ts, sc, es => match es with
    | e :: es => chkTg t sc e && chkTgs ts sc es
    | [] => false
end
def parOf : Tg → Ex → Option (Nat × Nat × Ex × Ex)
  | .many [.one i, .one j], .tup [x, y] => some (i, j, x, y)
  | _, _ => none
def par3Of : Tg → Ex → Option (Nat × Nat × Nat × Ex × Ex × Ex)
  | .many [.one i, .one j, .one l], .tup [x, y, z] => some (i, j, l, x, y, z)
  | _, _ => none
def oneOf : Tg → Option Nat
  | .one i => some i
  | _ => none
def lcOf : Ex → Option (Ex × Tgc × Itx × List Ex)
  | .lc e t i f => some (e, t, i, f)
  | _ => none
def dcOf : Ex → Option (Ex × Ex × Tgc × Itx × List Ex)
  | .dc k v t i f => some (k, v, t, i, f)
  | _ => none
def chkAsg (t : Tg) (x : Ex) (sc : Scope) (tg e : Expr) (p : Pos) : Bool :=
  chkTg G N t sc tg && chkE G N x sc e &&
  match oneOf t with
  | some _ => match pureOf (swapsWith e (some tg) p.line (env0 sc)) with
    | some false => true
    | some true => ((lcOf x).isSome || (dcOf x).isSome) && (match vName tg with
      | some y => lclB sc y
      | none => false)
    | none => false
  | none => decide (pureOf (swapsWithSole [tg] e p.line (env0 sc)) = some false) && !isStar tg &&
    match pureOf (swappedStores [tg] e (env0 sc)) with
    | some none => true
    | some (some ns) => (match parOf t x, vTuple tg with
      | some (i, j, _, _), some [a, b] => decide (vName a = ns[0]?) && decide (vName b = ns[1]?) && decide (ns.length = 2) && decide (i ≠ j) && (ns.all fun y => lclB sc y) && (match vTuple e with
        | some es => noStars es
        | none => false)
      | _, _ => (match par3Of t x, vTuple tg with
        | some (i, j, l, _), some [a, b, c] => decide (vName a = ns[0]?) && decide (vName b = ns[1]?) && decide (vName c = ns[2]?) && decide (ns.length = 3) && decide (i ≠ j ∧ i ≠ l ∧ j ≠ l) && (ns.all fun y => lclB sc y) && (match vTuple e with
          | some es => noStars es
          | none => false)
        | _, _ => false))
    | none => false
def vAssign : Stmt → Option (List Expr × Expr × Pos)
  | .Assign ts e p => some (ts, e, p)
  | _ => none
def vAug : Stmt → Option (Expr × Operator × Expr)
  | .AugAssign t o e _ => some (t, o, e)
  | _ => none
def vExpr : Stmt → Option (Expr × Pos)
  | .Expr e p => some (e, p)
  | _ => none
def vRet : Stmt → Option Expr
  | .Return (some e) _ => some e
  | _ => none
def vIfS : Stmt → Option (Expr × List Stmt × List Stmt)
  | .If c a b _ => some (c, a, b)
  | _ => none
def vFor : Stmt → Option (Expr × Expr × List Stmt)
  | .For t i b [] _ => some (t, i, b)
  | _ => none
def vWhile : Stmt → Option (Expr × List Stmt)
  | .While c b [] _ => some (c, b)
  | _ => none
def vPass : Stmt → Bool
  | .Pass _ => true
  | _ => false
def isAdd : Bop → Bool
  | .add => true
  | _ => false
mutual
def chkS : Stm → Scope → Stmt → Bool
  | .asg t x, sc, st => match vAssign st with
    | some ([tg], e, p) => chkAsg G N t x sc tg e p
    | _ => false
  | .aug i o x, sc, st => match vAug st with
    | some (t, o', e) => isAdd o && decide (o' = .Add) && (match vName t with
      | some y => decide (N[i]? = some y) && locB sc y
      | none => false) && chkE G N x sc e
    | none => false
  | .exp x, sc, st => match vExpr st with
    | some (e, p) => chkE G N x sc e && decide (pureOf (swapsWith e none p.line (env0 sc)) = some false)
    | none => false
  | .ret x, sc, st => match vRet st with
    | some e => chkE G N x sc e
    | none => false
  | .iff c a b, sc, st => match vIfS st with
    | some (c', a', b') => chkE G N c sc c' && chkB a sc a' && chkB b sc b'
    | none => false
  | .forr t it b, sc, st => match vFor st with
    | some (t', i', b') => chkTg G N t sc t' && chkI G N it sc t' i' && notSet i' && chkB b sc b'
    | none => false
  | .whil c b, sc, st => match vWhile st with
    | some (c', b') => chkE G N c sc c' && chkB b sc b'
    | none => false
  | .stuck, _, _ => true
  | .pass, _, st => vPass st
  | .lks _ x, sc, st => chkS x sc st
def chkB : List Stm → Scope → List Stmt → Bool
  | [], _, sts => sts.isEmpty
  | x :: xs, sc, sts => match sts with
    | st :: sts => chkS x sc st && chkB xs sc sts
    | [] => false
end
end
section
variable {st : Stmt}
theorem vAssign_eq {ts e p} (h : vAssign st = some (ts, e, p)) : st = .Assign ts e p := by unfold vAssign at h; split at h <;> cases h; rfl
theorem vAug_eq {t o e} (h : vAug st = some (t, o, e)) : ∃ p, st = .AugAssign t o e p := by unfold vAug at h; split at h <;> cases h; exact ⟨_, rfl⟩
theorem vExpr_eq {e p} (h : vExpr st = some (e, p)) : st = .Expr e p := by unfold vExpr at h; split at h <;> cases h; rfl
theorem vRet_eq {e} (h : vRet st = some e) : ∃ p, st = .Return (some e) p := by unfold vRet at h; split at h <;> cases h; exact ⟨_, rfl⟩
theorem vIfS_eq {c a b} (h : vIfS st = some (c, a, b)) : ∃ p, st = .If c a b p := by unfold vIfS at h; split at h <;> cases h; exact ⟨_, rfl⟩
theorem vFor_eq {t i b} (h : vFor st = some (t, i, b)) : ∃ p, st = .For t i b [] p := by unfold vFor at h; split at h <;> cases h; exact ⟨_, rfl⟩
theorem vWhile_eq {c b} (h : vWhile st = some (c, b)) : ∃ p, st = .While c b [] p := by unfold vWhile at h; split at h <;> cases h; exact ⟨_, rfl⟩
theorem vPass_eq (h : vPass st = true) : ∃ p, st = .Pass p := by unfold vPass at h; split at h; exact ⟨_, rfl⟩; cases h
end

/-- a def's own context: its names may be stored, nothing is raised -/
structure OkS (G : Gl0) (F : Fns) (k r : Nat) (N : List Str) (sc : Scope) (X : Cx) : Prop where
  ok : Ok G F k r N sc X
  fn : ∀ x, X.fn x = true
  xe : X.xe = fun _ _ => False
section
variable {G : Gl0} {F : Fns} {k r fu : Nat} {N : List Str} (rl : ∀ (k : Nat) (X : Cx), X.calm = true → RoomG k X.A → Rl X) (hga : ∀ elt i it sc e, G.ga N elt i it sc e = true → ∀ X : Cx, Ok G F k r N sc X → DE X e (evE F (.allg elt i it)) ∧ DT X e (evE F (.allg elt i it)))
include rl hga
mutual
theorem soundTg : ∀ (t : Tg) (sc : Scope) (e : Expr), chkTg G N t sc e = true → ∀ X : Cx, OkS G F k r N sc X → PG X e (tGD X.K X.w (bindT F t))
  | .one i, sc, e, h, X, o => by
    rw [chkTg] at h
    split at h
    · rename_i x hx
      obtain ⟨p, rfl⟩ := vName_eq hx
      simp only [Bool.and_eq_true, decide_eq_true_eq] at h
      exact dg_one (pg_name (by rw [o.ok.eN]; exact o.ok.nd) (by rw [o.ok.eN]; exact h.1) (by rw [o.ok.eS]; exact loc_of h.2) (.inl (o.fn x)))
    · cases h
  | .sub a i, sc, e, h, X, o => by
    rw [chkTg] at h
    split at h
    · rename_i o' i' hx
      obtain ⟨p, rfl⟩ := vSub_eq hx
      simp only [Bool.and_eq_true] at h
      have h1 := (soundE rl hga a sc o' h.1.1 X o.ok).1
      have h2 := (soundE rl hga i sc i' h.1.2 X o.ok).1
      have hs := (rl r X o.ok.calm o.ok.room).set
      exact dg_sub hs h1 h2 (pg_sub h1 h2 hs (fun v => by
        have hn := h.2
        cases i' <;> first | rfl | simp [notSlice] at hn))
    · cases h
  | .many ts, sc, e, h, X, o => by
    rw [chkTg] at h
    split at h
    · rename_i es hx
      obtain ⟨kk, p, rfl⟩ := vTuple_eq hx
      simp only [Bool.and_eq_true] at h
      obtain ⟨a, b⟩ := soundTgs ts sc es h.1 h.2 X o
      exact dg_many (pg_tup' o.ok.calm a h.2 b)
    · cases h
theorem soundTgs : ∀ (ts : List Tg) (sc : Scope) (es : List Expr), chkTgs G N ts sc es = true → noStars es = true → ∀ X : Cx, OkS G F k r N sc X → PGs X es (tGDs X.K X.w (bindTs F ts)) ∧ es.length = ts.length
  | [], sc, es, h, hs, X, o => by
    rw [chkTgs, List.isEmpty_iff] at h
    subst h
    exact ⟨dgs_nil, rfl⟩
  | t :: ts, sc, [], h, hs, X, o => by simp [chkTgs] at h
  | t :: ts, sc, e :: es, h, hs, X, o => by
    rw [chkTgs, Bool.and_eq_true] at h
    simp only [noStars, Bool.and_eq_true, Bool.not_eq_true'] at hs
    have h1 := soundTg t sc e h.1 X o
    obtain ⟨h2, h3⟩ := soundTgs ts sc es h.2 hs.2 X o
    refine ⟨dgs_cons h1 h2 (pgs_cons h1 h2 ?_), by simp [h3]⟩
    rw [assignEach_noStar hs.2, assignEach_noStar (by simp [noStars, hs.1, hs.2] : noStars (e :: es) = true)]
    rfl
end
omit rl hga in
theorem rds3 {K : PySem.W.Frag} {u : Vw} {d e f : D} {vs : List V} (r : RDs K u [d, e, f] vs) : ∃ v w z, vs = [v, w, z] ∧ RD K u d v ∧ RD K u e w ∧ RD K u f z := by
  cases r with
  | cons a r =>
  cases r with
  | cons b r =>
  cases r with
  | cons c r =>
  cases r
  exact ⟨_, _, _, rfl, a, b, c⟩
omit rl hga in
theorem par_read3 {X : Cx} {i j l : Nat} {x y z : Ex} {Dn : Ends} {σ : L2.St} {H : Hp} (h : tSD X.K X.w (exS F fu (.asg (.many [.one i, .one j, .one l]) (.tup [x, y, z]))) Dn σ H) : tPar3 i j l (tDs X.K X.w (evEs F [x, y, z])) Dn σ H := by
  obtain ⟨u, M, δ, eH, W, S, fl, δ', M', e, q⟩ := h
  rw [exS] at e
  split at e
  · rename_i d M1 e1
    rw [evE] at e1
    split at e1
    · rename_i ds M2 e2
      cases e1
      obtain ⟨r, e3, e4⟩ := Option.map_eq_some_iff.mp e
      cases e4
      have hl := evEs_len e2
      match ds, hl with
      | [d1, d2, d3], _ =>
      simp [bindT, bindTs] at e3
      cases e3
      refine ⟨u, M, δ, eH, W, S, _, _, e2, fun u1 vs E1 W1 r1 => ?_⟩
      obtain ⟨v1, v2, v3, rfl, ra, rb, rc⟩ := rds3 r1
      exact ⟨_, _, _, rfl, q u1 _ E1 W1 ((((S.mono E1).set ra i).set rb j).set rc l)⟩
    · cases e1
  · cases e
theorem soundAsg {t : Tg} {x : Ex} {sc : Scope} {tg e : Expr} {p : Pos} (h : chkAsg G N t x sc tg e p = true) {X : Cx} (o : OkS G F k r N sc X) : DS X (.Assign [tg] e p) (exS F fu (.asg t x)) := by
  unfold chkAsg at h
  simp only [Bool.and_eq_true] at h
  obtain ⟨⟨h1, h2⟩, h3⟩ := h
  have hg := soundTg rl hga t sc tg h1 X o
  have he := (soundE rl hga x sc e h2 X o.ok).1
  split at h3
  · rename_i i0 hi0
    cases t with
    | one i =>
      rw [chkTg] at h1
      split at h1
      · rename_i y hy
        obtain ⟨py, rfl⟩ := vName_eq hy
        simp only [Bool.and_eq_true, decide_eq_true_eq] at h1
        split at h3
        · rename_i hsw
          have hsw := pureOf_eq hsw
          rw [← o.ok.eS, ← sws_env] at hsw
          exact ds_asg1 (by rw [o.ok.eN]; exact o.ok.nd) (by rw [o.ok.eN]; exact h1.1) (by rw [o.ok.eS]; exact loc_of h1.2) he hsw (.inl (o.fn y))
        · rename_i hsw
          have hsw := pureOf_eq hsw
          rw [← o.ok.eS, ← sws_env] at hsw
          simp only [Bool.and_eq_true, hy] at h3
          have hyl := lcl_of h3.2
          cases x with
          | lc elt t2 it ifs =>
            rw [chkE] at h2
            split at h2
            · rename_i e' t' i' ifs' a sc2 lp hx
              have := vLC_eq hx
              subst this
              simp only [Bool.and_eq_true, decide_eq_true_eq] at h2
              obtain ⟨⟨⟨⟨⟨⟨⟨rfl, q1⟩, q2⟩, q3⟩, q4⟩, q5⟩, q6⟩, q7⟩ := h2
              have hb : BlkOk X.N X.env.scope sc2 (ownOf N t2) := by rw [o.ok.eN, o.ok.eS]; exact blkOk_by q3
              have ho : (ownOf N t2).map (·.2) = ownC t2 := by
                unfold ownOf
                rw [List.map_map]
                exact List.map_id' _
              refine ds_asgLc o.ok.calm (by rw [o.ok.eN]; exact o.ok.nd) (by rw [o.ok.eN]; exact h1.1) (by rw [o.ok.eS]; exact hyl) hsw (soundI rl hga it sc t' i' q1 X o.ok) hb ho (fun s H C cl fp => chkTc_of q4 (o.ok.blk hb.kind s H C cl fp)) (fun s H C cl fp => ?_) (fun s H C cl fp => (soundE rl hga elt (relS sc2 sc) e' q5 _ (o.ok.blk hb.kind s H C cl fp)).1) q2
              obtain ⟨_, q, ql⟩ := soundEs rl hga ifs (relS sc2 sc) ifs' q6 _ (o.ok.blk hb.kind s H C cl fp)
              cases ifs with
              | nil =>
                cases ifs' with
                | nil => exact dcs_nil
                | cons _ _ => simp at ql
              | cons x xs =>
                cases xs with
                | cons _ _ => simp at q7
                | nil =>
                  cases ifs' with
                  | nil => simp at ql
                  | cons c cs =>
                    cases cs with
                    | cons _ _ => simp at ql
                    | nil => exact dcs_one (q 0 c x rfl rfl).2
            · cases h2
          | dc ke ve t2 it ifs =>
            rw [chkE] at h2
            split at h2
            · rename_i k' v' t' i' ifs' a sc2 lp hx
              have := vDC_eq hx
              subst this
              simp only [Bool.and_eq_true, decide_eq_true_eq] at h2
              obtain ⟨⟨⟨⟨⟨⟨⟨⟨rfl, q1⟩, q2⟩, q3⟩, q4⟩, q5⟩, q5v⟩, q6⟩, q7⟩ := h2
              have hb : BlkOk X.N X.env.scope sc2 (ownOf N t2) := by rw [o.ok.eN, o.ok.eS]; exact blkOk_by q3
              have ho : (ownOf N t2).map (·.2) = ownC t2 := by
                unfold ownOf
                rw [List.map_map]
                exact List.map_id' _
              refine ds_asgDc (by have := o.ok.room.rm.un; omega) o.ok.calm (by rw [o.ok.eN]; exact o.ok.nd) (by rw [o.ok.eN]; exact h1.1) (by rw [o.ok.eS]; exact hyl) hsw (soundI rl hga it sc t' i' q1 X o.ok) hb ho (fun s H C cl fp => chkTc_of q4 (o.ok.blk hb.kind s H C cl fp)) (fun s H C cl fp => ?_) (fun s H C cl fp => (soundE rl hga ke (relS sc2 sc) k' q5 _ (o.ok.blk hb.kind s H C cl fp)).1) (fun s H C cl fp => (soundE rl hga ve (relS sc2 sc) v' q5v _ (o.ok.blk hb.kind s H C cl fp)).1) q2
              obtain ⟨_, q, ql⟩ := soundEs rl hga ifs (relS sc2 sc) ifs' q6 _ (o.ok.blk hb.kind s H C cl fp)
              cases ifs with
              | nil =>
                cases ifs' with
                | nil => exact dcs_nil
                | cons _ _ => simp at ql
              | cons x xs =>
                cases xs with
                | cons _ _ => simp at q7
                | nil =>
                  cases ifs' with
                  | nil => simp at ql
                  | cons c cs =>
                    cases cs with
                    | cons _ _ => simp at ql
                    | nil => exact dcs_one (q 0 c x rfl rfl).2
            · cases h2
          | _ => simp [lcOf, dcOf] at h3
        · cases h3
      · cases h1
    | _ => simp [oneOf] at hi0
  · simp only [Bool.and_eq_true, decide_eq_true_eq, Bool.not_eq_true'] at h3
    obtain ⟨⟨q1, q2⟩, h3⟩ := h3
    have hs := pureOf_eq q1
    rw [← o.ok.eS, ← swo_env] at hs
    split at h3
    · rename_i hw
      have hw := pureOf_eq hw
      rw [← o.ok.eS, ← swt_env] at hw
      refine ds_asg he hg hs hw ?_
      rw [assignEach_noStar (by simp [noStars, q2] : noStars [tg] = true)]
      rfl
    · rename_i ns hw
      have hw := pureOf_eq hw
      rw [← o.ok.eS, ← swt_env] at hw
      split at h3
      · rename_i i j x1 y1 a b hp ht
        simp only [Bool.and_eq_true, decide_eq_true_eq] at h3
        obtain ⟨⟨⟨⟨⟨r1, r2⟩, r3⟩, r4⟩, r5⟩, r6⟩ := h3
        match ns, r3 with
        | [n1, n2], _ =>
        simp only [List.getElem?_cons_zero, List.getElem?_cons_succ] at r1 r2
        simp only [List.all_cons, List.all_nil, Bool.and_true, Bool.and_eq_true] at r5
        obtain ⟨pa, rfl⟩ := vName_eq r1
        obtain ⟨pb, rfl⟩ := vName_eq r2
        obtain ⟨kk, pt, rfl⟩ := vTuple_eq ht
        unfold parOf at hp
        split at hp
        · cases hp
          rw [chkE] at h2
          split at h2
          · rename_i as hx
            obtain ⟨kk2, pt2, rfl⟩ := vTuple_eq hx
            simp only [Bool.and_eq_true, decide_eq_true_eq] at h2
            obtain ⟨hA, _, hl⟩ := soundEs rl hga _ sc as h2.1 X o.ok
            match as, hl with
            | [c, d], _ =>
            rw [chkTg] at h1
            simp only [vTuple, Bool.and_eq_true] at h1
            have h1 := h1.1
            rw [chkTgs, Bool.and_eq_true] at h1
            obtain ⟨z1, h1⟩ := h1
            rw [chkTgs, Bool.and_eq_true] at h1
            obtain ⟨z2, _⟩ := h1
            rw [chkTg] at z1 z2
            simp only [vName, Bool.and_eq_true, decide_eq_true_eq] at z1 z2
            exact psBy fun Dn σ H q => ⟨_, ps_par o.ok.calm (by rw [o.ok.eN]; exact o.ok.nd) (by rw [o.ok.eN]; exact z1.1) (by rw [o.ok.eN]; exact z2.1) r4 (by rw [o.ok.eS]; exact lcl_of r5.1) (by rw [o.ok.eS]; exact lcl_of r5.2) hA hw hs, par_read q⟩
          · cases h2
        · cases hp
      · split at h3
        · rename_i i j l x1 y1 z1 a b c hp ht
          simp only [Bool.and_eq_true, decide_eq_true_eq] at h3
          obtain ⟨⟨⟨⟨⟨⟨r1, r2⟩, r2'⟩, r3⟩, r4⟩, r5⟩, r6⟩ := h3
          match ns, r3 with
          | [n1, n2, n3], _ =>
          simp only [List.getElem?_cons_zero, List.getElem?_cons_succ] at r1 r2 r2'
          simp only [List.all_cons, List.all_nil, Bool.and_true, Bool.and_eq_true] at r5
          obtain ⟨pa, rfl⟩ := vName_eq r1
          obtain ⟨pb, rfl⟩ := vName_eq r2
          obtain ⟨pc, rfl⟩ := vName_eq r2'
          obtain ⟨kk, pt, rfl⟩ := vTuple_eq ht
          unfold par3Of at hp
          split at hp
          · cases hp
            rw [chkE] at h2
            split at h2
            · rename_i as hx
              obtain ⟨kk2, pt2, rfl⟩ := vTuple_eq hx
              simp only [Bool.and_eq_true, decide_eq_true_eq] at h2
              obtain ⟨hA, _, hl⟩ := soundEs rl hga _ sc as h2.1 X o.ok
              match as, hl with
              | [c1, d1, e1], _ =>
              rw [chkTg] at h1
              simp only [vTuple, Bool.and_eq_true] at h1
              have h1 := h1.1
              rw [chkTgs, Bool.and_eq_true] at h1
              obtain ⟨z1, h1⟩ := h1
              rw [chkTgs, Bool.and_eq_true] at h1
              obtain ⟨z2, h1⟩ := h1
              rw [chkTgs, Bool.and_eq_true] at h1
              obtain ⟨z3, _⟩ := h1
              rw [chkTg] at z1 z2 z3
              simp only [vName, Bool.and_eq_true, decide_eq_true_eq] at z1 z2 z3
              exact psBy fun Dn σ H q => ⟨_, ps_par3 o.ok.calm (by rw [o.ok.eN]; exact o.ok.nd) (by rw [o.ok.eN]; exact z1.1) (by rw [o.ok.eN]; exact z2.1) (by rw [o.ok.eN]; exact z3.1) r4.1 r4.2.1 r4.2.2 (by rw [o.ok.eS]; exact lcl_of r5.1) (by rw [o.ok.eS]; exact lcl_of r5.2.1) (by rw [o.ok.eS]; exact lcl_of r5.2.2) hA hw hs, par_read3 q⟩
            · cases h2
          · cases hp
        · cases h3
    · cases h3
theorem ds_aug {i : Nat} {y : Str} {py pos : Pos} {e : Expr} {x : Ex} {X : Cx} (hN : X.N.Nodup) (hi : X.N[i]? = some y) (hx : Loc X.env.scope y) (he : DE X e (evE F x)) (hf : X.fn y = true) : DS X (.AugAssign (.Name y py) .Add e pos) (exS F fu (.aug i .add x)) :=
  psBy fun Dn σ H ⟨u, M, δ, eH, W, S, fl, δ', M', e, q⟩ => ⟨_, ps_aug hN hi hx he ip_add (.inl hf), by
    rw [exS] at e
    split at e
    · rename_i d hd
      split at e
      · rename_i y' M1 e1
        split at e
        · simp only [opB, addD, Option.map_some] at e
          cases e
          obtain ⟨v, hv, rv⟩ := S.at_ i _ hd
          cases rv
          refine ⟨_, hv, u, M, δ, eH, W, S, _, _, e1, fun u1 v1 E1 W1 r1 => ?_⟩
          cases r1
          exact ⟨_, _, rfl, rfl, q u1 _ E1 W1 ((S.mono E1).set (.int _) i)⟩
        · cases e
      · cases e
    · cases e⟩
mutual
theorem soundS : ∀ (x : Stm) (sc : Scope) (st : Stmt), chkS G N x sc st = true → ∀ X : Cx, OkS G F k r N sc X → DS X st (exS F fu x)
  | .asg t x, sc, st, h, X, o => by
    rw [chkS] at h
    split at h
    · rename_i tg e p hx
      have := vAssign_eq hx
      subst this
      exact soundAsg rl hga h o
    · cases h
  | .aug i op x, sc, st, h, X, o => by
    rw [chkS] at h
    split at h
    · rename_i t o' e hx
      obtain ⟨p, rfl⟩ := vAug_eq hx
      simp only [Bool.and_eq_true, decide_eq_true_eq] at h
      obtain ⟨⟨⟨h1, rfl⟩, h2⟩, h3⟩ := h
      split at h2
      · rename_i y hy
        obtain ⟨py, rfl⟩ := vName_eq hy
        simp only [Bool.and_eq_true, decide_eq_true_eq] at h2
        cases op <;> simp [isAdd] at h1
        exact ds_aug rl hga (by rw [o.ok.eN]; exact o.ok.nd) (by rw [o.ok.eN]; exact h2.1) (by rw [o.ok.eS]; exact loc_of h2.2) (soundE rl hga x sc e h3 X o.ok).1 (o.fn y)
      · cases h2
    · cases h
  | .exp x, sc, st, h, X, o => by
    rw [chkS] at h
    split at h
    · rename_i e p hx
      have := vExpr_eq hx
      subst this
      simp only [Bool.and_eq_true, decide_eq_true_eq] at h
      have hsw := pureOf_eq h.2
      rw [← o.ok.eS, ← sws_env] at hsw
      exact ds_exp (soundE rl hga x sc e h.1 X o.ok).1 hsw
    · cases h
  | .ret x, sc, st, h, X, o => by
    rw [chkS] at h
    split at h
    · rename_i e hx
      obtain ⟨p, rfl⟩ := vRet_eq hx
      exact ds_ret (soundE rl hga x sc e h X o.ok).1
    · cases h
  | .iff c a b, sc, st, h, X, o => by
    rw [chkS] at h
    split at h
    · rename_i c' a' b' hx
      obtain ⟨p, rfl⟩ := vIfS_eq hx
      simp only [Bool.and_eq_true] at h
      exact ds_if (soundE rl hga c sc c' h.1.1 X o.ok).2 (soundB a sc a' h.1.2 X o) (soundB b sc b' h.2 X o)
    · cases h
  | .forr t it b, sc, st, h, X, o => by
    rw [chkS] at h
    split at h
    · rename_i t' i' b' hx
      obtain ⟨p, rfl⟩ := vFor_eq hx
      simp only [Bool.and_eq_true] at h
      exact ds_for (by rw [o.xe]; exact PassesOwn.never) o.ok.calm (soundI rl hga it sc t' i' h.1.1.2 X o.ok) (soundTg rl hga t sc t' h.1.1.1 X o) (soundB b sc b' h.2 X o) h.1.2
    · cases h
  | .whil c b, sc, st, h, X, o => by
    rw [chkS] at h
    split at h
    · rename_i c' b' hx
      obtain ⟨p, rfl⟩ := vWhile_eq hx
      simp only [Bool.and_eq_true] at h
      exact ds_while (by rw [o.xe]; exact PassesOwn.never) (soundE rl hga c sc c' h.1 X o.ok).2 (soundB b sc b' h.2 X o)
    · cases h
  | .stuck, _, _, _, _, _ => ds_stuck
  | .pass, _, st, h, X, o => by
    rw [chkS] at h
    obtain ⟨p, rfl⟩ := vPass_eq h
    exact ds_pass
  | .lks i x, sc, st, h, X, o => by
    rw [chkS] at h
    exact ds_lks (soundS x sc st h X o)
theorem soundB : ∀ (xs : List Stm) (sc : Scope) (sts : List Stmt), chkB G N xs sc sts = true → ∀ X : Cx, OkS G F k r N sc X → DB X sts (exB F fu xs)
  | [], sc, sts, h, X, o => by
    rw [chkB, List.isEmpty_iff] at h
    subst h
    exact db_nil
  | x :: xs, sc, [], h, X, o => by simp [chkB] at h
  | x :: xs, sc, st :: sts, h, X, o => by
    rw [chkB, Bool.and_eq_true] at h
    exact db_cons (soundS x sc st h.1 X o) (soundB xs sc sts h.2 X o)
end
end
end DD
namespace DD
open PySem PySem.Spec PyProof.Rows L2
variable [Tabs]

/-- a def of the text is the term fn -/
def DefOk (G : Gl0) (K : PySem.W.Frag) (mg : Str → Option Value) (base : Heap) (fn : Fn) (x : Str) (ps : List Str) : Prop :=
  ∃ (st : Stmt) (f : Addr) (fd : FuncData) (N : List Str), FunD K x x st f fd ∧ mg x = some (.ref f) ∧ Binds K fd ps [] ∧ (KwB K fd ps ∧ KwN G K fd ps x) ∧ FnScope N ps (defScope st) ∧ fn.np = ps.length ∧ fn.nn = N.length ∧ ps.length ≤ N.length ∧ chkB G N fn.body (defScope st) (defBody st) = true ∧
    (G.tb N = true → ∃ c P, fd.code = .ref c ∧ P ∈ Tabs.ts ∧ GxR.TabB base mg c P)
theorem start_sl {K : PySem.W.Frag} {u : Vw} {N : List Str} {ds : List D} {vs : List V} (r : RDs K u ds vs) (h : ds.length ≤ N.length) : Sl K u (ds.map some ++ List.replicate (N.length - ds.length) none) (L2.start N vs) := by
  have hl := r.length
  refine ⟨by simp [L2.start, hl], fun i d e => ?_⟩
  by_cases hi : i < ds.length
  · rw [List.getElem?_append_left (by simpa using hi), List.getElem?_map] at e
    obtain ⟨d', h1, h2⟩ := Option.map_eq_some_iff.mp e
    cases h2
    obtain ⟨v, a, b⟩ := r.get h1
    refine ⟨v, ?_, b⟩
    unfold L2.start
    have hi2 : i < vs.length := by rw [← r.length]; exact hi
    rw [List.getElem?_append_left (by simpa using hi2), List.getElem?_map, a]; rfl
  · rw [List.getElem?_append_right (by simpa using hi)] at e
    have := List.mem_of_getElem? e
    rw [List.mem_replicate] at this
    cases this.2
section
variable (rl : ∀ (k : Nat) (X : Cx), X.calm = true → RoomG k X.A → Rl X) {G : Gl0} (hga : ∀ (F : Fns) (k r : Nat) (N : List Str) elt i it sc e, G.ga N elt i it sc e = true → ∀ X : Cx, k + 1 ≤ r → Ok G F k r N sc X → DE X e (evE F (.allg elt i it)) ∧ DT X e (evE F (.allg elt i it))) {P : Program} {w : World} {K : PySem.W.Frag} {mg : Str → Option Value} {base : Heap} {ts : List Fn} {fu : Nat}
include rl hga
theorem prog_ok (hP : ∀ (i : Nat) x, G.fns[i]? = some x → ∃ fn ps, ts[i]? = some fn ∧ G.pars[i]? = some ps ∧ DefOk G K mg base fn x ps) (blt : ∀ x ∈ G.blts, mg x = none) (cst : ∀ p ∈ G.csts, ∃ u v, mg p.1 = some u ∧ RelV v u ∧ ∀ vw, RD K vw p.2 v) (bf : (∀ p ∈ G.bfs, mg p.1 = some (.builtin p.2)) ∧ ∀ p ∈ G.tys, mg p.1 = some (.type p.2)) :
    ∀ (k i : Nat) (x : Str) fn (st : Stmt) (f : Addr) (fd : FuncData) (N ps : List Str), G.fns[i]? = some x → ts[i]? = some fn → FunD K x x st f fd → mg x = some (.ref f) → Binds K fd ps [] → FnScope N ps (defScope st) → fn.np = ps.length → fn.nn = N.length → ps.length ≤ N.length → chkB G N fn.body (defScope st) (defBody st) = true → (G.tb N = true → ∃ c P, fd.code = .ref c ∧ P ∈ Tabs.ts ∧ GxR.TabB base mg c P) →
      FnG P w K mg base (2 * k) f fd ps (aD K w (runP ts fu k i))
  | 0, i, x, fn, st, f, fd, N, ps, hx, ht, hF, hm, hb, hs, hn, hN, hl, hc, htb => by
    have no : ∀ vs H Q, ¬ aD K w (runP ts fu 0 i) vs H Q := fun vs H Q ⟨u, M, ds, _, _, _, d, M', e, _⟩ => by
      rw [runP] at e; cases e
    exact ⟨fun vs H Q z => (no vs H Q z).elim, fun A outer s H args us vs Q _ _ _ _ z => (no vs H Q z).elim⟩
  | k + 1, i, x, fn, st, f, fd, N, ps, hx, ht, hF, hm, hb, hs, hn, hN, hl, hc, htb => by
    have run : ∀ {ds : List D} {M : Sto} {r : D × Sto}, runP ts fu (k + 1) i ds M = some r → ds.length = ps.length ∧ runFn (runP ts fu k) fu fn ds M = some r := fun {ds M r} e => by
      rw [runP, ht] at e
      simp only at e
      refine ⟨?_, e⟩
      unfold runFn at e
      split at e
      · rename_i h; rw [h, hn]
      · cases e
    refine okG hF hs (fun vs H Q ⟨u, M, ds, _, _, r, d, M', e, _⟩ => by rw [← r.length]; exact (run e).1) fun A outer s H vs Q hr hsp => ?_
    generalize hX : (cxOf L2.CX0 P w K mg base N x (defScope st) f fd.code A outer s H (fun _ _ _ => True)).nox = X
    have hA : X.A = A.deeper (envOfC x (defScope st) s.heap.objs.size f fd.code) := by rw [← hX]; rfl
    have hK : X.K = K := by rw [← hX]; rfl
    have hw : X.w = w := by rw [← hX]; rfl
    have o : OkS G (runP ts fu k) (2 * k) (2 * k + 1) N (defScope st) X := by
      subst hX
      refine ⟨⟨rfl, hs.nd, rfl, hs.kind, rfl, hr, Nat.le_succ _, htb, fun j y hj => ?_, blt, cst, bf⟩, fun _ => rfl, rfl⟩
      obtain ⟨fn', ps', ht', hp', st', f', fd', N', z1, z2, z3, z3', z4, z5, z6, z7, z8, z9⟩ := hP j y hj
      exact ⟨f', fd', ps', z2, z1.kp, ⟨hp', z3'⟩, z3, prog_ok hP blt cst bf k j y fn' st' f' fd' N' ps' hj ht' z1 z2 z3 z4 z5 z6 z7 z8 z9⟩
    refine ⟨_, soundB (fu := fu) rl (fun elt i it sc e h X ok => hga _ _ _ N elt i it sc e h X (Nat.le_refl _) ok) fn.body (defScope st) (defBody st) hc X o, ?_⟩
    obtain ⟨u, M, ds, eH, W, r, d, M', e, fin⟩ := hsp
    obtain ⟨hlen, e⟩ := run e
    unfold runFn at e
    rw [if_pos (by rw [hlen, hn])] at e
    rw [hK, hw]
    have S : Sl K u (ds.map some ++ List.replicate (fn.nn - fn.np) none) (L2.start N vs) := by
      rw [hn, hN, ← hlen]
      exact start_sl r (by rw [hlen]; exact hl)
    split at e
    · rename_i d' δ' M2 e1
      cases e
      exact ⟨u, M, _, eH, W, S, .rt d, _, _, e1, fun u' v E' W' r' => fin u' v E' W' r'⟩
    · rename_i δ' M2 e1
      cases e
      exact ⟨u, M, _, eH, W, S, .nx, _, _, e1, fun u' σ' E' W' _ => fin u' .non E' W' .non⟩
    · cases e
end
end DD
namespace DD
open PySem PySem.Spec PyProof.Rows L2
/-! ### all(element for x in tuple): the scope of the element, its context -/
def cellB (sc : Scope) (x : Str) : Bool := match sc.names.lookup x with
  | some .cell => true
  | some .free => true
  | _ => false
def genB (N : List Str) (sc sc2 : Scope) (x : Str) : Bool :=
  (match sc2.kind with
    | .function => true
    | _ => false) && !sc2.isCoroutine && sc2.names.all (fun p => match p.2 with
      | .free => cellB sc p.1
      | .local => decide (p.1 = (".0" : Str)) || decide (p.1 = x)
      | .cell => false
      | _ => true) && (match sc2.names.lookup (".0" : Str) with
      | some .local => true
      | _ => false) && (match sc2.names.lookup x with
      | some .local => true
      | _ => false) && decide ((".0" : Str) ∉ N)
structure GenSc (N : List Str) (sc sc2 : Scope) (x : Str) : Prop where
  kind : sc2.kind = .function
  co : sc2.isCoroutine = false
  free : ∀ y, (y, NameKind.free) ∈ sc2.names → sc.names.lookup y = some .cell ∨ sc.names.lookup y = some .free
  loc : ∀ y, (y, NameKind.local) ∈ sc2.names → y = (".0" : Str) ∨ y = x
  cell : ∀ y ∈ sc2.names, y.2 ≠ .cell
  dot : sc2.names.lookup (".0" : Str) = some .local
  var : sc2.names.lookup x = some .local
  noDot : (".0" : Str) ∉ N
theorem genB_ok {N : List Str} {sc sc2 : Scope} {x : Str} (h : genB N sc sc2 x = true) : GenSc N sc sc2 x := by
  unfold genB at h
  simp only [Bool.and_eq_true, List.all_eq_true, Bool.not_eq_true', decide_eq_true_eq] at h
  obtain ⟨⟨⟨⟨⟨h1, h2⟩, h3⟩, h4⟩, h5⟩, h6⟩ := h
  refine ⟨?_, h2, fun y hy => ?_, fun y hy => ?_, fun y hy e => ?_, ?_, ?_, h6⟩
  · split at h1
    · assumption
    · cases h1
  · have := h3 _ hy
    simp only [cellB] at this
    split at this
    · exact .inl (by assumption)
    · exact .inr (by assumption)
    · cases this
  · have := h3 _ hy
    simp only [Bool.or_eq_true, decide_eq_true_eq] at this
    exact this
  · obtain ⟨a, k⟩ := y
    simp only at e
    subst e
    have := h3 _ hy
    cases this
  · split at h4
    · assumption
    · cases h4
  · split at h5
    · assumption
    · cases h5
theorem clo_look {cells : List (Str × Addr)} {names : List (Str × NameKind)} {y : Str} {c : Addr} (hm : (y, NameKind.free) ∈ names) (hc : cells.lookup y = some c) : (cloFrom cells names []).lookup y = some c := by
  have h1 := cloFrom_has (cells := cells) (acc := []) hm
  rw [hc] at h1
  obtain ⟨c', h2⟩ := L2.mem_lookup h1
  rcases cloFrom_mem (PySem.mem_of_lookup h2) with z | ⟨_, z⟩
  · cases z
  · rw [h2, z, hc]; rfl
theorem clo_inv {cells : List (Str × Addr)} {names : List (Str × NameKind)} {y : Str} {c : Addr} (h : (cloFrom cells names []).lookup y = some c) : (y, NameKind.free) ∈ names ∧ c = (cells.lookup y).getD 0 := by
  rcases cloFrom_mem (PySem.mem_of_lookup h) with z | z
  · cases z
  · exact z
section
variable {X : Cx} {N : List Str} {sc2 : Scope} {x : Str}
/-- captured names have cells -/
theorem gen_cells {pins : List (Addr × Obj)} {σ : L2.St} {H : Hp} {s : Shared} (I : Inv X pins σ H s) (S : GenSc N X.env.scope sc2 x) {y : Str} (hy : (y, NameKind.free) ∈ sc2.names) : ∃ c, X.env.cells.lookup y = some c :=
  I.ok.has y (S.free y hy)
theorem clo_back {pins : List (Addr × Obj)} {σ : L2.St} {H : Hp} {s : Shared} (I : Inv X pins σ H s) (S : GenSc N X.env.scope sc2 x) {y : Str} {c : Addr} (h : (cloFrom X.env.cells sc2.names []).lookup y = some c) : X.env.cells.lookup y = some c := by
  obtain ⟨h1, h2⟩ := clo_inv h
  obtain ⟨c', h3⟩ := gen_cells I S h1
  rw [h3] at h2
  rw [h3, h2]; rfl
/-- the element's context -/
def gcx (X : Cx) (A' : Around) (s1 : Shared) (H1 : Hp) (cenv : PySem.Env) : Cx :=
  { X with A := A', s_0 := s1, H_0 := H1, env := cenv, outer := X.stack, stack := cenv :: X.stack, ex := [], fn := fun _ => false, pn := [], xe := fun _ _ => False }
theorem gcx_ok {A' : Around} {cenv : PySem.Env} {pins : List (Addr × Obj)} {σ : L2.St} {H : Hp} {s : Shared} {code : Value} {C : Addr} (I : Inv X pins σ H s) (S : GenSc N X.env.scope sc2 x) (hC : s.heap.objs.size ≤ C)
    (he : cenv = genEnv sc2 (cloFrom X.env.cells sc2.names []) C code builtinsNs X.env) (hh : X.A.handled = none) (hA : A' = X.A.in1.in1.deeper cenv) : (gcx X A' s H cenv).Ok := by
  subst he hA
  refine ⟨I.ok.mod, S.kind, I.ok.glob, rfl, hC, fun y z c h1 h2 => ?_, fun y hy => ?_, fun y c h => ?_, fun _ => hh, ?_, .inr ⟨rfl, rfl⟩, fun b z => (List.not_mem_nil z).elim, I.bs, ?_, fun b o _ z => (List.not_mem_nil z).elim, fun b z => (List.not_mem_nil z).elim, I.stack, I.stkFree⟩
  · exact I.ok.inj y z c (clo_back I S h1) (clo_back I S h2)
  · have hy : sc2.names.lookup y = some .cell ∨ sc2.names.lookup y = some .free := hy
    rcases hy with hy | hy
    · exact absurd rfl (S.cell _ (PySem.mem_of_lookup hy))
    · obtain ⟨c, hc⟩ := gen_cells I S (PySem.mem_of_lookup hy)
      exact ⟨c, clo_look (PySem.mem_of_lookup hy) hc⟩
  · cases h
  · exact Around.frames_deeper (A := X.A.in1.in1) I.ok.frames
  · exact I.env0.bsz
end
end DD
namespace DD
open PySem PySem.Spec PyProof.Rows L2
section
variable {X : Cx} {sc2 : Scope} {x : Str} {pins : List (Addr × Obj)} {σ : L2.St} {H1 H2 : Hp} {s1 s5 : Shared} {P : Addr}
/-- from the making on: only the table at P has changed -/
theorem un_tab {fs : List Addr} {ps more : Array Value} (hP : H1 P = some (.tbl ps)) (k : ∀ b o, b ≠ P → s1.heap.get? b = some o → s5.heap.get? b = some o) (there : ∃ o, s5.heap.get? P = some o) :
    Un fs [] H1 (upd H1 P (.tbl (ps ++ more))) s1.heap s5.heap where
  keep := fun b o e n _ _ => k b o (fun z => by rw [z, hP] at n; cases n) e
  slot := fun b o e n _ _ => ⟨o.slots, k b o (fun z => by rw [z, hP] at n; cases n) e⟩
  free := fun b o e n _ => by rw [upd_ne fun z => by rw [z, hP] at n; cases n]; exact n
  there := fun b o e _ => by
    by_cases hb : b = P
    · rw [hb]; exact there
    · exact ⟨o, k b o hb e⟩
  tups := fun b xs q => by rw [upd_ne fun z => by rw [z, hP] at q; cases q]; exact q
  frzs := fun b o u q => by rw [upd_ne fun z => by rw [z, hP] at q; cases q]; exact q
  tbls := fun b qs q => by
    by_cases hb : b = P
    · rw [hb, hP] at q
      cases q
      rw [hb, upd_same]
      exact ⟨more, rfl⟩
    · rw [upd_ne hb, q]
      exact ⟨#[], by simp⟩
/-- the element's context holds -/
theorem gcx_inv {A' : Around} {cenv : PySem.Env} {C : Addr} {code : Value} (I : Inv X pins σ H1 s1) (S : GenSc X.N X.env.scope sc2 x) (hC : s1.heap.objs.size ≤ C) (he : cenv = genEnv sc2 (cloFrom X.env.cells sc2.names []) C code builtinsNs X.env)
    (hh : X.A.handled = none) (hA : A' = X.A.in1.in1.deeper cenv) (J : Inv X pins σ H2 s5) (hos : s5.os = s1.os) (un : Un (frs X.stack) [] H1 H2 s1.heap s5.heap) {m : Str → Option Value} (hns : s5.heap.Ns C m) (hx : m x = none) {i : Nat} (hi : X.N[i]? = some x) (hnd : X.N.Nodup)
    {qs : List (Addr × Obj)} (hq : ∀ p ∈ qs, s5.heap.get? p.1 = some p.2 ∧ H2 p.1 = none ∧ p.1 ≠ C ∧ p.1 ∉ frs X.stack ∧ ∀ v, p.2.data ≠ .cell v) (hCf : H2 C = none) : Inv (gcx X A' s1 H1 cenv) qs (σ.set i none) H2 s5 := by
  have ok := gcx_ok (A' := A') I S hC he hh hA
  have eC : cenv.locals = C := by rw [he]; rfl
  have eS : cenv.scope = sc2 := by rw [he]; rfl
  have ec : cenv.cells = cloFrom X.env.cells sc2.names [] := by rw [he]; rfl
  refine ⟨ok, hos, J.bare, un, ⟨m, by show s5.heap.Ns cenv.locals m; rw [eC]; exact hns, fun j y v h1 h2 h3 => ?_⟩, fun y c h => ?_, by show H2 cenv.locals = none; rw [eC]; exact hCf, fun y c h => ?_, fun p hp => ?_, J.hok, ?_⟩
  · have h3 : Vis sc2 y := by rw [← eS]; exact h3
    have hji : j ≠ i := fun z => by
      subst z
      by_cases hl : j < σ.length
      · rw [List.getElem?_set_self hl] at h2; cases h2
      · rw [List.getElem?_eq_none (by simpa using hl)] at h2; cases h2
    rw [List.getElem?_set_ne (Ne.symm hji)] at h2
    rcases h3 with h3 | h3 | h3
    · rcases S.loc y (PySem.mem_of_lookup h3) with e | e
      · exact (S.noDot (by rw [← e]; exact List.mem_of_getElem? h1)).elim
      · subst e
        have hjl : j < X.N.length := (List.getElem?_eq_some_iff.mp h1).1
        have := (List.getElem?_inj hjl hnd).mp ((show X.N[j]? = some y from h1).trans hi.symm)
        exact (hji this).elim
    · exact (S.cell _ (PySem.mem_of_lookup h3) rfl).elim
    · have hm := PySem.mem_of_lookup h3
      obtain ⟨m0, _, look⟩ := J.loc
      have vis : Vis X.env.scope y := .inr (S.free y hm)
      obtain ⟨uu, r, l⟩ := look j y v h1 h2 vis
      refine ⟨uu, r, .inr ⟨.inr (by show cenv.scope.names.lookup y = _; rw [eS]; exact h3), ?_⟩⟩
      rcases l with ⟨l1, _⟩ | ⟨_, c, l1, l2⟩
      · have l1 : X.env.scope.names.lookup y = some .local := l1
        rcases S.free y hm with z | z
        · rw [l1] at z; cases z
        · rw [l1] at z; cases z
      · exact ⟨c, by show cenv.cells.lookup y = _; rw [ec]; exact clo_look hm l1, l2⟩
  · have h : cenv.cells.lookup y = some c := h
    rw [ec] at h
    exact J.cell y c (clo_back I S h)
  · have h : cenv.cells.lookup y = some c := h
    rw [ec] at h
    exact J.freeC y c (clo_back I S h)
  · obtain ⟨a, b, c, d, e⟩ := hq p (by simpa [gcx] using hp)
    exact ⟨a, b, by show p.1 ≠ cenv.locals; rw [eC]; exact c, d, e⟩
  · rw [List.length_set]; exact I.len
end
end DD
namespace DD
open PySem PySem.Spec PyProof.Rows L2
/-! ### the generator's turns -/
theorem inv_same {X : Cx} {pins : List (Addr × Obj)} {σ : L2.St} {H : Hp} {s s' : Shared} (I : Inv X pins σ H s) (hh : s'.heap = s.heap) (ho : s'.os = s.os) (hb : AllBare s'.gens) : Inv X pins σ H s' := by
  obtain ⟨h, g, d, t, o⟩ := s
  obtain ⟨h', g', d', t', o'⟩ := s'
  simp only at hh ho
  subst hh ho
  exact ⟨I.ok, I.os, hb, I.base, I.loc, I.cell, I.free, I.freeC, I.pin, I.hok, I.len⟩
theorem over_comp {A : Around} {e : Expr} {gg : List Comprehension} {sc : Scope} {pos : Pos} {it acc : Value} {env : PySem.Env} : A.over (.compLoop (.GeneratorExp e gg sc pos) 0 it acc env) [] = A.deeper env := by
  first
    | rfl
    | (obtain ⟨hd, d, fr, gs, u⟩ := A; simp [Around.over, Around.deeper, marksOver, frameCount, unitsOf, envsOf, guardsOf, pushEnvs, pushGuards, Code.envs, Code.env?, Code.isFrame, Code.guards, Code.isGuard, Code.weight, Code.frames, Code.isCreation, Code.isCaller, Code.cUnits])
theorem over_start {A : Around} {e : Expr} {gg : List Comprehension} {sc : Scope} {pos : Pos} {it acc : Value} {env : PySem.Env} : A.over (.compStart (.GeneratorExp e gg sc pos) 0 it acc env) [] = A.deeper env := by
  first
    | rfl
    | (obtain ⟨hd, d, fr, gs, u⟩ := A; simp [Around.over, Around.deeper, marksOver, frameCount, unitsOf, envsOf, guardsOf, pushEnvs, pushGuards, Code.envs, Code.env?, Code.isFrame, Code.guards, Code.isGuard, Code.weight, Code.frames, Code.isCreation, Code.isCaller, Code.cUnits])
section
variable [Tabs] {F : Fns}
/-- where the turns stand: j items are gone; the element's context Y, the tuple's iterator at I, the generator's number g -/
def GIn (Y : Cx) (F : Fns) (elt : Ex) (i : Nat) (δ : Env) (σ : L2.St) (u0 : Vw) (qs : List (Addr × Obj)) (I a : Addr) (g : Nat) (ds : List D) (res : Bool × Sto) (j : Nat) (s : Shared) : Prop :=
  ∃ (u : Vw) (M : Sto) (o : Option V) (oi : Obj), Inv Y ((I, oi) :: qs) (σ.set i o) u.H s ∧ Ext Y.K u0 u ∧ Wd Y.K Y.w u M ∧ oi.cls = .type "tuple_iterator" ∧ oi.data = .fields #[.ref a, .int j 0] ∧
    loopA (fun δ' M' => evE F elt δ' M') (fun d => δ.set i (some d)) (ds.drop j) M = some res ∧ g < s.gens.size
/-- how it ends -/
def GFin (Y : Cx) (σ : L2.St) (i : Nat) (u0 : Vw) (qs : List (Addr × Obj)) (res : Bool × Sto) (b : Bool) (s : Shared) : Prop :=
  ∃ (u : Vw) (o : Option V), Inv Y qs (σ.set i o) u.H s ∧ Ext Y.K u0 u ∧ Wd Y.K Y.w u res.2 ∧ b = res.1
def GYd (Y : Cx) (F : Fns) (elt : Ex) (i : Nat) (δ : Env) (σ : L2.St) (u0 : Vw) (qs : List (Addr × Obj)) (I a : Addr) (g : Nat) (ds : List D) (res : Bool × Sto) : Protocol := fun n _ v s kap =>
  ∃ b, v = .bool b ∧ g < s.gens.size ∧ (b = false → GFin Y σ i u0 qs res false s) ∧
    (b = true → ∃ j, n + (j + 1) = ds.length ∧ GIn Y F elt i δ σ u0 qs I a g ds res (j + 1) s ∧ ∀ s'', GIn Y F elt i δ σ u0 qs I a g ds res (j + 1) s'' → kap (.send .none) s'')
def GEn (Y : Cx) (i : Nat) (σ : L2.St) (u0 : Vw) (qs : List (Addr × Obj)) (res : Bool × Sto) : GenEnd := fun _ _ r s => r = .ok .next ∧ GFin Y σ i u0 qs res true s
theorem seg_all {elt iter : Expr} {x : Str} {px gpos : Pos} {scope : Scope} {Y : Cx} {B : Around} {xe : Ex} {i : Nat} {δ : Env} {σ : L2.St} {u0 : Vw} {qs : List (Addr × Obj)} {I a : Addr} {g : Nat} {ds : List D} {vs : List V} {res : Bool × Sto}
    (hB : B.deeper Y.env = Y.A) (hh : B.handled = none) (hco : Y.env.scope.isCoroutine = false) (hxe : ∀ e s, ¬ Y.xe e s) (hE : DE Y elt (evE F xe)) (hG : PG Y (.Name x px) (gName i)) (hI1 : Y.s_0.heap.objs.size ≤ I) (hIL : I ≠ Y.env.locals)
    (hIc : ∀ y c, Y.env.cells.lookup y = some c → c ≠ I) (hIp : ∀ p ∈ Y.pn ++ qs, p.1 ≠ I) (hS : SqT Y.K u0.H a vs) (hr : RDs Y.K u0 ds vs) (S0 : Sl Y.K u0 δ σ) :
    ∀ (k j : Nat) (s₀ s : Shared), ds.length - j = k → j ≤ ds.length → GIn Y F xe i δ σ u0 qs I a g ds res j s →
      Seg (model Y.prog Y.w) B (GEn Y i σ u0 qs res) (GYd Y F xe i δ σ u0 qs I a g ds res) k s₀ (.compLoop (.GeneratorExp elt [⟨.Name x px, iter, [], 0⟩] scope gpos) 0 (.ref I) .none Y.env)
        ((model Y.prog Y.w).den (.compLoop (.GeneratorExp elt [⟨.Name x px, iter, [], 0⟩] scope gpos) 0 (.ref I) .none Y.env)) [] s := by
  have ov : B.over (.compLoop (.GeneratorExp elt [⟨.Name x px, iter, [], 0⟩] scope gpos) 0 (.ref I) .none Y.env) [] = Y.A := over_comp.trans hB
  have hh' : (B.over (.compLoop (.GeneratorExp elt [⟨.Name x px, iter, [], 0⟩] scope gpos) 0 (.ref I) .none Y.env) []).handled = none := by rw [over_comp]; exact hh
  intro k
  induction k with
  | zero =>
    intro j s₀ s hk hj hin
    obtain ⟨u, M, o, oi, J, E, W, c1, c2, e, hg⟩ := hin
    have hj' : j = ds.length := by omega
    subst hj'
    obtain ⟨p1, p2, p3, p4, _⟩ := J.pin (I, oi) (List.mem_append_right _ List.mem_cons_self)
    obtain ⟨its, rv, ht, _⟩ := J.tuple (E.tups _ _ hS)
    have hlen : its.length = ds.length := by rw [← rv.length, ← hr.length]
    show Seg _ B _ _ _ s₀ _ ((compTurn (.GeneratorExp elt [⟨.Name x px, iter, [], 0⟩] scope gpos) 0 (.ref I) .none Y.env).onRaise (leaving Y.env)) [] s
    rw [compTurn_gen, Sem.onRaise_eq_wrap]
    refine seg_bind_wrap (wpAny_standAt (seg_bind_wrap (wpAny_pyNext_tuple_end hh' ⟨oi, p1, c1, c2⟩ ht (by simp [hlen]) fun h' hk' => ?_)))
    refine seg_end (.ok .next) ⟨rfl, u, o, ?_, E, ?_, ?_⟩
    · have J0 : Inv Y qs (σ.set i o) u.H s := J.pins_of fun p hp => J.pin p (List.mem_append_right _ (List.mem_cons_of_mem _ hp))
      exact J0.turned (it := I) (t' := s.toks) (fun b ob n q => hk' b ob n q) p2 p3 (.inr hI1) hIc hIp
    · rw [List.drop_of_length_le (Nat.le_refl _), loopA] at e
      cases e
      exact W
    · rw [List.drop_of_length_le (Nat.le_refl _), loopA] at e
      cases e
      rfl
  | succ k ih =>
    intro j s₀ s hk hj hin
    have hlt : j < ds.length := by omega
    obtain ⟨u, M, o, oi, J, E, W, c1, c2, e, hg⟩ := hin
    obtain ⟨p1, p2, p3, p4, p5⟩ := J.pin (I, oi) (List.mem_append_right _ List.mem_cons_self)
    obtain ⟨its, rv, ht, _⟩ := J.tuple (E.tups _ _ hS)
    obtain ⟨v, hv, rd⟩ := (hr.mono E).get (List.getElem?_eq_getElem hlt)
    obtain ⟨val, hval, rval⟩ := rv.get hv
    rw [List.drop_eq_getElem_cons hlt, loopA] at e
    show Seg _ B _ _ _ s₀ _ ((compTurn (.GeneratorExp elt [⟨.Name x px, iter, [], 0⟩] scope gpos) 0 (.ref I) .none Y.env).onRaise (leaving Y.env)) [] s
    rw [compTurn_gen, Sem.onRaise_eq_wrap]
    refine seg_bind_wrap (wpAny_standAt (seg_bind_wrap (wpAny_pyNext_tuple_item ⟨oi, p1, c1, c2⟩ ht (by simpa using hval) fun h1 hit1 hs1 => ?_)))
    have J0 : Inv Y qs (σ.set i o) u.H s := J.pins_of fun p hp => J.pin p (List.mem_append_right _ (List.mem_cons_of_mem _ hp))
    have J1 := J0.turned (it := I) (h' := h1) (t' := s.toks) (fun b ob n q => (hs1.2 b n).trans q) p2 p3 (.inr hI1) hIc hIp
    obtain ⟨oi', q1, q2, q3⟩ := hit1
    have J2 : Inv Y ((I, oi') :: qs) (σ.set i o) u.H { s with heap := h1, toks := s.toks } := J1.pins_of fun p hp => by
      rcases List.mem_cons.mp hp with rfl | hp
      · exact ⟨q1, p2, p3, p4, fun z hz => by rw [q3] at hz; cases hz⟩
      · exact J1.pin p (List.mem_append_right _ hp)
    refine seg_bind_wrap (wpAny_of_eq (rfl : letOwnedTupleGo (.Name x px) (.ref I) val = pure ()) ?_)
    refine seg_bind_wrap ?_
    rw [ov]
    refine GenW.wpAny_gsz (n := g + 1) hg (wpAny_mono (hG.run _ _ (σ.set i o) u.H v val (fun σ' H' => σ' = σ.set i (some v) ∧ H' = u.H) J2 rval ?_) (fun _ s3 hh3 hg3 => ?_) fun e s' z => (hxe e s' z).elim)
    · exact ⟨by rw [List.set_set], rfl⟩
    obtain ⟨σ3, H3, J3, rfl, rfl⟩ := hh3
    refine seg_bind_wrap ?_
    simp only [List.forIn_nil]
    refine wpAny_pure ?_
    simp only [if_true]
    have hy : ∀ z, yieldOut Y.env z = yieldValue z := fun z => by simp only [yieldOut, hco, Bool.false_eq_true, if_false]
    simp only [hy]
    rw [Sem.bind_eq_wrap', Sem.bind_eq_wrap', Sem.wrap_wrap, Sem.wrap_wrap]
    refine seg_wrap ?_
    rw [ov]
    split at e
    · rename_i M2 e2
      refine GenW.wpAny_gsz (n := g + 1) hg3 (wpAny_mono (hE.run _ s3 (σ.set i (some v)) u.H (fun y H' => y = .bl true ∧ ∃ u2, u2.H = H' ∧ Ext Y.K u u2 ∧ Wd Y.K Y.w u2 M2) J3
        ⟨u, M, _, rfl, W, (S0.mono E).set rd i, .bl true, M2, e2, fun u2 y E2 W2 r2 => by cases r2; exact ⟨rfl, u2, rfl, E2, W2⟩⟩) (fun y s4 hh4 hg4 => ?_) fun e s' z => (hxe e s' z).elim)
      obtain ⟨yv, H4, J4, ry, rfl, u2, rfl, E2, W2⟩ := hh4
      obtain rfl : y = Value.bool true := ry
      refine seg_at (seg_yield rfl rfl rfl ⟨true, rfl, hg4, (fun z => by cases z), fun _ => ⟨j, by omega, ⟨u2, M2, some v, oi', J4, E.trans E2, W2, q2, q3, e, hg4⟩, fun s'' h'' => ?_⟩⟩)
      exact seg_again rfl (ih (j + 1) s'' s'' (by omega) hlt h'')
    · rename_i M2 e2
      cases e
      refine GenW.wpAny_gsz (n := g + 1) hg3 (wpAny_mono (hE.run _ s3 (σ.set i (some v)) u.H (fun y H' => y = .bl false ∧ ∃ u2, u2.H = H' ∧ Ext Y.K u u2 ∧ Wd Y.K Y.w u2 M2) J3
        ⟨u, M, _, rfl, W, (S0.mono E).set rd i, .bl false, M2, e2, fun u2 y E2 W2 r2 => by cases r2; exact ⟨rfl, u2, rfl, E2, W2⟩⟩) (fun y s4 hh4 hg4 => ?_) fun e s' z => (hxe e s' z).elim)
      obtain ⟨yv, H4, J4, ry, rfl, u2, rfl, E2, W2⟩ := hh4
      obtain rfl : y = Value.bool false := ry
      refine seg_at (seg_yield rfl rfl rfl ⟨false, rfl, hg4, (fun _ => ⟨u2, some v, J4.pins_of fun p hp => J4.pin p (List.mem_append_right _ (List.mem_cons_of_mem _ hp)), E.trans E2, W2, rfl⟩), fun z => by cases z⟩)
    · cases e
end
end DD
namespace DD
open PySem PySem.Spec PyProof.Rows L2
section
variable [Tabs] {F : Fns}
theorem seg_allStart {elt iter : Expr} {x : Str} {px gpos : Pos} {scope : Scope} {Y : Cx} {B : Around} {xe : Ex} {i : Nat} {δ : Env} {σ : L2.St} {u0 : Vw} {qs : List (Addr × Obj)} {I a : Addr} {g : Nat} {ds : List D} {vs : List V} {res : Bool × Sto}
    (hB : B.deeper Y.env = Y.A) (hh : B.handled = none) (hco : Y.env.scope.isCoroutine = false) (hxe : ∀ e s, ¬ Y.xe e s) (hE : DE Y elt (evE F xe)) (hG : PG Y (.Name x px) (gName i)) (hI1 : Y.s_0.heap.objs.size ≤ I) (hIL : I ≠ Y.env.locals)
    (hIc : ∀ y c, Y.env.cells.lookup y = some c → c ≠ I) (hIp : ∀ p ∈ Y.pn ++ qs, p.1 ≠ I) (hS : SqT Y.K u0.H a vs) (hr : RDs Y.K u0 ds vs) (S0 : Sl Y.K u0 δ σ) (s₀ s : Shared) (hin : GIn Y F xe i δ σ u0 qs I a g ds res 0 s) :
      Seg (model Y.prog Y.w) B (GEn Y i σ u0 qs res) (GYd Y F xe i δ σ u0 qs I a g ds res) ds.length s₀ (.compStart (.GeneratorExp elt [⟨.Name x px, iter, [], 0⟩] scope gpos) 0 (.ref I) .none Y.env)
        ((model Y.prog Y.w).den (.compStart (.GeneratorExp elt [⟨.Name x px, iter, [], 0⟩] scope gpos) 0 (.ref I) .none Y.env)) [] s := by
  have loop := seg_all (iter := iter) (gpos := gpos) (scope := scope) hB hh hco hxe hE hG hI1 hIL hIc hIp hS hr S0 ds.length 0 s₀ s (Nat.sub_zero _) (Nat.zero_le _) hin
  obtain ⟨u, M, o, oi, J, E, W, c1, c2, e, hg⟩ := hin
  obtain ⟨p1, p2, p3, p4, p5⟩ := J.pin (I, oi) (List.mem_append_right _ List.mem_cons_self)
  show Seg _ B _ _ _ s₀ _ ((compStart (.GeneratorExp elt [⟨.Name x px, iter, [], 0⟩] scope gpos) 0 (.ref I) .none Y.env).onRaise (leaving Y.env)) [] s
  unfold compStart
  rw [Sem.onRaise_eq_wrap]
  show Seg _ B _ _ _ s₀ _ ((ask >>= _).wrap _ _ _ _) [] s
  refine seg_bind_wrap (wpAny_askSetting ?_)
  split
  · exact seg_again rfl loop
  · first
      | exact seg_bind_wrap (wpAny_rule (seg_bind_wrap (wpAny_standAt (seg_bind_wrap (wpAny_pyIter_tupleiter ⟨oi, p1, c1, c2⟩ (seg_again rfl loop))))))
      | (refine seg_bind_wrap (wpAny_rule ?_); show Seg _ B _ _ _ s₀ _ ((standAt iter.pos >>= _).wrap _ _ _ _) [] s; exact seg_bind_wrap (wpAny_standAt (seg_bind_wrap (wpAny_pyIter_tupleiter ⟨oi, p1, c1, c2⟩ (seg_again rfl loop)))))
theorem GIn.same {Y : Cx} {xe : Ex} {i : Nat} {δ : Env} {σ : L2.St} {u0 : Vw} {qs : List (Addr × Obj)} {I a : Addr} {g : Nat} {ds : List D} {res : Bool × Sto} {j : Nat} {s s' : Shared} (h : GIn Y F xe i δ σ u0 qs I a g ds res j s) (hh : s'.heap = s.heap) (ho : s'.os = s.os) (hb : AllBare s'.gens) (hz : g < s'.gens.size) :
    GIn Y F xe i δ σ u0 qs I a g ds res j s' := by
  obtain ⟨u, M, o, oi, J, E, W, c1, c2, e, hg⟩ := h
  exact ⟨u, M, o, oi, inv_same J hh ho hb, E, W, c1, c2, e, hz⟩
theorem GFin.same {Y : Cx} {i : Nat} {σ : L2.St} {u0 : Vw} {qs : List (Addr × Obj)} {res : Bool × Sto} {b : Bool} {s s' : Shared} (h : GFin Y σ i u0 qs res b s) (hh : s'.heap = s.heap) (ho : s'.os = s.os) (hb : AllBare s'.gens) : GFin Y σ i u0 qs res b s' := by
  obtain ⟨u, o, J, r⟩ := h
  exact ⟨u, o, inv_same J hh ho hb, r⟩
theorem GFin.bare {Y : Cx} {i : Nat} {σ : L2.St} {u0 : Vw} {qs : List (Addr × Obj)} {res : Bool × Sto} {b : Bool} {s : Shared} (h : GFin Y σ i u0 qs res b s) : AllBare s.gens := by
  obtain ⟨u, o, J, r⟩ := h
  exact J.bare
theorem setGen_bare {s : Shared} {g : Nat} {x : GenState} (h : AllBare s.gens) (hx : x.bare = true) : AllBare (s.setGen g x).gens := L2.allBare_setGen h hx
/-- all over the sleeping generator -/
theorem all_gen {Y : Cx} {A : Around} {xe : Ex} {i : Nat} {δ : Env} {σ : L2.St} {u0 : Vw} {qs : List (Addr × Obj)} {I a ag : Addr} {g : Nat} {ds : List D} {res : Bool × Sto} {og : Obj} {R : Result → Shared → Prop} (hh : A.handled = none) (hroom : A.depth < recursionLimit)
    (hq : (ag, og) ∈ qs) (hog : ∀ h : Heap, h.get? ag = some og → h.IsGen ag g) (hR : ∀ b s', GFin Y σ i u0 qs res b s' → R (.ok (.ret (.bool b))) s') :
    ∀ (k : Nat) (s : Shared) (gs : GenState), s.heap.IsGen ag g → s.gens[g]? = some gs → AllBare s.gens → s.heap.NoLimit →
      gs.Goes (model Y.prog Y.w) A.in1.in1 (GEn Y i σ u0 qs res) (GYd Y F xe i δ σ u0 qs I a g ds res) k (.send .none) (s.setGen g .running) → codeAny (model Y.prog Y.w) A (.builtin "all.loop" ⟨[.ref ag], []⟩) R s := by
  intro k
  induction k with
  | zero =>
    intro s gs h1 h2 h3 h4 hgo
    refine codeAny_builtin PySem.F.entry_all_loop ?_
    rw [Around.under_plainId PySem.F.plain_all_loop _]
    show wpAny _ A.in1 (pyNext (.ref ag) >>= _) _ _ s
    refine wpAny_bind (wpAny_pyNext_genexpQ (P := fun _ _ s₁ => GFin Y σ i u0 qs res true s₁) hh h4 hroom h1 h2 hgo (fun v s₁ gs' hb hy => ?_) fun s₁ hp h' hk => ?_)
    · obtain ⟨b, rfl, hz, hf, ht⟩ := hy
      refine wpAny_bind (wpAny_holding (wpAny_truthy_bool (wpAny_bind (wpAny_letGo ?_))))
      cases b with
      | true =>
        obtain ⟨j, _, hin, kap⟩ := ht rfl
        exact (kap s₁ hin).elim
      | false =>
        simp only [Bool.false_eq_true, if_false]
        exact wpAny_bind (wpAny_rule (wpAny_pure (hR false _ ((hf rfl).same rfl rfl (setGen_bare (hf rfl).bare hb)))))
    · refine wpAny_bind (wpAny_rule (wpAny_pure (hR true _ ?_)))
      obtain ⟨u, o, J, r⟩ := hp
      exact ⟨u, o, inv_same (J.kept (t' := s₁.toks) hk) rfl rfl (setGen_bare J.bare rfl), r⟩
  | succ k ih =>
    intro s gs h1 h2 h3 h4 hgo
    refine codeAny_builtin PySem.F.entry_all_loop ?_
    rw [Around.under_plainId PySem.F.plain_all_loop _]
    show wpAny _ A.in1 (pyNext (.ref ag) >>= _) _ _ s
    refine wpAny_bind (wpAny_pyNext_genexpQ (P := fun _ _ s₁ => GFin Y σ i u0 qs res true s₁) hh h4 hroom h1 h2 hgo (fun v s₁ gs' hb hy => ?_) fun s₁ hp h' hk => ?_)
    · obtain ⟨b, rfl, hz, hf, ht⟩ := hy
      refine wpAny_bind (wpAny_holding (wpAny_truthy_bool (wpAny_bind (wpAny_letGo ?_))))
      cases b with
      | true =>
        obtain ⟨j, _, hin, kap⟩ := ht rfl
        simp only [if_true]
        have hbare : AllBare s₁.gens := by obtain ⟨u, M, o, oi, J, _⟩ := hin; exact J.bare
        refine wpAny_pure ⟨plainId_quiet PySem.F.plain_all_loop _, ih _ gs' ?_ (L2.setGen_at hz) (setGen_bare hbare hb) ?_ (kap _ (hin.same rfl rfl (setGen_bare (setGen_bare hbare hb) rfl) ?_))⟩
        · obtain ⟨u, M, o, oi, J, _⟩ := hin
          exact hog _ (J.pin (ag, og) (List.mem_append_right _ (List.mem_cons_of_mem _ hq))).1
        · obtain ⟨u, M, o, oi, J, _⟩ := hin
          exact J.nolimit
        · rw [GenW.setGen_size, GenW.setGen_size]; exact hz
      | false =>
        simp only [Bool.false_eq_true, if_false]
        exact wpAny_bind (wpAny_rule (wpAny_pure (hR false _ ((hf rfl).same rfl rfl (setGen_bare (hf rfl).bare hb)))))
    · refine wpAny_bind (wpAny_rule (wpAny_pure (hR true _ ?_)))
      obtain ⟨u, o, J, r⟩ := hp
      exact ⟨u, o, inv_same (J.kept (t' := s₁.toks) hk) rfl rfl (setGen_bare J.bare rfl), r⟩
end
end DD
namespace DD
open PySem PySem.Spec PyProof.Rows L2
section
variable [Tabs]
/-- a table has grown -/
theorem Wd.tbl {K : PySem.W.Frag} {w : World} {u : Vw} {M : Sto} {P : Addr} {ps more : Array Value} (W : Wd K w u M) (hP : u.H P = some (.tbl ps)) (ht : TriplesOk (ps ++ more).toList) :
    let u' : Vw := ⟨u.iot, u.n, upd u.H P (.tbl (ps ++ more))⟩; Ext K u u' ∧ Wd K w u' M := by
  intro u'
  have x : Ext K u u' := ⟨⟨Nat.le_refl _, fun _ _ => rfl, fun a xs h => sqT_upd h (fun _ e => by rw [hP] at e; cases e) (fun _ _ e => by rw [hP] at e; cases e), fun a xs h => rol_upd h (fun _ _ e => by rw [hP] at e; cases e)⟩, fun a o φ h => by
    by_cases e : a = P
    · rw [e, hP] at h; cases h
    · exact (upd_ne e).trans h⟩
  refine ⟨x, fun Q hQ => ?_, W.n, W.inj, fun i ob e => (W.at_ i ob e).mono x fun m => upd_ne fun z => ?_⟩
  · by_cases h : Q = P
    · rw [h]
      exact ⟨_, upd_same, ht⟩
    · obtain ⟨qs, h1, h2⟩ := W.tab Q hQ
      exact ⟨qs, by rw [show u'.H Q = _ from upd_ne h]; exact h1, h2⟩
  · have hz : u.H (u.iot i) = some (.tbl ps) := by rw [z]; exact hP
    cases ob with
    | lst xs => obtain ⟨vs, q, _⟩ := W.at_ i _ e; rw [hz] at q; cases q
    | dct kvs => obtain ⟨es, q, _⟩ := W.at_ i _ e; rw [hz] at q; cases q
    | fdct kvs => obtain ⟨es, od, q, _⟩ := W.at_ i _ e; rw [hz] at q; cases q
    | flst xs => cases m
variable {X : Cx} {F : Fns}
theorem de_allg {elt iter : Expr} {x : Str} {px p pos gpos : Pos} {scope : Scope} {xe it : Ex} {i : Nat} {c P : Addr} (hu : X.A.depth + 2 < recursionLimit) (hh : X.calm = true) (hg : Gl X "all") (hm : X.mg "all" = none) (TB : GxR.TabB X.base X.mg c P) (hcode : X.env.code = .ref c) (hPt : P ∈ Tabs.ts)
    (S : GenSc X.N X.env.scope scope x) (hi : DE X iter (evE F it)) (hfold : ∀ v, genFold iter X.env v = pure v) (hix : X.N[i]? = some x) (hnd : X.N.Nodup)
    (hel : ∀ (s1 : Shared) (H1 : Hp) (C : Addr) (code : Value), let cenv := genEnv scope (cloFrom X.env.cells scope.names []) C code builtinsNs X.env; DE (gcx X (X.A.in1.in1.deeper cenv) s1 H1 cenv) elt (evE F xe)) :
    DE X (.Call (.Name "all" p) [.GeneratorExp elt [⟨.Name x px, iter, [], 0⟩] scope gpos] [] pos) (evE F (.allg xe i it)) := ⟨fun pins s σ H Q I ⟨u, M, δ, eH, W, Sδ, d, M', e, fin⟩ => by
  subst eH
  have hd := I.ok.hd hh
  have he : starEach [.GeneratorExp elt [⟨.Name x px, iter, [], 0⟩] scope gpos] X.env = (false, eval (.GeneratorExp elt [⟨.Name x px, iter, [], 0⟩] scope gpos) X.env) :: starEach [] X.env := by rfl
  rw [evE] at e
  split at e
  · rename_i v0 M1 e1
    split at e
    · rename_i ds
      obtain ⟨res, e2, e3⟩ := Option.map_eq_some_iff.mp e
      cases e3
      refine wpAny_Call_Name_kw (ld_blt I hg hm PyProof.Rows.boot_all ?_)
      refine PyProof.Rows.callWith_builtin1 ?_ he (by rfl)
      rw [he]
      show wpAny _ _ (spliced ((false, eval (.GeneratorExp elt [⟨.Name x px, iter, [], 0⟩] scope gpos) X.env) :: backTo pos (starEach [] X.env))) _ _ s
      refine Calls.spliced_cons (wpAny_GeneratorExp_make S.co (closure_ok fun y hy hf => gen_cells I S (by obtain ⟨a, b⟩ := y; simp only at hf; subst hf; exact hy)) S.cell S.dot S.kind (by omega) ?_ hfold)
      refine thn (hi.run pins s σ u.H (fun v H1 => ∃ u1, u1.H = H1 ∧ Ext X.K u u1 ∧ Wd X.K X.w u1 M1 ∧ RD X.K u1 (.tup ds) v) I ⟨u, M, δ, rfl, W, Sδ, .tup ds, M1, e1, fun u1 v E1 W1 r1 => ⟨u1, rfl, E1, W1, r1⟩⟩) fun xv s1 ⟨v, H1, I1, rv, u1, eH1, E1, W1, r1⟩ => ?_
      subst eH1
      cases r1 with
      | @tup _ vs a hs rs =>
      obtain rfl : xv = Value.ref a := rv
      obtain ⟨its, rits, ht, _⟩ := I1.tuple hs
      obtain ⟨ps, hP, htr⟩ := W1.tab P hPt
      have hPs : s1.heap.get? P = some { cls := .none, data := .fields ps } := I1.hok P _ hP
      have hPlt : P < s1.heap.objs.size := Heap.lt_size hPs
      refine wpAny_pyIter_tuple ht ?_
      generalize ho : ({ cls := .type "tuple_iterator", data := .fields #[.ref a, .int 0 0] } : Obj) = o
      have hP2 : (s1.heap.push o).get? P = some { cls := .none, data := .fields ps } := Heap.get?_push_of_some _ hPs
      have cd : PySem.W.CodeHd (s1.heap.push o) c P := TB.code.keeps fun b ob q => Heap.get?_push_of_some _ (I1.bk b ob q)
      refine ⟨I1.nolimit.push o, ?_⟩
      have cont : ∀ (code : Value) (h3 : Heap) (tk : Nat) (ps' : Array Value), Heap.ExtBut P (s1.heap.push o) h3 → (s1.heap.push o).objs.size ≤ h3.objs.size → h3.get? P = some { cls := .none, data := .fields ps' } → (∃ more, ps' = ps ++ more) → TriplesOk ps'.toList →
          wpAny (model X.prog X.w) X.A (builtinsFor X.env.globals X.env.builtins) (fun bi s₄ =>
            ∀ h', h'.Ns s₄.heap.objs.size (fun y => if y = ".0" then some (Value.ref s1.heap.objs.size) else none) → Heap.SameBut s₄.heap.objs.size (s₄.heap.push { cls := .type "frame", data := .dict #[] }) h' →
              wpAny (model X.prog X.w) X.A (spliced (backTo pos (starEach [] X.env))) (fun us s6 => wpAny (model X.prog X.w) X.A (call (.builtin "all") (Value.ref h'.objs.size :: us)) (EP X pins σ Q) X.xe s6) X.xe { s₄ with
                gens := s₄.gens.push (.fresh (.compStart (.GeneratorExp elt [⟨.Name x px, iter, [], 0⟩] scope gpos) 0 (.ref s1.heap.objs.size) .none (genEnv scope (cloFrom X.env.cells scope.names []) s₄.heap.objs.size code bi X.env))),
                toks := s₄.toks + 1 + 1 + 1,
                heap := h'.push { cls := .type "generator", data := .fields #[.int s₄.gens.size 0, .str "<genexpr>" (s₄.toks + 1), .str (X.env.qual ++ "<genexpr>") (s₄.toks + 1 + 1)] } }) X.xe { s1 with heap := h3, toks := tk } := by
        intro code h3 tk ps' hx hsz hP3 hmore ht3
        obtain ⟨more, rfl⟩ := hmore
        obtain ⟨bm, ob, b1, b2, b3, b4, b5, b6, b7, b8⟩ := TB.bm
        have sz2 : (s1.heap.push o).objs.size = s1.heap.objs.size + 1 := Heap.size_push ..
        have keep3 : ∀ b ob, b ≠ P → s1.heap.get? b = some ob → h3.get? b = some ob := fun b ob hb q => hx b ob hb (Heap.get?_push_of_some _ q)
        refine wpAny_builtinsFor (m := X.mg) (by rw [I1.ok.glob]; exact ((I1.mod.glob.keeps I1.bk).push o).extBut hx TB.gP) b1 b2 (keep3 _ _ b4 (I1.bk _ _ b5)) b6 b7 b8 ?_
        intro h' hn' hs'
        refine Calls.spliced_nil ?_
        generalize hcv : genEnv scope (cloFrom X.env.cells scope.names []) h3.objs.size code builtinsNs X.env = cenv
        have hszh : h'.objs.size = h3.objs.size + 1 := by rw [hs'.1, Heap.size_push]
        have up3 : ∀ b ob, h3.get? b = some ob → h'.get? b = some ob := fun b ob q => hs'.extBut b ob (Nat.ne_of_lt (Heap.lt_size q)) (Heap.get?_push_of_some _ q)
        generalize hog : ({ cls := .type "generator", data := .fields #[.int s1.gens.size 0, .str "<genexpr>" (tk + 1), .str (X.env.qual ++ "<genexpr>") (tk + 1 + 1)] } : Obj) = og
        have up5 : ∀ b ob, h3.get? b = some ob → (h'.push og).get? b = some ob := fun b ob q => Heap.get?_push_of_some _ (up3 b ob q)
        have hgen : ∀ h : Heap, h.get? h'.objs.size = some og → h.IsGen h'.objs.size s1.gens.size := fun h q => ⟨og, _, _, q, by rw [← hog], by rw [← hog], by rw [← hog]⟩
        have gI : h3.get? s1.heap.objs.size = some o := hx _ _ (fun z => by rw [← z] at hPlt; exact Nat.lt_irrefl _ hPlt) (Heap.get?_push_size _ (by rw [← ho]; rfl))
        have bareG : ∀ x : Code, GenState.bare (.fresh x) = true := fun _ => rfl
        have J : Inv X pins σ (upd u1.H P (.tbl (ps ++ more))) { s1 with heap := h'.push og, gens := s1.gens.push (.fresh (.compStart (.GeneratorExp elt [⟨.Name x px, iter, [], 0⟩] scope gpos) 0 (.ref s1.heap.objs.size) .none cenv)), toks := tk + 1 + 1 + 1 } :=
          GxR.inv_tab (d' := s1.drawn) I1 hP (fun b ob hb q => up5 b ob (keep3 b ob hb q)) (up5 _ _ hP3) (I1.bare.push (bareG _))
        obtain ⟨E2, W2⟩ := W1.tbl hP ht3
        generalize hu2 : (⟨u1.iot, u1.n, upd u1.H P (.tbl (ps ++ more))⟩ : Vw) = u2 at E2 W2
        have hH2 : u2.H = upd u1.H P (.tbl (ps ++ more)) := by rw [← hu2]
        rw [← hH2] at J
        have fresh : ∀ b, s1.heap.objs.size ≤ b → u2.H b = none := fun b hb => by
          rw [hH2, upd_ne fun z => by rw [z] at hb; exact absurd (Nat.lt_of_lt_of_le hPlt hb) (Nat.lt_irrefl _)]
          exact I1.hok.fresh hb
        have nstk : ∀ b, s1.heap.objs.size ≤ b → b ∉ frs X.stack := fun b hb hm => by
          rcases List.mem_cons.mp (I1.stkSub b hm) with z | z
          · rw [z] at hb; exact absurd (Nat.lt_of_lt_of_le I1.lt hb) (Nat.lt_irrefl _)
          · exact I1.nofs hb z
        have C1 : s1.heap.objs.size + 1 ≤ h3.objs.size := by rw [← sz2]; exact hsz
        have eL : cenv.locals = h3.objs.size := by rw [← hcv]; rfl
        have eSc : cenv.scope = scope := by rw [← hcv]; rfl
        have ecl : cenv.cells = cloFrom X.env.cells scope.names [] := by rw [← hcv]; rfl
        have pin2 : ∀ p ∈ [((s1.heap.objs.size : Addr), o), ((h'.objs.size : Addr), og)], (h'.push og).get? p.1 = some p.2 ∧ u2.H p.1 = none ∧ p.1 ≠ h3.objs.size ∧ p.1 ∉ frs X.stack ∧ ∀ v, p.2.data ≠ .cell v := by
          intro p hp
          rcases List.mem_cons.mp hp with rfl | hp
          · exact ⟨up5 _ _ gI, fresh _ (Nat.le_refl _), Nat.ne_of_lt C1, nstk _ (Nat.le_refl _), fun v z => by rw [← ho] at z; cases z⟩
          · rcases List.mem_cons.mp hp with rfl | hp
            · have h9 : (s1.heap.objs.size : Nat) ≤ h'.objs.size := by rw [hszh]; exact Nat.le_succ_of_le (Nat.le_of_succ_le C1)
              exact ⟨Heap.get?_push_size _ (by rw [← hog]; rfl), fresh _ h9, fun z => by have : (h'.objs.size : Nat) = h3.objs.size := z; omega, nstk _ h9, fun v z => by rw [← hog] at z; cases z⟩
            · cases hp
        have K0 := gcx_inv (X := X) (A' := X.A.in1.in1.deeper cenv) (C := h3.objs.size) (code := code) I1 S (Nat.le_of_succ_le C1) hcv.symm hd rfl J rfl
          (by rw [hH2]; exact un_tab hP (fun b ob hb q => up5 b ob (keep3 b ob hb q)) ⟨_, up5 _ _ hP3⟩) (hn'.push og) (i := i) (x := x) (if_neg fun z => S.noDot (by rw [← z]; exact List.mem_of_getElem? hix)) hix hnd pin2 (fresh _ (Nat.le_of_succ_le C1))
        have elD := hel s1 u1.H h3.objs.size code
        simp only [hcv] at elD
        have hG : PG (gcx X (X.A.in1.in1.deeper cenv) s1 u1.H cenv) (.Name x px) (gName i) := pg_name hnd hix (.inl (by show cenv.scope.names.lookup x = _; rw [eSc]; exact S.var)) (.inr (by show cenv.scope.names.lookup x = _; rw [eSc]; exact S.var))
        refine PySem.call_function_tree PySem.F.kind_all PySem.F.plain_all PySem.F.entry_all (PySem.F.args_all1 _) ?_
        unfold Builtin.«all»
        refine wpAny_bind (m := oneArg "all" _) (wpAny_pure ?_)
        have genAt : ({ s1 with heap := h'.push og, gens := s1.gens.push (.fresh (.compStart (.GeneratorExp elt [⟨.Name x px, iter, [], 0⟩] scope gpos) 0 (.ref s1.heap.objs.size) .none cenv)), toks := tk + 1 + 1 + 1 } : Shared).heap.IsGen h'.objs.size s1.gens.size := hgen _ (Heap.get?_push_size _ (by rw [← hog]; rfl))
        refine wpAny_bind (wpAny_pyIter_gen genAt ?_)
        have hS2 : SqT X.K u2.H a vs := E2.tups _ _ hs
        have hr2 : RDs X.K u2 ds vs := rs.mono E2
        have Sl2 : Sl X.K u2 δ σ := Sδ.mono (E1.trans E2)
        refine wpAny_pure ⟨plainId_quiet PySem.F.plain_all_loop _, all_gen (F := F) (Y := gcx X (X.A.in1.in1.deeper cenv) s1 u1.H cenv) (A := X.A) (xe := xe) (i := i) (δ := δ) (σ := σ) (u0 := u2) (qs := [((h'.objs.size : Addr), og)]) (I := s1.heap.objs.size) (a := a) (g := s1.gens.size) (ds := ds) (res := res) (og := og) hd (by omega)
          List.mem_cons_self hgen (fun b s' hf => ?_) ds.length _ _ genAt (Array.getElem?_push_size ..) J.bare J.nolimit ⟨rfl, seg_allStart (B := X.A.in1.in1) (Y := gcx X (X.A.in1.in1.deeper cenv) s1 u1.H cenv) (xe := xe) (i := i) (δ := δ) (σ := σ) (u0 := u2) (qs := [((h'.objs.size : Addr), og)]) (I := s1.heap.objs.size) (a := a) (g := s1.gens.size) (ds := ds) (res := res) rfl hd (by show cenv.scope.isCoroutine = false; rw [eSc]; exact S.co) (fun _ _ z => z) elD hG (Nat.le_refl _) (by show s1.heap.objs.size ≠ cenv.locals; rw [eL]; exact Nat.ne_of_lt C1) (fun y c hc => ?_) (fun p hp => ?_) hS2 hr2 Sl2 _ _ ?_⟩⟩
        · obtain ⟨u3, ov, J3, E3, W3, hb⟩ := hf
          subst hb
          exact I1.after (u := Value.bool res.1) ⟨.bl res.1, u3.H, J3.os, J3.bare, J3.base, J3.hok, rfl, fin u3 (.bl res.1) ((E1.trans E2).trans E3) W3 (.bl _)⟩
        · have hc : cenv.cells.lookup y = some c := hc
          rw [ecl] at hc
          obtain ⟨vv, oc, ec, _⟩ := I1.cell y c (clo_back I1 S hc)
          exact Nat.ne_of_lt (Heap.lt_size ec)
        · have hp : p ∈ [((h'.objs.size : Addr), og)] := by simpa [gcx] using hp
          rcases List.mem_cons.mp hp with rfl | hp
          · intro z
            have z : (h'.objs.size : Nat) = s1.heap.objs.size := z
            omega
          · cases hp
        · refine ⟨u2, M1, none, o, inv_same K0 rfl rfl (setGen_bare J.bare rfl), Ext.refl, W2, by rw [← ho], by rw [← ho]; rfl, by rw [List.drop_zero]; exact e2, ?_⟩
          rw [GenW.setGen_size]
          show s1.gens.size < (s1.gens.push _).size
          rw [Array.size_push]
          exact Nat.lt_succ_self _
      cases hf : codeAmong gpos ps.toList with
      | none =>
        refine wpAny_genexprCodeX hcode (cd.code hP2 htr) (cd.tab hP2) hf fun c' h' tk hx hge hlt hco' _ htab' _ => ?_
        obtain ⟨o1, vs1, f1, tf, fl, tg, inF, tx, tt, op, _, _, _, _, _, _, _, _, _, htr1, _⟩ := hco'
        exact cont _ h' tk _ hx (Nat.le_trans hge (Nat.le_of_lt hlt)) htab'.2 ⟨_, rfl⟩ htr1
      | some cv =>
        refine wpAny_genexprCode_hit hcode (cd.code hP2 htr) hf ?_
        exact cont cv (s1.heap.push o) s1.toks ps (Heap.ExtBut.refl _ _) (Nat.le_refl _) hP2 ⟨#[], by simp⟩ htr
    · cases e
  · cases e⟩
end
end DD
namespace DD
open PySem PySem.Spec PyProof.Rows L2
/-- without generators -/
def Gl0.bare (G : Gl0) : Gl0 := { G with ga := fun _ _ _ _ _ _ => false, tb := fun _ => false }
def gaB (G : Gl0) (tb : List Str → Bool) (N : List Str) (elt : Ex) (i : Nat) (it : Ex) (sc : Scope) (e : Expr) : Bool := match vCall e with
  | some (x, [ge], []) => decide (x = ("all" : Str)) && decide (x ∈ G.blts) && glB sc x && tb N && (match vGen ge with
    | some (elt', t', iter', [], z, sc2, _) => decide (z = 0) && (match vName t', vName iter' with
      | some xv, some _ => decide (N[i]? = some xv) && genB N sc sc2 xv && chkE G.bare N elt sc2 elt' && chkE G.bare N it sc iter'
      | _, _ => false)
    | _ => false)
  | _ => false
/-- with generators whose elements have none -/
def Gl0.gens (G : Gl0) (tb : List Str → Bool) : Gl0 := { G with ga := gaB G tb, tb := tb }
section
variable [Tabs] {F : Fns} {k r : Nat} {N : List Str} {G : Gl0} {tb : List Str → Bool} {X : Cx} {sc : Scope}
theorem ok_bare (ok : Ok (G.gens tb) F k r N sc X) : Ok G.bare F k r N sc X :=
  ⟨ok.eN, ok.nd, ok.eS, ok.kind, ok.calm, ok.room, ok.kr, fun h => (by cases h), ok.own, ok.blt, ok.cst, ok.bf⟩
theorem ok_gcx {x : Str} {sc2 : Scope} {cenv : PySem.Env} {s1 : Shared} {H1 : Hp} (ok : Ok (G.gens tb) F k (r + 1) N sc X) (hk : k ≤ r) (S : GenSc X.N X.env.scope sc2 x) (he : cenv.scope = sc2) : Ok G.bare F k r N sc2 (gcx X (X.A.in1.in1.deeper cenv) s1 H1 cenv) := by
  refine ⟨ok.eN, ok.nd, he, S.kind, ok.calm, ⟨⟨ok.room.rm.hd, ?_, ?_⟩, ok.room.gd⟩, hk, fun h => (by cases h), ok.own, ok.blt, ok.cst, ok.bf⟩
  · have := ok.room.rm.dp
    show X.A.depth + 1 + 3 * r + 5 < _
    omega
  · have := ok.room.rm.un
    show X.A.units + 1 + 1 + 3 + 16 * r + 200 < _
    omega
theorem no_bare (elt : Ex) (i : Nat) (it : Ex) (sc : Scope) (e : Expr) (h : (Gl0.bare G).ga N elt i it sc e = true) (X : Cx) (_ : Ok G.bare F k r N sc X) : DE X e (evE F (.allg elt i it)) ∧ DT X e (evE F (.allg elt i it)) := by cases h
theorem gens_ok (F : Fns) (k r : Nat) (N : List Str) (elt : Ex) (i : Nat) (it : Ex) (sc : Scope) (e : Expr) (h : (G.gens tb).ga N elt i it sc e = true) (X : Cx) (hk : k + 1 ≤ r) (ok : Ok (G.gens tb) F k r N sc X) :
    DE X e (evE F (.allg elt i it)) ∧ DT X e (evE F (.allg elt i it)) := by
  have h0 : gaB G tb N elt i it sc e = true := h
  clear h
  unfold gaB at h0
  split at h0
  · rename_i x ge hx
    obtain ⟨p, q, rfl⟩ := vCall_eq hx
    simp only [Bool.and_eq_true, decide_eq_true_eq] at h0
    obtain ⟨⟨⟨⟨rfl, h1⟩, h2⟩, h3⟩, h4⟩ := h0
    split at h4
    · rename_i elt' t' iter' z sc2 gp hge
      have hge := vGen_eq hge
      subst hge
      simp only [Bool.and_eq_true, decide_eq_true_eq] at h4
      obtain ⟨rfl, h4⟩ := h4
      split at h4
      · rename_i xv yv hxv hyv
        obtain ⟨px, rfl⟩ := vName_eq hxv
        obtain ⟨py, rfl⟩ := vName_eq hyv
        simp only [Bool.and_eq_true, decide_eq_true_eq] at h4
        obtain ⟨⟨⟨h5, h6⟩, h7⟩, h8⟩ := h4
        have S : GenSc X.N X.env.scope sc2 xv := by rw [ok.eN, ok.eS]; exact genB_ok h6
        have hg : Gl X "all" := by
          show X.env.scope.names.lookup _ = _
          rw [ok.eS]; exact gl_of h2
        obtain ⟨c, P, hc, hP, TB⟩ := ok.tb h3
        obtain ⟨r, rfl⟩ : ∃ m, r = m + 1 := ⟨r - 1, by omega⟩
        have hi := (soundE (fun k X hc hr => rules hc hr) (fun elt i it sc e h X o => no_bare elt i it sc e h X o) it sc _ h8 X (ok_bare ok)).1
        have d : DE X (.Call (.Name "all" p) [.GeneratorExp elt' [⟨.Name xv px, .Name yv py, [], 0⟩] sc2 gp] [] q) (evE F (.allg elt i it)) :=
          de_allg (by have := ok.room.rm.dp; omega) ok.calm hg (ok.blt _ h1) TB hc hP S hi (fun v => rfl) (by rw [ok.eN]; exact h5) (by rw [ok.eN]; exact ok.nd) fun s1 H1 C code =>
            (soundE (fun k X hc hr => rules hc hr) (fun elt i it sc e h X o => no_bare elt i it sc e h X o) elt sc2 elt' h7 _ (ok_gcx ok (by omega) S rfl)).1
        exact ⟨d, dt_val d fun _ => rfl⟩
      · cases h4
    · cases h4
  · cases h0
end
/-- the whole program: every def keeps its promise -/
theorem prog_all [Tabs] {G : Gl0} {tb : List Str → Bool} {P : Program} {w : World} {K : PySem.W.Frag} {mg : Str → Option Value} {base : Heap} {ts : List Fn} {fu : Nat}
    (hP : ∀ (i : Nat) x, G.fns[i]? = some x → ∃ fn ps, ts[i]? = some fn ∧ G.pars[i]? = some ps ∧ DefOk (G.gens tb) K mg base fn x ps) (blt : ∀ x ∈ G.blts, mg x = none) (cst : ∀ p ∈ G.csts, ∃ u v, mg p.1 = some u ∧ RelV v u ∧ ∀ vw, RD K vw p.2 v) (bf : (∀ p ∈ G.bfs, mg p.1 = some (.builtin p.2)) ∧ ∀ p ∈ G.tys, mg p.1 = some (.type p.2)) (k i : Nat) (x : Str) (fn : Fn) (ps : List Str) (hx : G.fns[i]? = some x) (ht : ts[i]? = some fn) (D : DefOk (G.gens tb) K mg base fn x ps) :
    ∃ (f : Addr) (fd : FuncData), mg x = some (.ref f) ∧ Binds K fd ps [] ∧ FnG P w K mg base (2 * k) f fd ps (aD K w (runP ts fu k i)) := by
  obtain ⟨st, f, fd, N, z1, z2, z3, z3', z4, z5, z6, z7, z8, z9⟩ := D
  exact ⟨f, fd, z2, z3, prog_ok (G := G.gens tb) (fun k X hc hr => rules hc hr) (fun F k r N elt i it sc e h X hk ok => gens_ok F k r N elt i it sc e h X hk ok) hP blt cst bf k i x fn st f fd N ps hx ht z1 z2 z3 z4 z5 z6 z7 z8 z9⟩
end DD
namespace DD
open PySem PySem.Spec PyProof.Rows L2
/-- the law's def is called, at the heap behind the top; cs: code objects with their tables -/
theorem law_callTG {P : Program} {w : World} {K : PySem.W.Frag} {mg mb : Str → Option Value} {k : Nat} {fa a : Addr} {fd : FuncData} {x : Str} {sp : List V → Hp → VK → Prop} {s₁ : Shared} {vs : List Value} {ns : List Int} {cs : List (Addr × Addr)}
    (KX : K.In s₁.heap) (hns : s₁.heap.Ns mainGlobals mg) (hb : s₁.heap.Ns builtinsNs mb) (hbb : ∀ x : Str, x ≠ "__name__" → mb x = bootBuiltins x) (hlim : s₁.heap.NoLimit) (hg : s₁.gens = #[])
    (hT : ∀ p ∈ cs, s₁.heap.get? p.2 = some { cls := .none, data := .fields #[] }) (nT : ∀ p ∈ cs, K.lookup p.2 = none) (hC : ∀ p ∈ cs, PySem.W.CodeHd s₁.heap p.1 p.2)
    (hbm : ∃ (bm : Addr) (ob : Obj), mg "__builtins__" = some (.ref bm) ∧ bm ≠ builtinsNs ∧ s₁.heap.get? bm = some ob ∧ ob.cls = .type "module" ∧ ob.dict = some builtinsNs ∧ ob.data = .plain)
    (ha : s₁.heap.get? a = some { cls := .type "list", data := .seq vs.toArray }) (hi : IntsAre vs ns) (hl : ns.length ≤ sizeLine) (hr : Room k callerA)
    (F : ∀ h0 : Heap, K.In h0 → h0.Ns mainGlobals mg → (∀ p ∈ cs, GxR.TabB h0 mg p.1 p.2) → FnG P w K mg h0 k fa fd [x] sp) (hbd : ∀ (s : Shared) (u : Value), BindsTo s fd ⟨[u], []⟩ [(x, u)])
    (hsp : ∀ H : Hp, (∀ p ∈ cs, H p.2 = some (.tbl #[])) → RoL K H a (ns.map V.int) → sp [.ref a] H fun v _ => v = .bl true) :
    codeAny (model P w) callerA (.call (.ref fa) ⟨[.ref a], []⟩) (fun r s' => r = .ok (.ret (.bool true)) ∧ PySem.OldK s₁.heap s'.heap ∧ s'.os = s₁.os ∧ AllBare s'.gens) s₁ := by
  have rv := L2.vals_ints hi
  let T : Addr → Bool := fun b => (cs.map (·.2)).contains b
  have isT : ∀ b, T b = true → s₁.heap.get? b = some { cls := .none, data := .fields #[] } := fun b hb => by
    obtain ⟨p, hp, e⟩ := List.mem_map.mp (List.contains_iff_mem.mp hb)
    rw [← e]; exact hT p hp
  have memT : ∀ p ∈ cs, T p.2 = true := fun p hp => List.contains_iff_mem.mpr (List.mem_map.mpr ⟨p, hp, rfl⟩)
  have aT : T a = false := by
    cases q : T a with
    | false => rfl
    | true => have z := isT a q; rw [ha] at z; cases z
  -- H0 holds the tables, and the script, perhaps
  suffices core : ∀ H0 : Hp, (∀ b, T b = true → H0 b = some (.tbl #[])) → (∀ b, H0 b ≠ none → b = a ∨ T b = true) → (H0 a = none ∨ H0 a = some (.frz { cls := .type "list", data := .seq vs.toArray } (.lst (ns.map V.int)))) → RoL K H0 a (ns.map V.int) → (H0 a ≠ none → K.lookup a = none) →
      codeAny (model P w) callerA (.call (.ref fa) ⟨[.ref a], []⟩) (fun r s' => r = .ok (.ret (.bool true)) ∧ PySem.OldK s₁.heap s'.heap ∧ s'.os = s₁.os ∧ AllBare s'.gens) s₁ by
    rcases hk : K.lookup a with _ | o
    · let H0 : Hp := fun b => if b = a then some (.frz { cls := .type "list", data := .seq vs.toArray } (.lst (ns.map V.int))) else if T b = true then some (.tbl #[]) else none
      have at_a : H0 a = some (.frz { cls := .type "list", data := .seq vs.toArray } (.lst (ns.map V.int))) := if_pos rfl
      refine core H0 (fun b h => ?_) (fun b h => ?_) (.inr at_a) (.inl ⟨_, at_a⟩) fun _ => hk
      · have n : b ≠ a := fun z => by rw [z, aT] at h; cases h
        exact (if_neg n).trans (if_pos h)
      · by_cases n : b = a
        · exact .inl n
        · by_cases t : T b = true
          · exact .inr t
          · exact (h ((if_neg n).trans (if_neg t))).elim
    · have e := KX a o hk
      rw [ha] at e
      cases e
      let H0 : Hp := fun b => if T b = true then some (.tbl #[]) else none
      have at_a : H0 a = none := if_neg (by rw [aT]; decide)
      refine core H0 (fun b h => if_pos h) (fun b h => ?_) (.inl at_a) (.inr ⟨_, vs.toArray, _, hk, rfl, rfl, rfl, by rw [List.size_toArray, hi.length]; exact hl, by simpa using rv⟩) fun z => (z at_a).elim
      by_cases t : T b = true
      · exact .inr t
      · exact (h (if_neg t)).elim
  intro H0 hHT hA hOa hS hK
  have hok : HOk P w H0 s₁.heap := fun b u z => by
    rcases hA b (by rw [z]; simp) with e | e
    · subst e
      rcases hOa with q | q
      · rw [q] at z; cases z
      · rw [q] at z
        cases z
        exact ⟨ha, by rw [List.length_map]; exact hl, vs, _, rv, ha⟩
    · rw [hHT b e] at z
      cases z
      exact isT b e
  have seen : ∀ {b : Addr} {o : Obj}, s₁.heap.get? b = some o → H0 b = none → (hidT s₁.heap H0).get? b = some o := fun e n => hidT_get e n
  have plain : ∀ {b : Addr} {o : Obj}, s₁.heap.get? b = some o → (∀ vs n, o.data ≠ .seq vs n) → o.data ≠ .fields #[] → H0 b = none := fun {b o} e h1 h2 => by
    rcases q : H0 b with _ | u
    · rfl
    · rcases hA b (by rw [q]; simp) with z | z
      · subst z; rw [ha] at e; cases e; exact (h1 _ _ rfl).elim
      · rw [isT b z] at e; cases e; exact (h2 rfl).elim
  have plainD : ∀ {b : Addr} {o : Obj} {es : Array DictEntry} {ep : Nat}, s₁.heap.get? b = some o → o.data = .dict es ep → H0 b = none := fun {b o es ep} e d =>
    plain e (fun vs n z => by rw [d] at z; cases z) fun z => by rw [d] at z; cases z
  have nsK : ∀ {b : Addr} {m : Str → Option Value}, s₁.heap.Ns b m → (hidT s₁.heap H0).Ns b m := fun {b m} ⟨o, es, ep, e, d, r⟩ => ⟨o, es, ep, seen e (plainD e d), d, r⟩
  have hKb : K.In (hidT s₁.heap H0) := fun b o e => seen (KX b o e) (by
    rcases q : H0 b with _ | u
    · rfl
    · rcases hA b (by rw [q]; simp) with z | z
      · subst z
        rw [hK (by rw [q]; simp)] at e; cases e
      · obtain ⟨p, hp, ep⟩ := List.mem_map.mp (List.contains_iff_mem.mp z)
        rw [← ep, nT p hp] at e; cases e)
  obtain ⟨mc, lim1, lim2⟩ := hlim
  have TB : ∀ p ∈ cs, GxR.TabB (hidT s₁.heap H0) mg p.1 p.2 := fun p hp => by
    have hTp := hT p hp
    refine ⟨?_, ?_, fun z => ?_⟩
    · obtain ⟨o, us, file, tf, flags, tg, inF, text, tt, e1, r1, r2, r3, r⟩ := hC p hp
      exact ⟨o, us, file, tf, flags, tg, inF, text, tt, seen e1 (plain e1 (fun vs n z => by rw [r2] at z; cases z) fun z => by rw [r2] at z; cases z; simp at r3), r1, r2, r3, r⟩
    · obtain ⟨bm, ob, b1, b2, b3, b4, b5, b6⟩ := hbm
      have nG : bm ≠ mainGlobals := fun q => by
        obtain ⟨o, es, ep, e, hd, _⟩ := hns
        rw [q, e] at b3; cases b3; rw [hd] at b6; cases b6
      have nP : bm ≠ p.2 := fun q => by rw [q, hTp] at b3; cases b3; cases b6
      exact ⟨bm, ob, b1, b2, nG, nP, seen b3 (plain b3 (fun vs n z => by rw [b6] at z; cases z) fun z => by rw [b6] at z; cases z), b4, b5, b6⟩
    · obtain ⟨o, es, ep, e, hd, _⟩ := hns
      rw [z, hTp] at e; cases e; cases hd
  have e0 : Env0 P w K mg (hidT s₁.heap H0) callerA [] s₁ H0 :=
    ⟨rfl, ⟨hKb, nsK hns, ⟨mb, nsK hb, hbb⟩, ⟨mc, nsK lim1, lim2⟩⟩, fun b o e => of_hidT e, Nat.le_of_eq (hidT_size _ _), trivial, fun b hb => (List.not_mem_nil hb).elim, hok, .of_eq hg⟩
  refine codeAny_mono ((F _ hKb (nsK hns) TB).run callerA [] s₁ H0 ⟨[.ref a], []⟩ [.ref a] [.ref a] _ ⟨hr, rfl⟩ e0 (hbd s₁ _) (.cons rfl .nil) (hsp H0 (fun p hp => hHT _ (memT p hp)) hS)) fun r s' h => ?_
  match r, h with
  | .error _, h => exact h.elim
  | .ok .next, h => exact h.elim
  | .ok .brk, h => exact h.elim
  | .ok .cont, h => exact h.elim
  | .ok (.ret u), ⟨v, H', os, bare, un, hok', r', q⟩ =>
    cases (show v = .bl true from q)
    obtain rfl : u = Value.bool true := r'
    have key : ∀ b o, T b = false → s₁.heap.get? b = some o → s'.heap.get? b = some o := fun b o nb e => by
      rcases q : H0 b with _ | u
      · exact un.keep b o e q (fun z => (List.not_mem_nil z).elim) (by simp)
      · rcases hA b (by rw [q]; simp) with z | z
        · subst z
          rcases hOa with z | z
          · rw [q] at z; cases z
          · obtain ⟨e1, _⟩ := hok b _ z
            obtain ⟨e2, _⟩ := hok' b _ (un.frzs b _ _ z)
            rw [e] at e1; cases e1
            exact e2
        · rw [nb] at z; cases z
    have grown : ∀ p ∈ cs, ∃ more : Array Value, s'.heap.get? p.2 = some { cls := .none, data := .fields more } := fun p hp => by
      obtain ⟨more, z⟩ := un.tbls p.2 #[] (hHT _ (memT p hp))
      exact ⟨_, hok' p.2 _ z⟩
    refine ⟨rfl, ⟨fun b o e => ?_, fun b o e => ?_⟩, os, bare⟩
    · cases hb : T b with
      | true =>
        obtain ⟨p, hp, ep⟩ := List.mem_map.mp (List.contains_iff_mem.mp hb)
        obtain ⟨more, hm⟩ := grown p hp
        rw [← ep] at e ⊢
        rw [hT p hp] at e
        cases e
        exact .inr (.inl ⟨((hC p hp).tab (hT p hp)).isCodeTable, rfl, #[], more, rfl, by rw [Array.empty_append]; exact hm⟩)
      | false => exact .inl (key b o hb e)
    · cases hb : T b with
      | true =>
        obtain ⟨p, hp, ep⟩ := List.mem_map.mp (List.contains_iff_mem.mp hb)
        obtain ⟨more, hm⟩ := grown p hp
        rw [← ep]
        exact ⟨_, hm⟩
      | false => exact ⟨o, key b o hb e⟩
/-- what is known at the head's heap h of the law's def -/
def LawAt (l : PySem.W.OpenLaw) (w : World) (K : PySem.W.Frag) (k n : Nat) (x : Str) (mg : Str → Option Value) (fa : Addr) (h : Heap) : Prop :=
  ∃ (fd : FuncData) (cs : List (Addr × Addr)) (sp : List V → Hp → VK → Prop), (∀ p ∈ cs, h.get? p.2 = some { cls := .none, data := .fields #[] }) ∧ (∀ p ∈ cs, K.lookup p.2 = none) ∧ (∀ p ∈ cs, PySem.W.CodeHd h p.1 p.2) ∧
    (∀ (s : Shared) (u : Value), BindsTo s fd ⟨[u], []⟩ [(x, u)]) ∧
    (∀ (H : Hp) (a : Addr) (ns : List Int), ns.length ≤ n → (∀ z ∈ ns, Builtin.Int.intBits z ≤ 1048576) → (∀ p ∈ cs, H p.2 = some (.tbl #[])) → RoL K H a (ns.map V.int) → sp [.ref a] H fun v _ => v = .bl true) ∧
    ∀ h0 : Heap, K.In h0 → h0.Ns mainGlobals mg → (∀ p ∈ cs, GxR.TabB h0 mg p.1 p.2) → FnG l.prog w K mg h0 k fa fd [x] sp
theorem walk_ofTG {l : PySem.W.OpenLaw} {n k : Nat} {q : Program} {loose : List Str} {XP : (Str → Option Value) → Heap → Prop} {YP : World → Heap → Prop} {d : DefRec} {K : Params → PySem.W.Frag} {x : Str}
    (hn : l.most = some n) (hn2 : n ≤ sizeLine) (hdf : d.params.defaults = []) (hr : Room k callerA) (hY : ∀ (w : World) (h : Heap), YP w h → (K w.params).In h)
    (F : ∀ (w : World) (mg : Str → Option Value) (fa : Addr) (h : Heap), YP w h → (K w.params).In h → h.Ns mainGlobals mg → mg d.name = some (.ref fa) → LawAt l w (K w.params) k n x mg fa h) :
    PySem.W.WalkO q loose XP YP l.row.toRowW d [] (fun f vs => PySem.call f vs) :=
  Att.attach_callB hn hdf fun w s₀ s₁ mg mb fa o pm cd doc a vs ns G Y ho hd hcd hmg hobj hints hlen hbits hg => by
    obtain ⟨fd, cs, sp, hT, nT, hC, hb, hsp, hF⟩ := F w mg fa _ Y (hY w _ Y) G.T.g hmg
    exact law_callTG (hY w _ Y) G.T.g G.T.b G.T.builtins G.T.nolimit hg hT nT hC G.T.bmain hobj hints (Nat.le_trans hlen hn2) hr hF hb fun H hH hS => hsp H a ns hlen hbits hH hS
end DD
namespace DD
open PySem
/-- it ends, so that Q -/
def W {α : Type} (r : Option (α × Sto)) (Q : α → Sto → Prop) : Prop := ∃ x M, r = some (x, M) ∧ Q x M
def WS (r : Option (Fl × Env × Sto)) (N : Env → Sto → Prop) (R : D → Sto → Prop) : Prop := (∃ δ M, r = some (.nx, δ, M) ∧ N δ M) ∨ ∃ d δ M, r = some (.rt d, δ, M) ∧ R d M
section
variable {α : Type} {Q Q' : α → Sto → Prop}
theorem W.mono {r : Option (α × Sto)} (h : W r Q) (k : ∀ x M, Q x M → Q' x M) : W r Q' := let ⟨x, M, e, q⟩ := h; ⟨x, M, e, k x M q⟩
theorem WS.mono {r : Option (Fl × Env × Sto)} {N N' : Env → Sto → Prop} {R R' : D → Sto → Prop} (h : WS r N R) (k : ∀ x M, N x M → N' x M) (k2 : ∀ x M, R x M → R' x M) : WS r N' R' :=
  h.elim (fun ⟨x, M, e, q⟩ => .inl ⟨x, M, e, k x M q⟩) fun ⟨d, x, M, e, q⟩ => .inr ⟨d, x, M, e, k2 d M q⟩
theorem w_some {x : α} {M : Sto} : W (some (x, M)) Q = Q x M := by
  apply propext; exact ⟨fun ⟨_, _, e, q⟩ => by cases e; exact q, fun q => ⟨_, _, rfl, q⟩⟩
theorem w_none : W (none : Option (α × Sto)) Q = False := by
  apply propext; exact ⟨fun ⟨_, _, e, _⟩ => (nomatch e), fun q => False.elim q⟩
theorem w_map {β : Type} {r : Option β} {f : β → α × Sto} : W (r.map f) Q = ∃ b, r = some b ∧ Q (f b).1 (f b).2 := by
  rcases r with _ | b
  · simp [w_none]
  · simp only [Option.map_some, Option.some.injEq, exists_eq_left']
    rw [show f b = ((f b).1, (f b).2) from rfl, w_some]
theorem ws_some {δ : Env} {M : Sto} {N R} : WS (some (.nx, δ, M)) N R = N δ M := by
  apply propext
  exact ⟨fun h => h.elim (fun ⟨_, _, e, q⟩ => by cases e; exact q) (fun ⟨_, _, _, e, _⟩ => nomatch e), fun q => .inl ⟨_, _, rfl, q⟩⟩
theorem ws_none {N R} : WS none N R = False := by simp [WS]
theorem ws_rt {d : D} {δ : Env} {M : Sto} {N R} : WS (some (.rt d, δ, M)) N R = R d M := by
  apply propext
  exact ⟨fun h => h.elim (fun ⟨_, _, e, _⟩ => nomatch e) (fun ⟨_, _, _, e, q⟩ => by cases e; exact q), fun q => .inr ⟨_, _, _, rfl, q⟩⟩
end
section
variable {F : Fns} {fu : Nat} {δ : Env} {M : Sto} {Q : D → Sto → Prop} {N : Env → Sto → Prop} {R : D → Sto → Prop}
theorem w_var {i : Nat} : W (evE F (.var i) δ M) Q = ∃ d, δ[i]? = some (some d) ∧ Q d M := by
  rw [evE]; rcases h : δ[i]? with _ | _ | d <;> simp [w_some, w_none]
theorem w_con {c : D} : W (evE F (.con c) δ M) Q = Q c M := by rw [evE, w_some]
theorem w_glob {x : Str} {c : D} : W (evE F (.glob x c) δ M) Q = Q c M := by rw [evE, w_some]
theorem w_tup {es : List Ex} : W (evE F (.tup es) δ M) Q = W (evEs F es δ M) fun ds M1 => Q (.tup ds) M1 := by
  rw [evE]; rcases evEs F es δ M with _ | ⟨x, M1⟩ <;> simp [w_some, w_none]
theorem w_lst {es : List Ex} : W (evE F (.lst es) δ M) Q = W (evEs F es δ M) fun ds M1 => Q (.loc M1.length) (M1 ++ [.lst ds]) := by
  rw [evE]; rcases evEs F es δ M with _ | ⟨x, M1⟩ <;> simp [w_some, w_none]
theorem w_dct : W (evE F (.dct [] []) δ M) Q = Q (.loc M.length) (M ++ [.dct []]) := by rw [evE, w_some]
theorem w_bin {o : Bop} {a b : Ex} : W (evE F (.bin o a b) δ M) Q = W (evE F a δ M) fun x M1 => W (evE F b δ M1) fun y M2 => W (opB o x y M2) Q := by
  rw [evE]; rcases evE F a δ M with _ | ⟨x, M1⟩
  · simp [w_none]
  · simp only [w_some]
    rcases evE F b δ M1 with _ | ⟨y, M2⟩ <;> simp [w_some, w_none]
theorem w_neg {a : Ex} : W (evE F (.neg a) δ M) Q = W (evE F a δ M) fun x M1 => ∃ i, x = .int i ∧ Q (.int (-i)) M1 := by
  rw [evE]; rcases evE F a δ M with _ | ⟨x, M1⟩
  · simp [w_none]
  · cases x <;> simp [w_some, w_none]
theorem w_cmp {o : Cop} {a b : Ex} : W (evE F (.cmp o a b) δ M) Q = W (evE F a δ M) fun x M1 => W (evE F b δ M1) fun y M2 => ∃ c, opC o x y M2 = some c ∧ Q (.bl c) M2 := by
  rw [evE]; rcases evE F a δ M with _ | ⟨x, M1⟩
  · simp [w_none]
  · simp only [w_some]
    rcases evE F b δ M1 with _ | ⟨y, M2⟩ <;> simp [w_some, w_none, w_map]
theorem w_cmp2 {o o2 : Cop} {a b c : Ex} : W (evE F (.cmp2 o o2 a b c) δ M) Q = W (evE F a δ M) fun x M1 => W (evE F b δ M1) fun y M2 => ∃ k, opC o x y M2 = some k ∧ (k = true → W (evE F c δ M2) fun z M3 => ∃ k, opC o2 y z M3 = some k ∧ Q (.bl k) M3) ∧ (k = false → Q (.bl false) M2) := by
  rw [evE]; rcases evE F a δ M with _ | ⟨x, M1⟩
  · simp [w_none]
  · simp only [w_some]
    rcases evE F b δ M1 with _ | ⟨y, M2⟩
    · simp [w_none]
    · simp only [w_some]
      rcases opC o x y M2 with _ | _ | _
      · simp [w_none]
      · simp [w_some]
      · simp only [Option.some.injEq, exists_eq_left', true_implies, reduceCtorEq, false_implies, and_true]
        rcases evE F c δ M2 with _ | ⟨z, M3⟩ <;> simp [w_some, w_none, w_map]
theorem w_band {es : List Ex} : W (evE F (.band es) δ M) Q = W (evAnd F es δ M) Q := by rw [evE]
theorem w_bor {es : List Ex} : W (evE F (.bor es) δ M) Q = W (evOr F es δ M) Q := by rw [evE]
theorem w_and1 {e : Ex} : W (evAnd F [e] δ M) Q = W (evE F e δ M) Q := by simp only [evAnd]
theorem w_and {e e2 : Ex} {es : List Ex} : W (evAnd F (e :: e2 :: es) δ M) Q = W (evE F e δ M) fun x M1 => ∃ b, x = .bl b ∧ (b = true → W (evAnd F (e2 :: es) δ M1) Q) ∧ (b = false → Q (.bl false) M1) := by
  rw [evAnd]
  rcases evE F e δ M with _ | ⟨x, M1⟩
  · simp [w_none]
  · cases x with
    | bl b => cases b <;> simp [w_some]
    | _ => simp [w_some, w_none]
theorem w_or1 {e : Ex} : W (evOr F [e] δ M) Q = W (evE F e δ M) Q := by simp only [evOr]
theorem w_or {e e2 : Ex} {es : List Ex} : W (evOr F (e :: e2 :: es) δ M) Q = W (evE F e δ M) fun x M1 => ∃ b, x = .bl b ∧ (b = true → Q (.bl true) M1) ∧ (b = false → W (evOr F (e2 :: es) δ M1) Q) := by
  rw [evOr]
  rcases evE F e δ M with _ | ⟨x, M1⟩
  · simp [w_none]
  · cases x with
    | bl b => cases b <;> simp [w_some]
    | _ => simp [w_some, w_none]
theorem w_not {a : Ex} : W (evE F (.bnot a) δ M) Q = W (evE F a δ M) fun x M1 => ∃ b, x = .bl b ∧ Q (.bl (!b)) M1 := by
  rw [evE]; rcases evE F a δ M with _ | ⟨x, M1⟩
  · simp [w_none]
  · cases x with
    | bl b => simp only [w_some, D.bl.injEq, exists_eq_left']
    | _ => simp [w_some, w_none]
theorem w_ife {c a b : Ex} : W (evE F (.ife c a b) δ M) Q = W (evE F c δ M) fun x M1 => ∃ t, truD M1 x = some t ∧ (t = true → W (evE F a δ M1) Q) ∧ (t = false → W (evE F b δ M1) Q) := by
  rw [evE]; rcases evE F c δ M with _ | ⟨x, M1⟩
  · simp [w_none]
  · simp only [w_some]
    rcases truD M1 x with _ | _ | _ <;> simp [w_none]
theorem w_sub {a i : Ex} : W (evE F (.sub a i) δ M) Q = W (evE F a δ M) fun x M1 => W (evE F i δ M1) fun y M2 => ∃ d, ixD M2 x y = some d ∧ Q d M2 := by
  rw [evE]; rcases evE F a δ M with _ | ⟨x, M1⟩
  · simp [w_none]
  · simp only [w_some]
    rcases evE F i δ M1 with _ | ⟨y, M2⟩ <;> simp [w_some, w_none, w_map]
theorem w_slc {a : Ex} {lo hi : Option Ex} : W (evE F (.slc a lo hi) δ M) Q = W (evE F a δ M) fun x M1 => W (evO F lo δ M1) fun l M2 => W (evO F hi δ M2) fun h M3 => W (slcD x l h M3) Q := by
  rw [evE]; rcases evE F a δ M with _ | ⟨x, M1⟩
  · simp [w_none]
  · simp only [w_some]
    rcases evO F lo δ M1 with _ | ⟨l, M2⟩
    · simp [w_none]
    · simp only [w_some]
      rcases evO F hi δ M2 with _ | ⟨l, M2⟩ <;> simp [w_some, w_none]
theorem w_o0 {Q : Option Int → Sto → Prop} : W (evO F none δ M) Q = Q none M := by rw [evO, w_some]
theorem w_o1 {e : Ex} {Q : Option Int → Sto → Prop} : W (evO F (some e) δ M) Q = W (evE F e δ M) fun x M1 => ∃ i, x = .int i ∧ Q (some i) M1 := by
  rw [evO]; rcases evE F e δ M with _ | ⟨x, M1⟩
  · simp [w_none]
  · cases x <;> simp [w_some, w_none]
theorem w_rev {a : Ex} : W (evE F (.rev a) δ M) Q = W (evE F a δ M) fun x M1 => ∃ d, revD x = some d ∧ Q d M1 := by
  rw [evE]; rcases evE F a δ M with _ | ⟨x, M1⟩ <;> simp [w_some, w_none, w_map]
theorem w_call {f : Nat} {es : List Ex} : W (evE F (.call f es) δ M) Q = W (evEs F es δ M) fun ds M1 => W (F f ds M1) Q := by
  rw [evE]; rcases evEs F es δ M with _ | ⟨x, M1⟩ <;> simp [w_some, w_none]
theorem w_callk {f : Nat} {es : List Ex} {ks : List Str} : W (evE F (.callk f es ks) δ M) Q = W (evEs F es δ M) fun ds M1 => W (F f ds M1) Q := by
  rw [evE]; rcases evEs F es δ M with _ | ⟨x, M1⟩ <;> simp [w_some, w_none]
theorem w_calld {f : Nat} {es : List Ex} {cs : List D} : W (evE F (.calld f es cs) δ M) Q = W (evEs F es δ M) fun ds M1 => W (F f (ds ++ cs) M1) Q := by
  rw [evE]; rcases evEs F es δ M with _ | ⟨x, M1⟩ <;> simp [w_some, w_none]
theorem w_bi {b : Bi} {es : List Ex} : W (evE F (.bi b es) δ M) Q = W (evEs F es δ M) fun ds M1 => W (biD b ds M1) Q := by
  rw [evE]; rcases evEs F es δ M with _ | ⟨x, M1⟩ <;> simp [w_some, w_none]
theorem w_mth {m : Mth} {o : Ex} {es : List Ex} : W (evE F (.mth m o es) δ M) Q = W (evE F o δ M) fun x M1 => preM m x M1 = true ∧ W (evEs F es δ M1) fun ds M2 => W (mthD m x ds M2) Q := by
  rw [evE]; rcases evE F o δ M with _ | ⟨x, M1⟩
  · simp [w_none]
  · simp only [w_some]
    by_cases h : preM m x M1 = true
    · simp only [h, if_true, true_and]
      rcases evEs F es δ M1 with _ | ⟨x, M1⟩ <;> simp [w_some, w_none]
    · simp [h, w_none]
/-- what is walked -/
def WI (r : Option (List D × (Sto → Bool) × Sto)) (Q : List D → (Sto → Bool) → Sto → Prop) : Prop := ∃ xs ok M1, r = some (xs, ok, M1) ∧ Q xs ok M1
theorem wi_some {xs ok M1 Q} : WI (some (xs, ok, M1)) Q = Q xs ok M1 := by
  apply propext; exact ⟨fun ⟨_, _, _, e, q⟩ => by cases e; exact q, fun q => ⟨_, _, _, rfl, q⟩⟩
theorem wi_none {Q} : WI none Q = False := by
  apply propext; exact ⟨fun ⟨_, _, _, e, _⟩ => (nomatch e), fun q => False.elim q⟩
theorem w_lc {elt : Ex} {t : Tgc} {it : Itx} {ifs : List Ex} : W (evE F (.lc elt t it ifs) δ M) Q = WI (evI F it δ M) fun xs ok M1 =>
    ∃ M2, loopC (fun δ' M' => evE F elt δ' M') (fun δ' M' => evC F ifs δ' M') (fun d => bindC t d (wipeD δ (ownC t))) ok M1.length xs (M1 ++ [.lst []]) = some M2 ∧ Q (.loc M1.length) M2 := by
  rw [evE]; rcases evI F it δ M with _ | ⟨xs, ok, M1⟩
  · simp [w_none, wi_none]
  · simp only [wi_some]
    generalize loopC (fun δ' M' => evE F elt δ' M') (fun δ' M' => evC F ifs δ' M') (fun d => bindC t d (wipeD δ (ownC t))) ok M1.length xs (M1 ++ [.lst []]) = z
    rcases z with _ | M2 <;> simp [w_some, w_none]
theorem w_allg {elt : Ex} {i : Nat} {it : Ex} : W (evE F (.allg elt i it) δ M) Q = W (evE F it δ M) fun x M1 => ∃ xs, x = .tup xs ∧ W (loopA (fun δ' M' => evE F elt δ' M') (fun d => δ.set i (some d)) xs M1) fun b M2 => Q (.bl b) M2 := by
  rw [evE]; rcases evE F it δ M with _ | ⟨x, M1⟩
  · simp [w_none]
  · cases x with
    | tup xs =>
      simp only [w_some, D.tup.injEq, exists_eq_left']
      rcases loopA (fun δ' M' => evE F elt δ' M') (fun d => δ.set i (some d)) xs M1 with _ | ⟨b, M2⟩ <;> simp [w_some, w_none]
    | _ => simp [w_some, w_none]
theorem w_es0 {Q : List D → Sto → Prop} : W (evEs F [] δ M) Q = Q [] M := by rw [evEs, w_some]
theorem w_es {e : Ex} {es : List Ex} {Q : List D → Sto → Prop} : W (evEs F (e :: es) δ M) Q = W (evE F e δ M) fun d M1 => W (evEs F es δ M1) fun ds M2 => Q (d :: ds) M2 := by
  rw [evEs]; rcases evE F e δ M with _ | ⟨x, M1⟩
  · simp [w_none]
  · simp only [w_some]
    rcases evEs F es δ M1 with _ | ⟨y, M2⟩ <;> simp [w_some, w_none]
theorem w_c0 {Q : Bool → Sto → Prop} : W (evC F [] δ M) Q = Q true M := by rw [evC, w_some]
theorem w_c1 {e : Ex} {Q : Bool → Sto → Prop} : W (evC F [e] δ M) Q = W (evE F e δ M) fun x M1 => ∃ b, truD M1 x = some b ∧ Q b M1 := by
  rw [evC]; rcases evE F e δ M with _ | ⟨x, M1⟩ <;> simp [w_some, w_none, w_map]
theorem wi_ex {e : Ex} {Q} : WI (evI F (.ex e) δ M) Q = W (evE F e δ M) fun d M1 => ∃ xs, seqOf M1 d = some xs ∧ Q xs (okAt d xs) M1 := by
  rw [evI]; rcases evE F e δ M with _ | ⟨x, M1⟩
  · simp [wi_none, w_none]
  · simp only [w_some]
    rcases seqOf M1 x with _ | xs <;> simp [wi_some, wi_none]
theorem wi_keys {e : Ex} {Q} : WI (evI F (.keys e) δ M) Q = W (evE F e δ M) fun d M1 => ∃ kvs, keysAt d M1 = some kvs ∧ Q (kvs.map (·.1)) (okDict d kvs) M1 := by
  rw [evI]; rcases evE F e δ M with _ | ⟨x, M1⟩
  · simp [wi_none, w_none]
  · simp only [w_some]
    rcases keysAt x M1 with _ | xs <;> simp [wi_some, wi_none]
theorem w_lk {i n : Nat} {e : Ex} {kvs : List (D × D)} {Q : D → Sto → Prop} (h : δ[i]? = some (some (.loc n))) (hM : M[n]? = some (.dct kvs)) (b : W (evE F e δ (M.set n (.fdct kvs))) fun d M1 => ∃ ks, M1[n]? = some (.fdct ks) ∧ Q d (M1.set n (.dct ks))) : W (evE F (.lk i e) δ M) Q := by
  rcases b with ⟨d, M1, e1, ks, h1, h2⟩
  refine ⟨d, M1.set n (.dct ks), ?_, h2⟩
  rw [evE]
  simp only [h, hM, e1, h1]
theorem wi_rng {es : List Ex} {Q} : WI (evI F (.rng es) δ M) Q = W (evEs F es δ M) fun ds M1 => ∃ xs, rngD ds = some xs ∧ Q xs (fun _ => true) M1 := by
  rw [evI]; rcases evEs F es δ M with _ | ⟨x, M1⟩
  · simp [wi_none, w_none]
  · simp only [w_some]
    rcases rngD x with _ | xs <;> simp [wi_some, wi_none]
theorem wi_zip {a b : Ex} {Q} : WI (evI F (.zip a b) δ M) Q = W (evE F a δ M) fun x M1 => W (evE F b δ M1) fun y M2 => ∃ xs ys, x = .tup xs ∧ y = .tup ys ∧ Q (zipD xs ys) (fun _ => true) M2 := by
  rw [evI]; rcases evE F a δ M with _ | ⟨x, M1⟩
  · simp [wi_none, w_none]
  · simp only [w_some]
    rcases evE F b δ M1 with _ | ⟨y, M2⟩
    · simp [wi_none, w_none]
    · cases x <;> cases y <;> simp [wi_some, wi_none, w_some]
theorem wi_enum {a : Ex} {k : Int} {Q} : WI (evI F (.enum a k) δ M) Q = W (evE F a δ M) fun x M1 => ∃ xs, x = .tup xs ∧ Q (enumD xs k) (fun _ => true) M1 := by
  rw [evI]; rcases evE F a δ M with _ | ⟨x, M1⟩
  · simp [wi_none, w_none]
  · cases x <;> simp [wi_some, wi_none, w_some]
def WT (r : Option (Env × Sto)) (Q : Env → Sto → Prop) : Prop := ∃ δ M, r = some (δ, M) ∧ Q δ M
theorem wt_some {δ M Q} : WT (some (δ, M)) Q = Q δ M := by
  apply propext; exact ⟨fun ⟨_, _, e, q⟩ => by cases e; exact q, fun q => ⟨_, _, rfl, q⟩⟩
theorem wt_none {Q} : WT none Q = False := by
  apply propext; exact ⟨fun ⟨_, _, e, _⟩ => (nomatch e), fun q => False.elim q⟩
theorem wt_one {i : Nat} {d : D} {Q} : WT (bindT F (.one i) d δ M) Q = Q (δ.set i (some d)) M := by
  rw [bindT, wt_some]
theorem wt_sub {o i : Ex} {d : D} {Q} : WT (bindT F (.sub o i) d δ M) Q = W (evE F o δ M) fun x M1 => W (evE F i δ M1) fun y M2 => ∃ M3, setD M2 x y d = some M3 ∧ Q δ M3 := by
  rw [bindT]; rcases evE F o δ M with _ | ⟨x, M1⟩
  · simp [wt_none, w_none]
  · simp only [w_some]
    rcases evE F i δ M1 with _ | ⟨y, M2⟩
    · simp [wt_none, w_none]
    · simp only [w_some]
      rcases setD M2 x y d with _ | M3 <;> simp [wt_some, wt_none]
theorem wt_many {ts : List Tg} {d : D} {Q} : WT (bindT F (.many ts) d δ M) Q = ∃ ds, d = .tup ds ∧ WT (bindTs F ts ds δ M) Q := by
  cases d with
  | tup ds => rw [bindT]; simp
  | _ => simp [bindT, wt_none]
theorem wt_nil {Q} : WT (bindTs F [] [] δ M) Q = Q δ M := by rw [bindTs, wt_some]
theorem wt_cons {t : Tg} {ts : List Tg} {d : D} {ds : List D} {Q} : WT (bindTs F (t :: ts) (d :: ds) δ M) Q = WT (bindT F t d δ M) fun δ1 M1 => WT (bindTs F ts ds δ1 M1) Q := by
  rw [bindTs]; rcases bindT F t d δ M with _ | ⟨x, M1⟩ <;> simp [wt_some, wt_none]
theorem ws_asg {t : Tg} {e : Ex} : WS (exS F fu (.asg t e) δ M) N R = W (evE F e δ M) fun d M1 => WT (bindT F t d δ M1) N := by
  rw [exS]; rcases evE F e δ M with _ | ⟨d, M1⟩
  · simp [ws_none, w_none]
  · simp only [w_some]
    rcases bindT F t d δ M1 with _ | ⟨x, M1⟩ <;> simp [ws_some, ws_none, wt_some, wt_none]
theorem ws_exp {e : Ex} : WS (exS F fu (.exp e) δ M) N R = W (evE F e δ M) fun _ M1 => N δ M1 := by
  rw [exS]; rcases evE F e δ M with _ | ⟨d, M1⟩ <;> simp [ws_none, w_none, ws_some, w_some]
theorem ws_ret {e : Ex} : WS (exS F fu (.ret e) δ M) N R = W (evE F e δ M) R := by
  rw [exS]; rcases evE F e δ M with _ | ⟨d, M1⟩ <;> simp [ws_none, w_none, ws_rt, w_some]
theorem ws_pass : WS (exS F fu .pass δ M) N R = N δ M := by rw [exS, ws_some]
theorem ws_if {c : Ex} {a b : List Stm} : WS (exS F fu (.iff c a b) δ M) N R = W (evE F c δ M) fun x M1 => ∃ t, truD M1 x = some t ∧ (t = true → WS (exB F fu a δ M1) N R) ∧ (t = false → WS (exB F fu b δ M1) N R) := by
  rw [exS]; rcases evE F c δ M with _ | ⟨x, M1⟩
  · simp [ws_none, w_none]
  · simp only [w_some]
    rcases truD M1 x with _ | _ | _ <;> simp [ws_none]
theorem ws_aug {i : Nat} {o : Bop} {e : Ex} : WS (exS F fu (.aug i o e) δ M) N R = ∃ x, δ[i]? = some (some (.int x)) ∧ W (evE F e δ M) fun y M1 => ∃ z, y = .int z ∧ W (opB o (.int x) (.int z) M1) fun d M2 => N (δ.set i (some d)) M2 := by
  rw [exS]
  rcases h : δ[i]? with _ | _ | x
  · simp [ws_none]
  · simp [ws_none]
  · simp only
    rcases evE F e δ M with _ | ⟨y, M1⟩
    · simp [ws_none, w_none]
    · cases x <;> cases y <;> simp [ws_none, w_some]
      rename_i x z
      rcases opB o (.int x) (.int z) M1 with _ | ⟨d, M2⟩ <;> simp [ws_none, ws_some, w_some, w_none]
def bodyF (F : Fns) (fu : Nat) (t : Tg) (body : List Stm) (d : D) (δ : Env) (M : Sto) : Option (Fl × Env × Sto) := match bindT F t d δ M with
  | some (δ2, M2) => exB F fu body δ2 M2
  | none => none
def testF (F : Fns) (c : Ex) (δ : Env) (M : Sto) : Option (Bool × Sto) := match evE F c δ M with
  | some (x, M1) => (truD M1 x).map fun b => (b, M1)
  | none => none
theorem ws_forr {t : Tg} {it : Itx} {body : List Stm} : WS (exS F fu (.forr t it body) δ M) N R = WI (evI F it δ M) fun xs ok M1 => WS (loopS (bodyF F fu t body) ok xs δ M1) N R := by
  rw [exS]; rcases evI F it δ M with _ | ⟨xs, ok, M1⟩
  · simp [ws_none, wi_none]
  · simp only [wi_some]
    rfl
theorem ws_whil {c : Ex} {body : List Stm} : WS (exS F fu (.whil c body) δ M) N R = WS (loopW (testF F c) (fun δ' M' => exB F fu body δ' M') fu δ M) N R := by rw [exS]; rfl
theorem ws_nil : WS (exB F fu [] δ M) N R = N δ M := by rw [exB, ws_some]
theorem ws_cons {s : Stm} {ss : List Stm} : WS (exB F fu (s :: ss) δ M) N R = WS (exS F fu s δ M) (fun δ1 M1 => WS (exB F fu ss δ1 M1) N R) R := by
  rw [exB]
  rcases exS F fu s δ M with _ | ⟨fl, δ1, M1⟩
  · simp [ws_none]
  · cases fl with
    | nx => simp only [ws_some]
    | rt d => simp only [ws_rt]
    | _ => simp [WS]
end
/-- a statement by what it leaves -/
theorem ws_step {F : Fns} {fu : Nat} {δ : Env} {M : Sto} {N : Env → Sto → Prop} {R : D → Sto → Prop} {s : Stm} {ss : List Stm} (N' : Env → Sto → Prop) (h : WS (exS F fu s δ M) N' R) (k : ∀ δ1 M1, N' δ1 M1 → WS (exB F fu ss δ1 M1) N R) : WS (exB F fu (s :: ss) δ M) N R := by
  rw [ws_cons]; exact h.mono k fun _ _ h => h
/-- a def runs -/
theorem w_run {P : List Fn} {fu k i : Nat} {fn : Fn} {ds : List D} {M : Sto} {Q : D → Sto → Prop} (h : P[i]? = some fn) (hl : ds.length = fn.np)
    (b : WS (exB (runP P fu k) fu fn.body (ds.map some ++ List.replicate (fn.nn - fn.np) none) M) (fun _ M1 => Q .non M1) Q) : W (runP P fu (k + 1) i ds M) Q := by
  rw [runP, h]
  simp only [runFn]
  rw [if_pos hl]
  rcases b with ⟨δ, M1, e, q⟩ | ⟨d, δ, M1, e, q⟩ <;> simp only [e, w_some] <;> exact q
/-! ### loops -/
def LD (M : Sto) (i : Nat) : Prop := (∃ xs, M[i]? = some (.lst xs)) ∨ ∃ kvs, M[i]? = some (.dct kvs)
def MO.ld : MO → Bool
  | .flst _ => false
  | .fdct _ => false
  | _ => true
theorem LD.of {M : Sto} {i : Nat} {o : MO} (h : M[i]? = some o) (m : o.ld = true) : LD M i := by
  cases o with
  | lst xs => exact .inl ⟨_, h⟩
  | dct xs => exact .inr ⟨_, h⟩
  | flst xs => cases m
  | fdct xs => cases m
theorem LD.lt {M : Sto} {i : Nat} (h : LD M i) : i < M.length := by
  rcases h with ⟨_, h⟩ | ⟨_, h⟩ <;> exact (List.getElem?_eq_some_iff.mp h).1
/-- the store goes on, S alone may have changed -/
structure Fr (S : List Nat) (M M' : Sto) : Prop where
  le : M.length ≤ M'.length
  eq : ∀ i, i < M.length → i ∉ S → M'[i]? = M[i]?
  ld : ∀ i, LD M i → LD M' i
theorem Fr.refl {S : List Nat} {M : Sto} : Fr S M M := ⟨Nat.le_refl _, fun _ _ _ => rfl, fun _ h => h⟩
theorem Fr.trans {S : List Nat} {M M1 M2 : Sto} (a : Fr S M M1) (b : Fr S M1 M2) : Fr S M M2 :=
  ⟨Nat.le_trans a.le b.le, fun i h n => (b.eq i (Nat.lt_of_lt_of_le h a.le) n).trans (a.eq i h n), fun i h => b.ld i (a.ld i h)⟩
theorem Fr.weak {S T : List Nat} {M M1 : Sto} (a : Fr S M M1) (h : ∀ x ∈ S, x ∈ T) : Fr T M M1 := ⟨a.le, fun i l n => a.eq i l fun z => n (h i z), a.ld⟩
theorem Fr.nil {S : List Nat} {M M1 : Sto} (a : Fr [] M M1) : Fr S M M1 := a.weak (fun _ h => nomatch h)
theorem Fr.fresh {S : List Nat} {n : Nat} {M M1 : Sto} (a : Fr (n :: S) M M1) (h : M.length ≤ n) : Fr S M M1 :=
  ⟨a.le, fun i l m => a.eq i l fun z => by rcases List.mem_cons.mp z with z | z; exact absurd l (by omega); exact m z, a.ld⟩
theorem Fr.app {S : List Nat} {M J : Sto} : Fr S M (M ++ J) := ⟨by simp, fun i h _ => by rw [List.getElem?_append_left h], fun i h => by
  have l := h.lt
  unfold LD at *
  rw [List.getElem?_append_left l]; exact h⟩
theorem Fr.set {S : List Nat} {M : Sto} {n : Nat} {o : MO} (h : n ∈ S) (m : o.ld = true) : Fr S M (M.set n o) := ⟨by simp, fun i _ m => by rw [List.getElem?_set_ne (fun z => by subst z; exact m h)], fun i h => by
  by_cases e : n = i
  · subst e
    exact LD.of (o := o) (List.getElem?_set_self h.lt) m
  · unfold LD at *
    rw [List.getElem?_set_ne e]; exact h⟩
theorem Fr.get {S : List Nat} {M M1 : Sto} (a : Fr S M M1) {i : Nat} {o : MO} (h : M[i]? = some o) (m : i ∉ S) : M1[i]? = some o := (a.eq i (List.getElem?_eq_some_iff.mp h).1 m).trans h
inductive Fa2 {α β : Type} (R : α → β → Prop) : List α → List β → Prop
  | nil : Fa2 R [] []
  | cons {a b as bs} : R a b → Fa2 R as bs → Fa2 R (a :: as) (b :: bs)
/-- a comprehension's walk -/
theorem loopC_gen {S : List Nat} {I : Sto → Prop} {elt : Env → Sto → Option (D × Sto)} {cond : Env → Sto → Option (Bool × Sto)} {bind : D → Option Env} {ok : Sto → Bool} {n : Nat} {c : D → Bool} {Rr : D → D → Prop} (hnS : n ∉ S)
    (hset : ∀ M' xs, I M' → I (M'.set n (.lst xs))) :
    ∀ (xs : List D) (M : Sto) (acc : List D), I M → M[n]? = some (.lst acc) → acc.length + xs.length ≤ sizeLine → (∀ M', Fr (n :: S) M M' → I M' → ok M' = true) →
      (∀ x ∈ xs, ∀ M', Fr (n :: S) M M' → I M' → ∃ δ, bind x = some δ ∧ W (cond δ M') fun b M1 => Fr S M' M1 ∧ I M1 ∧ b = c x ∧ (b = true → W (elt δ M1) fun y M2 => Fr S M1 M2 ∧ I M2 ∧ Rr x y)) →
      ∃ ys M', loopC elt cond bind ok n xs M = some M' ∧ Fr (n :: S) M M' ∧ I M' ∧ M'[n]? = some (.lst (acc ++ ys)) ∧ Fa2 Rr (xs.filter c) ys
  | [], M, acc, hI, hn, hl, hok, h => ⟨[], M, by rw [loopC, hok M .refl hI]; rfl, .refl, hI, by rw [List.append_nil]; exact hn, .nil⟩
  | x :: xs, M, acc, hI, hn, hl, hok, h => by
    obtain ⟨δ, hb, b, M1, hc, f1, I1, rfl, he⟩ := h x (List.mem_cons_self ..) M .refl hI
    have hn1 : M1[n]? = some (.lst acc) := f1.get hn hnS
    have f1' : Fr (n :: S) M M1 := f1.weak fun _ => List.mem_cons_of_mem _
    have hl' : acc.length + xs.length + 1 ≤ sizeLine := by simpa [Nat.add_assoc] using hl
    cases hx : c x with
    | false =>
      obtain ⟨ys, M', e, f, I', en, fa⟩ := loopC_gen hnS hset xs M1 acc I1 hn1 (by omega) (fun M' f => hok M' (f1'.trans f)) fun y hy M' f => h y (List.mem_cons_of_mem _ hy) M' (f1'.trans f)
      refine ⟨ys, M', ?_, f1'.trans f, I', en, by rw [List.filter_cons_of_neg (by rw [hx]; decide)]; exact fa⟩
      rw [loopC, hok M .refl hI, hb]
      simp only [if_true]
      rw [hc, hx]
      exact e
    | true =>
      obtain ⟨y, M2, e2, f2, I2, r⟩ := he hx
      have hn2 : M2[n]? = some (.lst acc) := f2.get hn1 hnS
      have f2' : Fr (n :: S) M (M2.set n (.lst (acc ++ [y]))) := (f1'.trans (f2.weak fun _ => List.mem_cons_of_mem _)).trans (.set (List.mem_cons_self ..) rfl)
      have hn3 : (M2.set n (.lst (acc ++ [y])))[n]? = some (.lst (acc ++ [y])) := by rw [List.getElem?_set_self (List.getElem?_eq_some_iff.mp hn2).1]
      obtain ⟨ys, M', e, f, I', en, fa⟩ := loopC_gen hnS hset xs (M2.set n (.lst (acc ++ [y]))) (acc ++ [y]) (hset _ _ I2) hn3 (by simp; omega) (fun M' f => hok M' (f2'.trans f)) fun y hy M' f => h y (List.mem_cons_of_mem _ hy) M' (f2'.trans f)
      refine ⟨y :: ys, M', ?_, f2'.trans f, I', by rw [en, List.append_assoc]; rfl, by rw [List.filter_cons_of_pos hx]; exact .cons r fa⟩
      rw [loopC, hok M .refl hI, hb]
      simp only [if_true]
      rw [hc, hx]
      simp only
      rw [e2]
      simp only
      rw [hn2]
      simp only
      rw [if_pos (by omega)]
      exact e
theorem Fa2.eq_map {α β : Type} {g : α → β} {as : List α} {bs : List β} (h : Fa2 (fun x y => y = g x) as bs) : bs = as.map g := by
  induction h with
  | nil => rfl
  | cons e _ ih => rw [e, ih]; rfl
/-- a comprehension that draws nothing -/
theorem lc_pure {elt : Env → Sto → Option (D × Sto)} {cond : Env → Sto → Option (Bool × Sto)} {bind : D → Option Env} {ok : Sto → Bool} {xs : List D} {M0 : Sto} (c : D → Bool) (g : D → D) (hl : xs.length ≤ sizeLine) (hok : ∀ M', Fr [] M0 M' → ok M' = true)
    (h : ∀ x ∈ xs, ∀ M', Fr [] M0 M' → ∃ δ', bind x = some δ' ∧ W (cond δ' M') fun b M1 => Fr [] M' M1 ∧ b = c x ∧ (b = true → W (elt δ' M1) fun y M2 => Fr [] M1 M2 ∧ y = g x)) :
    ∃ M2, loopC elt cond bind ok M0.length xs (M0 ++ [.lst []]) = some M2 ∧ Fr [] M0 M2 ∧ M2[M0.length]? = some (.lst ((xs.filter c).map g)) := by
  have f0 : ∀ {M'}, Fr (M0.length :: []) (M0 ++ [.lst []]) M' → Fr [] M0 M' := fun f => Fr.fresh ((Fr.app (S := [M0.length])).trans f) (Nat.le_refl _)
  obtain ⟨ys, M', e, f, _, en, fa⟩ := loopC_gen (S := []) (I := fun _ => True) (elt := elt) (cond := cond) (bind := bind) (ok := ok) (n := M0.length) (c := c) (Rr := fun x y => y = g x) (by simp) (fun _ _ _ => trivial) xs (M0 ++ [.lst []]) [] trivial (by simp) (by simpa using hl) (fun M' f _ => hok M' (f0 f)) fun x hx M' f _ => by
    obtain ⟨δ', e, w⟩ := h x hx M' (f0 f)
    exact ⟨δ', e, w.mono fun b M1 ⟨f1, eb, k⟩ => ⟨f1, trivial, eb, fun z => (k z).mono fun y M2 ⟨f2, ey⟩ => ⟨f2, trivial, ey⟩⟩⟩
  refine ⟨M', e, f0 f, ?_⟩
  rw [en, List.nil_append, fa.eq_map]
theorem lc_w {elt : Env → Sto → Option (D × Sto)} {cond : Env → Sto → Option (Bool × Sto)} {bind : D → Option Env} {ok : Sto → Bool} {xs : List D} {M0 : Sto} {Q : Sto → Prop} (c : D → Bool) (g : D → D) (hl : xs.length ≤ sizeLine) (hok : ∀ M', Fr [] M0 M' → ok M' = true)
    (h : ∀ x ∈ xs, ∀ M', Fr [] M0 M' → ∃ δ', bind x = some δ' ∧ W (cond δ' M') fun b M1 => Fr [] M' M1 ∧ b = c x ∧ (b = true → W (elt δ' M1) fun y M2 => Fr [] M1 M2 ∧ y = g x))
    (k : ∀ M2, Fr [] M0 M2 → M2[M0.length]? = some (.lst ((xs.filter c).map g)) → Q M2) : ∃ M2, loopC elt cond bind ok M0.length xs (M0 ++ [.lst []]) = some M2 ∧ Q M2 := by
  obtain ⟨M2, e, f, e2⟩ := lc_pure c g hl hok h
  exact ⟨M2, e, k M2 f e2⟩
/-- all over a generator that draws nothing -/
theorem loopA_pure {elt : Env → Sto → Option (D × Sto)} {bind : D → Env} (c : D → Bool) : ∀ (xs : List D) (M : Sto), (∀ x ∈ xs, ∀ M', Fr [] M M' → W (elt (bind x) M') fun y M2 => Fr [] M' M2 ∧ y = .bl (c x)) →
    W (loopA elt bind xs M) fun b M2 => Fr [] M M2 ∧ b = xs.all c
  | [], M, h => by rw [loopA, w_some]; exact ⟨.refl, rfl⟩
  | x :: xs, M, h => by
    obtain ⟨y, M2, e, f, rfl⟩ := h x (List.mem_cons_self ..) M .refl
    rw [loopA, e]
    cases hx : c x with
    | true =>
      simp only
      refine (loopA_pure c xs M2 fun y hy M' f' => h y (List.mem_cons_of_mem _ hy) M' (f.trans f')).mono fun b M3 ⟨f3, eb⟩ => ⟨f.trans f3, by rw [eb, List.all_cons, hx]; rfl⟩
    | false =>
      simp only [w_some]
      exact ⟨f, by rw [List.all_cons, hx]; rfl⟩
/-- a for by an invariant; J speaks of what is left -/
theorem loopS_inv {body : D → Env → Sto → Option (Fl × Env × Sto)} {ok : Sto → Bool} {N : Env → Sto → Prop} {R : D → Sto → Prop} (J : List D → Env → Sto → Prop)
    (hok : ∀ xs δ M, J xs δ M → ok M = true) (step : ∀ x xs δ M, J (x :: xs) δ M → WS (body x δ M) (J xs) R) (fin : ∀ δ M, J [] δ M → N δ M) :
    ∀ (xs : List D) (δ : Env) (M : Sto), J xs δ M → WS (loopS body ok xs δ M) N R
  | [], δ, M, h => by rw [loopS, hok _ _ _ h]; exact .inl ⟨_, _, rfl, fin _ _ h⟩
  | x :: xs, δ, M, h => by
    rw [loopS, hok _ _ _ h]
    rcases step x xs δ M h with ⟨δ', M', e, j⟩ | ⟨d, δ', M', e, r⟩
    · simp only [if_true, e]
      exact loopS_inv J hok step fin xs δ' M' j
    · simp only [if_true, e]
      exact .inr ⟨_, _, _, rfl, r⟩
/-- a for, turn by turn -/
theorem ws_loop0 {body : D → Env → Sto → Option (Fl × Env × Sto)} {ok : Sto → Bool} {N : Env → Sto → Prop} {R : D → Sto → Prop} {δ : Env} {M : Sto} (h : ok M = true) (n : N δ M) : WS (loopS body ok [] δ M) N R := by
  rw [loopS, h]; exact .inl ⟨_, _, rfl, n⟩
theorem ws_loop1 {body : D → Env → Sto → Option (Fl × Env × Sto)} {ok : Sto → Bool} {N : Env → Sto → Prop} {R : D → Sto → Prop} {δ : Env} {M : Sto} {x : D} {xs : List D} (h : ok M = true) (n : WS (body x δ M) (fun δ' M' => WS (loopS body ok xs δ' M') N R) R) : WS (loopS body ok (x :: xs) δ M) N R := by
  rw [loopS, h]
  rcases n with ⟨δ', M', e, j⟩ | ⟨d, δ', M', e, r⟩
  · simp only [if_true, e]; exact j
  · simp only [if_true, e]; exact .inr ⟨_, _, _, rfl, r⟩
theorem ws_body {F : Fns} {fu : Nat} {t : Tg} {d : D} {δ : Env} {M : Sto} {body : List Stm} {N : Env → Sto → Prop} {R : D → Sto → Prop} : WS (bodyF F fu t body d δ M) N R = WT (bindT F t d δ M) fun δ2 M2 => WS (exB F fu body δ2 M2) N R := by
  unfold bodyF
  rcases bindT F t d δ M with _ | ⟨x, M1⟩ <;> simp [ws_none, wt_none, wt_some]
/-- a while by an invariant with a measure -/
theorem loopW_inv {test : Env → Sto → Option (Bool × Sto)} {body : Env → Sto → Option (Fl × Env × Sto)} {N : Env → Sto → Prop} {R : D → Sto → Prop} (J : Nat → Env → Sto → Prop)
    (step : ∀ m δ M, J m δ M → W (test δ M) fun b M1 => (b = false → N δ M1) ∧ (b = true → WS (body δ M1) (fun δ' M' => ∃ m', m' < m ∧ J m' δ' M') R)) :
    ∀ (n m : Nat) (δ : Env) (M : Sto), m < n → J m δ M → WS (loopW test body n δ M) N R
  | 0, m, δ, M, h, _ => by omega
  | n + 1, m, δ, M, h, j => by
    obtain ⟨b, M1, e, h0, h1⟩ := step m δ M j
    rw [loopW, e]
    cases b with
    | false => exact .inl ⟨_, _, rfl, h0 rfl⟩
    | true =>
      simp only
      rcases h1 rfl with ⟨δ', M', e', m', lt, j'⟩ | ⟨d, δ', M', e', r⟩
      · rw [e']
        exact loopW_inv J step n m' δ' M' (by omega) j'
      · rw [e']
        exact .inr ⟨_, _, _, rfl, r⟩
theorem w_test {F : Fns} {c : Ex} {δ : Env} {M : Sto} {Q : Bool → Sto → Prop} : W (testF F c δ M) Q = W (evE F c δ M) fun x M1 => ∃ b, truD M1 x = some b ∧ Q b M1 := by
  unfold testF
  rcases evE F c δ M with _ | ⟨x, M1⟩ <;> simp [w_none, w_some, w_map]
theorem blsOf_map {α : Type} (f : α → Bool) : ∀ xs : List α, blsOf (xs.map fun x => .bl (f x)) = some (xs.map f)
  | [] => rfl
  | x :: xs => by simp [blsOf, blsOf_map f xs]
theorem w_all {M : Sto} {Q : D → Sto → Prop} {i : Nat} {α : Type} {f : α → Bool} {xs : List α} (h : M[i]? = some (.lst (xs.map fun x => .bl (f x)))) : W (allB [.loc i] M) Q = Q (.bl (xs.all f)) M := by
  simp only [allB, h, blsOf_map, Option.map_some, w_some]
  rw [List.all_map]; rfl
end DD
namespace DD
open PySem PySem.W PyProof.Rows
/-! ### numbers, and tuples of numbers, as keys -/
def iD (xs : List Int) : D := .tup (xs.map .int)
def iP (xs : List Int) : PyData := .tuple (xs.map .int)
theorem pys_ints {M : Sto} {n : Nat} : ∀ xs : List Int, pysOf M n (xs.map .int) = some (xs.map .int)
  | [] => by simp [pysOf]
  | x :: xs => by simp [pysOf, pyOf, pys_ints xs]
theorem py_iD {M : Sto} {n : Nat} (xs : List Int) : pyOf M (n + 1) (iD xs) = some (iP xs) := by
  simp [iD, iP, pyOf, pys_ints]
theorem canLay_ints : ∀ xs : List Int, PyData.canLayAll0 (xs.map .int) = true
  | [] => by simp [PyData.canLayAll0]
  | x :: xs => by simp [PyData.canLayAll0, PyData.canLay0, canLay_ints xs]
theorem depth_ints : ∀ xs : List Int, PyData.depthAll (xs.map .int) = 0
  | [] => by simp [PyData.depthAll]
  | x :: xs => by simp [PyData.depthAll, PyData.depth, depth_ints xs]
theorem shaped_iP (xs : List Int) : SeqAt.shaped (iP xs) = true := by
  simp [SeqAt.shaped, iP, PyData.canLay0, canLay_ints, PyData.depth, depth_ints]
theorem shaped_list (xs : List Int) : SeqAt.shaped (.list (xs.map .int)) = true := by
  simp [SeqAt.shaped, PyData.canLay0, canLay_ints, PyData.depth, depth_ints]
theorem shaped_int (x : Int) : SeqAt.shaped (.int x) = true := by
  simp [SeqAt.shaped, PyData.canLay0, PyData.depth]
theorem alike_ints : ∀ xs ys : List Int, alikeAll (xs.map .int) (ys.map .int) = true
  | [], _ => by simp [alikeAll]
  | _ :: _, [] => by simp [alikeAll]
  | x :: xs, y :: ys => by simp [alikeAll, alike, alike_ints xs ys]
theorem alike_iP (xs ys : List Int) : alike (iP xs) (iP ys) = true := by simp [iP, alike, alike_ints]
theorem eqv_ints : ∀ xs ys : List Int, PyData.eqvAll (xs.map .int) (ys.map .int) = decide (xs = ys)
  | [], [] => by simp [PyData.eqvAll]
  | _ :: _, [] => by simp [PyData.eqvAll]
  | [], _ :: _ => by simp [PyData.eqvAll]
  | x :: xs, y :: ys => by
    simp only [List.map_cons, PyData.eqvAll, eqv_ints xs ys, PyData.eqv, List.cons.injEq]
    by_cases h : x = y <;> simp [h]
theorem eqv_iP (xs ys : List Int) : PyData.eqv (iP xs) (iP ys) = decide (xs = ys) := by simp [iP, PyData.eqv, eqv_ints]
theorem eqD_iD {M : Sto} (xs ys : List Int) : eqD (iD xs) (iD ys) M = some (decide (xs = ys)) := by
  simp [eqD, pyP, depthMost, py_iD, shaped_iP, eqv_iP]
theorem eqD_int {M : Sto} (x y : Int) : eqD (.int x) (.int y) M = some (decide (x = y)) := by
  simp only [eqD, pyP, pyOf, shaped_int, Bool.and_self, if_true, PyData.eqv]
  by_cases h : x = y <;> simp [h]
abbrev Key := List Int × List Int
def kD (k : Key) : D := .tup [iD k.1, iD k.2]
def kP (k : Key) : PyData := .tuple [iP k.1, iP k.2]
theorem py_kD {M : Sto} {n : Nat} (k : Key) : pyOf M (n + 2) (kD k) = some (kP k) := by simp [kD, kP, pyOf, pysOf, py_iD]
theorem pyP_kD {M : Sto} (k : Key) : pyP M (kD k) = some (kP k) := py_kD k
theorem shaped_kP (k : Key) : SeqAt.shaped (kP k) = true := by
  have := shaped_iP k.1
  simp only [SeqAt.shaped, Bool.and_eq_true, decide_eq_true_eq] at *
  have h2 := shaped_iP k.2
  simp only [SeqAt.shaped, Bool.and_eq_true, decide_eq_true_eq] at h2
  have d1 : ∀ xs : List Int, (iP xs).depth = 1 := fun xs => by simp [iP, PyData.depth, depth_ints]
  refine ⟨by simp [kP, PyData.canLay0, PyData.canLayAll0, this.1, h2.1], ?_⟩
  simp [kP, PyData.depth, PyData.depthAll, d1]
theorem alike_kP (a b : Key) : alike (kP a) (kP b) = true := by simp [kP, alike, alikeAll, alike_iP]
theorem eqv_kP (a b : Key) : PyData.eqv (kP a) (kP b) = decide (a = b) := by
  obtain ⟨a1, a2⟩ := a; obtain ⟨b1, b2⟩ := b
  simp only [kP, PyData.eqv, PyData.eqvAll, eqv_iP, Bool.and_true, Prod.mk.injEq]
  by_cases h : a1 = b1 <;> by_cases g : a2 = b2 <;> simp [h, g]
def keyLt (a b : Key) : Bool := dataLt (kP a) (kP b)
theorem keyLt_irrefl (a : Key) : keyLt a a = false := lex_irrefl (O := itemOrd) _
theorem keyLt_trans {a b c : Key} (h : keyLt a b = true) (g : keyLt b c = true) : keyLt a c = true := lex_trans (O := itemOrd) _ _ _ h g
theorem keyLt_neg {a c : Key} (b : Key) (h : keyLt a c = true) : keyLt a b = true ∨ keyLt b c = true := lex_negTrans (O := itemOrd) _ _ _ h
/-- which of two lists of numbers comes first -/
def ilt : List Int → List Int → Bool
  | _, [] => false
  | [], _ :: _ => true
  | x :: xs, y :: ys => if x = y then ilt xs ys else decide (x < y)
theorem toks_ilt : ∀ xs ys : List Int, lexLt itemOrd (keyToksAll (xs.map .int)) (keyToksAll (ys.map .int)) = ilt xs ys
  | [], [] => by simp [ilt, keyToksAll, lex_irrefl]
  | x :: xs, [] => by
    simp only [List.map_cons, List.map_nil, keyToksAll, ilt]
    rw [lex_diff (O := itemOrd) (by simp)]
    simp [itemLt]
  | [], y :: ys => by
    simp only [List.map_cons, List.map_nil, keyToksAll, ilt]
    rw [lex_diff (O := itemOrd) (by simp)]
    simp [itemLt]
  | x :: xs, y :: ys => by
    simp only [List.map_cons, ilt]
    have ha : alike (.int x) (.int y) = true := by simp [alike]
    by_cases h : x = y
    · rw [if_pos h, dataLt_all_yes ha (by simp [PyData.eqv, h]), toks_ilt xs ys]
    · rw [if_neg h, dataLt_all_no ha (by simp [PyData.eqv, h])]
      simp only [dataLt, keyToks]
      rw [lex_one]
      simp [itemLt]
theorem dataLt_iP (xs ys : List Int) : dataLt (iP xs) (iP ys) = ilt xs ys := by rw [iP, iP, dataLt_tuple, toks_ilt]
theorem keyLt_eq (a b : Key) : keyLt a b = if a.1 = b.1 then ilt a.2 b.2 else ilt a.1 b.1 := by
  unfold keyLt
  rw [kP, kP, dataLt_tuple]
  by_cases h : a.1 = b.1
  · rw [if_pos h, dataLt_all_yes (alike_iP _ _) (by simp [eqv_iP, h])]
    by_cases g : a.2 = b.2
    · rw [g, dataLt_all_yes (alike_iP _ _) (by simp [eqv_iP])]
      simp only [keyToksAll, lex_irrefl]
      rw [← dataLt_iP]
      exact (lex_irrefl (O := itemOrd) _).symm
    · rw [dataLt_all_no (alike_iP _ _) (by simp [eqv_iP, g]), dataLt_iP]
  · rw [if_neg h, dataLt_all_no (alike_iP _ _) (by simp [eqv_iP, h]), dataLt_iP]
theorem ilt_irrefl : ∀ xs : List Int, ilt xs xs = false
  | [] => rfl
  | x :: xs => by simp [ilt, ilt_irrefl xs]
theorem ilt_total : ∀ xs ys : List Int, ilt xs ys = false → ilt ys xs = false → xs = ys
  | [], [], _, _ => rfl
  | x :: xs, [], _, h => by simp [ilt] at h
  | [], y :: ys, h, _ => by simp [ilt] at h
  | x :: xs, y :: ys, h, g => by
    simp only [ilt] at h g
    by_cases e : x = y
    · subst e
      simp only [if_true] at h g
      rw [ilt_total xs ys h g]
    · rw [if_neg e] at h
      rw [if_neg (Ne.symm e)] at g
      simp at h g
      omega
theorem keyLt_total {a b : Key} (h : keyLt a b = false) (g : keyLt b a = false) : a = b := by
  rw [keyLt_eq] at h g
  obtain ⟨a1, a2⟩ := a; obtain ⟨b1, b2⟩ := b
  by_cases e : a1 = b1
  · subst e
    simp only [if_true] at h g
    rw [ilt_total _ _ h g]
  · simp only [if_neg e, if_neg (Ne.symm e)] at h g
    exact (e (ilt_total _ _ h g)).elim
theorem leVs_ints : ∀ xs ys : List Int, leVs (xs.map .int) (ys.map .int) = !ilt ys xs
  | [], [] => by simp [leVs, ilt]
  | x :: xs, [] => by simp [leVs, ilt]
  | [], y :: ys => by simp [leVs, ilt]
  | x :: xs, y :: ys => by
    simp only [List.map_cons, leVs, ilt, PyData.eqv, leV]
    by_cases h : x = y
    · simp [h, leVs_ints xs ys]
    · have : ¬ y = x := Ne.symm h
      simp only [beq_iff_eq, h, if_false, this]
      by_cases g : x ≤ y
      · have : ¬ y < x := by omega
        simp [g, this]
      · have : y < x := by omega
        simp [g, this]
theorem leV_iP (xs ys : List Int) : leV (iP xs) (iP ys) = !ilt ys xs := by rw [iP, iP, leV, leVs_ints]
theorem leV_kP (a b : Key) : leV (kP a) (kP b) = !keyLt b a := by
  rw [keyLt_eq, kP, kP, leV, leVs, leVs, leVs, eqv_iP, eqv_iP]
  by_cases h : a.1 = b.1
  · have h' := h.symm
    simp only [h, decide_true, if_true]
    by_cases g : a.2 = b.2
    · simp [g, ilt_irrefl]
    · simp only [g, decide_false, Bool.false_eq_true, if_false, leV_iP]
  · have h' := Ne.symm h
    simp only [h, h', decide_false, Bool.false_eq_true, if_false, leV_iP]
theorem intTups_ints : ∀ xs : List Int, intTups (xs.map .int) = true
  | [] => by simp [intTups]
  | x :: xs => by simp [intTups, intTup, intTups_ints xs]
theorem intTup_kP (a : Key) : intTup (kP a) = true := by simp [kP, iP, intTup, intTups, intTups_ints]
theorem ltD_kD {M : Sto} (a b : Key) : ltD (kD a) (kD b) M = some (keyLt a b) := by
  have e : ∀ k, kD k = .tup [iD k.1, iD k.2] := fun _ => rfl
  have h : ltD (kD a) (kD b) M = match pyP M (kD a), pyP M (kD b) with
    | some p, some q => if alike p q && SeqAt.shaped p && SeqAt.shaped q then some (dataLt p q) else none
    | _, _ => none := by rw [e, e]; rfl
  rw [h, pyP_kD, pyP_kD]
  simp [alike_kP, shaped_kP, keyLt]
theorem leD_kD {M : Sto} (a b : Key) : leD (kD a) (kD b) M = some (!keyLt b a) := by
  have e : ∀ k, kD k = .tup [iD k.1, iD k.2] := fun _ => rfl
  have h : leD (kD a) (kD b) M = match pyP M (kD a), pyP M (kD b) with
    | some p, some q => if alike p q && SeqAt.shaped p && SeqAt.shaped q && intTup p && intTup q then some (leV p q) else none
    | _, _ => none := by rw [e, e]; rfl
  rw [h, pyP_kD, pyP_kD]
  simp [alike_kP, shaped_kP, intTup_kP, leV_kP]
/-! ### as keys of dicts -/
theorem keysOf_ints : ∀ xs : List Int, ∃ ks, keysOf (xs.map .int) = some ks ∧ NestedKey.depthAll ks = 0
  | [] => ⟨[], by simp [keysOf], by simp [NestedKey.depthAll]⟩
  | x :: xs => by
    obtain ⟨ks, e, d⟩ := keysOf_ints xs
    exact ⟨.num x :: ks, by simp [keysOf, keyOf, e], by simp [NestedKey.depthAll, NestedKey.depth, d]⟩
theorem okKey_kD (k : Key) : okKey (kD k) = true := by
  obtain ⟨ks, e, d⟩ := keysOf_ints k.1
  obtain ⟨ls, e2, d2⟩ := keysOf_ints k.2
  simp [okKey, kD, iD, keyOf, keysOf, e, e2, NestedKey.depth, NestedKey.depthAll, d, d2]
theorem iD_inj {xs ys : List Int} (h : iD xs = iD ys) : xs = ys := by
  have h : xs.map D.int = ys.map D.int := by simpa [iD] using h
  exact List.map_inj_right (by intro a b e; cases e; rfl) |>.mp h
theorem kD_inj {a b : Key} (h : kD a = kD b) : a = b := by
  simp only [kD, D.tup.injEq, List.cons.injEq, and_true] at h
  exact Prod.ext (iD_inj h.1) (iD_inj h.2)
/-! ### sorted keys -/
def keySort (ks : List Key) : List Key := ks.mergeSort fun a b => !keyLt b a
theorem pysOf_kD {M : Sto} {n : Nat} : ∀ ks : List Key, pysOf M (n + 2) (ks.map kD) = some (ks.map kP)
  | [] => by simp [pysOf]
  | k :: ks => by simp [pysOf, py_kD, pysOf_kD ks]
theorem alikeAll_kP : ∀ as bs : List Key, alikeAll (as.map kP) (bs.map kP) = true
  | [], _ => by simp [alikeAll]
  | _ :: _, [] => by simp [alikeAll]
  | x :: xs, y :: ys => by simp [alikeAll, alike_kP, alikeAll_kP xs ys]
theorem sortD_kD {M : Sto} {ks : List Key} (h : ks.length ≤ sizeLine) : sortD M (ks.map kD) = some ((keySort ks).map kD) := by
  have hp : pysOf M depthMost (ks.map kD) = some (ks.map kP) := pysOf_kD ks
  rw [sortD, hp]
  have hz : (ks.map kD).zip (ks.map kP) = ks.map fun k => (kD k, kP k) := by simp [List.zip_map']
  simp only
  rw [if_pos, hz, keySort, ← List.map_mergeSort (r := fun a b => !keyLt b a)]
  · rw [List.map_map]; rfl
  · intro a _ b _; rfl
  · simp only [alikeAll_kP, Bool.and_eq_true, Bool.true_and, List.all_map, decide_eq_true_eq, List.length_map]
    refine ⟨⟨⟨?_, ?_⟩, ?_⟩, h⟩
    · simp [Function.comp_def, alike_kP]
    · simp [Function.comp_def, shaped_kP]
    · simp [Function.comp_def, kP]
theorem keySort_perm (ks : List Key) : (keySort ks).Perm ks := List.mergeSort_perm ks _
theorem keySort_pair (ks : List Key) : (keySort ks).Pairwise fun a b => keyLt b a = false := by
  have := List.pairwise_mergeSort (le := fun a b => !keyLt b a) (l := ks) (fun a b c h g => by
    simp only [Bool.not_eq_true'] at *
    cases e : keyLt c a with
    | false => rfl
    | true =>
      rcases keyLt_neg b e with z | z
      · rw [z] at g; cases g
      · rw [z] at h; cases h) (fun a b => by
    simp only [Bool.or_eq_true, Bool.not_eq_true']
    cases e : keyLt b a with
    | false => exact .inl rfl
    | true =>
      right
      cases g : keyLt a b with
      | false => rfl
      | true => have := keyLt_trans e g; rw [keyLt_irrefl] at this; cases this)
  exact this.imp fun h => by simpa using h
theorem keySort_strict {ks : List Key} (h : ks.Nodup) : (keySort ks).Pairwise fun a b => keyLt a b = true := by
  have nd : (keySort ks).Nodup := (keySort_perm ks).nodup_iff.mpr h
  refine (keySort_pair ks |>.and nd).imp fun {a b} ⟨e, n⟩ => ?_
  cases g : keyLt a b with
  | true => rfl
  | false => exact (n (keyLt_total g e)).elim
end DD
namespace DD
open PySem PySem.W PyProof.Rows
/-! ### operators on known kinds -/
section
variable {M : Sto} {Q : D → Sto → Prop} {a b : Int}
theorem w_add : W (opB .add (.int a) (.int b) M) Q = Q (.int (a + b)) M := by rw [opB, addD, w_some]
theorem w_subI : W (opB .sub (.int a) (.int b) M) Q = Q (.int (a - b)) M := by rw [opB, subD, w_some]
theorem w_mul (h : okMul a b = true) : W (opB .mul (.int a) (.int b) M) Q = Q (.int (a * b)) M := by rw [opB, mulD, if_pos h, w_some]
theorem okMul_l (h1 : -(2 ^ 64) < a) (h2 : a < 2 ^ 64) : okMul a b = true := by unfold okMul; simp only [Bool.or_eq_true, decide_eq_true_eq]; exact .inl (.inl ⟨h1, h2⟩)
theorem okMul_r (h1 : -(2 ^ 64) < b) (h2 : b < 2 ^ 64) : okMul a b = true := by unfold okMul; simp only [Bool.or_eq_true, decide_eq_true_eq]; exact .inl (.inr ⟨h1, h2⟩)
theorem w_mulL (h1 : -18446744073709551616 < a) (h2 : a < 18446744073709551616) : W (opB .mul (.int a) (.int b) M) Q = Q (.int (a * b)) M := w_mul (okMul_l h1 h2)
theorem w_mulR (h1 : -18446744073709551616 < b) (h2 : b < 18446744073709551616) : W (opB .mul (.int a) (.int b) M) Q = Q (.int (a * b)) M := w_mul (okMul_r h1 h2)
theorem w_mod (h : b ≠ 0) : W (opB .mod (.int a) (.int b) M) Q = Q (.int (a.fmod b)) M := by rw [opB, modD, if_pos h, w_some]
theorem w_fdiv (h : b ≠ 0) (h2 : b.natAbs < 1073741824) : W (opB .fdiv (.int a) (.int b) M) Q = Q (.int (a.fdiv b)) M := by
  rw [opB, fdivD, if_pos (by simp [okDiv, h, h2]), w_some]
theorem w_pow (h0 : 0 ≤ b) (h1 : b ≤ 1000000) (h2 : a.natAbs < 2 ^ 64) : W (opB .pow (.int a) (.int b) M) Q = Q (.int (a ^ b.toNat)) M := by rw [opB, powD, if_pos ⟨h0, h1, h2⟩, w_some]
theorem w_int : W (intB [.int a] M) Q = Q (.int a) M := by rw [intB, w_some]
theorem w_abs : W (absB [.int a] M) Q = Q (.int (if a < 0 then -a else a)) M := by rw [absB, w_some]
theorem w_lenT {xs : List D} : W (lenB [.tup xs] M) Q = Q (.int xs.length) M := by simp only [lenB, seqOf, w_some]
theorem w_lenL {xs : List D} {i : Nat} (h : M[i]? = some (.lst xs)) : W (lenB [.loc i] M) Q = Q (.int xs.length) M := by simp only [lenB, seqOf, h, w_some]
theorem w_addT {xs ys : List D} (h : xs.length + ys.length ≤ sizeLine) : W (opB .add (.tup xs) (.tup ys) M) Q = Q (.tup (xs ++ ys)) M := by rw [opB, addD, if_pos h, w_some]
theorem w_addL {xs ys : List D} {i j : Nat} (hi : M[i]? = some (.lst xs)) (hj : M[j]? = some (.lst ys)) (h : xs.length + ys.length ≤ sizeLine) : W (opB .add (.loc i) (.loc j) M) Q = Q (.loc M.length) (M ++ [.lst (xs ++ ys)]) := by
  rw [opB, addD, hi, hj]; simp only; rw [if_pos h, w_some]
theorem w_mulT {x : D} {k : Nat} (h : k ≤ 1000) : W (opB .mul (.tup [x]) (.int k) M) Q = Q (.tup (List.replicate k x)) M := by
  rw [opB, mulD, if_pos ⟨by simp, by omega, by omega, by simp⟩, w_some]
  simp
theorem w_mulLs {x : D} {k : Nat} {i : Nat} (hi : M[i]? = some (.lst [x])) (h : k ≤ 1000) : W (opB .mul (.loc i) (.int k) M) Q = Q (.loc M.length) (M ++ [.lst (List.replicate k x)]) := by
  have : (1000 : Nat) ≤ sizeLine := by decide
  rw [opB, mulD, hi]; simp only
  rw [if_pos ⟨by omega, by omega, by simp; omega⟩, w_some]
  simp
end
/-! ### kinds -/
section
variable {M : Sto} {d : D}
def isWhole : D → Bool
  | .int _ => true
  | _ => false
def isTup : D → Bool
  | .tup _ => true
  | _ => false
/-- what lies in the store is a list or a dict -/
inductive OkV (M : Sto) : D → Prop
  | non : OkV M .non
  | bl (b) : OkV M (.bl b)
  | int (i) : OkV M (.int i)
  | str (x) : OkV M (.str x)
  | tup {xs} (hl : xs.length ≤ 1000) (h : ∀ x ∈ xs, OkV M x) : OkV M (.tup xs)
  | loc {i} (h : LD M i) : OkV M (.loc i)
theorem OkV.mono {S : List Nat} {M' : Sto} (f : Fr S M M') {d : D} (h : OkV M d) : OkV M' d := by
  induction h with
  | non => exact .non
  | bl b => exact .bl b
  | int i => exact .int i
  | str x => exact .str x
  | tup hl _ ih => exact .tup hl ih
  | loc h => exact .loc (f.ld _ h)
theorem OkV.mem {xs : List D} (h : OkV M (.tup xs)) : ∀ x ∈ xs, OkV M x := by cases h; assumption
theorem OkV.len {xs : List D} (h : OkV M (.tup xs)) : xs.length ≤ 1000 := by cases h; assumption
theorem OkV.ld {i : Nat} (h : OkV M (.loc i)) : LD M i := by cases h; assumption
theorem isi_tup (h : OkV M d) : isiD .tuple d M = some (isTup d) := by
  cases h with
  | loc h => rcases h with ⟨xs, e⟩ | ⟨xs, e⟩ <;> simp [isiD, e, isTup]
  | _ => rfl
theorem isi_int (h : OkV M d) : isiD .int d M = some (match d with | .int _ => true | .bl _ => true | _ => false) := by
  cases h with
  | loc h => rcases h with ⟨xs, e⟩ | ⟨xs, e⟩ <;> simp [isiD, e]
  | _ => rfl
theorem isi_bool (h : OkV M d) : isiD .bool d M = some (match d with | .bl _ => true | _ => false) := by
  cases h with
  | loc h => rcases h with ⟨xs, e⟩ | ⟨xs, e⟩ <;> simp [isiD, e]
  | _ => rfl
end
/-! ### neighbours -/
def adj {α : Type} (r : α → α → Bool) (xs : List α) : Bool := (xs.zip xs.tail).all fun p => r p.1 p.2
theorem adj_iff {α : Type} {r : α → α → Bool} : ∀ {xs : List α}, adj r xs = true ↔ ∀ k (h : k + 1 < xs.length), r xs[k] xs[k + 1] = true
  | [] => by simp [adj]
  | [x] => by simp [adj]
  | x :: y :: xs => by
    have ih := adj_iff (r := r) (xs := y :: xs)
    simp only [adj, List.tail_cons, List.zip_cons_cons, List.all_cons, Bool.and_eq_true] at ih ⊢
    rw [ih]
    constructor
    · rintro ⟨h1, h2⟩ k hk
      cases k with
      | zero => exact h1
      | succ k => exact h2 k (by simpa using hk)
    · intro h
      exact ⟨h 0 (by simp), fun k hk => h (k + 1) (by simpa using hk)⟩
theorem cut1 (xs : List D) : cutD xs (some 1) none = xs.tail := by
  unfold cutD
  have e1 : HT.sIx xs.length 0 (some 1) = min 1 xs.length := rfl
  have e2 : HT.sIx xs.length xs.length none = xs.length := rfl
  rw [e1, e2]
  cases xs with
  | nil => rfl
  | cons x xs => simp [show min 1 (xs.length + 1) = 1 by omega]
theorem cut_to (xs : List D) (k : Nat) : cutD xs none (some (k : Int)) = xs.take k := by
  unfold cutD
  have e1 : HT.sIx xs.length 0 none = 0 := rfl
  have e2 : HT.sIx xs.length xs.length (some (k : Int)) = min k xs.length := HT.sIx_nat _ _ _
  rw [e1, e2]
  simp only [List.drop_zero, Nat.sub_zero]
  by_cases h : k ≤ xs.length
  · rw [Nat.min_eq_left h]
  · rw [Nat.min_eq_right (by omega), List.take_of_length_le (Nat.le_refl _), List.take_of_length_le (by omega)]
theorem cut_from (xs : List D) (k : Nat) : cutD xs (some (k : Int)) none = xs.drop k := by
  unfold cutD
  have e1 : HT.sIx xs.length 0 (some (k : Int)) = min k xs.length := HT.sIx_nat _ _ _
  have e2 : HT.sIx xs.length xs.length none = xs.length := rfl
  rw [e1, e2]
  by_cases h : k ≤ xs.length
  · rw [Nat.min_eq_left h, List.take_of_length_le]
    simp
  · rw [Nat.min_eq_right (by omega), List.drop_of_length_le (Nat.le_refl _), List.drop_of_length_le (by omega)]
    simp
theorem atI_nat {α : Type} (xs : List α) (k : Nat) : L2.atI xs (k : Int) = xs[k]? := by
  unfold L2.atI L2.ixN
  rw [if_pos (by omega)]
  by_cases h : k < xs.length
  · rw [if_pos (by omega)]; simp
  · rw [if_neg (by omega), List.getElem?_eq_none (by omega)]; rfl
theorem size1000 {n : Nat} (h : n ≤ 1000) : n ≤ sizeLine := Nat.le_trans h (by decide)
/-! ### ranges -/
def up : Nat → Int → List D
  | 0, _ => []
  | k + 1, a => .int a :: up k (a + 1)
theorem up_cons {x : D} {xs : List D} {k : Nat} {a : Int} (h : x :: xs = up k a) : ∃ j, k = j + 1 ∧ x = .int a ∧ xs = up j (a + 1) := by
  cases k with
  | zero => simp [up] at h
  | succ k => rw [up] at h; cases h; exact ⟨k, rfl, rfl, rfl⟩
theorem up_nil {k : Nat} {a : Int} (h : [] = up k a) : k = 0 := by
  cases k with
  | zero => rfl
  | succ k => simp [up] at h
theorem up_eq : ∀ (k : Nat) (a : Int), up k a = (List.range k).map fun i : Nat => .int (a + (i : Int))
  | 0, _ => rfl
  | k + 1, a => by
    rw [up, up_eq k, List.range_succ_eq_map, List.map_cons, List.map_map]
    simp only [Int.natCast_zero, Int.add_zero, Function.comp_def]
    congr 1
    refine List.map_congr_left fun i _ => ?_
    simp; omega
theorem rng_up {a b : Int} (ha : -1000 ≤ a ∧ a ≤ 1000) (hb : -1000 ≤ b ∧ b ≤ 1000) : rngD [.int a, .int b] = some (up (b - a).toNat a) := by
  simp only [rngD]
  rw [if_pos (by omega), up_eq]
theorem rng_up0 {b : Int} (hb : -1000 ≤ b ∧ b ≤ 1000) : rngD [.int b] = some (up b.toNat 0) := by
  simp only [rngD]
  rw [if_pos (by omega), up_eq]
theorem ixN_nat {n v : Nat} (h : v < n) : L2.ixN n (v : Int) = some v := by
  unfold L2.ixN
  rw [if_pos (by omega), if_pos (by omega), Int.toNat_natCast]
theorem Fr.setF {S : List Nat} {M M2 : Sto} {l : Nat} {o : MO} (f : Fr S M M2) (h : M.length ≤ l) (m : o.ld = true) : Fr S M (M2.set l o) :=
  Fr.fresh ((f.weak fun _ h => List.mem_cons_of_mem _ h).trans (.set (List.mem_cons_self ..) m)) h
end DD
namespace DD
open PySem PySem.W PyProof.Rows
/-! ### dicts with such keys -/
abbrev KEn := Key × D
def eD (e : KEn) : D × D := (kD e.1, e.2)
def putE (es : List KEn) (k : Key) (v : D) : List KEn := if es.any (fun e => decide (e.1 = k)) then es.map (fun e => if e.1 = k then (e.1, v) else e) else es ++ [(k, v)]
def lookE (es : List KEn) (k : Key) : Option D := (es.find? fun e => decide (e.1 = k)).map (·.2)
theorem kD_iff {a b : Key} : kD a = kD b ↔ a = b := ⟨kD_inj, fun h => by rw [h]⟩
theorem put_map (es : List KEn) (k : Key) (v : D) : putD (es.map eD) (kD k) v = (putE es k v).map eD := by
  unfold putD putE
  have e1 : (es.map eD).any (fun kv => decide (kv.1 = kD k)) = es.any (fun e => decide (e.1 = k)) := by
    rw [List.any_map]
    congr 1
    funext e
    simp [eD, kD_iff]
  rw [e1]
  cases es.any (fun e => decide (e.1 = k)) with
  | true =>
    simp only [if_true, List.map_map]
    refine List.map_congr_left fun e _ => ?_
    simp only [Function.comp_apply, eD, kD_iff]
    split <;> rfl
  | false => simp [eD]
theorem look_map (es : List KEn) (k : Key) : lookD (es.map eD) (kD k) = lookE es k := by
  unfold lookD lookE
  rw [List.find?_map]
  have : ((fun kv : D × D => decide (kv.1 = kD k)) ∘ eD) = fun e => decide (e.1 = k) := by
    funext e; simp [eD, kD_iff]
  rw [this]
  cases es.find? (fun e => decide (e.1 = k)) <;> rfl
theorem setD_kD {M : Sto} {l : Nat} {es : List KEn} {k : Key} {v : D} (h : M[l]? = some (.dct (es.map eD))) (hl : es.length < sizeLine) : setD M (.loc l) (kD k) v = some (M.set l (.dct ((putE es k v).map eD))) := by
  have ok := okKey_kD k
  have e : kD k = .tup [iD k.1, iD k.2] := rfl
  have : setD M (.loc l) (kD k) v = match M[l]? with
    | some (.dct kvs) => if okKey (kD k) && decide (kvs.length < sizeLine) then some (M.set l (.dct (putD kvs (kD k) v))) else none
    | _ => none := by rw [e]; rfl
  rw [this, h]
  simp only [ok, Bool.true_and, List.length_map, put_map]
  rw [if_pos (by simpa using hl)]
theorem ixD_kDs {M : Sto} {l : Nat} {es : List KEn} {k : Key} (h : M[l]? = some (.dct (es.map eD)) ∨ M[l]? = some (.fdct (es.map eD))) : ixD M (.loc l) (kD k) = lookE es k := by
  have ok := okKey_kD k
  have e : kD k = .tup [iD k.1, iD k.2] := rfl
  have : ixD M (.loc l) (kD k) = match M[l]? with
    | some (.dct kvs) => if okKey (kD k) then lookD kvs (kD k) else none
    | some (.fdct kvs) => if okKey (kD k) then lookD kvs (kD k) else none
    | _ => none := by rw [e]; rfl
  rcases h with h | h <;> rw [this, h] <;> simp only [ok, if_true, look_map]
theorem ixD_kD {M : Sto} {l : Nat} {es : List KEn} {k : Key} (h : M[l]? = some (.dct (es.map eD))) : ixD M (.loc l) (kD k) = lookE es k := ixD_kDs (.inl h)
theorem putE_len (es : List KEn) (k : Key) (v : D) : (putE es k v).length ≤ es.length + 1 := by
  unfold putE; split <;> simp
theorem putE_keys (es : List KEn) (k : Key) (v : D) : (putE es k v).map (·.1) = if k ∈ es.map (·.1) then es.map (·.1) else es.map (·.1) ++ [k] := by
  unfold putE
  have : es.any (fun e => decide (e.1 = k)) = decide (k ∈ es.map (·.1)) := by
    rw [Bool.eq_iff_iff]
    simp [List.any_eq_true, List.mem_map]
  rw [this]
  by_cases h : k ∈ es.map (·.1)
  · rw [if_pos (by simpa using h), if_pos h, List.map_map]
    refine List.map_congr_left fun e _ => ?_
    simp only [Function.comp_apply]
    split <;> rfl
  · rw [if_neg (by simpa using h), if_neg h]
    simp
theorem putE_nodup {es : List KEn} (h : (es.map (·.1)).Nodup) (k : Key) (v : D) : ((putE es k v).map (·.1)).Nodup := by
  rw [putE_keys]
  split
  · exact h
  · rename_i n
    rw [List.nodup_append]
    refine ⟨h, by simp, fun a ha b hb => ?_⟩
    simp at hb
    rw [hb]
    exact fun z => n (z ▸ ha)
theorem putE_mem {es : List KEn} {k : Key} {v : D} {e : KEn} (h : e ∈ putE es k v) : e ∈ es ∨ e = (k, v) := by
  unfold putE at h
  split at h
  · obtain ⟨d, hd, rfl⟩ := List.mem_map.mp h
    split
    · rename_i q; right; rw [← q]
    · exact .inl hd
  · rcases List.mem_append.mp h with h | h
    · exact .inl h
    · simp at h; exact .inr h
theorem lookE_mem {es : List KEn} (nd : (es.map (·.1)).Nodup) {e : KEn} (h : e ∈ es) : lookE es e.1 = some e.2 := by
  induction es with
  | nil => cases h
  | cons d ds ih =>
    simp only [List.map_cons, List.nodup_cons] at nd
    unfold lookE
    by_cases q : d.1 = e.1
    · rw [List.find?_cons_of_pos (by simpa using q)]
      rcases List.mem_cons.mp h with h | h
      · rw [h]; rfl
      · exact (nd.1 (by rw [q]; exact List.mem_map.mpr ⟨e, h, rfl⟩)).elim
    · rw [List.find?_cons_of_neg (by simpa using q)]
      rcases List.mem_cons.mp h with h | h
      · exact (q (by rw [h])).elim
      · exact ih nd.2 h
theorem pick_map {α β γ : Type} {f : α → γ} {g : β → γ} {P : α → β → Prop} : ∀ {l : List α}, (∀ a ∈ l, ∃ b, f a = g b ∧ P a b) → ∃ T : List β, l.map f = T.map g ∧ Fa2 P l T
  | [], _ => ⟨[], rfl, .nil⟩
  | a :: l, h => by
    obtain ⟨b, e, p⟩ := h a (by simp)
    obtain ⟨T, e2, q⟩ := pick_map fun a ha => h a (List.mem_cons_of_mem _ ha)
    exact ⟨b :: T, by simp [e, e2], .cons p q⟩
theorem Fa2.memR {α β : Type} {P : α → β → Prop} {l : List α} {T : List β} (h : Fa2 P l T) : ∀ b ∈ T, ∃ a ∈ l, P a b := by
  induction h with
  | nil => exact fun _ h => nomatch h
  | cons p _ ih =>
    intro b hb
    rcases List.mem_cons.mp hb with rfl | hb
    · exact ⟨_, by simp, p⟩
    · obtain ⟨a, ha, q⟩ := ih b hb
      exact ⟨a, List.mem_cons_of_mem _ ha, q⟩
theorem Fa2.map_eq {α β γ : Type} {P : α → β → Prop} {f : α → γ} {g : β → γ} {l : List α} {T : List β} (h : Fa2 P l T) (k : ∀ a b, P a b → f a = g b) : l.map f = T.map g := by
  induction h with
  | nil => rfl
  | cons p _ ih => simp [k _ _ p, ih]
end DD
namespace DD
open PySem PySem.W PyProof.Rows
/-! ### fractions as data -/
def tv (r : Rat) : D := .tup [.int r.num, .int r.den]
theorem tv_inj {r s : Rat} (h : tv r = tv s) : r = s := by
  simp only [tv, D.tup.injEq, List.cons.injEq, D.int.injEq, and_true] at h
  exact Rat.ext h.1 (by omega)
theorem okDiv_big {x : Int} {y : Nat} (h0 : 0 < y) (h : y < 2 ^ 9000) : okDiv x y = true := by
  have hd : Builtin.divisionGoesByPylong x y = false := by
    unfold Builtin.divisionGoesByPylong
    simp only [Bool.and_eq_false_iff, decide_eq_false_iff_not]
    left
    have hy : ((y : Int) == 0) = false := by simp; omega
    rw [hy]
    simp only [Bool.false_eq_true, if_false, Int.natAbs_natCast]
    have : y.log2 < 9000 := (Nat.log2_lt (by omega)).mpr h
    omega
  simp only [okDiv, hd, Bool.not_false, Bool.and_true, Bool.and_eq_true, Bool.or_eq_true, decide_eq_true_eq]
  exact ⟨by omega, .inr (by omega)⟩
theorem w_fdivB {M : Sto} {Q : D → Sto → Prop} {a : Int} {b : Nat} (h0 : 0 < b) (h : b < 2 ^ 9000) : W (opB .fdiv (.int a) (.int b) M) Q = Q (.int (a.fdiv b)) M := by
  rw [opB, fdivD, if_pos (okDiv_big h0 h), w_some]
theorem okMul_big {x y : Int} (hx : x.natAbs < 2 ^ 9000) (hy : y.natAbs < 2 ^ 9000) : okMul x y = true := by
  have hb : ∀ z : Int, z.natAbs < 2 ^ 9000 → Builtin.Int.intBits z ≤ 9000 := fun z hz => by
    unfold Builtin.Int.intBits
    split
    · omega
    · rename_i h
      have h0 : z.natAbs ≠ 0 := by simpa using h
      have := (Nat.log2_lt h0).mpr hz
      omega
  have h1 := hb x hx
  have h2 := hb y hy
  unfold okMul
  simp only [Bool.or_eq_true, decide_eq_true_eq]
  right; omega
theorem w_mulB {M : Sto} {Q : D → Sto → Prop} {a b : Int} (hx : a.natAbs < 2 ^ 9000) (hy : b.natAbs < 2 ^ 9000) : W (opB .mul (.int a) (.int b) M) Q = Q (.int (a * b)) M := w_mul (okMul_big hx hy)
theorem mk_parts {n : Int} {m : Nat} (h : 0 < m) : n.fdiv (Nat.gcd n.natAbs m) = (mkRat n m).num ∧ ((m : Int).fdiv (Nat.gcd n.natAbs m)) = (mkRat n m).den := by
  have h0 : m ≠ 0 := by omega
  rw [Rat.num_mkRat, Rat.den_mkRat, if_neg h0, if_neg h0, Nat.gcd_comm m]
  have hg : 0 < Nat.gcd n.natAbs m := Nat.gcd_pos_of_pos_right _ h
  rw [Int.fdiv_eq_ediv_of_nonneg _ (by omega), Int.fdiv_eq_ediv_of_nonneg _ (by omega)]
  exact ⟨rfl, rfl⟩
/-! ### how great they may be -/
/-- r is a whole number of L-ths, B of them at most -/
def Bd (L B : Nat) (r : Rat) : Prop := ∃ z : Int, r = mkRat z L ∧ z.natAbs ≤ B
theorem Bd.den {L B : Nat} {r : Rat} (h : Bd L B r) (hL : 0 < L) : r.den ≤ L := by
  obtain ⟨z, rfl, _⟩ := h
  rw [Rat.den_mkRat, if_neg (by omega)]
  exact Nat.div_le_self _ _
theorem Bd.num {L B : Nat} {r : Rat} (h : Bd L B r) (hL : 0 < L) : r.num.natAbs ≤ B := by
  obtain ⟨z, rfl, hz⟩ := h
  rw [Rat.num_mkRat, if_neg (by omega)]
  refine Nat.le_trans ?_ hz
  have hg : 0 < L.gcd z.natAbs := Nat.gcd_pos_of_pos_left _ hL
  obtain ⟨c, hc⟩ := Nat.gcd_dvd_right L z.natAbs
  obtain ⟨e, he⟩ : ((L.gcd z.natAbs : Nat) : Int) ∣ z := by
    rw [← Int.dvd_natAbs]
    exact Int.natCast_dvd_natCast.mpr (Nat.gcd_dvd_right _ _)
  generalize L.gcd z.natAbs = g at *
  rw [he, Int.mul_ediv_cancel_left _ (by omega), Int.natAbs_mul, Int.natAbs_natCast]
  exact Nat.le_mul_of_pos_left _ hg
theorem Bd.add {L B C : Nat} {r s : Rat} (h : Bd L B r) (g : Bd L C s) (hL : 0 < L) : Bd L (B + C) (r + s) := by
  obtain ⟨x, rfl, hx⟩ := h
  obtain ⟨y, rfl, hy⟩ := g
  refine ⟨x + y, ?_, by omega⟩
  rw [Rat.mkRat_add_mkRat _ _ (by omega) (by omega), ← Int.add_mul, Rat.mkRat_mul_right (by omega)]
theorem Bd.mul {L K B C : Nat} {r s : Rat} (h : Bd L B r) (g : Bd K C s) : Bd (L * K) (B * C) (r * s) := by
  obtain ⟨x, rfl, hx⟩ := h
  obtain ⟨y, rfl, hy⟩ := g
  refine ⟨x * y, Rat.mkRat_mul_mkRat _ _ _ _, ?_⟩
  rw [Int.natAbs_mul]
  exact Nat.mul_le_mul hx hy
theorem Bd.mono {L B C : Nat} {r : Rat} (h : Bd L B r) (l : B ≤ C) : Bd L C r := let ⟨x, e, q⟩ := h; ⟨x, e, Nat.le_trans q l⟩
theorem Bd.zero {L B : Nat} : Bd L B 0 := ⟨0, by simp, by simp⟩
theorem Bd.int {z : Int} : Bd 1 z.natAbs (z : Rat) := ⟨z, Rat.ext (by rw [Rat.num_mkRat]; simp) (by rw [Rat.den_mkRat]; simp), Nat.le_refl _⟩
theorem Bd.scale {L B : Nat} {r : Rat} (h : Bd L B r) {c : Nat} (hc : 0 < c) : Bd (c * L) (c * B) r := by
  obtain ⟨x, rfl, hx⟩ := h
  refine ⟨c * x, (Rat.mkRat_mul_left (by omega)).symm, ?_⟩
  rw [Int.natAbs_mul, Int.natAbs_natCast]
  exact Nat.mul_le_mul_left _ hx
theorem Bd.self (r : Rat) : Bd r.den r.num.natAbs r := ⟨r.num, (Rat.mkRat_self r).symm, Nat.le_refl _⟩
theorem Bd.scaleR {L B : Nat} {r : Rat} (h : Bd L B r) {c : Nat} (hc : 0 < c) : Bd (L * c) (B * c) r := by
  rw [Nat.mul_comm L, Nat.mul_comm B]; exact h.scale hc
theorem Bd.neg {L B : Nat} {r : Rat} (h : Bd L B r) : Bd L B (-r) := by
  obtain ⟨x, rfl, hx⟩ := h
  exact ⟨-x, Rat.neg_mkRat _ _, by simpa using hx⟩
end DD
namespace DD
open PySem PySem.W PyProof.Rows
/-! ### tables of numbers, formal sums -/
abbrev Cf := Key × Rat
def dsum : List Cf → Key → Rat
  | [], _ => 0
  | e :: L, k => (if e.1 = k then e.2 else 0) + dsum L k
theorem dsum_append (A B : List Cf) (k : Key) : dsum (A ++ B) k = dsum A k + dsum B k := by
  induction A with
  | nil => simp [dsum, Rat.zero_add]
  | cons a A ih => simp only [List.cons_append, dsum, ih, Rat.add_assoc]
theorem dsum_none {T : List Cf} {k : Key} (h : k ∉ T.map (·.1)) : dsum T k = 0 := by
  induction T with
  | nil => rfl
  | cons e T ih =>
    simp only [List.map_cons, List.mem_cons, not_or] at h
    simp only [dsum, if_neg (Ne.symm h.1), ih h.2, Rat.zero_add]
theorem dsum_mem {T : List Cf} (nd : (T.map (·.1)).Nodup) {e : Cf} (h : e ∈ T) : dsum T e.1 = e.2 := by
  induction T with
  | nil => cases h
  | cons d T ih =>
    simp only [List.map_cons, List.nodup_cons] at nd
    simp only [dsum]
    rcases List.mem_cons.mp h with rfl | h
    · rw [if_pos rfl, dsum_none nd.1, Rat.add_zero]
    · have : d.1 ≠ e.1 := fun q => nd.1 (by rw [q]; exact List.mem_map.mpr ⟨e, h, rfl⟩)
      rw [if_neg this, ih nd.2 h, Rat.zero_add]
def putC (T : List Cf) (k : Key) (v : Rat) : List Cf := if T.any (fun e => decide (e.1 = k)) then T.map (fun e => if e.1 = k then (e.1, v) else e) else T ++ [(k, v)]
def tE (T : List Cf) : List KEn := T.map fun e => (e.1, tv e.2)
theorem tE_keys (T : List Cf) : (tE T).map (·.1) = T.map (·.1) := by simp [tE]
theorem any_key {T : List Cf} {k : Key} : T.any (fun e => decide (e.1 = k)) = decide (k ∈ T.map (·.1)) := by
  rw [Bool.eq_iff_iff]
  simp [List.any_eq_true, List.mem_map]
theorem tE_put (T : List Cf) (k : Key) (v : Rat) : putE (tE T) k (tv v) = tE (putC T k v) := by
  unfold putE putC
  have e1 : (tE T).any (fun e => decide (e.1 = k)) = T.any (fun e => decide (e.1 = k)) := by simp [tE, List.any_map, Function.comp_def]
  rw [e1]
  split
  · simp only [tE, List.map_map]
    refine List.map_congr_left fun e _ => ?_
    simp only [Function.comp_apply]
    split <;> rfl
  · simp [tE]
theorem tE_look {T : List Cf} (nd : (T.map (·.1)).Nodup) (k : Key) : lookE (tE T) k = if k ∈ T.map (·.1) then some (tv (dsum T k)) else none := by
  split
  · rename_i h
    obtain ⟨e, he, rfl⟩ := List.mem_map.mp h
    have : lookE (tE T) (e.1, tv e.2).1 = some (e.1, tv e.2).2 := lookE_mem (by rw [tE_keys]; exact nd) (List.mem_map.mpr ⟨e, he, rfl⟩)
    rw [dsum_mem nd he]; exact this
  · rename_i h
    unfold lookE
    rw [List.find?_eq_none.mpr, Option.map_none]
    intro x hx
    obtain ⟨e, he, rfl⟩ := List.mem_map.mp hx
    simp only [decide_eq_true_eq]
    exact fun q => h (List.mem_map.mpr ⟨e, he, q⟩)
theorem putC_keys (T : List Cf) (k : Key) (v : Rat) : (putC T k v).map (·.1) = if k ∈ T.map (·.1) then T.map (·.1) else T.map (·.1) ++ [k] := by
  unfold putC
  rw [any_key]
  by_cases h : k ∈ T.map (·.1)
  · rw [if_pos (by simpa using h), if_pos h, List.map_map]
    refine List.map_congr_left fun e _ => ?_
    simp only [Function.comp_apply]
    split <;> rfl
  · rw [if_neg (by simpa using h), if_neg h]
    simp
theorem putC_nodup {T : List Cf} (h : (T.map (·.1)).Nodup) (k : Key) (v : Rat) : ((putC T k v).map (·.1)).Nodup := by
  rw [putC_keys]
  split
  · exact h
  · rename_i n
    rw [List.nodup_append]
    refine ⟨h, by simp, fun a ha b hb => ?_⟩
    simp at hb
    rw [hb]
    exact fun z => n (z ▸ ha)
theorem putC_len (T : List Cf) (k : Key) (v : Rat) : (putC T k v).length ≤ T.length + 1 := by
  unfold putC; split <;> simp
theorem putC_mem {T : List Cf} {k : Key} {v : Rat} {e : Cf} (h : e ∈ putC T k v) : e ∈ T ∨ e = (k, v) := by
  unfold putC at h
  split at h
  · obtain ⟨d, hd, rfl⟩ := List.mem_map.mp h
    split
    · rename_i q; right; rw [← q]
    · exact .inl hd
  · rcases List.mem_append.mp h with h | h
    · exact .inl h
    · simp at h; exact .inr h
theorem mem_putC {T : List Cf} {k : Key} {v : Rat} {e : Cf} (h : e ∈ T) (n : e.1 ≠ k) : e ∈ putC T k v := by
  unfold putC
  split
  · exact List.mem_map.mpr ⟨e, h, if_neg n⟩
  · exact List.mem_append_left _ h
theorem self_putC {T : List Cf} {k : Key} {v : Rat} : (k, v) ∈ putC T k v := by
  unfold putC
  split
  · rename_i h
    obtain ⟨e, he, q⟩ := List.any_eq_true.mp h
    have q := of_decide_eq_true q
    exact List.mem_map.mpr ⟨e, he, by rw [if_pos q, q]⟩
  · simp
theorem dsum_put {T : List Cf} (nd : (T.map (·.1)).Nodup) (k : Key) (v : Rat) (k' : Key) : dsum (putC T k v) k' = if k' = k then v else dsum T k' := by
  have nd' := putC_nodup nd k v
  split
  · rename_i e; subst e
    exact dsum_mem nd' self_putC
  · rename_i n
    by_cases h : k' ∈ T.map (·.1)
    · obtain ⟨e, he, rfl⟩ := List.mem_map.mp h
      rw [dsum_mem nd he, dsum_mem nd' (mem_putC he n)]
    · rw [dsum_none h, dsum_none]
      rw [putC_keys]
      split
      · exact h
      · simp [h, n]
/-- a key is taken out -/
def delC (T : List Cf) (k : Key) : List Cf := T.filter fun e => decide (e.1 ≠ k)
theorem delC_nodup {T : List Cf} (h : (T.map (·.1)).Nodup) (k : Key) : ((delC T k).map (·.1)).Nodup := h.sublist (List.filter_sublist.map _)
theorem dsum_del {T : List Cf} (nd : (T.map (·.1)).Nodup) (k k' : Key) : dsum (delC T k) k' = if k' = k then 0 else dsum T k' := by
  split
  · rename_i e; subst e
    refine dsum_none fun h => ?_
    obtain ⟨e, he, q⟩ := List.mem_map.mp h
    have := (List.mem_filter.mp he).2
    simp [q] at this
  · rename_i n
    by_cases h : k' ∈ T.map (·.1)
    · obtain ⟨e, he, rfl⟩ := List.mem_map.mp h
      rw [dsum_mem nd he, dsum_mem (delC_nodup nd k) (List.mem_filter.mpr ⟨he, by simpa using n⟩)]
    · rw [dsum_none h, dsum_none]
      intro q
      obtain ⟨e, he, rfl⟩ := List.mem_map.mp q
      exact h (List.mem_map.mpr ⟨e, (List.mem_filter.mp he).1, rfl⟩)
/-! ### the one way to write a table -/
theorem sorted_eq : ∀ {as bs : List Key}, as.Pairwise (fun a b => keyLt a b = true) → bs.Pairwise (fun a b => keyLt a b = true) → (∀ k, k ∈ as ↔ k ∈ bs) → as = bs
  | [], [], _, _, _ => rfl
  | a :: as, [], _, _, h => absurd ((h a).mp (by simp)) (by simp)
  | [], b :: bs, _, _, h => absurd ((h b).mpr (by simp)) (by simp)
  | a :: as, b :: bs, ha, hb, h => by
    obtain ⟨ha1, ha2⟩ := List.pairwise_cons.mp ha
    obtain ⟨hb1, hb2⟩ := List.pairwise_cons.mp hb
    have irr : ∀ x, ¬ keyLt x x = true := fun x q => by rw [keyLt_irrefl] at q; cases q
    have e : a = b := by
      rcases List.mem_cons.mp ((h a).mp (by simp)) with q | q
      · exact q
      · rcases List.mem_cons.mp ((h b).mpr (by simp)) with r | r
        · exact r.symm
        · exact (irr a (keyLt_trans (ha1 b r) (hb1 a q))).elim
    subst e
    rw [sorted_eq ha2 hb2 fun k => ⟨fun q => ?_, fun q => ?_⟩]
    · rcases List.mem_cons.mp ((h k).mp (List.mem_cons_of_mem _ q)) with r | r
      · subst r; exact (irr k (ha1 k q)).elim
      · exact r
    · rcases List.mem_cons.mp ((h k).mpr (List.mem_cons_of_mem _ q)) with r | r
      · subst r; exact (irr k (hb1 k q)).elim
      · exact r
/-- the keys with a number, in order -/
def supp (T : List Cf) : List Key := keySort ((T.filter fun e => decide (e.2 ≠ 0)).map (·.1))
def canon (T : List Cf) : List Cf := (supp T).map fun k => (k, dsum T k)
theorem mem_supp {T : List Cf} (nd : (T.map (·.1)).Nodup) (k : Key) : k ∈ supp T ↔ dsum T k ≠ 0 := by
  unfold supp
  rw [(keySort_perm _).mem_iff]
  constructor
  · intro h
    obtain ⟨e, he, rfl⟩ := List.mem_map.mp h
    obtain ⟨h1, h2⟩ := List.mem_filter.mp he
    rw [dsum_mem nd h1]; simpa using h2
  · intro h
    by_cases q : k ∈ T.map (·.1)
    · obtain ⟨e, he, rfl⟩ := List.mem_map.mp q
      rw [dsum_mem nd he] at h
      exact List.mem_map.mpr ⟨e, List.mem_filter.mpr ⟨he, by simpa using h⟩, rfl⟩
    · exact (h (dsum_none q)).elim
theorem supp_sorted {T : List Cf} (nd : (T.map (·.1)).Nodup) : (supp T).Pairwise fun a b => keyLt a b = true := keySort_strict (nd.sublist (List.filter_sublist.map _))
theorem canon_ext {T U : List Cf} (nd : (T.map (·.1)).Nodup) (nu : (U.map (·.1)).Nodup) (h : ∀ k, dsum T k = dsum U k) : canon T = canon U := by
  have e : supp T = supp U := sorted_eq (supp_sorted nd) (supp_sorted nu) fun k => by rw [mem_supp nd, mem_supp nu, h k]
  unfold canon
  rw [e]
  exact List.map_congr_left fun k _ => by rw [h k]
theorem canon_keys (T : List Cf) : (canon T).map (·.1) = supp T := by
  unfold canon
  rw [List.map_map]
  exact List.map_id' _
theorem canon_nodup {T : List Cf} (nd : (T.map (·.1)).Nodup) : ((canon T).map (·.1)).Nodup := by
  rw [canon_keys]
  exact (keySort_perm _).nodup_iff.mpr (nd.sublist (List.filter_sublist.map _))
theorem dsum_canon {T : List Cf} (nd : (T.map (·.1)).Nodup) (k : Key) : dsum (canon T) k = dsum T k := by
  by_cases h : k ∈ supp T
  · exact dsum_mem (canon_nodup nd) (e := (k, dsum T k)) (List.mem_map.mpr ⟨k, h, rfl⟩)
  · rw [dsum_none (by rw [canon_keys]; exact h)]
    rw [mem_supp nd] at h
    exact (Decidable.not_not.mp h).symm
/-! ### what hangs on the sum alone -/
def lin (φ : Key → Rat) : List Cf → Rat
  | [] => 0
  | e :: L => e.2 * φ e.1 + lin φ L
theorem lin_append (φ : Key → Rat) (A B : List Cf) : lin φ (A ++ B) = lin φ A + lin φ B := by
  induction A with
  | nil => simp [lin, Rat.zero_add]
  | cons a A ih => simp only [List.cons_append, lin, ih, Rat.add_assoc]
theorem lin_split (φ : Key → Rat) (k : Key) (L : List Cf) : lin φ L = dsum L k * φ k + lin φ (delC L k) := by
  induction L with
  | nil => simp only [lin, dsum, delC, List.filter_nil]; grind
  | cons e L ih =>
    simp only [lin, dsum, ih, delC]
    by_cases h : e.1 = k
    · rw [List.filter_cons_of_neg (by simpa using h), if_pos h, h]
      grind
    · rw [List.filter_cons_of_pos (by simpa using h), if_neg h]
      simp only [lin, delC]
      grind
theorem dsum_delL (L : List Cf) (k k' : Key) : dsum (delC L k) k' = if k' = k then 0 else dsum L k' := by
  induction L with
  | nil => simp [delC, dsum]
  | cons e L ih =>
    unfold delC at ih ⊢
    by_cases h : e.1 = k
    · rw [List.filter_cons_of_neg (by simpa using h), ih]
      split
      · rfl
      · rename_i n
        simp only [dsum]
        rw [if_neg (by rw [h]; exact Ne.symm n), Rat.zero_add]
    · rw [List.filter_cons_of_pos (by simpa using h)]
      simp only [dsum, ih]
      by_cases q : k' = k
      · subst q
        rw [if_neg h, if_pos rfl, if_pos rfl, Rat.zero_add]
      · rw [if_neg q, if_neg q]
theorem lin_zero (φ : Key → Rat) : ∀ (n : Nat) (L : List Cf), L.length ≤ n → (∀ k, dsum L k = 0) → lin φ L = 0
  | _, [], _, _ => rfl
  | 0, _ :: _, h, _ => by simp at h
  | n + 1, e :: L, h, z => by
    rw [lin_split φ e.1, z e.1, Rat.zero_mul, Rat.zero_add]
    refine lin_zero φ n _ ?_ fun k => ?_
    · unfold delC
      rw [List.filter_cons_of_neg (by simp)]
      have := List.length_filter_le (fun e' : Cf => decide (e'.1 ≠ e.1)) L
      simp at h
      omega
    · rw [dsum_delL]; split
      · rfl
      · exact z k
def negL (L : List Cf) : List Cf := L.map fun e => (e.1, -e.2)
theorem dsum_neg (L : List Cf) (k : Key) : dsum (negL L) k = -dsum L k := by
  induction L with
  | nil => rfl
  | cons e L ih =>
    have e1 : negL (e :: L) = (e.1, -e.2) :: negL L := rfl
    rw [e1]
    simp only [dsum, ih]
    split <;> grind
theorem lin_neg (φ : Key → Rat) (L : List Cf) : lin φ (negL L) = -lin φ L := by
  induction L with
  | nil => rfl
  | cons e L ih =>
    have e1 : negL (e :: L) = (e.1, -e.2) :: negL L := rfl
    rw [e1]
    simp only [lin, ih]
    grind
theorem lin_ext (φ : Key → Rat) {A B : List Cf} (h : ∀ k, dsum A k = dsum B k) : lin φ A = lin φ B := by
  have := lin_zero φ _ (A ++ negL B) (Nat.le_refl _) fun k => by rw [dsum_append, dsum_neg, h k]; grind
  rw [lin_append, lin_neg] at this
  grind
end DD
namespace DD
open PySem
section
variable {F : Fns} {δ : Env} {M : Sto} {Q : D → Sto → Prop}
theorem w_dc {ke ve : Ex} {t : Tgc} {it : Itx} {ifs : List Ex} : W (evE F (.dc ke ve t it ifs) δ M) Q = WI (evI F it δ M) fun xs ok M1 =>
    ∃ M2, loopD (fun δ' M' => evE F ke δ' M') (fun δ' M' => evE F ve δ' M') (fun δ' M' => evC F ifs δ' M') (fun d => bindC t d (wipeD δ (ownC t))) ok M1.length xs (M1 ++ [.dct []]) = some M2 ∧ Q (.loc M1.length) M2 := by
  rw [evE]; rcases evI F it δ M with _ | ⟨xs, ok, M1⟩
  · simp [w_none, wi_none]
  · simp only [wi_some]
    generalize loopD (fun δ' M' => evE F ke δ' M') (fun δ' M' => evE F ve δ' M') (fun δ' M' => evC F ifs δ' M') (fun d => bindC t d (wipeD δ (ownC t))) ok M1.length xs (M1 ++ [.dct []]) = z
    rcases z with _ | M2 <;> simp [w_some, w_none]
end
/-- the entries put one after another -/
def putAll (g : D → KEn) (xs : List D) (acc : List KEn) : List KEn := xs.foldl (fun es x => putE es (g x).1 (g x).2) acc
theorem putAll_len (g : D → KEn) : ∀ (xs : List D) (acc : List KEn), (putAll g xs acc).length ≤ acc.length + xs.length
  | [], acc => by simp [putAll]
  | x :: xs, acc => by
    have := putAll_len g xs (putE acc (g x).1 (g x).2)
    have h2 := putE_len acc (g x).1 (g x).2
    simp only [putAll, List.foldl_cons, List.length_cons] at *
    omega
theorem putE_new {es : List KEn} {k : Key} {v : D} (h : k ∉ es.map (·.1)) : putE es k v = es ++ [(k, v)] := by
  unfold putE
  rw [if_neg]
  intro z
  obtain ⟨e, he, h2⟩ := List.any_eq_true.mp z
  exact h (List.mem_map.mpr ⟨e, he, of_decide_eq_true h2⟩)
theorem putAll_new (g : D → KEn) : ∀ (xs : List D) (acc : List KEn), ((acc ++ xs.map g).map (·.1)).Nodup → putAll g xs acc = acc ++ xs.map g
  | [], acc, h => by simp [putAll]
  | x :: xs, acc, h => by
    have hn : (g x).1 ∉ acc.map (·.1) := by
      rw [List.map_append, List.nodup_append] at h
      intro z
      exact h.2.2 _ z _ (by simp) rfl
    have := putAll_new g xs (acc ++ [g x]) (by simpa using h)
    simp only [putAll, List.foldl_cons] at *
    rw [putE_new hn, this]
    simp
theorem loopD_gen {kf vf : Env → Sto → Option (D × Sto)} {cond : Env → Sto → Option (Bool × Sto)} {bind : D → Option Env} {ok : Sto → Bool} {n : Nat} (g : D → KEn) :
    ∀ (xs : List D) (M : Sto) (acc : List KEn), M[n]? = some (.dct (acc.map eD)) → acc.length + xs.length ≤ sizeLine → (∀ M', Fr [n] M M' → ok M' = true) →
      (∀ x ∈ xs, ∀ M', Fr [n] M M' → ∃ δ, bind x = some δ ∧ W (cond δ M') fun b M1 => Fr [] M' M1 ∧ b = true ∧ W (kf δ M1) fun k M2 => Fr [] M1 M2 ∧ k = kD (g x).1 ∧ W (vf δ M2) fun v M3 => Fr [] M2 M3 ∧ v = (g x).2) →
      ∃ M', loopD kf vf cond bind ok n xs M = some M' ∧ Fr [n] M M' ∧ M'[n]? = some (.dct ((putAll g xs acc).map eD))
  | [], M, acc, hn, hl, hok, h => ⟨M, by rw [loopD, hok M .refl]; rfl, .refl, hn⟩
  | x :: xs, M, acc, hn, hl, hok, h => by
    obtain ⟨δ, hb, b, M1, hc, f1, rfl, k, M2, e2, f2, rfl, v, M3, e3, f3, rfl⟩ := h x (List.mem_cons_self ..) M .refl
    have F3 : Fr [] M M3 := f1.trans (f2.trans f3)
    have hn3 : M3[n]? = some (.dct (acc.map eD)) := F3.get hn (by simp)
    have l3 : n < M3.length := (List.getElem?_eq_some_iff.mp hn3).1
    simp only [List.length_cons] at hl
    have F4 : Fr [n] M (M3.set n (.dct ((putE acc (g x).1 (g x).2).map eD))) := F3.nil.trans (.set (by simp) rfl)
    obtain ⟨M', e, f, en⟩ := loopD_gen g xs (M3.set n (.dct ((putE acc (g x).1 (g x).2).map eD))) (putE acc (g x).1 (g x).2) (List.getElem?_set_self l3) (by have := putE_len acc (g x).1 (g x).2; omega) (fun M' f => hok M' (F4.trans f)) fun y hy M' f => h y (List.mem_cons_of_mem _ hy) M' (F4.trans f)
    refine ⟨M', ?_, F4.trans f, by simpa [putAll] using en⟩
    rw [loopD, hok M .refl, hb]
    simp only [if_true]
    rw [hc]
    simp only
    rw [e2]
    simp only
    rw [e3]
    simp only
    rw [hn3]
    simp only [okKey_kD, Bool.true_and, List.length_map, decide_eq_true_eq]
    rw [if_pos (by omega), put_map]
    exact e
theorem dc_w {kf vf : Env → Sto → Option (D × Sto)} {cond : Env → Sto → Option (Bool × Sto)} {bind : D → Option Env} {ok : Sto → Bool} {xs : List D} {M0 : Sto} {Q : Sto → Prop} (g : D → KEn) (hl : xs.length ≤ sizeLine) (hok : ∀ M', Fr [] M0 M' → ok M' = true)
    (h : ∀ x ∈ xs, ∀ M', Fr [] M0 M' → ∃ δ, bind x = some δ ∧ W (cond δ M') fun b M1 => Fr [] M' M1 ∧ b = true ∧ W (kf δ M1) fun k M2 => Fr [] M1 M2 ∧ k = kD (g x).1 ∧ W (vf δ M2) fun v M3 => Fr [] M2 M3 ∧ v = (g x).2)
    (k : ∀ M2, Fr [] M0 M2 → M2[M0.length]? = some (.dct ((putAll g xs []).map eD)) → Q M2) : ∃ M2, loopD kf vf cond bind ok M0.length xs (M0 ++ [.dct []]) = some M2 ∧ Q M2 := by
  have f0 : ∀ {M'}, Fr [M0.length] (M0 ++ [.dct []]) M' → Fr [] M0 M' := fun f => Fr.fresh ((Fr.app (S := [M0.length])).trans f) (Nat.le_refl _)
  obtain ⟨M', e, f, en⟩ := loopD_gen g xs (M0 ++ [.dct []]) [] (by simp) (by simpa using hl) (fun M' f => hok M' (f0 f)) fun x hx M' f => h x hx M' (f0 f)
  exact ⟨M', e, k M' (f0 f) en⟩
end DD
namespace DD
open PySem PySem.W PyProof.Rows
/-! ### gathered: one entry a key -/
def accC (T es : List Cf) : List Cf := es.foldl (fun T e => putC T e.1 (dsum T e.1 + e.2)) T
theorem accC_cons (T : List Cf) (e : Cf) (es : List Cf) : accC T (e :: es) = accC (putC T e.1 (dsum T e.1 + e.2)) es := rfl
theorem accC_app (T es fs : List Cf) : accC T (es ++ fs) = accC (accC T es) fs := by simp [accC, List.foldl_append]
theorem accC_nodup : ∀ (es : List Cf) {T : List Cf}, (T.map (·.1)).Nodup → ((accC T es).map (·.1)).Nodup
  | [], _, h => h
  | e :: es, _, h => accC_nodup es (putC_nodup h _ _)
theorem accC_len : ∀ (es T : List Cf), (accC T es).length ≤ T.length + es.length
  | [], T => Nat.le_refl _
  | e :: es, T => by
    have := accC_len es (putC T e.1 (dsum T e.1 + e.2))
    have h2 := putC_len T e.1 (dsum T e.1 + e.2)
    rw [accC_cons]; simp only [List.length_cons]; omega
theorem dsum_acc : ∀ (es : List Cf) {T : List Cf} (nd : (T.map (·.1)).Nodup) (k : Key), dsum (accC T es) k = dsum T k + dsum es k
  | [], T, _, k => by simp [accC, dsum, Rat.add_zero]
  | e :: es, T, nd, k => by
    rw [accC_cons, dsum_acc es (putC_nodup nd _ _) k, dsum_put nd]
    simp only [dsum]
    by_cases h : k = e.1
    · subst h; simp only [if_true, Rat.add_assoc]
    · rw [if_neg h, if_neg (Ne.symm h), Rat.zero_add]
theorem putC_keys_sub {T : List Cf} {k : Key} {v : Rat} {q : Key} (h : q ∈ (putC T k v).map (·.1)) : q ∈ T.map (·.1) ∨ q = k := by
  rw [putC_keys] at h
  split at h
  · exact .inl h
  · simpa using h
theorem accC_keys : ∀ (es : List Cf) {T : List Cf} {q : Key}, q ∈ (accC T es).map (·.1) → q ∈ T.map (·.1) ∨ q ∈ es.map (·.1)
  | [], _, _, h => .inl h
  | e :: es, T, q, h => by
    rcases accC_keys es h with h | h
    · rcases putC_keys_sub h with h | h
      · exact .inl h
      · exact .inr (by simp [h])
    · exact .inr (by rw [List.map_cons]; exact List.mem_cons_of_mem _ h)
def nrm (A : List Cf) : List Cf := accC [] A
theorem nrm_nodup (A : List Cf) : ((nrm A).map (·.1)).Nodup := accC_nodup A (by simp)
theorem dsum_nrm (A : List Cf) (k : Key) : dsum (nrm A) k = dsum A k := by rw [nrm, dsum_acc A (by simp)]; simp [dsum, Rat.zero_add]
/-- the same formal sum -/
def Eqs (A B : List Cf) : Prop := ∀ k, dsum A k = dsum B k
theorem Eqs.rfl {A : List Cf} : Eqs A A := fun _ => _root_.rfl
theorem Eqs.symm {A B : List Cf} (h : Eqs A B) : Eqs B A := fun k => (h k).symm
theorem Eqs.trans {A B C : List Cf} (h : Eqs A B) (g : Eqs B C) : Eqs A C := fun k => (h k).trans (g k)
theorem Eqs.app {A B A' B' : List Cf} (h : Eqs A A') (g : Eqs B B') : Eqs (A ++ B) (A' ++ B') := fun k => by rw [dsum_append, dsum_append, h k, g k]
/-- the one way to write a formal sum -/
def fdL (A : List Cf) : List Cf := canon (nrm A)
theorem fdL_ext {A B : List Cf} (h : Eqs A B) : fdL A = fdL B := canon_ext (nrm_nodup A) (nrm_nodup B) fun k => by rw [dsum_nrm, dsum_nrm, h k]
theorem fdL_of {T : List Cf} (nd : (T.map (·.1)).Nodup) {A : List Cf} (h : Eqs T A) : canon T = fdL A := canon_ext nd (nrm_nodup A) fun k => by rw [dsum_nrm, h k]
theorem dsum_fdL (A : List Cf) (k : Key) : dsum (fdL A) k = dsum A k := by rw [fdL, dsum_canon (nrm_nodup A), dsum_nrm]
theorem fdL_eqs (A : List Cf) : Eqs (fdL A) A := dsum_fdL A
theorem fdL_nodup (A : List Cf) : ((fdL A).map (·.1)).Nodup := canon_nodup (nrm_nodup A)
theorem canon_len (T : List Cf) : (canon T).length ≤ T.length := by
  rw [canon, List.length_map, supp, (keySort_perm _).length_eq, List.length_map]
  exact List.length_filter_le _ _
theorem fdL_len (A : List Cf) : (fdL A).length ≤ A.length := by
  have := accC_len A []
  have h2 := canon_len (nrm A)
  rw [fdL]; unfold nrm at *; simp at this; omega
theorem fdL_mem {A : List Cf} {e : Cf} (h : e ∈ fdL A) : e.1 ∈ A.map (·.1) ∧ e.2 = dsum A e.1 ∧ e.2 ≠ 0 := by
  obtain ⟨k, hk, rfl⟩ := List.mem_map.mp h
  have h0 := (mem_supp (nrm_nodup A) k).mp hk
  rw [dsum_nrm] at h0
  refine ⟨?_, dsum_nrm A k, by rw [dsum_nrm]; exact h0⟩
  refine Classical.byContradiction fun z => h0 (dsum_none z)
theorem fdL_sorted (A : List Cf) : ((fdL A).map (·.1)).Pairwise fun a b => keyLt a b = true := by
  rw [fdL, canon_keys]; exact supp_sorted (nrm_nodup A)
theorem fdL_zero {A : List Cf} (h : ∀ k, dsum A k = 0) : fdL A = [] := by
  rw [List.eq_nil_iff_forall_not_mem]
  intro e he
  obtain ⟨_, h1, h2⟩ := fdL_mem he
  exact h2 (h1.trans (h _))
/-! ### how great -/
theorem Bd_dsum {L B : Nat} (hL : 0 < L) : ∀ {A : List Cf}, (∀ e ∈ A, Bd L B e.2) → ∀ k, Bd L (A.length * B) (dsum A k)
  | [], _, k => Bd.zero
  | e :: A, h, k => by
    have ih := Bd_dsum hL (fun e he => h e (List.mem_cons_of_mem _ he)) k
    simp only [dsum, List.length_cons, Nat.add_mul, Nat.one_mul]
    rw [Nat.add_comm (A.length * B)]
    refine Bd.add ?_ ih hL
    split
    · exact h e (by simp)
    · exact Bd.zero
/-- all numbers are whole multiples of one L-th: 2^a bounds L and how many -/
def Sz (a : Nat) (A : List Cf) : Prop := ∃ L, 0 < L ∧ L ≤ 2 ^ a ∧ ∀ e ∈ A, Bd L (2 ^ a) e.2
def Sq (a : Nat) (r : Rat) : Prop := ∃ L, 0 < L ∧ L ≤ 2 ^ a ∧ Bd L (2 ^ a) r
theorem Sz.mono {a b : Nat} {A : List Cf} (h : Sz a A) (l : a ≤ b) : Sz b A :=
  let ⟨L, h0, h1, h2⟩ := h
  have p : 2 ^ a ≤ 2 ^ b := Nat.pow_le_pow_right (by omega) l
  ⟨L, h0, Nat.le_trans h1 p, fun e he => (h2 e he).mono p⟩
theorem Sq.mono {a b : Nat} {r : Rat} (h : Sq a r) (l : a ≤ b) : Sq b r :=
  let ⟨L, h0, h1, h2⟩ := h
  have p : 2 ^ a ≤ 2 ^ b := Nat.pow_le_pow_right (by omega) l
  ⟨L, h0, Nat.le_trans h1 p, h2.mono p⟩
theorem Sz.nil {a : Nat} : Sz a [] := ⟨1, by omega, Nat.one_le_two_pow, fun _ h => nomatch h⟩
theorem Sz.sub {a : Nat} {A B : List Cf} (h : Sz a A) (s : ∀ e ∈ B, e ∈ A) : Sz a B := let ⟨L, h0, h1, h2⟩ := h; ⟨L, h0, h1, fun e he => h2 e (s e he)⟩
theorem Sz.q {a : Nat} {A : List Cf} (h : Sz a A) {e : Cf} (he : e ∈ A) : Sq a e.2 := let ⟨L, h0, h1, h2⟩ := h; ⟨L, h0, h1, h2 e he⟩
theorem Sq.parts {a : Nat} {r : Rat} (h : Sq a r) : r.den ≤ 2 ^ a ∧ r.num.natAbs ≤ 2 ^ a := let ⟨L, h0, h1, h2⟩ := h; ⟨Nat.le_trans (h2.den h0) h1, h2.num h0⟩
theorem Sq.parts4 {a : Nat} {r : Rat} (h : Sq a r) (l : a < 4000) : r.den < 2 ^ 4000 ∧ r.num.natAbs < 2 ^ 4000 := by
  have p := h.parts
  have q : 2 ^ a < 2 ^ 4000 := Nat.pow_lt_pow_right (by omega) l
  exact ⟨Nat.lt_of_le_of_lt p.1 q, Nat.lt_of_le_of_lt p.2 q⟩
/-- sums of up to 2^c of them -/
theorem Sz.dsum {a c : Nat} {A : List Cf} (h : Sz a A) (hl : A.length ≤ 2 ^ c) (k : Key) : Sq (a + c) (dsum A k) :=
  let ⟨L, h0, h1, h2⟩ := h
  have p : 2 ^ a ≤ 2 ^ (a + c) := Nat.pow_le_pow_right (by omega) (by omega)
  ⟨L, h0, Nat.le_trans h1 p, (Bd_dsum h0 h2 k).mono (by rw [Nat.add_comm a, Nat.pow_add]; exact Nat.mul_le_mul_right _ hl)⟩
theorem Sz.fdL {a c : Nat} {A : List Cf} (h : Sz a A) (hl : A.length ≤ 2 ^ c) : Sz (a + c) (fdL A) :=
  let ⟨L, h0, h1, h2⟩ := h
  have p : 2 ^ a ≤ 2 ^ (a + c) := Nat.pow_le_pow_right (by omega) (by omega)
  ⟨L, h0, Nat.le_trans h1 p, fun e he => by
    rw [(fdL_mem he).2.1]
    exact (Bd_dsum h0 h2 _).mono (by rw [Nat.add_comm a, Nat.pow_add]; exact Nat.mul_le_mul_right _ hl)⟩
theorem Bd.up {L K B C : Nat} {r : Rat} (h : Bd L B r) (hK : 0 < K) (hC : K * B ≤ C) : Bd (K * L) C r := (h.scale hK).mono hC
theorem Sz.app {a b : Nat} {A B : List Cf} (h : Sz a A) (g : Sz b B) : Sz (a + b) (A ++ B) := by
  obtain ⟨L, h0, h1, h2⟩ := h
  obtain ⟨K, g0, g1, g2⟩ := g
  refine ⟨L * K, Nat.mul_pos h0 g0, by rw [Nat.pow_add]; exact Nat.mul_le_mul h1 g1, fun e he => ?_⟩
  rcases List.mem_append.mp he with he | he
  · rw [Nat.mul_comm L]
    exact (h2 e he).up g0 (by rw [Nat.pow_add, Nat.mul_comm (2 ^ a)]; exact Nat.mul_le_mul_right _ g1)
  · exact (g2 e he).up h0 (by rw [Nat.pow_add]; exact Nat.mul_le_mul_right _ h1)
theorem Sq.mul {a b : Nat} {r s : Rat} (h : Sq a r) (g : Sq b s) : Sq (a + b) (r * s) := by
  obtain ⟨L, h0, h1, h2⟩ := h
  obtain ⟨K, g0, g1, g2⟩ := g
  exact ⟨L * K, Nat.mul_pos h0 g0, by rw [Nat.pow_add]; exact Nat.mul_le_mul h1 g1, by rw [Nat.pow_add]; exact h2.mul g2⟩
theorem Sq.int {z : Int} {a : Nat} (h : z.natAbs ≤ 2 ^ a) : Sq a (z : Rat) := ⟨1, by omega, Nat.one_le_two_pow, Bd.int.mono h⟩
/-- what comes of each entry by a rule, times numbers -/
theorem Sz.bind {a b : Nat} {A B : List Cf} (h : Sz a A) (g : Sz b B) {C : List Cf} (s : ∀ c ∈ C, ∃ x ∈ A, ∃ y ∈ B, ∃ z : Int, z.natAbs ≤ 1 ∧ c.2 = x.2 * y.2 * z) : Sz (a + b) C := by
  obtain ⟨L, h0, h1, h2⟩ := h
  obtain ⟨K, g0, g1, g2⟩ := g
  refine ⟨L * K, Nat.mul_pos h0 g0, by rw [Nat.pow_add]; exact Nat.mul_le_mul h1 g1, fun c hc => ?_⟩
  obtain ⟨x, hx, y, hy, z, hz, e⟩ := s c hc
  have := ((h2 x hx).mul (g2 y hy)).mul (Bd.int (z := z))
  rw [e, Nat.pow_add]
  rw [Nat.mul_one] at this
  refine this.mono ?_
  rcases Nat.le_one_iff_eq_zero_or_eq_one.mp hz with q | q <;> rw [q] <;> simp
theorem Sz.scale {a b : Nat} {A : List Cf} (h : Sz a A) {r : Rat} (g : Sq b r) : Sz (a + b) (A.map fun e => (e.1, e.2 * r)) := by
  obtain ⟨L, h0, h1, h2⟩ := h
  obtain ⟨K, g0, g1, g2⟩ := g
  refine ⟨L * K, Nat.mul_pos h0 g0, by rw [Nat.pow_add]; exact Nat.mul_le_mul h1 g1, fun c hc => ?_⟩
  obtain ⟨e, he, rfl⟩ := List.mem_map.mp hc
  rw [Nat.pow_add]
  exact (h2 e he).mul g2
/-! ### scaled -/
def scL (r : Rat) (A : List Cf) : List Cf := A.map fun e => (e.1, e.2 * r)
theorem dsum_sc (r : Rat) (A : List Cf) (k : Key) : dsum (scL r A) k = dsum A k * r := by
  induction A with
  | nil => simp [scL, dsum, Rat.zero_mul]
  | cons e A ih =>
    have e1 : scL r (e :: A) = (e.1, e.2 * r) :: scL r A := rfl
    rw [e1]; simp only [dsum, ih]
    split <;> grind
theorem Eqs.sc {A B : List Cf} (h : Eqs A B) (r : Rat) : Eqs (scL r A) (scL r B) := fun k => by rw [dsum_sc, dsum_sc, h k]
theorem scL_keys (r : Rat) (A : List Cf) : (scL r A).map (·.1) = A.map (·.1) := by simp [scL]
/-- a table gathered in loops of a lawful kind: noughts are left out -/
def putZ (T : List Cf) (k : Key) (r : Rat) : List Cf := if dsum T k + r = 0 then delC T k else putC T k (dsum T k + r)
def Nz (T : List Cf) : Prop := ∀ e ∈ T, e.2 ≠ 0
theorem putZ_nodup {T : List Cf} (h : (T.map (·.1)).Nodup) (k : Key) (r : Rat) : ((putZ T k r).map (·.1)).Nodup := by
  unfold putZ; split
  · exact delC_nodup h k
  · exact putC_nodup h k _
theorem putZ_nz {T : List Cf} (h : Nz T) (k : Key) (r : Rat) : Nz (putZ T k r) := by
  unfold putZ; split
  · exact fun e he => h e (List.mem_filter.mp he).1
  · rename_i n
    intro e he
    rcases putC_mem he with q | q
    · exact h e q
    · subst q; exact n
theorem dsum_putZ {T : List Cf} (nd : (T.map (·.1)).Nodup) (k : Key) (r : Rat) (k' : Key) : dsum (putZ T k r) k' = dsum T k' + dsum [(k, r)] k' := by
  simp only [dsum, Rat.add_zero]
  unfold putZ; split
  · rename_i h
    rw [dsum_del nd]
    by_cases e : k' = k
    · subst e; simp [h]
    · rw [if_neg e, if_neg (Ne.symm e), Rat.add_zero]
  · rw [dsum_put nd]
    by_cases e : k' = k
    · subst e; simp
    · rw [if_neg e, if_neg (Ne.symm e), Rat.add_zero]
theorem putZ_len (T : List Cf) (k : Key) (r : Rat) : (putZ T k r).length ≤ T.length + 1 := by
  unfold putZ; split
  · exact Nat.le_trans (List.length_filter_le _ _) (by omega)
  · exact putC_len _ _ _
theorem putZ_keys {T : List Cf} {k : Key} {r : Rat} {q : Key} (h : q ∈ (putZ T k r).map (·.1)) : q ∈ T.map (·.1) ∨ q = k := by
  unfold putZ at h; split at h
  · obtain ⟨e, he, rfl⟩ := List.mem_map.mp h
    exact .inl (List.mem_map.mpr ⟨e, (List.mem_filter.mp he).1, rfl⟩)
  · exact putC_keys_sub h
end DD
namespace DD
open PySem PySem.W PyProof.Rows
/-- a term as written -/
def cD (e : Cf) : D := .tup [iD e.1.1, iD e.1.2, tv e.2]
/-! ### numbers sorted -/
def iSort (xs : List Int) : List Int := xs.mergeSort fun a b => !decide (b < a)
theorem pysOf_ints {M : Sto} {n : Nat} : ∀ xs : List Int, pysOf M (n + 1) (xs.map .int) = some (xs.map .int)
  | [] => by simp [pysOf]
  | x :: xs => by simp [pysOf, pyOf, pysOf_ints xs]
theorem alikeAll_ints : ∀ as bs : List Int, alikeAll (as.map .int) (bs.map .int) = true
  | [], _ => by simp [alikeAll]
  | _ :: _, [] => by simp [alikeAll]
  | x :: xs, y :: ys => by simp [alikeAll, alike, alikeAll_ints xs ys]
theorem sortD_ints {M : Sto} {xs : List Int} (h : xs.length ≤ sizeLine) : sortD M (xs.map .int) = some ((iSort xs).map .int) := by
  have hp : pysOf M depthMost (xs.map .int) = some (xs.map .int) := pysOf_ints xs
  rw [sortD, hp]
  have hz : (xs.map D.int).zip (xs.map PyData.int) = xs.map fun k => (.int k, .int k) := by simp [List.zip_map']
  simp only
  rw [if_pos, hz, iSort, ← List.map_mergeSort (r := fun a b => !decide (b < a))]
  · rw [List.map_map]; rfl
  · intro a _ b _
    simp only [dataLt, keyToks]
    rw [lex_one]
    simp [itemLt]
  · simp only [alikeAll_ints, Bool.and_eq_true, Bool.true_and, List.all_map, decide_eq_true_eq, List.length_map]
    refine ⟨⟨⟨?_, ?_⟩, ?_⟩, h⟩
    · simp [Function.comp_def, alike]
    · simp [Function.comp_def, shaped_int]
    · simp [Function.comp_def]
def insI (a : Int) : List Int → List Int
  | [] => [a]
  | b :: bs => if a ≤ b then a :: b :: bs else b :: insI a bs
def isI : List Int → List Int
  | [] => []
  | a :: as => insI a (isI as)
theorem insI_perm (a : Int) : ∀ bs, (insI a bs).Perm (a :: bs)
  | [] => .refl _
  | b :: bs => by
    rw [insI]; split
    · exact .refl _
    · exact ((insI_perm a bs).cons b).trans (.swap ..)
theorem insI_sorted (a : Int) : ∀ {bs : List Int}, bs.Pairwise (· ≤ ·) → (insI a bs).Pairwise (· ≤ ·)
  | [], _ => by simp [insI]
  | b :: bs, h => by
    obtain ⟨h1, h2⟩ := List.pairwise_cons.mp h
    rw [insI]; split
    · rename_i l
      refine List.pairwise_cons.mpr ⟨fun c hc => ?_, h⟩
      rcases List.mem_cons.mp hc with rfl | hc
      · exact l
      · have := h1 c hc; omega
    · rename_i l
      refine List.pairwise_cons.mpr ⟨fun c hc => ?_, insI_sorted a h2⟩
      rcases List.mem_cons.mp ((insI_perm a bs).mem_iff.mp hc) with rfl | hc
      · omega
      · exact h1 c hc
theorem isI_perm : ∀ as, (isI as).Perm as
  | [] => .refl _
  | a :: as => (insI_perm a _).trans ((isI_perm as).cons a)
theorem isI_sorted : ∀ as, (isI as).Pairwise (· ≤ ·)
  | [] => .nil
  | a :: as => insI_sorted a (isI_sorted as)
theorem sorted_uniq : ∀ {as bs : List Int}, as.Pairwise (· ≤ ·) → bs.Pairwise (· ≤ ·) → as.Perm bs → as = bs
  | [], bs, _, _, p => (List.Perm.nil_eq p)
  | a :: as, [], _, _, p => absurd p.length_eq (by simp)
  | a :: as, b :: bs, ha, hb, p => by
    obtain ⟨ha1, ha2⟩ := List.pairwise_cons.mp ha
    obtain ⟨hb1, hb2⟩ := List.pairwise_cons.mp hb
    have e : a = b := by
      have h1 : b ≤ a := by
        rcases List.mem_cons.mp (p.mem_iff.mp (List.mem_cons_self (a := a) (l := as))) with q | q
        · omega
        · exact hb1 a q
      have h2 : a ≤ b := by
        rcases List.mem_cons.mp (p.mem_iff.mpr (List.mem_cons_self (a := b) (l := bs))) with q | q
        · omega
        · exact ha1 b q
      omega
    subst e
    rw [sorted_uniq ha2 hb2 p.cons_inv]
theorem iSort_eq (xs : List Int) : iSort xs = isI xs := by
  refine sorted_uniq ?_ (isI_sorted xs) ((List.mergeSort_perm xs _).trans (isI_perm xs).symm)
  have := List.pairwise_mergeSort (le := fun a b : Int => !decide (b < a)) (l := xs) (fun a b c h g => by
    simp only [Bool.not_eq_true', decide_eq_false_iff_not] at *; omega) (fun a b => by
    simp only [Bool.or_eq_true, Bool.not_eq_true', decide_eq_false_iff_not]; omega)
  exact this.imp fun h => by simpa using h
/-! ### axes side by side: none in both, sorted, by how many swaps -/
def swapsOf (as bs : List Int) : Nat := as.foldl (fun n a => n + (bs.filter fun b => decide (b < a)).length) 0
def axT (as bs : List Int) : List Int × Int := if as.any (fun a => decide (a ∈ bs)) then ([], 0) else (iSort (as ++ bs), if swapsOf as bs % 2 = 0 then 1 else -1)
def axU (as bs : List Int) : List Int × Int := if as.any (fun a => decide (a ∈ bs)) then ([], 0) else (isI (as ++ bs), if swapsOf as bs % 2 = 0 then 1 else -1)
theorem axT_axU (as bs : List Int) : axT as bs = axU as bs := by rw [axT, axU, iSort_eq]
theorem inD_ints {M : Sto} (a : Int) (bs : List Int) : inD (.int a) (iD bs) M = some (decide (a ∈ bs)) := by
  have h1 : dictAt M (iD bs) = none := by simp only [iD, dictAt]
  have h2 : seqOf M (iD bs) = some (bs.map .int) := by simp only [iD, seqOf]
  have hf : (flatD (.int a) && (bs.map D.int).all flatD) = true := by simp [flatD, List.all_map, Function.comp_def]
  unfold inD
  simp only [h1, h2, hf, if_true]
  congr 1
  rw [List.any_map, Bool.eq_iff_iff]
  simp only [List.any_eq_true, Function.comp_apply, eqF, decide_eq_true_eq]
  exact ⟨fun ⟨z, h, e⟩ => e ▸ h, fun h => ⟨a, h, rfl⟩⟩
/-- powers added -/
def padd (p q : List Int) : List Int := List.zipWith (· + ·) p q
/-! ### keys of a cell's forms -/
def AxK (n : Nat) (as : List Int) : Prop := as.Pairwise (· < ·) ∧ ∀ z ∈ as, 1 ≤ z ∧ z ≤ n
def PwK (n : Nat) (ps : List Int) : Prop := ps.length = n ∧ ∀ p ∈ ps, 0 ≤ p
structure KeyOk (n j : Nat) (k : Key) : Prop where
  ax : AxK n k.1
  len : k.1.length = j
  pw : PwK n k.2
def subs3 : List (List Int) := [[], [1], [2], [3], [1, 2], [1, 3], [2, 3], [1, 2, 3]]
theorem ax_subs {n : Nat} {as : List Int} (hn : n ≤ 3) (h : AxK n as) : as ∈ subs3 := by
  obtain ⟨h1, h2⟩ := h
  have hb : ∀ z ∈ as, z = 1 ∨ z = 2 ∨ z = 3 := fun z hz => by have := h2 z hz; omega
  clear h2
  rcases as with _ | ⟨a, _ | ⟨b, _ | ⟨c, _ | ⟨d, r⟩⟩⟩⟩
  · simp [subs3]
  · have := hb a (by simp)
    rcases this with rfl | rfl | rfl <;> simp [subs3]
  · have ha := hb a (by simp)
    have hb' := hb b (by simp)
    have : a < b := (List.pairwise_cons.mp h1).1 b (by simp)
    rcases ha with rfl | rfl | rfl <;> rcases hb' with rfl | rfl | rfl <;> simp [subs3] <;> omega
  · have ha := hb a (by simp)
    have hb' := hb b (by simp)
    have hc := hb c (by simp)
    have l1 : a < b := (List.pairwise_cons.mp h1).1 b (by simp)
    have l2 : b < c := (List.pairwise_cons.mp (List.pairwise_cons.mp h1).2).1 c (by simp)
    have : a = 1 ∧ b = 2 ∧ c = 3 := by omega
    obtain ⟨rfl, rfl, rfl⟩ := this
    simp [subs3]
  · have ha := hb a (by simp)
    have hd := hb d (by simp)
    have l1 : a < b := (List.pairwise_cons.mp h1).1 b (by simp)
    have h3 := (List.pairwise_cons.mp h1).2
    have l2 : b < c := (List.pairwise_cons.mp h3).1 c (by simp)
    have l3 : c < d := (List.pairwise_cons.mp (List.pairwise_cons.mp h3).2).1 d (by simp)
    omega
/-- what the product does to axes: finite -/
theorem ax_fin : ∀ as ∈ subs3, ∀ bs ∈ subs3, ((axU as bs).2 = 0 ∨ ((axU as bs).2 = 1 ∨ (axU as bs).2 = -1) ∧ (axU as bs).1 ∈ subs3 ∧ (axU as bs).1.length = as.length + bs.length ∧ (∀ z ∈ (axU as bs).1, z ∈ as ∨ z ∈ bs) ∧ (axU as bs).1.Pairwise (· < ·)) ∧
    (axU bs as).1 = (axU as bs).1 ∧ (axU bs as).2 = (axU as bs).2 * (if as.length * bs.length % 2 = 1 then -1 else 1) := by decide +kernel
theorem ax_fin3 : ∀ as ∈ subs3, ∀ bs ∈ subs3, ∀ cs ∈ subs3, (axU as bs).2 * (axU (axU as bs).1 cs).2 = (axU bs cs).2 * (axU as (axU bs cs).1).2 ∧ ((axU as bs).2 * (axU (axU as bs).1 cs).2 = 0 ∨ (axU (axU as bs).1 cs).1 = (axU as (axU bs cs).1).1) := by decide +kernel
end DD
namespace DD
open PySem PySem.W PyProof.Rows
/-! ### sums over entries -/
def dl (k key : Key) : Rat := if key = k then 1 else 0
theorem dsum_lin (A : List Cf) (k : Key) : dsum A k = lin (dl k) A := by
  induction A with
  | nil => rfl
  | cons e A ih =>
    simp only [dsum, lin, ih, dl]
    split <;> simp [Rat.mul_one, Rat.mul_zero]
theorem lin_congr {φ ψ : Key → Rat} : ∀ {A : List Cf}, (∀ e ∈ A, φ e.1 = ψ e.1) → lin φ A = lin ψ A
  | [], _ => rfl
  | e :: A, h => by
    simp only [lin]
    rw [h e (by simp), lin_congr fun e he => h e (List.mem_cons_of_mem _ he)]
theorem lin_add (φ ψ : Key → Rat) (A : List Cf) : lin (fun k => φ k + ψ k) A = lin φ A + lin ψ A := by
  induction A with
  | nil => simp [lin, Rat.add_zero]
  | cons e A ih => simp only [lin, ih]; grind
theorem lin_smul (c : Rat) (φ : Key → Rat) (A : List Cf) : lin (fun k => c * φ k) A = c * lin φ A := by
  induction A with
  | nil => simp [lin, Rat.mul_zero]
  | cons e A ih => simp only [lin, ih]; grind
theorem lin_zeroF (A : List Cf) : lin (fun _ => 0) A = 0 := by
  induction A with
  | nil => rfl
  | cons e A ih => simp only [lin, ih]; grind
theorem lin_eqs (φ : Key → Rat) {A B : List Cf} (h : Eqs A B) : lin φ A = lin φ B := lin_ext φ h
theorem lin_sc (φ : Key → Rat) (r : Rat) (A : List Cf) : lin φ (scL r A) = lin φ A * r := by
  induction A with
  | nil => simp [scL, lin, Rat.zero_mul]
  | cons e A ih =>
    have e1 : scL r (e :: A) = (e.1, e.2 * r) :: scL r A := rfl
    rw [e1]; simp only [lin, ih]; grind
theorem lin_swap (f : Key → Key → Rat) (A B : List Cf) : lin (fun a => lin (fun b => f a b) B) A = lin (fun b => lin (fun a => f a b) A) B := by
  induction A with
  | nil =>
    simp only [lin]
    induction B with
    | nil => rfl
    | cons b B ih => simp only [lin, ← ih]; grind
  | cons a A ih =>
    simp only [lin, ih]
    rw [lin_add (fun b => a.2 * f a.1 b) (fun b => lin (fun a => f a b) A), lin_smul]
/-! ### what a rule makes of each pair of entries -/
def bil (κ : Key → Key → Key) (σ : Key → Key → Int) (A B : List Cf) : List Cf := A.flatMap fun a => B.map fun b => (κ a.1 b.1, a.2 * b.2 * (σ a.1 b.1 : Rat))
theorem lin_bil (φ : Key → Rat) (κ : Key → Key → Key) (σ : Key → Key → Int) (A B : List Cf) : lin φ (bil κ σ A B) = lin (fun a => lin (fun b => (σ a b : Rat) * φ (κ a b)) B) A := by
  unfold bil
  induction A with
  | nil => rfl
  | cons a A ih =>
    rw [List.flatMap_cons, lin_append, ih]
    simp only [lin]
    congr 1
    clear ih
    induction B with
    | nil => simp [lin, Rat.mul_zero]
    | cons b B ih => simp only [List.map_cons, lin, ih]; grind
theorem bil_eqs {κ : Key → Key → Key} {σ : Key → Key → Int} {A A' B B' : List Cf} (h : Eqs A A') (g : Eqs B B') : Eqs (bil κ σ A B) (bil κ σ A' B') := fun k => by
  rw [dsum_lin, dsum_lin, lin_bil, lin_bil, lin_eqs _ h]
  exact lin_congr fun e _ => lin_eqs _ g
theorem bil_appL {κ : Key → Key → Key} {σ : Key → Key → Int} (A A' B : List Cf) : bil κ σ (A ++ A') B = bil κ σ A B ++ bil κ σ A' B := by unfold bil; rw [List.flatMap_append]
theorem bil_appR {κ : Key → Key → Key} {σ : Key → Key → Int} (A B B' : List Cf) : Eqs (bil κ σ A (B ++ B')) (bil κ σ A B ++ bil κ σ A B') := fun k => by
  rw [dsum_append, dsum_lin, dsum_lin, dsum_lin, lin_bil, lin_bil, lin_bil, ← lin_add]
  exact lin_congr fun e _ => lin_append _ _ _
theorem bil_scL {κ : Key → Key → Key} {σ : Key → Key → Int} (r : Rat) (A B : List Cf) : Eqs (bil κ σ (scL r A) B) (scL r (bil κ σ A B)) := fun k => by
  rw [dsum_sc, dsum_lin, dsum_lin, lin_bil, lin_bil, lin_sc]
theorem bil_scR {κ : Key → Key → Key} {σ : Key → Key → Int} (r : Rat) (A B : List Cf) : Eqs (bil κ σ A (scL r B)) (scL r (bil κ σ A B)) := fun k => by
  rw [dsum_sc, dsum_lin, dsum_lin, lin_bil, lin_bil, Rat.mul_comm, ← lin_smul]
  exact lin_congr fun e _ => by rw [lin_sc, Rat.mul_comm]
theorem bil_len {κ : Key → Key → Key} {σ : Key → Key → Int} (A B : List Cf) : (bil κ σ A B).length = A.length * B.length := by
  unfold bil
  induction A with
  | nil => simp
  | cons a A ih => rw [List.flatMap_cons, List.length_append, ih]; simp [Nat.succ_mul, Nat.add_comm]
theorem mem_bil {κ : Key → Key → Key} {σ : Key → Key → Int} {A B : List Cf} {c : Cf} (h : c ∈ bil κ σ A B) : ∃ a ∈ A, ∃ b ∈ B, c = (κ a.1 b.1, a.2 * b.2 * (σ a.1 b.1 : Rat)) := by
  obtain ⟨a, ha, h⟩ := List.mem_flatMap.mp h
  obtain ⟨b, hb, rfl⟩ := List.mem_map.mp h
  exact ⟨a, ha, b, hb, rfl⟩
/-! ### what a rule makes of each entry -/
def lnr (ρ : Key → List (Key × Int)) (A : List Cf) : List Cf := A.flatMap fun a => (ρ a.1).map fun q => (q.1, a.2 * (q.2 : Rat))
def linI (φ : Key → Rat) : List (Key × Int) → Rat
  | [] => 0
  | q :: L => (q.2 : Rat) * φ q.1 + linI φ L
theorem lin_lnr (φ : Key → Rat) (ρ : Key → List (Key × Int)) (A : List Cf) : lin φ (lnr ρ A) = lin (fun a => linI φ (ρ a)) A := by
  unfold lnr
  induction A with
  | nil => rfl
  | cons a A ih =>
    rw [List.flatMap_cons, lin_append, ih]
    simp only [lin]
    congr 1
    generalize ρ a.1 = L
    induction L with
    | nil => simp [lin, linI, Rat.mul_zero]
    | cons b B ih => simp only [List.map_cons, lin, linI, ih]; grind
theorem lnr_eqs {ρ : Key → List (Key × Int)} {A A' : List Cf} (h : Eqs A A') : Eqs (lnr ρ A) (lnr ρ A') := fun k => by
  rw [dsum_lin, dsum_lin, lin_lnr, lin_lnr, lin_eqs _ h]
theorem lnr_app {ρ : Key → List (Key × Int)} (A B : List Cf) : lnr ρ (A ++ B) = lnr ρ A ++ lnr ρ B := by unfold lnr; rw [List.flatMap_append]
theorem lnr_sc {ρ : Key → List (Key × Int)} (r : Rat) (A : List Cf) : Eqs (lnr ρ (scL r A)) (scL r (lnr ρ A)) := fun k => by
  rw [dsum_sc, dsum_lin, dsum_lin, lin_lnr, lin_lnr, lin_sc]
/-! ### the product -/
def kapP (a b : Key) : Key := ((axT a.1 b.1).1, padd a.2 b.2)
def sigP (a b : Key) : Int := (axT a.1 b.1).2
def prodL (A B : List Cf) : List Cf := bil kapP sigP A B
def Keys (n j : Nat) (A : List Cf) : Prop := ∀ e ∈ A, KeyOk n j e.1
theorem Keys.app {n j : Nat} {A B : List Cf} (h : Keys n j A) (g : Keys n j B) : Keys n j (A ++ B) := fun e he => (List.mem_append.mp he).elim (h e) (g e)
theorem Keys.sc {n j : Nat} {A : List Cf} (h : Keys n j A) (r : Rat) : Keys n j (scL r A) := fun e he => by
  obtain ⟨d, hd, rfl⟩ := List.mem_map.mp he; exact h d hd
theorem Keys.fdL {n j : Nat} {A : List Cf} (h : Keys n j A) : Keys n j (fdL A) := fun e he => by
  obtain ⟨d, hd, q⟩ := List.mem_map.mp (fdL_mem he).1
  rw [← q]; exact h d hd
theorem padd_comm (p q : List Int) : padd p q = padd q p := by
  unfold padd; rw [List.zipWith_comm]; congr 1; funext a b; exact Int.add_comm _ _
theorem padd_assoc : ∀ p q r : List Int, padd (padd p q) r = padd p (padd q r)
  | [], _, _ => by simp [padd]
  | _ :: _, [], _ => by simp [padd]
  | _ :: _, _ :: _, [] => by simp [padd]
  | a :: p, b :: q, c :: r => by
    have := padd_assoc p q r
    simp only [padd] at *
    simp [this, Int.add_assoc]
theorem padd_pw {n : Nat} {p q : List Int} (h : PwK n p) (g : PwK n q) : PwK n (padd p q) := by
  refine ⟨by unfold padd; rw [List.length_zipWith, h.1, g.1, Nat.min_self], fun x hx => ?_⟩
  unfold padd at hx
  rw [← List.map_uncurry_zip_eq_zipWith] at hx
  obtain ⟨⟨a, b⟩, hab, rfl⟩ := List.mem_map.mp hx
  have h1 := h.2 a (List.of_mem_zip hab).1
  have h2 := g.2 b (List.of_mem_zip hab).2
  show 0 ≤ a + b
  omega
theorem sig_one {n : Nat} {as bs : List Int} (hn : n ≤ 3) (ha : AxK n as) (hb : AxK n bs) : (axT as bs).2.natAbs ≤ 1 := by
  have := (ax_fin as (ax_subs hn ha) bs (ax_subs hn hb)).1
  rw [axT_axU]
  rcases this with h | ⟨h | h, _⟩ <;> rw [h] <;> decide
/-- the keys of a product where the sign is not 0 -/
theorem kap_ok {n i j : Nat} {a b : Key} (hn : n ≤ 3) (ha : KeyOk n i a) (hb : KeyOk n j b) (h : sigP a b ≠ 0) : KeyOk n (i + j) (kapP a b) := by
  have := (ax_fin a.1 (ax_subs hn ha.ax) b.1 (ax_subs hn hb.ax)).1
  unfold sigP at h
  rw [axT_axU] at h
  rcases this with q | ⟨_, _, h2, h3, h4⟩
  · exact (h q).elim
  · unfold kapP
    rw [axT_axU]
    refine ⟨⟨h4, fun z hz => ?_⟩, by rw [h2, ha.len, hb.len], padd_pw ha.pw hb.pw⟩
    rcases h3 z hz with q | q
    · exact ha.ax.2 z q
    · exact hb.ax.2 z q
/-- the product as the loops gather it: where an axis stands in both nothing comes -/
def prodT (a b : Cf) : List Cf := if sigP a.1 b.1 = 0 then [] else [(kapP a.1 b.1, a.2 * b.2 * (sigP a.1 b.1 : Rat))]
def prodF (A B : List Cf) : List Cf := A.flatMap fun a => B.flatMap fun b => prodT a b
theorem dsum_flatMap {f g : Cf → List Cf} {k : Key} : ∀ {A : List Cf}, (∀ a ∈ A, dsum (f a) k = dsum (g a) k) → dsum (A.flatMap f) k = dsum (A.flatMap g) k
  | [], _ => rfl
  | a :: A, h => by
    rw [List.flatMap_cons, List.flatMap_cons, dsum_append, dsum_append, h a (by simp), dsum_flatMap fun a ha => h a (List.mem_cons_of_mem _ ha)]
theorem prodF_eqs (A B : List Cf) : Eqs (prodF A B) (prodL A B) := fun k => by
  unfold prodF prodL bil
  refine dsum_flatMap fun a _ => ?_
  rw [show (B.map fun b => (kapP a.1 b.1, a.2 * b.2 * (sigP a.1 b.1 : Rat))) = B.flatMap fun b => [(kapP a.1 b.1, a.2 * b.2 * (sigP a.1 b.1 : Rat))] by rw [List.map_eq_flatMap]]
  refine dsum_flatMap fun b _ => ?_
  unfold prodT
  split
  · rename_i h
    simp only [dsum, h]
    split <;> simp [Rat.mul_zero, Rat.add_zero]
  · rfl
theorem prodT_len (a b : Cf) : (prodT a b).length ≤ 1 := by unfold prodT; split <;> simp
theorem flatMap_len {f : Cf → List Cf} {c : Nat} : ∀ {A : List Cf}, (∀ a ∈ A, (f a).length ≤ c) → (A.flatMap f).length ≤ A.length * c
  | [], _ => by simp
  | a :: A, h => by
    have h1 := h a (by simp)
    have h2 := flatMap_len (A := A) fun a ha => h a (List.mem_cons_of_mem _ ha)
    rw [List.flatMap_cons, List.length_append, List.length_cons, Nat.succ_mul]; omega
theorem prodF_len (A B : List Cf) : (prodF A B).length ≤ A.length * B.length := flatMap_len fun a _ => by
  have := flatMap_len (f := prodT a) (c := 1) (A := B) fun b _ => prodT_len a b
  simpa using this
theorem mem_prodF {A B : List Cf} {c : Cf} (h : c ∈ prodF A B) : ∃ a ∈ A, ∃ b ∈ B, sigP a.1 b.1 ≠ 0 ∧ c = (kapP a.1 b.1, a.2 * b.2 * (sigP a.1 b.1 : Rat)) := by
  obtain ⟨a, ha, h⟩ := List.mem_flatMap.mp h
  obtain ⟨b, hb, h⟩ := List.mem_flatMap.mp h
  unfold prodT at h
  split at h
  · cases h
  · rename_i n
    exact ⟨a, ha, b, hb, n, List.mem_singleton.mp h⟩
theorem Keys.prodF {n i j : Nat} {A B : List Cf} (hn : n ≤ 3) (hA : Keys n i A) (hB : Keys n j B) : Keys n (i + j) (prodF A B) := fun c hc => by
  obtain ⟨a, ha, b, hb, n0, rfl⟩ := mem_prodF hc
  exact kap_ok hn (hA a ha) (hB b hb) n0
theorem Sz.prodF {a b n i j : Nat} {A B : List Cf} (h : Sz a A) (g : Sz b B) (hn : n ≤ 3) (hA : Keys n i A) (hB : Keys n j B) : Sz (a + b) (prodF A B) := h.bind g fun c hc => by
  obtain ⟨x, hx, y, hy, n0, rfl⟩ := mem_prodF hc
  exact ⟨x, hx, y, hy, _, sig_one hn (hA x hx).ax (hB y hy).ax, rfl⟩
theorem prodL_comm {n i j : Nat} {A B : List Cf} (hn : n ≤ 3) (hA : Keys n i A) (hB : Keys n j B) : Eqs (prodL B A) (scL (if i * j % 2 = 1 then -1 else 1) (prodL A B)) := fun k => by
  rw [dsum_sc, dsum_lin, dsum_lin]
  unfold prodL
  rw [lin_bil, lin_bil, lin_swap, Rat.mul_comm, ← lin_smul]
  refine lin_congr fun a ha => ?_
  rw [← lin_smul]
  refine lin_congr fun b hb => ?_
  have f := (ax_fin a.1.1 (ax_subs hn (hA a ha).ax) b.1.1 (ax_subs hn (hB b hb).ax)).2
  simp only [kapP, sigP, axT_axU]
  rw [f.1, f.2, padd_comm b.1.2, (hA a ha).len, (hB b hb).len]
  split <;> simp <;> grind
theorem prodL_assoc {n i j l : Nat} {A B C : List Cf} (hn : n ≤ 3) (hA : Keys n i A) (hB : Keys n j B) (hC : Keys n l C) : Eqs (prodL (prodL A B) C) (prodL A (prodL B C)) := fun k => by
  rw [dsum_lin, dsum_lin]
  unfold prodL
  rw [lin_bil, lin_bil, lin_bil]
  refine lin_congr fun a ha => ?_
  rw [lin_bil]
  refine lin_congr fun b hb => ?_
  rw [← lin_smul]
  refine lin_congr fun c hc => ?_
  have f := ax_fin3 a.1.1 (ax_subs hn (hA a ha).ax) b.1.1 (ax_subs hn (hB b hb).ax) c.1.1 (ax_subs hn (hC c hc).ax)
  simp only [kapP, sigP, axT_axU]
  rw [padd_assoc]
  obtain ⟨f1, f2⟩ := f
  have f3 : ((axU a.1.1 b.1.1).2 : Rat) * ((axU (axU a.1.1 b.1.1).1 c.1.1).2 : Rat) = ((axU b.1.1 c.1.1).2 : Rat) * ((axU a.1.1 (axU b.1.1 c.1.1).1).2 : Rat) := by
    rw [← Rat.intCast_mul, ← Rat.intCast_mul, f1]
  rw [← Rat.mul_assoc, ← Rat.mul_assoc, f3]
  rcases f2 with z | z
  · have z' : ((axU b.1.1 c.1.1).2 : Rat) * ((axU a.1.1 (axU b.1.1 c.1.1).1).2 : Rat) = 0 := by
      rw [← f3, ← Rat.intCast_mul, z]; rfl
    rw [z', Rat.zero_mul, Rat.zero_mul]
  · rw [z]
end DD
namespace DD
open PySem PySem.W PyProof.Rows
section
variable {F : Fns} {δ : Env} {M : Sto} {Q : D → Sto → Prop}
theorem w_callp {f : Nat} {es : List Ex} {ks : List Str} {pi : List Nat} : W (evE F (.callp f es ks pi) δ M) Q = W (evEs F es δ M) fun ds M1 => W (F f (pi.map fun i => ds.getD i .non) M1) Q := by
  rw [evE]; rcases evEs F es δ M with _ | ⟨x, M1⟩ <;> simp [w_some, w_none]
end
/-! ### what is written of numbers in rows -/
mutual
def Shw (b : Nat) : PyData → Prop
  | .int i => i.natAbs.log2 < b
  | .tuple xs => Shws b xs
  | .list xs => Shws b xs
  | _ => False
def Shws (b : Nat) : List PyData → Prop
  | [] => True
  | x :: xs => Shw b x ∧ Shws b xs
end
mutual
def gsz (b : Nat) : PyData → Nat
  | .int _ => b + 1
  | .tuple xs => gszs b xs + 3
  | .list xs => gszs b xs + 3
  | _ => 0
def gszs (b : Nat) : List PyData → Nat
  | [] => 0
  | x :: xs => gsz b x + 2 + gszs b xs
end
theorem strOk_app {x y : Str} (h : PyData.strOk x = true) (g : PyData.strOk y = true) : PyData.strOk (x ++ y) = true := by
  unfold PyData.strOk at *
  rw [Str.cps_append, Array.all_append, h, g]; rfl
theorem strOk_of (s : String) : PyData.strOk (Str.ofString s) = true := by
  rw [Str.ofString_eq_toList]
  simp only [PyData.strOk, List.all_toArray, List.all_map, List.all_eq_true, Function.comp_apply, decide_eq_true_eq]
  intro c _
  have := c.valid
  unfold UInt32.isValidChar Nat.isValidChar at this
  show c.val.toNat < 1114112
  omega
theorem len_of (s : String) : (Str.ofString s).length = s.length := by
  rw [Str.ofString_eq_toList]
  simp [Str.length, String.length_toList]
theorem textFrom_up : ∀ (ts : List Str) (k : Nat) (acc : Str), PyData.strOk acc = true → (∀ t ∈ ts, PyData.strOk t = true) → (textFrom k acc ts).length ≤ acc.length + piled ts ∧ PyData.strOk (textFrom k acc ts) = true
  | [], k, acc, h, _ => ⟨by simp [textFrom, piled], h⟩
  | t :: r, k, acc, h, g => by
    have o : PyData.strOk (acc ++ ((if k > 0 then ", " else "" : String) : Str) ++ t) = true := strOk_app (strOk_app h (strOk_of _)) (g t (by simp))
    obtain ⟨h1, h2⟩ := textFrom_up r (k + 1) _ o fun t ht => g t (List.mem_cons_of_mem _ ht)
    refine ⟨?_, h2⟩
    rw [textFrom, piled_cons]
    rw [strLen_append, strLen_append] at h1
    have : (((if k > 0 then ", " else "" : String) : Str)).length ≤ 2 := by split <;> decide
    omega
theorem join_ok : ∀ ts : List Str, (∀ t ∈ ts, PyData.strOk t = true) → (Str.join ", " ts).length ≤ piled ts ∧ PyData.strOk (Str.join ", " ts) = true
  | [], _ => ⟨by simp [Str.join, piled, Str.empty, Str.length], by simp [Str.join, Str.empty, PyData.strOk]⟩
  | [x], h => ⟨by simp [Str.join, piled], h x (by simp)⟩
  | x :: y :: r, h => by
    obtain ⟨h1, h2⟩ := join_ok (y :: r) fun t ht => h t (List.mem_cons_of_mem _ ht)
    refine ⟨?_, ?_⟩
    · show (x ++ ", " ++ Str.join ", " (y :: r)).length ≤ _
      have e2 : ((", " : String) : Str).length = 2 := rfl
      rw [strLen_append, strLen_append, e2, piled_cons]; omega
    · show PyData.strOk (x ++ ", " ++ Str.join ", " (y :: r)) = true
      exact strOk_app (strOk_app (h x (by simp)) (strOk_of _)) h2
mutual
theorem shw_ok {b : Nat} (h0 : 0 < b) (hb : b ≤ 1920) : ∀ p : PyData, Shw b p → p.showable = true ∧ p.shown.length ≤ gsz b p ∧ PyData.strOk p.shown = true
  | .int i, h => by
    have h : i.natAbs.log2 < b := by simpa [Shw] using h
    refine ⟨by simp only [PyData.showable, decide_eq_true_eq]; omega, ?_, ?_⟩
    · simp only [PyData.shown, gsz]
      rw [len_of]
      exact int_text_length_le h0 h
    · simp only [PyData.shown]
      exact strOk_of _
  | .tuple xs, h => by
    obtain ⟨h1, h2, h3⟩ := shws_ok h0 hb xs (by simpa [Shw] using h)
    refine ⟨by simpa [PyData.showable] using h1, ?_, ?_⟩
    · simp only [PyData.shown, gsz, tupleText]
      rw [strLen_append, strLen_append]
      have j := (join_ok _ h3).1
      have e1 : ((("(" : String) : Str)).length = 1 := rfl
      have e3 : (((if (PyData.shownAll xs).length == 1 then ",)" else ")" : String) : Str)).length ≤ 2 := by split <;> decide
      omega
    · simp only [PyData.shown, tupleText]
      exact strOk_app (strOk_app (strOk_of _) (join_ok _ h3).2) (strOk_of _)
  | .list xs, h => by
    obtain ⟨h1, h2, h3⟩ := shws_ok h0 hb xs (by simpa [Shw] using h)
    refine ⟨by simpa [PyData.showable] using h1, ?_, ?_⟩
    · simp only [PyData.shown, gsz, listText]
      rw [strLen_append]
      have j := (textFrom_up (PyData.shownAll xs) 0 "[" (strOk_of _) h3).1
      have e1 : ((("[" : String) : Str)).length = 1 := rfl
      have e3 : ((("]" : String) : Str)).length = 1 := rfl
      omega
    · simp only [PyData.shown, listText]
      exact strOk_app (textFrom_up (PyData.shownAll xs) 0 "[" (strOk_of _) h3).2 (strOk_of _)
  | .none, h => absurd h (by simp [Shw])
  | .bool _, h => absurd h (by simp [Shw])
  | .str _, h => absurd h (by simp [Shw])
  | .dict _, h => absurd h (by simp [Shw])
theorem shws_ok {b : Nat} (h0 : 0 < b) (hb : b ≤ 1920) : ∀ ps : List PyData, Shws b ps → PyData.showableAll ps = true ∧ piled (PyData.shownAll ps) ≤ gszs b ps ∧ ∀ t ∈ PyData.shownAll ps, PyData.strOk t = true
  | [], _ => ⟨by simp [PyData.showableAll], by simp [PyData.shownAll, piled], by simp [PyData.shownAll]⟩
  | p :: ps, h => by
    simp only [Shws] at h
    obtain ⟨a1, a2, a3⟩ := shw_ok h0 hb p h.1
    obtain ⟨b1, b2, b3⟩ := shws_ok h0 hb ps h.2
    refine ⟨by simp [PyData.showableAll, a1, b1], ?_, ?_⟩
    · rw [PyData.shownAll, piled_cons, gszs]; omega
    · rw [PyData.shownAll]
      intro t ht
      rcases List.mem_cons.mp ht with rfl | ht
      · exact a3
      · exact b3 t ht
end
theorem repr_ok {M : Sto} {x : D} {b : Nat} {p : PyData} (h0 : 0 < b) (hb : b ≤ 1920) (h : pyP M x = some p) (h1 : canRepr x = true) (h2 : Shw b p) (h3 : gsz b p ≤ sizeLine) {Q : D → Sto → Prop} : W (reprB [x] M) Q = Q (.str p.shown) M := by
  obtain ⟨a1, a2, a3⟩ := shw_ok h0 hb p h2
  have : p.shown.length ≤ sizeLine := Nat.le_trans a2 h3
  simp only [reprB, h, h1, a1, this, decide_true, Bool.and_self, if_true, w_some]
theorem eq_strs {M : Sto} {x y : Str} (hx : PyData.strOk x = true) (hy : PyData.strOk y = true) : eqD (.str x) (.str y) M = some (decide (x = y)) := by
  have h : ∀ z, PyData.strOk z = true → SeqAt.shaped (.str z) = true := fun z hz => by simp [SeqAt.shaped, PyData.canLay0, PyData.depth, hz]
  simp only [eqD, pyP, pyOf, h x hx, h y hy, Bool.and_self, if_true, PyData.eqv]
  congr 1
theorem eq_shown {M : Sto} {b : Nat} {p : PyData} (h0 : 0 < b) (hb : b ≤ 1920) (h : Shw b p) : eqD (.str p.shown) (.str p.shown) M = some true := by
  rw [eq_strs (shw_ok h0 hb p h).2.2 (shw_ok h0 hb p h).2.2]; simp
/-! ### forms as data -/
def cP (e : Cf) : PyData := .tuple [iP e.1.1, iP e.1.2, .tuple [.int e.2.num, .int e.2.den]]
def fdP (n j : Nat) (A : List Cf) : PyData := .tuple [.int n, .int j, .tuple ((fdL A).map cP)]
theorem pys_cD {M : Sto} {n : Nat} : ∀ T : List Cf, pysOf M (n + 2) (T.map cD) = some (T.map cP)
  | [] => by simp [pysOf]
  | t :: T => by
    have h1 : pyOf M (n + 2) (cD t) = some (cP t) := by
      simp only [cD, cP, tv, pyOf, pysOf, py_iD]
      rfl
    simp only [List.map_cons, pysOf, h1, pys_cD T]
    rfl
theorem log_lt {x b : Nat} (h : x ≤ 2 ^ b) : x.log2 < b + 1 := by
  by_cases z : x = 0
  · subst z; simp
  · exact (Nat.log2_lt z).mpr (Nat.lt_of_le_of_lt h (Nat.pow_lt_pow_right (by omega) (by omega)))
theorem shws_ints {b : Nat} : ∀ xs : List Int, (∀ x ∈ xs, x.natAbs ≤ 2 ^ b) → Shws (b + 1) (xs.map .int)
  | [], _ => by simp [Shws]
  | x :: xs, h => by
    simp only [List.map_cons, Shws, Shw]
    exact ⟨log_lt (h x (by simp)), shws_ints xs fun x hx => h x (List.mem_cons_of_mem _ hx)⟩
theorem gszs_ints {b : Nat} : ∀ xs : List Int, gszs b (xs.map .int) = xs.length * (b + 3)
  | [] => by simp [gszs]
  | x :: xs => by
    simp only [List.map_cons, gszs, gsz, gszs_ints xs, List.length_cons, Nat.succ_mul]; omega
theorem shws_app {b : Nat} : ∀ xs ys : List PyData, Shws b xs → Shws b ys → Shws b (xs ++ ys)
  | [], _, _, h => h
  | x :: xs, ys, h, g => by
    simp only [List.cons_append, Shws] at *
    exact ⟨h.1, shws_app xs ys h.2 g⟩
end DD
namespace DD
open PySem PySem.W PyProof.Rows
/-! ### sums over places -/
def sumR : Nat → (Nat → Rat) → Rat
  | 0, _ => 0
  | n + 1, f => sumR n f + f n
theorem sumR_congr {f g : Nat → Rat} : ∀ {n : Nat}, (∀ k, k < n → f k = g k) → sumR n f = sumR n g
  | 0, _ => rfl
  | n + 1, h => by rw [sumR, sumR, sumR_congr fun k hk => h k (by omega), h n (by omega)]
theorem sumR_zero : ∀ {n : Nat} {f : Nat → Rat}, (∀ k, k < n → f k = 0) → sumR n f = 0
  | 0, _, _ => rfl
  | n + 1, f, h => by rw [sumR, sumR_zero fun k hk => h k (by omega), h n (by omega)]; simp [Rat.add_zero]
theorem sumR_add (f g : Nat → Rat) : ∀ n, sumR n (fun k => f k + g k) = sumR n f + sumR n g
  | 0 => by simp [sumR, Rat.add_zero]
  | n + 1 => by simp only [sumR, sumR_add f g n]; grind
theorem sumR_mul (c : Rat) (f : Nat → Rat) : ∀ n, sumR n (fun k => c * f k) = c * sumR n f
  | 0 => by simp [sumR, Rat.mul_zero]
  | n + 1 => by simp only [sumR, sumR_mul c f n]; grind
theorem sumR_neg (f : Nat → Rat) : ∀ n, sumR n (fun k => -f k) = -sumR n f
  | 0 => by simp [sumR]
  | n + 1 => by simp only [sumR, sumR_neg f n]; grind
theorem sumR_swap (f : Nat → Nat → Rat) (m : Nat) : ∀ n, sumR n (fun k => sumR m (fun l => f k l)) = sumR m fun l => sumR n fun k => f k l
  | 0 => by simp only [sumR]; exact (sumR_zero fun _ _ => rfl).symm
  | n + 1 => by simp only [sumR, sumR_swap f m n, sumR_add]
theorem sumR_anti {f : Nat → Nat → Rat} {n : Nat} (h : ∀ k l, k < n → l < n → f k l = -f l k) : sumR n (fun k => sumR n fun l => f k l) = 0 := by
  have e1 : sumR n (fun k => sumR n fun l => f k l) = sumR n fun k => sumR n fun l => -f l k := sumR_congr fun k hk => sumR_congr fun l hl => h k l hk hl
  have e2 : (sumR n fun k => sumR n fun l => -f l k) = -(sumR n fun k => sumR n fun l => f k l) := by
    rw [← sumR_swap (fun l k => -f l k) n n, ← sumR_neg]
    exact sumR_congr fun k _ => sumR_neg _ _
  have e3 := e1.trans e2
  grind
theorem linI_app (φ : Key → Rat) : ∀ L M : List (Key × Int), linI φ (L ++ M) = linI φ L + linI φ M
  | [], M => by simp [linI, Rat.zero_add]
  | q :: L, M => by simp only [List.cons_append, linI, linI_app φ L M]; grind
theorem linI_range (φ : Key → Rat) (g : Nat → Key × Int) : ∀ n, linI φ ((List.range n).map g) = sumR n fun k => ((g k).2 : Rat) * φ (g k).1
  | 0 => rfl
  | n + 1 => by rw [List.range_succ, List.map_append, linI_app, linI_range φ g n, sumR]; simp [linI, Rat.add_zero]
/-! ### the rise -/
def pAt (ps : List Int) (k : Nat) : Int := ps.getD k 0
def chg (ps : List Int) (k : Nat) (c : Int) : List Int := ps.set k (pAt ps k + c)
def sgA (k : Nat) (as : List Int) : Int := (axT [(k : Int) + 1] as).2
def axA (k : Nat) (as : List Int) : List Int := (axT [(k : Int) + 1] as).1
def rR (key : Key) : List (Key × Int) := (List.range key.2.length).map fun k => ((axA k key.1, chg key.2 k (-1)), sgA k key.1 * pAt key.2 k)
def riseL (A : List Cf) : List Cf := lnr rR A
theorem chg_len (ps : List Int) (k : Nat) (c : Int) : (chg ps k c).length = ps.length := by simp [chg]
theorem pAt_chg_ne {ps : List Int} {k l : Nat} {c : Int} (h : k ≠ l) : pAt (chg ps k c) l = pAt ps l := by
  simp [pAt, chg, List.getD_eq_getElem?_getD, List.getElem?_set_ne h]
theorem pAt_chg_eq {ps : List Int} {k : Nat} {c : Int} (h : k < ps.length) : pAt (chg ps k c) k = pAt ps k + c := by
  simp [pAt, chg, List.getD_eq_getElem?_getD, h]
theorem chg_comm {ps : List Int} {k l : Nat} {c d : Int} (h : k ≠ l) : chg (chg ps k c) l d = chg (chg ps l d) k c := by
  have e1 := pAt_chg_ne (ps := ps) (c := c) h
  have e2 := pAt_chg_ne (ps := ps) (c := d) (Ne.symm h)
  unfold chg at *
  rw [e1, e2, List.set_comm _ _ h]
theorem chg_0 (p : Int) (ps : List Int) (c : Int) : chg (p :: ps) 0 c = (p + c) :: ps := by simp [chg, pAt]
theorem chg_s (p : Int) (ps : List Int) (k : Nat) (c : Int) : chg (p :: ps) (k + 1) c = p :: chg ps k c := by simp [chg, pAt]
theorem padd_c (p q : Int) (ps qs : List Int) : padd (p :: ps) (q :: qs) = (p + q) :: padd ps qs := by simp [padd]
theorem chg_padd : ∀ {ps qs : List Int} {k : Nat} {c : Int} (hl : ps.length = qs.length), padd (chg ps k c) qs = chg (padd ps qs) k c ∧ padd ps (chg qs k c) = chg (padd ps qs) k c
  | [], [], k, c, _ => by simp [padd, chg]
  | p :: ps, q :: qs, 0, c, _ => by
    simp only [chg_0, padd_c, List.cons.injEq, and_true]
    omega
  | p :: ps, q :: qs, k + 1, c, h => by
    have := chg_padd (ps := ps) (qs := qs) (k := k) (c := c) (by simpa using h)
    simp only [chg_s, padd_c, List.cons.injEq, true_and]
    exact this
  | [], _ :: _, _, _, h => by simp at h
  | _ :: _, [], _, _, h => by simp at h
theorem pAt_padd : ∀ {ps qs : List Int} {k : Nat} (hl : ps.length = qs.length), pAt (padd ps qs) k = pAt ps k + pAt qs k
  | [], [], k, _ => by simp [pAt, padd]
  | p :: ps, q :: qs, 0, _ => by simp [pAt, padd]
  | p :: ps, q :: qs, k + 1, h => by
    have := pAt_padd (ps := ps) (qs := qs) (k := k) (by simpa using h)
    simpa [pAt, padd_c] using this
  | [], _ :: _, _, h => by simp at h
  | _ :: _, [], _, h => by simp at h
/-- finite facts -/
theorem rise_fin : ∀ as ∈ subs3, ∀ k ∈ [1, 2, 3], ((axU [k] as).2 = 0 ∧ k ∈ as ∨ ((axU [k] as).2 = 1 ∨ (axU [k] as).2 = -1) ∧ k ∉ as) ∧ ((axU [k] as).2 ≠ 0 → (axU [k] as).1 ∈ subs3 ∧ (axU [k] as).1.length = as.length + 1 ∧ ∀ z ∈ (axU [k] as).1, z = k ∨ z ∈ as) := by decide +kernel
theorem rise_fin2 : ∀ as ∈ subs3, ∀ k ∈ [1, 2, 3], ∀ l ∈ [1, 2, 3], (axU [k] as).2 * (axU [l] (axU [k] as).1).2 = -((axU [l] as).2 * (axU [k] (axU [l] as).1).2) ∧ ((axU [k] as).2 * (axU [l] (axU [k] as).1).2 = 0 ∨ (axU [l] (axU [k] as).1).1 = (axU [k] (axU [l] as).1).1) := by decide +kernel
theorem rise_fin3 : ∀ as ∈ subs3, ∀ bs ∈ subs3, ∀ k ∈ [1, 2, 3],
    ((axU as bs).2 * (axU [k] (axU as bs).1).2 = (axU [k] as).2 * (axU (axU [k] as).1 bs).2 ∧ ((axU as bs).2 * (axU [k] (axU as bs).1).2 = 0 ∨ (axU [k] (axU as bs).1).1 = (axU (axU [k] as).1 bs).1)) ∧
    ((axU as bs).2 * (axU [k] (axU as bs).1).2 = (if as.length % 2 = 1 then -1 else 1) * ((axU [k] bs).2 * (axU as (axU [k] bs).1).2) ∧ ((axU as bs).2 * (axU [k] (axU as bs).1).2 = 0 ∨ (axU [k] (axU as bs).1).1 = (axU as (axU [k] bs).1).1)) := by decide +kernel
theorem k123 {k n : Nat} (hn : n ≤ 3) (h : k < n) : ((k : Int) + 1) ∈ [(1 : Int), 2, 3] := by
  have : k = 0 ∨ k = 1 ∨ k = 2 := by omega
  rcases this with rfl | rfl | rfl <;> simp
theorem lin_riseL (φ : Key → Rat) (A : List Cf) : lin φ (riseL A) = lin (fun a => sumR a.2.length fun k => ((sgA k a.1 * pAt a.2 k : Int) : Rat) * φ (axA k a.1, chg a.2 k (-1))) A := by
  rw [riseL, lin_lnr]
  exact lin_congr fun e _ => linI_range _ _ _
/-- the rise of a rise is nought -/
theorem rise_rise {n j : Nat} {A : List Cf} (hn : n ≤ 3) (hA : Keys n j A) (key : Key) : dsum (riseL (riseL A)) key = 0 := by
  rw [dsum_lin, lin_riseL, lin_riseL, ← lin_zeroF A]
  refine lin_congr fun e he => ?_
  obtain ⟨⟨as, ps⟩, r⟩ := e
  have hk := hA _ he
  have hl : ps.length = n := hk.pw.1
  simp only [chg_len, hl]
  have e1 : (sumR n fun k => ((sgA k as * pAt ps k : Int) : Rat) * sumR n fun l => ((sgA l (axA k as) * pAt (chg ps k (-1)) l : Int) : Rat) * dl key (axA l (axA k as), chg (chg ps k (-1)) l (-1))) =
      sumR n fun k => sumR n fun l => ((sgA k as * pAt ps k : Int) : Rat) * (((sgA l (axA k as) * pAt (chg ps k (-1)) l : Int) : Rat) * dl key (axA l (axA k as), chg (chg ps k (-1)) l (-1))) := sumR_congr fun k _ => (sumR_mul _ _ _).symm
  rw [e1]
  refine sumR_anti fun k l hk' hl' => ?_
  have f := rise_fin2 as (ax_subs hn hk.ax) _ (k123 hn hk') _ (k123 hn hl')
  simp only [sgA, axA, axT_axU]
  obtain ⟨f1, f2⟩ := f
  rw [← Rat.mul_assoc, ← Rat.mul_assoc, ← Rat.intCast_mul, ← Rat.intCast_mul]
  by_cases h : k = l
  · subst h
    have z : (axU [(k : Int) + 1] as).2 * (axU [(k : Int) + 1] (axU [(k : Int) + 1] as).1).2 = 0 := by omega
    have z2 : (axU [(k : Int) + 1] as).2 * pAt ps k * ((axU [(k : Int) + 1] (axU [(k : Int) + 1] as).1).2 * pAt (chg ps k (-1)) k) = 0 := by
      have : (axU [(k : Int) + 1] as).2 * pAt ps k * ((axU [(k : Int) + 1] (axU [(k : Int) + 1] as).1).2 * pAt (chg ps k (-1)) k) = ((axU [(k : Int) + 1] as).2 * (axU [(k : Int) + 1] (axU [(k : Int) + 1] as).1).2) * (pAt ps k * pAt (chg ps k (-1)) k) := by grind
      rw [this, z, Int.zero_mul]
    rw [z2]; simp [Rat.zero_mul]
  · rw [pAt_chg_ne h, pAt_chg_ne (Ne.symm h), chg_comm h]
    have c1 : (axU [(k : Int) + 1] as).2 * pAt ps k * ((axU [(l : Int) + 1] (axU [(k : Int) + 1] as).1).2 * pAt ps l) = -((axU [(l : Int) + 1] as).2 * pAt ps l * ((axU [(k : Int) + 1] (axU [(l : Int) + 1] as).1).2 * pAt ps k)) := by
      have : (axU [(k : Int) + 1] as).2 * pAt ps k * ((axU [(l : Int) + 1] (axU [(k : Int) + 1] as).1).2 * pAt ps l) = ((axU [(k : Int) + 1] as).2 * (axU [(l : Int) + 1] (axU [(k : Int) + 1] as).1).2) * (pAt ps k * pAt ps l) := by grind
      rw [this, f1]; grind
    rw [c1]
    rcases f2 with z | z
    · have z2 : (axU [(l : Int) + 1] as).2 * pAt ps l * ((axU [(k : Int) + 1] (axU [(l : Int) + 1] as).1).2 * pAt ps k) = 0 := by
        have : (axU [(l : Int) + 1] as).2 * pAt ps l * ((axU [(k : Int) + 1] (axU [(l : Int) + 1] as).1).2 * pAt ps k) = ((axU [(l : Int) + 1] as).2 * (axU [(k : Int) + 1] (axU [(l : Int) + 1] as).1).2) * (pAt ps k * pAt ps l) := by grind
        rw [this]
        have : (axU [(l : Int) + 1] as).2 * (axU [(k : Int) + 1] (axU [(l : Int) + 1] as).1).2 = 0 := by omega
        rw [this, Int.zero_mul]
      rw [z2]; simp [Rat.zero_mul]
    · rw [z, Rat.intCast_neg]; grind
theorem sumR_lin (c : Nat → Rat) (f : Nat → Key → Rat) (B : List Cf) : ∀ n, sumR n (fun k => c k * lin (f k) B) = lin (fun b => sumR n fun k => c k * f k b) B
  | 0 => by simp only [sumR]; exact (lin_zeroF B).symm
  | n + 1 => by simp only [sumR]; rw [sumR_lin c f B n, lin_add (fun b => sumR n fun k => c k * f k b) (fun b => c n * f n b), lin_smul]
/-- the rise of a product -/
theorem rise_prod {n i j : Nat} {A B : List Cf} (hn : n ≤ 3) (hA : Keys n i A) (hB : Keys n j B) : Eqs (riseL (prodL A B)) (prodL (riseL A) B ++ scL (if i % 2 = 1 then -1 else 1) (prodL A (riseL B))) := fun key => by
  rw [dsum_append, dsum_sc, dsum_lin, dsum_lin, dsum_lin]
  unfold prodL
  rw [lin_riseL, lin_bil, lin_bil, lin_bil, lin_riseL, Rat.mul_comm, ← lin_smul, ← lin_add]
  refine lin_congr fun a ha => ?_
  obtain ⟨⟨as, ps⟩, r⟩ := a
  have hka := hA _ ha
  have hlp : ps.length = n := hka.pw.1
  simp only [hlp]
  rw [sumR_lin, ← lin_smul, lin_riseL, ← lin_add]
  refine lin_congr fun b hb => ?_
  obtain ⟨⟨bs, qs⟩, t⟩ := b
  have hkb := hB _ hb
  have hlq : qs.length = n := hkb.pw.1
  have hl : ps.length = qs.length := by rw [hlp, hlq]
  simp only [kapP, sigP, hlq]
  have hlen : (padd ps qs).length = n := by unfold padd; rw [List.length_zipWith, hlp, hlq, Nat.min_self]
  simp only [hlen]
  rw [← sumR_mul, ← sumR_add]
  refine sumR_congr fun k hk => ?_
  have f := rise_fin3 as (ax_subs hn hka.ax) bs (ax_subs hn hkb.ax) _ (k123 hn hk)
  obtain ⟨⟨f1, f2⟩, f3, f4⟩ := f
  simp only [sgA, axA, axT_axU]
  rw [pAt_padd hl, (chg_padd hl).1, (chg_padd hl).2]
  have hsi : as.length = i := hka.len
  rw [hsi] at f3
  generalize hx : (axU as bs).2 = x at *
  generalize hy : (axU [(k : Int) + 1] (axU as bs).1).2 = y at *
  generalize (axU [(k : Int) + 1] as).2 = u at *
  generalize (axU (axU [(k : Int) + 1] as).1 bs).2 = v at *
  generalize (axU [(k : Int) + 1] bs).2 = u' at *
  generalize (axU as (axU [(k : Int) + 1] bs).1).2 = v' at *
  have g1 : (x : Rat) * (y : Rat) = (u : Rat) * (v : Rat) := by rw [← Rat.intCast_mul, ← Rat.intCast_mul, f1]
  have g3 : (x : Rat) * (y : Rat) = (if i % 2 = 1 then -1 else 1 : Rat) * ((u' : Rat) * (v' : Rat)) := by
    rw [← Rat.intCast_mul, f3, Rat.intCast_mul, Rat.intCast_mul]
    congr 1
    split <;> rfl
  by_cases z : x * y = 0
  · have z0 : (x : Rat) * (y : Rat) = 0 := by rw [← Rat.intCast_mul, z]; rfl
    rw [z0] at g1 g3
    simp only [Rat.intCast_mul, Rat.intCast_add]
    grind
  · rcases f2 with f2 | f2
    · exact (z f2).elim
    rcases f4 with f4 | f4
    · exact (z f4).elim
    rw [← f2, ← f4]
    simp only [Rat.intCast_mul, Rat.intCast_add]
    grind
end DD
namespace DD
open PySem PySem.W PyProof.Rows
theorem chg_cut {ps : List Int} {k : Nat} {c : Int} (h : k < ps.length) : ps.take k ++ [pAt ps k + c] ++ ps.drop (k + 1) = chg ps k c := by
  rw [chg, List.set_eq_take_append_cons_drop, if_pos h, List.append_assoc]; rfl
/-- the rise as the loops gather it -/
def riseK (e : Cf) (k : Nat) : List Cf := if sgA k e.1.1 * pAt e.1.2 k = 0 then [] else [((axA k e.1.1, chg e.1.2 k (-1)), e.2 * ((sgA k e.1.1 * pAt e.1.2 k : Int) : Rat))]
def riseP (e : Cf) (b : Nat) : List Cf := (List.range b).flatMap (riseK e)
def riseT (e : Cf) : List Cf := riseP e e.1.2.length
def riseF (A : List Cf) : List Cf := A.flatMap riseT
theorem riseP_s (e : Cf) (b : Nat) : riseP e (b + 1) = riseP e b ++ riseK e b := by
  simp [riseP, List.range_succ, List.flatMap_append]
theorem riseF_cons (pre : List Cf) (a : Cf) (post : List Cf) : riseF (pre ++ a :: post) = riseF pre ++ (riseT a ++ riseF post) := by
  simp only [riseF, List.flatMap_append, List.flatMap_cons]
theorem riseF_app (A B : List Cf) : riseF (A ++ B) = riseF A ++ riseF B := by simp [riseF, List.flatMap_append]
theorem riseP_split (e : Cf) {b : Nat} (h : b < e.1.2.length) : ∃ L, riseT e = riseP e b ++ (riseK e b ++ L) := by
  have : ∀ m, ∃ L, riseP e (b + 1 + m) = riseP e b ++ (riseK e b ++ L) := fun m => by
    induction m with
    | zero => exact ⟨[], by rw [Nat.add_zero, riseP_s]; simp⟩
    | succ m ih =>
      obtain ⟨L, hL⟩ := ih
      refine ⟨L ++ riseK e (b + 1 + m), ?_⟩
      rw [show b + 1 + (m + 1) = (b + 1 + m) + 1 by omega, riseP_s, hL]; simp
  obtain ⟨L, hL⟩ := this (e.1.2.length - (b + 1))
  exact ⟨L, by rw [riseT, ← hL]; congr 1; omega⟩
theorem mem_riseF {A : List Cf} {c : Cf} (h : c ∈ riseF A) : ∃ e ∈ A, ∃ k, k < e.1.2.length ∧ sgA k e.1.1 * pAt e.1.2 k ≠ 0 ∧ c = ((axA k e.1.1, chg e.1.2 k (-1)), e.2 * ((sgA k e.1.1 * pAt e.1.2 k : Int) : Rat)) := by
  obtain ⟨e, he, h⟩ := List.mem_flatMap.mp h
  obtain ⟨k, hk, h⟩ := List.mem_flatMap.mp h
  unfold riseK at h
  split at h
  · cases h
  · rename_i n
    exact ⟨e, he, k, List.mem_range.mp hk, n, List.mem_singleton.mp h⟩
theorem riseF_eqs (A : List Cf) : Eqs (riseF A) (riseL A) := fun key => by
  unfold riseF riseL lnr
  refine dsum_flatMap fun e _ => ?_
  have : ∀ b, dsum (riseP e b) key = dsum (((List.range b).map fun k => ((axA k e.1.1, chg e.1.2 k (-1)), sgA k e.1.1 * pAt e.1.2 k)).map fun q => (q.1, e.2 * (q.2 : Rat))) key := fun b => by
    induction b with
    | zero => rfl
    | succ b ih =>
      rw [riseP_s, dsum_append, ih, List.range_succ, List.map_append, List.map_append, dsum_append]
      congr 1
      unfold riseK
      split
      · rename_i h
        simp only [List.map_cons, List.map_nil, dsum, h]
        split <;> simp [Rat.mul_zero, Rat.add_zero]
      · rfl
  exact this _
theorem riseK_len (e : Cf) (k : Nat) : (riseK e k).length ≤ 1 := by unfold riseK; split <;> simp
theorem riseP_len (e : Cf) : ∀ b, (riseP e b).length ≤ b
  | 0 => by simp [riseP]
  | b + 1 => by rw [riseP_s, List.length_append]; have := riseP_len e b; have := riseK_len e b; omega
theorem riseF_len {n j : Nat} {A : List Cf} (h : Keys n j A) : (riseF A).length ≤ A.length * n := flatMap_len fun e he => by
  have := riseP_len e e.1.2.length
  rw [(h e he).pw.1] at this
  rw [riseT, (h e he).pw.1]; exact this
theorem pAt_mem {ps : List Int} {k : Nat} (h : k < ps.length) : pAt ps k ∈ ps := by
  simp [pAt, List.getD_eq_getElem?_getD, h]
theorem chg_mem {ps : List Int} {k : Nat} {c x : Int} (h : x ∈ chg ps k c) : x ∈ ps ∨ x = pAt ps k + c := List.mem_or_eq_of_mem_set h
theorem riseKey {n j k : Nat} {key : Key} (hn : n ≤ 3) (h : KeyOk n j key) (hk : k < n) (hs : sgA k key.1 * pAt key.2 k ≠ 0) : KeyOk n (j + 1) (axA k key.1, chg key.2 k (-1)) := by
  have s0 : sgA k key.1 ≠ 0 := fun z => hs (by rw [z, Int.zero_mul])
  have p0 : pAt key.2 k ≠ 0 := fun z => hs (by rw [z, Int.mul_zero])
  have f := rise_fin key.1 (ax_subs hn h.ax) _ (k123 hn hk)
  have hl : k < key.2.length := by rw [h.pw.1]; exact hk
  unfold sgA at s0
  rw [axT_axU] at s0
  obtain ⟨f1, f2, f3⟩ := f.2 s0
  have hp : (axU [(k : Int) + 1] key.1).1.Pairwise (· < ·) := by
    revert f1; generalize (axU [(k : Int) + 1] key.1).1 = L
    intro f1
    have : ∀ L ∈ subs3, L.Pairwise (· < ·) := by decide +kernel
    exact this L f1
  have e : axA k key.1 = (axU [(k : Int) + 1] key.1).1 := by rw [axA, axT_axU]
  rw [e]
  refine ⟨⟨hp, fun z hz => ?_⟩, by rw [f2, h.len], by rw [chg_len]; exact h.pw.1, fun x hx => ?_⟩
  · rcases f3 z hz with q | q
    · subst q; omega
    · exact h.ax.2 z q
  · rcases chg_mem hx with q | q
    · exact h.pw.2 x q
    · have := h.pw.2 _ (pAt_mem hl)
      omega
theorem sgA_one {n j k : Nat} {as : List Int} (hn : n ≤ 3) (h : AxK n as) (hk : k < n) : (sgA k as).natAbs ≤ 1 := by
  have f := (rise_fin as (ax_subs hn h) _ (k123 hn hk)).1
  rw [sgA, axT_axU]
  rcases f with ⟨f, _⟩ | ⟨f | f, _⟩ <;> rw [f] <;> decide
theorem sgA_zero {n k : Nat} {as : List Int} (hn : n ≤ 3) (h : AxK n as) (hk : k < n) : sgA k as = 0 ↔ ((k : Int) + 1) ∈ as := by
  have f := (rise_fin as (ax_subs hn h) _ (k123 hn hk)).1
  rw [sgA, axT_axU]
  rcases f with ⟨f, g⟩ | ⟨f | f, g⟩ <;> rw [f] <;> simp [g]
theorem eqs_rise {A B : List Cf} (h : Eqs A B) : Eqs (riseF A) (riseF B) := (riseF_eqs A).trans ((lnr_eqs h).trans (riseF_eqs B).symm)
/-- places in a list, one after another -/
theorem drop_cons {α : Type} {L : List α} {b : Nat} {x : α} {xs : List α} (h : x :: xs = L.drop b) : L[b]? = some x ∧ xs = L.drop (b + 1) ∧ b < L.length := by
  have hb : b < L.length := by
    refine Classical.byContradiction fun z => ?_
    rw [List.drop_of_length_le (by omega)] at h; cases h
  rw [List.drop_eq_getElem_cons hb] at h
  injection h with h1 h2
  exact ⟨by rw [h1]; simp [hb], h2, hb⟩
theorem drop_nil {α : Type} {L : List α} {b : Nat} (h : [] = L.drop b) : L.length ≤ b := by
  have := congrArg List.length h
  simp at this; omega
theorem enum_get {xs : List D} {c : Int} {b : Nat} {x : D} (h : (enumD xs c)[b]? = some x) : ∃ y, xs[b]? = some y ∧ x = .tup [.int (c + (b : Int)), y] := by
  unfold enumD at h
  rw [List.getElem?_map] at h
  obtain ⟨⟨i, y⟩, h1, rfl⟩ := Option.map_eq_some_iff.mp h
  obtain ⟨h2, h3⟩ := List.getElem?_zip_eq_some.mp h1
  have : i = b := by
    have hb := (List.getElem?_eq_some_iff.mp h2)
    obtain ⟨hb, e⟩ := hb
    simpa using e.symm
  subst this
  exact ⟨y, h3, rfl⟩
theorem enum_len (xs : List D) (c : Int) : (enumD xs c).length = xs.length := by
  unfold enumD
  rw [List.length_map, List.length_zip, List.length_range, Nat.min_self]
end DD
namespace DD.K43
open PySem PySem.W PyProof.Rows DD
local macro_rules | `(tactic| walk_at "ev") => `(tactic| try simp only [ws_nil, ws_cons, ws_asg, ws_exp, ws_ret, ws_pass, ws_if, ws_aug, ws_forr, wt_one, wt_sub, wt_many, wt_nil, wt_cons,
  w_var, w_con, w_glob, w_tup, w_lst, w_dct, w_bin, w_neg, w_cmp, w_cmp2, w_band, w_bor, w_and1, w_and, w_or1, w_or, w_not, w_ife, w_sub, w_slc, w_o0, w_o1, w_rev, w_call, w_callk, w_callp, w_calld, w_bi, w_mth, w_lc, w_dc, w_allg, w_es0, w_es, w_c0, w_c1, wi_ex, wi_keys, wi_rng, wi_zip, wi_enum,
  w_some, List.map_cons, List.map_nil, List.replicate_succ, List.replicate_zero, List.cons_append, List.nil_append, Nat.reduceSub,
  List.getElem?_cons_zero, List.getElem?_cons_succ, List.set_cons_zero, List.set_cons_succ, bindC, bindMany, wipeD, ownC, Option.some.injEq, exists_eq_left', D.bl.injEq, D.int.injEq, D.tup.injEq, truD, opC, biD, true_implies, Bool.false_eq_true, reduceCtorEq, false_implies, and_true, true_and, Bool.not_true, Bool.not_false, Bool.true_eq_false])
section
open PySem DD
def f_is_whole : Fn := ⟨1, 1, [(.ret (.band [(.bi (.isi .int) [(.var 0)]), (.bnot (.bi (.isi .bool) [(.var 0)]))]))]⟩
def f_is_between : Fn := ⟨3, 3, [(.ret (.band [(.call 0 [(.var 0)]), (.cmp2 .le .le (.var 1) (.var 0) (.var 2))]))]⟩
def f_is_ascending : Fn := ⟨3, 6, [(.iff (.bnot (.bi (.isi .tuple) [(.var 0)])) [(.ret (.con (.bl false)))] []), (.iff (.bnot (.allg (.call 1 [(.var 3), (.var 1), (.var 2)]) 3 (.var 0))) [(.ret (.con (.bl false)))] []), (.ret (.bi .all [(.lc (.cmp .lt (.var 4) (.var 5)) (.many [4, 5]) (.zip (.var 0) (.slc (.var 0) (some (.con (.int 1))) none)) [])]))]⟩
def f_check_dimension : Fn := ⟨3, 3, [(.iff (.bnot (.call 1 [(.var 0), (.var 1), (.var 2)])) [.stuck] [])]⟩
def f_check_least : Fn := ⟨2, 2, [(.iff (.bnot (.call 1 [(.var 0), (.con (.int 0)), (.var 1)])) [.stuck] [])]⟩
def f_faces_of : Fn := ⟨2, 4, [(.exp (.calld 3 [(.var 0)] [(.int 0), (.int 3)])), (.exp (.call 4 [(.var 1), (.var 0)])), (.asg (.one 2) (.lst [])), (.forr (.one 3) (.rng [(.bin .add (.var 1) (.con (.int 1))), (.bin .add (.var 0) (.con (.int 2)))]) [(.exp (.mth .extend (.var 2) [(.bi .comb [(.bin .add (.var 0) (.con (.int 1))), (.var 3)])]))]), (.ret (.bi .tuple [(.var 2)]))]⟩
def f_face_of_cell : Fn := ⟨2, 3, [(.ret (.bi .tuple [(.lc (.sub (.var 0) (.var 2)) (.one 2) (.ex (.var 1)) [])]))]⟩
def f_common_corners : Fn := ⟨2, 3, [(.ret (.bi .tuple [(.lc (.var 2) (.one 2) (.ex (.var 0)) [(.cmp .inn (.var 2) (.var 1))])]))]⟩
def f_is_parting : Fn := ⟨1, 5, [(.iff (.bor [(.bnot (.bi (.isi .tuple) [(.var 0)])), (.cmp .ne (.bi .len [(.var 0)]) (.con (.int 2)))]) [(.ret (.con (.bl false)))] []), (.asg (.many [(.one 1), (.one 2)]) (.var 0)), (.iff (.bor [(.bnot (.call 1 [(.var 1), (.con (.int 1)), (.con (.int 3))])), (.bnot (.bi (.isi .tuple) [(.var 2)])), (.bnot (.call 1 [(.bi .len [(.var 2)]), (.con (.int 1)), (.con (.int 12))]))]) [(.ret (.con (.bl false)))] []), (.iff (.bnot (.allg (.band [(.call 2 [(.var 3), (.con (.int 0)), (.con (.int 999))]), (.cmp .eq (.bi .len [(.var 3)]) (.bin .add (.var 1) (.con (.int 1))))]) 3 (.var 2))) [(.ret (.con (.bl false)))] []), (.ret (.bi .all [(.lc (.cmp .lt (.var 3) (.var 4)) (.many [3, 4]) (.zip (.var 2) (.slc (.var 2) (some (.con (.int 1))) none)) [])]))]⟩
def f_check_parting : Fn := ⟨1, 1, [(.iff (.bnot (.call 8 [(.var 0)])) [.stuck] [])]⟩
def f_faces_in : Fn := ⟨2, 5, [(.exp (.call 9 [(.var 0)])), (.exp (.call 3 [(.var 1), (.con (.int 0)), (.sub (.var 0) (.con (.int 0)))])), (.asg (.one 2) (.dct [] [])), (.forr (.one 3) (.ex (.call 5 [(.sub (.var 0) (.con (.int 0))), (.var 1)])) [(.iff (.cmp .eq (.bi .len [(.var 3)]) (.bin .add (.var 1) (.con (.int 1)))) [(.forr (.one 4) (.ex (.sub (.var 0) (.con (.int 1)))) [(.asg (.sub (.var 2) (.call 6 [(.var 4), (.var 3)])) (.con (.bl true)))])] [])]), (.ret (.bi .tuple [(.bi .sorted [(.var 2)])]))]⟩
def f_common_face : Fn := ⟨3, 3, [(.exp (.call 9 [(.var 0)])), (.exp (.call 12 [(.var 0), (.var 1)])), (.exp (.call 12 [(.var 0), (.var 2)])), (.ret (.call 7 [(.sub (.sub (.var 0) (.con (.int 1))) (.var 1)), (.sub (.sub (.var 0) (.con (.int 1))) (.var 2))]))]⟩
def f_check_index : Fn := ⟨2, 2, [(.iff (.bnot (.call 1 [(.var 1), (.con (.int 0)), (.bin .sub (.bi .len [(.sub (.var 0) (.con (.int 1)))]) (.con (.int 1)))])) [.stuck] [])]⟩
def f_law_spring : Fn := ⟨2, 5, [(.asg (.one 2) (.ife (.cmp .lt (.var 1) (.bi .len [(.var 0)])) (.bi .int [(.sub (.var 0) (.var 1))]) (.bin .add (.bin .mul (.con (.int 4099)) (.var 1)) (.con (.int 613))))), (.asg (.one 3) (.bin .add (.con (.int 50021)) (.bin .mul (.con (.int 5081)) (.var 1)))), (.forr (.one 4) (.ex (.slc (.var 0) none (some (.con (.int 9))))) [(.asg (.one 3) (.bin .mod (.bi .int [(.bin .add (.bin .add (.bin .mul (.var 3) (.con (.int 75013))) (.bin .mul (.bin .mod (.bi .int [(.var 4)]) (.con (.int 998244353))) (.con (.int 40961)))) (.con (.int 23)))]) (.con (.int 2147483647))))]), (.asg (.one 3) (.bin .mod (.bi .int [(.bin .add (.bin .add (.bin .mul (.var 3) (.con (.int 211))) (.bin .mul (.bin .mod (.bi .int [(.var 2)]) (.con (.int 998244353))) (.con (.int 61057)))) (.con (.int 11)))]) (.con (.int 2147483647)))), (.ret (.lst [(.ife (.cmp .ge (.bi .abs [(.var 2)]) (.bin .pow (.con (.int 10)) (.con (.int 18)))) (.bi .abs [(.var 2)]) (.con (.int 0))), (.var 3), (.con (.int 0))]))]⟩
def f_law_draw : Fn := ⟨2, 4, [(.iff (.cmp .gt (.sub (.var 0) (.con (.int 0))) (.con (.int 0))) [(.asg (.many [(.sub (.var 0) (.con (.int 0))), (.one 2)]) (.bi .divmod [(.sub (.var 0) (.con (.int 0))), (.var 1)])), (.ret (.var 2))] []), (.asg (.sub (.var 0) (.con (.int 2))) (.bin .add (.sub (.var 0) (.con (.int 2))) (.con (.int 1)))), (.asg (.one 3) (.bin .mod (.bi .int [(.bin .add (.sub (.var 0) (.con (.int 1))) (.bin .mul (.con (.int 50021)) (.sub (.var 0) (.con (.int 2)))))]) (.con (.int 2147483647)))), (.asg (.one 3) (.bin .mod (.bi .int [(.bin .add (.bin .mul (.var 3) (.bin .add (.bin .mod (.bi .int [(.var 3)]) (.con (.int 8191))) (.con (.int 48271)))) (.bin .mul (.con (.int 37)) (.sub (.var 0) (.con (.int 2)))))]) (.con (.int 2147483647)))), (.asg (.sub (.var 0) (.con (.int 1))) (.var 3)), (.ret (.bin .mod (.bi .int [(.bin .fdiv (.var 3) (.con (.int 239)))]) (.var 1)))]⟩
def f_law_pick : Fn := ⟨2, 2, [(.ret (.sub (.var 1) (.call 14 [(.var 0), (.bi .len [(.var 1)])])))]⟩
def f_law_parting : Fn := ⟨2, 9, [(.asg (.many [(.one 2), (.one 3), (.one 4)]) (.tup [(.call 15 [(.var 0), (.lst [(.con (.int 1)), (.con (.int 2)), (.con (.int 2)), (.con (.int 3)), (.con (.int 2))])]), (.call 15 [(.var 0), (.lst [(.neg (.con (.int 1))), (.neg (.con (.int 1))), (.con (.int 0)), (.con (.int 40)), (.con (.int 936))])]), (.lst [])])), (.forr (.one 5) (.rng [(.bin .add (.bin .add (.var 2) (.con (.int 1))) (.call 14 [(.var 0), (.con (.int 4))]))]) [(.asg (.one 3) (.bin .add (.bin .add (.var 3) (.con (.int 1))) (.call 15 [(.var 0), (.lst [(.con (.int 0)), (.con (.int 0)), (.con (.int 0)), (.con (.int 1)), (.con (.int 8))])]))), (.exp (.mth .append (.var 4) [(.var 3)]))]), (.asg (.one 6) (.lst [])), (.forr (.one 5) (.rng [(.bin .add (.con (.int 1)) (.call 14 [(.var 0), (.var 1)]))]) [(.asg (.one 7) (.bi .list [(.var 4)])), (.forr (.one 8) (.rng [(.bin .sub (.bin .sub (.bi .len [(.var 4)]) (.var 2)) (.con (.int 1)))]) [(.exp (.mth .popl (.var 7) [(.call 14 [(.var 0), (.bi .len [(.var 7)])])]))]), (.iff (.cmp .notin (.bi .tuple [(.var 7)]) (.var 6)) [(.exp (.mth .append (.var 6) [(.bi .tuple [(.var 7)])]))] [])]), (.ret (.tup [(.var 2), (.bi .tuple [(.bi .sorted [(.var 6)])])]))]⟩
def f_law_subsets : Fn := ⟨2, 5, [(.asg (.one 2) (.lst [(.tup [])])), (.forr (.one 3) (.ex (.var 0)) [(.asg (.one 2) (.bin .add (.var 2) (.lc (.bin .add (.var 4) (.tup [(.var 3)])) (.one 4) (.ex (.var 2)) [])))]), (.ret (.lc (.var 4) (.one 4) (.ex (.var 2)) [(.cmp .eq (.bi .len [(.var 4)]) (.var 1))]))]⟩
def f_law_faces_in : Fn := ⟨2, 5, [(.asg (.one 2) (.lst [])), (.forr (.one 3) (.ex (.sub (.var 0) (.con (.int 1)))) [(.asg (.one 2) (.bin .add (.var 2) (.lc (.var 4) (.one 4) (.ex (.call 17 [(.var 3), (.bin .add (.var 1) (.con (.int 1)))])) [(.cmp .notin (.var 4) (.var 2))])))]), (.ret (.bi .sorted [(.var 2)]))]⟩
def f_law_is_whole : Fn := ⟨1, 1, [(.ret (.band [(.bi (.isi .int) [(.var 0)]), (.bnot (.bi (.isi .bool) [(.var 0)]))]))]⟩
def f_law_is_cell : Fn := ⟨2, 3, [(.iff (.bor [(.bnot (.bi (.isi .tuple) [(.var 0)])), (.cmp .ne (.bi .len [(.var 0)]) (.bin .add (.var 1) (.con (.int 1)))), (.bnot (.bi .all [(.lc (.band [(.call 19 [(.var 2)]), (.cmp2 .le .le (.con (.int 0)) (.var 2) (.con (.int 999)))]) (.one 2) (.ex (.var 0)) [])]))]) [(.ret (.con (.bl false)))] []), (.ret (.cmp .eq (.lc (.var 2) (.one 2) (.rng [(.var 1)]) [(.cmp .le (.sub (.var 0) (.bin .add (.var 2) (.con (.int 1)))) (.sub (.var 0) (.var 2)))]) (.lst [])))]⟩
def f_law_is_parting : Fn := ⟨1, 4, [(.iff (.bor [(.bnot (.bi (.isi .tuple) [(.var 0)])), (.cmp .ne (.bi .len [(.var 0)]) (.con (.int 2))), (.bnot (.call 19 [(.sub (.var 0) (.con (.int 0)))])), (.bnot (.cmp2 .le .le (.con (.int 1)) (.sub (.var 0) (.con (.int 0))) (.con (.int 3))))]) [(.ret (.con (.bl false)))] []), (.asg (.one 1) (.sub (.var 0) (.con (.int 1)))), (.iff (.bor [(.bnot (.bi (.isi .tuple) [(.var 1)])), (.bnot (.cmp2 .le .le (.con (.int 1)) (.bi .len [(.var 1)]) (.con (.int 12)))), (.bnot (.bi .all [(.lc (.call 20 [(.var 2), (.sub (.var 0) (.con (.int 0)))]) (.one 2) (.ex (.var 1)) [])]))]) [(.ret (.con (.bl false)))] []), (.ret (.cmp .eq (.lc (.var 3) (.one 3) (.rng [(.con (.int 1)), (.bi .len [(.var 1)])]) [(.cmp .le (.sub (.var 1) (.var 3)) (.sub (.var 1) (.bin .sub (.var 3) (.con (.int 1)))))]) (.lst [])))]⟩
def f_law_bent_cell : Fn := ⟨2, 4, [(.asg (.one 2) (.call 14 [(.var 0), (.bi .len [(.var 1)])])), (.asg (.one 3) (.call 15 [(.var 0), (.lst [(.con (.int 1000)), (.neg (.con (.int 1))), (.con (.bl true)), (.con .non), (.con (.str "1")), (.sub (.var 1) (.con (.int 0))), (.bin .add (.sub (.var 1) (.var 2)) (.con (.int 1))), (.con (.int 999)), (.tup [(.con (.int 1))])])])), (.ret (.call 15 [(.var 0), (.lst [(.rev (.var 1)), (.bin .add (.var 1) (.tup [(.con (.int 999))])), (.slc (.var 1) (some (.con (.int 1))) none), (.bi .list [(.var 1)]), (.con .non), (.sub (.var 1) (.con (.int 0))), (.bin .add (.bin .add (.slc (.var 1) none (some (.var 2))) (.tup [(.var 3)])) (.slc (.var 1) (some (.bin .add (.var 2) (.con (.int 1)))) none)), (.bin .add (.bin .add (.slc (.var 1) none (some (.var 2))) (.tup [(.var 3)])) (.slc (.var 1) (some (.bin .add (.var 2) (.con (.int 1)))) none)), (.bin .add (.var 1) (.slc (.var 1) none (some (.con (.int 1))))), (.bin .add (.bin .add (.slc (.var 1) none (some (.var 2))) (.slc (.var 1) (some (.var 2)) (some (.bin .add (.var 2) (.con (.int 1)))))) (.slc (.var 1) (some (.var 2)) none))])]))]⟩
def f_law_bent : Fn := ⟨2, 8, [(.asg (.many [(.one 2), (.one 3)]) (.var 1)), (.asg (.many [(.one 4), (.one 5)]) (.tup [(.call 14 [(.var 0), (.con (.int 7))]), (.call 14 [(.var 0), (.bi .len [(.var 3)])])])), (.iff (.cmp .eq (.var 4) (.con (.int 0))) [(.ret (.tup [(.call 15 [(.var 0), (.lst [(.con (.int 0)), (.con (.int 4)), (.con (.bl true)), (.con .non), (.bin .add (.var 2) (.con (.int 1))), (.bin .sub (.var 2) (.con (.int 1))), (.con (.str "1")), (.tup [(.var 2)])])]), (.var 3)]))] []), (.iff (.cmp .eq (.var 4) (.con (.int 1))) [(.ret (.call 15 [(.var 0), (.lst [(.tup [(.var 2), (.bi .list [(.var 3)])]), (.tup [(.var 2), (.tup [])]), (.tup [(.var 2), (.sub (.var 3) (.con (.int 0)))]), (.tup [(.var 2)]), (.tup [(.var 2), (.var 3), (.tup [])]), (.lst [(.var 2), (.var 3)]), (.tup [(.var 3), (.var 2)]), (.tup [(.var 2), (.con .non)]), (.var 3), (.tup [(.var 2), (.dct [] [])]), (.tup [(.var 2), (.con (.str "cells"))])])]))] []), (.iff (.cmp .eq (.var 4) (.con (.int 2))) [(.ret (.tup [(.var 2), (.rev (.var 3))]))] []), (.iff (.cmp .eq (.var 4) (.con (.int 3))) [(.ret (.tup [(.var 2), (.bin .add (.bin .add (.slc (.var 3) none (some (.var 5))) (.slc (.var 3) (some (.var 5)) (some (.bin .add (.var 5) (.con (.int 1)))))) (.slc (.var 3) (some (.var 5)) none))]))] []), (.iff (.cmp .eq (.var 4) (.con (.int 4))) [(.asg (.one 6) (.bin .add (.con (.int 11)) (.call 14 [(.var 0), (.con (.int 4))]))), (.ret (.tup [(.con (.int 1)), (.bi .tuple [(.lc (.tup [(.con (.int 0)), (.bin .add (.bin .mul (.con (.int 3)) (.var 7)) (.con (.int 1)))]) (.one 7) (.rng [(.var 6)]) [])])]))] []), (.ret (.tup [(.var 2), (.bin .add (.bin .add (.slc (.var 3) none (some (.var 5))) (.tup [(.call 22 [(.var 0), (.sub (.var 3) (.var 5))])])) (.slc (.var 3) (some (.bin .add (.var 5) (.con (.int 1)))) none))]))]⟩
def f_law_right : Fn := ⟨1, 13, [(.asg (.one 1) (.call 16 [(.var 0), (.con (.int 12))])), (.asg (.many [(.one 2), (.one 3)]) (.var 1)), (.iff (.cmp .ne (.bi .repr [(.lst [(.call 8 [(.var 1)]), (.callk 8 [(.var 1)] ["value"])])]) (.bi .repr [(.lst [(.con (.bl true)), (.con (.bl true))])])) [(.ret (.con (.bl false)))] []), (.asg (.one 4) (.call 15 [(.var 0), (.lst [(.con .non), (.con (.int 1)), (.con (.str "parting")), (.tup []), (.tup [(.con (.int 1)), (.tup [(.tup [(.con (.int 0)), (.con (.int 1))])])]), (.tup [(.con (.int 1)), (.tup [(.tup [(.con (.int 1)), (.con (.int 0))])])]), (.tup [(.con (.int 0)), (.tup [(.tup [(.con (.int 0))])])]), (.dct [] []), (.lst []), (.con (.bl true)), (.tup [(.con (.int 1)), (.tup [(.tup [(.con (.int 0)), (.con (.int 1))]), (.con (.int 5))])])])])), (.forr (.one 5) (.ex (.lst [(.call 23 [(.var 0), (.var 1)]), (.call 23 [(.var 0), (.var 1)]), (.var 4)])) [(.iff (.cmp .ne (.bi .repr [(.lst [(.call 8 [(.var 5)]), (.callk 8 [(.var 5)] ["value"])])]) (.bi .repr [(.bin .mul (.lst [(.call 21 [(.var 5)])]) (.con (.int 2)))])) [(.ret (.con (.bl false)))] [])]), (.forr (.one 6) (.rng [(.bin .add (.var 2) (.con (.int 1)))]) [(.asg (.one 7) (.bi .tuple [(.call 18 [(.var 1), (.var 6)])])), (.iff (.cmp .ne (.bi .repr [(.lst [(.call 10 [(.var 1), (.var 6)]), (.callp 10 [(.var 6), (.var 1)] ["dimension", "parting"] [1, 0])])]) (.bi .repr [(.lst [(.var 7), (.var 7)])])) [(.ret (.con (.bl false)))] [])]), (.forr (.many [(.one 8), (.one 9)]) (.enum (.var 3) 0) [(.asg (.one 10) (.call 14 [(.var 0), (.bi .len [(.var 3)])])), (.asg (.one 7) (.bi .tuple [(.lc (.var 11) (.one 11) (.ex (.var 9)) [(.cmp .inn (.var 11) (.sub (.var 3) (.var 10)))])])), (.asg (.one 12) (.lst [(.call 11 [(.var 1), (.var 8), (.var 10)]), (.callp 11 [(.var 8), (.var 10), (.var 1)] ["other", "index", "parting"] [2, 1, 0])])), (.iff (.cmp .ne (.bi .repr [(.bin .add (.var 12) (.lst [(.call 11 [(.var 1), (.var 8), (.var 8)])]))]) (.bi .repr [(.lst [(.var 7), (.var 7), (.var 9)])])) [(.ret (.con (.bl false)))] [])]), (.ret (.con (.bl true)))]⟩
def f_law : Fn := ⟨1, 2, [(.ret (.bi .all [(.lc (.call 24 [(.call 13 [(.var 0), (.var 1)])]) (.one 1) (.rng [(.bi .max [(.con (.int 2)), (.bi .min [(.bi .len [(.var 0)]), (.con (.int 3))])])]) [])]))]⟩
def prog : List Fn := [f_is_whole, f_is_between, f_is_ascending, f_check_dimension, f_check_least, f_faces_of, f_face_of_cell, f_common_corners, f_is_parting, f_check_parting, f_faces_in, f_common_face, f_check_index, f_law_spring, f_law_draw, f_law_pick, f_law_parting, f_law_subsets, f_law_faces_in, f_law_is_whole, f_law_is_cell, f_law_is_parting, f_law_bent_cell, f_law_bent, f_law_right, f_law]
end
section
open PySem PySem.Spec PyProof.Rows L2 DD
def fnL : List PySem.Str := [PySem.Str.ofString "is_whole", PySem.Str.ofString "is_between", PySem.Str.ofString "is_ascending", PySem.Str.ofString "check_dimension", PySem.Str.ofString "check_least", PySem.Str.ofString "faces_of", PySem.Str.ofString "face_of_cell", PySem.Str.ofString "common_corners", PySem.Str.ofString "is_parting", PySem.Str.ofString "check_parting", PySem.Str.ofString "faces_in", PySem.Str.ofString "common_face", PySem.Str.ofString "_check_index", PySem.Str.ofString "_law_spring", PySem.Str.ofString "_law_draw", PySem.Str.ofString "_law_pick", PySem.Str.ofString "_law_parting", PySem.Str.ofString "_law_subsets", PySem.Str.ofString "_law_faces_in", PySem.Str.ofString "_law_is_whole", PySem.Str.ofString "_law_is_cell", PySem.Str.ofString "_law_is_parting", PySem.Str.ofString "_law_bent_cell", PySem.Str.ofString "_law_bent", PySem.Str.ofString "_law_right", PySem.Str.ofString "law"]
def parL : List (List PySem.Str) := [[PySem.Str.ofString "value"], [PySem.Str.ofString "value", PySem.Str.ofString "least", PySem.Str.ofString "greatest"], [PySem.Str.ofString "value", PySem.Str.ofString "least", PySem.Str.ofString "greatest"], [PySem.Str.ofString "dimension", PySem.Str.ofString "least", PySem.Str.ofString "greatest"], [PySem.Str.ofString "least", PySem.Str.ofString "dimension"], [PySem.Str.ofString "dimension", PySem.Str.ofString "least"], [PySem.Str.ofString "cell", PySem.Str.ofString "own"], [PySem.Str.ofString "cell", PySem.Str.ofString "other"], [PySem.Str.ofString "value"], [PySem.Str.ofString "parting"], [PySem.Str.ofString "parting", PySem.Str.ofString "dimension"], [PySem.Str.ofString "parting", PySem.Str.ofString "index", PySem.Str.ofString "other"], [PySem.Str.ofString "parting", PySem.Str.ofString "index"], [PySem.Str.ofString "script", PySem.Str.ofString "turn"], [PySem.Str.ofString "spring", PySem.Str.ofString "many"], [PySem.Str.ofString "spring", PySem.Str.ofString "some"], [PySem.Str.ofString "spring", PySem.Str.ofString "most"], [PySem.Str.ofString "cell", PySem.Str.ofString "many"], [PySem.Str.ofString "parting", PySem.Str.ofString "m"], [PySem.Str.ofString "x"], [PySem.Str.ofString "x", PySem.Str.ofString "n"], [PySem.Str.ofString "x"], [PySem.Str.ofString "spring", PySem.Str.ofString "cell"], [PySem.Str.ofString "spring", PySem.Str.ofString "parting"], [PySem.Str.ofString "spring"], [PySem.Str.ofString "script"]]
def namL : List (List PySem.Str) := [[PySem.Str.ofString "value"], [PySem.Str.ofString "value", PySem.Str.ofString "least", PySem.Str.ofString "greatest"], [PySem.Str.ofString "value", PySem.Str.ofString "least", PySem.Str.ofString "greatest", PySem.Str.ofString "each", PySem.Str.ofString "low", PySem.Str.ofString "high"], [PySem.Str.ofString "dimension", PySem.Str.ofString "least", PySem.Str.ofString "greatest"], [PySem.Str.ofString "least", PySem.Str.ofString "dimension"], [PySem.Str.ofString "dimension", PySem.Str.ofString "least", PySem.Str.ofString "found", PySem.Str.ofString "size"], [PySem.Str.ofString "cell", PySem.Str.ofString "own", PySem.Str.ofString "corner"], [PySem.Str.ofString "cell", PySem.Str.ofString "other", PySem.Str.ofString "corner"], [PySem.Str.ofString "value", PySem.Str.ofString "dimension", PySem.Str.ofString "cells", PySem.Str.ofString "cell", PySem.Str.ofString "later"], [PySem.Str.ofString "parting"], [PySem.Str.ofString "parting", PySem.Str.ofString "dimension", PySem.Str.ofString "found", PySem.Str.ofString "face", PySem.Str.ofString "cell"], [PySem.Str.ofString "parting", PySem.Str.ofString "index", PySem.Str.ofString "other"], [PySem.Str.ofString "parting", PySem.Str.ofString "index"], [PySem.Str.ofString "script", PySem.Str.ofString "turn", PySem.Str.ofString "own", PySem.Str.ofString "mixed", PySem.Str.ofString "each"], [PySem.Str.ofString "spring", PySem.Str.ofString "many", PySem.Str.ofString "figure", PySem.Str.ofString "step"], [PySem.Str.ofString "spring", PySem.Str.ofString "some"], [PySem.Str.ofString "spring", PySem.Str.ofString "most", PySem.Str.ofString "n", PySem.Str.ofString "last", PySem.Str.ofString "numbers", PySem.Str.ofString "turn", PySem.Str.ofString "found", PySem.Str.ofString "left", PySem.Str.ofString "k"], [PySem.Str.ofString "cell", PySem.Str.ofString "many", PySem.Str.ofString "found", PySem.Str.ofString "number", PySem.Str.ofString "some"], [PySem.Str.ofString "parting", PySem.Str.ofString "m", PySem.Str.ofString "found", PySem.Str.ofString "cell", PySem.Str.ofString "face"], [PySem.Str.ofString "x"], [PySem.Str.ofString "x", PySem.Str.ofString "n", PySem.Str.ofString "k"], [PySem.Str.ofString "x", PySem.Str.ofString "cells", PySem.Str.ofString "cell", PySem.Str.ofString "k"], [PySem.Str.ofString "spring", PySem.Str.ofString "cell", PySem.Str.ofString "at", PySem.Str.ofString "odd"], [PySem.Str.ofString "spring", PySem.Str.ofString "parting", PySem.Str.ofString "n", PySem.Str.ofString "cells", PySem.Str.ofString "way", PySem.Str.ofString "at", PySem.Str.ofString "many", PySem.Str.ofString "k"], [PySem.Str.ofString "spring", PySem.Str.ofString "parting", PySem.Str.ofString "n", PySem.Str.ofString "cells", PySem.Str.ofString "odd", PySem.Str.ofString "value", PySem.Str.ofString "m", PySem.Str.ofString "due", PySem.Str.ofString "index", PySem.Str.ofString "cell", PySem.Str.ofString "other", PySem.Str.ofString "number", PySem.Str.ofString "told"], [PySem.Str.ofString "script", PySem.Str.ofString "turn"]]
def topL : List Nat := [2, 3, 4, 12, 13, 15, 17, 18, 20, 21, 22, 23, 24, 26, 27, 28, 29, 30, 31, 32, 33, 34, 35, 36, 37, 38]
def top (i : Nat) : Stmt := PySem.Challenge.pw_cellrises_k43_partings_of_anything.main.body.getD i (.Pass ⟨0, 0, 0, 0⟩)
def bltL : List Str := ["abs", "len", "int", "all", "sum", "max", "min", "divmod", "tuple", "list", "sorted", "repr", "str", "isinstance", "bool", "dict", "range", "zip", "enumerate", "set"]
def cstL : List (Str × D) := []
def bfL : List (Str × String) := []
def kwsL : List (Str × List Str × List Nat) := [("common_face", ["other", "index", "parting"], [2, 1, 0]), ("faces_in", ["dimension", "parting"], [1, 0])]
def dfsL : List (Str × List D) := [("check_dimension", [(.int 0), (.int 3)])]
def tysL : List (Str × String) := [("combinations", "itertools.combinations")]
def GL : Gl0 := { fns := fnL, pars := parL, csts := cstL, blts := bltL, bfs := bfL, kws := fun x ks pi => decide ((x, ks, pi) ∈ kwsL), tys := tysL, dfs := fun x ds => decide ((x, ds) ∈ dfsL) }
def tbL (N : List Str) : Bool := decide (N = (["value", "least", "greatest", "each", "low", "high"] : List Str)) || decide (N = (["value", "dimension", "cells", "cell", "later"] : List Str))
instance tabsI : Tabs := ⟨[48, 182]⟩
theorem sc_0 : FnScope ["value"] ["value"] (defScope (top 2)) := ⟨rfl, rfl, rfl, by decide +kernel, rfl, by decide +kernel, by decide +kernel⟩
theorem ck_0 : chkB (GL.gens tbL) ["value"] f_is_whole.body (defScope (top 2)) (defBody (top 2)) = true := by decide +kernel
theorem sc_1 : FnScope ["value", "least", "greatest"] ["value", "least", "greatest"] (defScope (top 3)) := ⟨rfl, rfl, rfl, by decide +kernel, rfl, by decide +kernel, by decide +kernel⟩
theorem ck_1 : chkB (GL.gens tbL) ["value", "least", "greatest"] f_is_between.body (defScope (top 3)) (defBody (top 3)) = true := by decide +kernel
theorem sc_2 : FnScope ["value", "least", "greatest", "each", "low", "high"] ["value", "least", "greatest"] (defScope (top 4)) := ⟨rfl, rfl, rfl, by decide +kernel, rfl, by decide +kernel, by decide +kernel⟩
theorem ck_2 : chkB (GL.gens tbL) ["value", "least", "greatest", "each", "low", "high"] f_is_ascending.body (defScope (top 4)) (defBody (top 4)) = true := by decide +kernel
theorem sc_3 : FnScope ["dimension", "least", "greatest"] ["dimension", "least", "greatest"] (defScope (top 12)) := ⟨rfl, rfl, rfl, by decide +kernel, rfl, by decide +kernel, by decide +kernel⟩
theorem ck_3 : chkB (GL.gens tbL) ["dimension", "least", "greatest"] f_check_dimension.body (defScope (top 12)) (defBody (top 12)) = true := by decide +kernel
theorem sc_4 : FnScope ["least", "dimension"] ["least", "dimension"] (defScope (top 13)) := ⟨rfl, rfl, rfl, by decide +kernel, rfl, by decide +kernel, by decide +kernel⟩
theorem ck_4 : chkB (GL.gens tbL) ["least", "dimension"] f_check_least.body (defScope (top 13)) (defBody (top 13)) = true := by decide +kernel
theorem sc_5 : FnScope ["dimension", "least", "found", "size"] ["dimension", "least"] (defScope (top 15)) := ⟨rfl, rfl, rfl, by decide +kernel, rfl, by decide +kernel, by decide +kernel⟩
theorem ck_5 : chkB (GL.gens tbL) ["dimension", "least", "found", "size"] f_faces_of.body (defScope (top 15)) (defBody (top 15)) = true := by decide +kernel
theorem sc_6 : FnScope ["cell", "own", "corner"] ["cell", "own"] (defScope (top 17)) := ⟨rfl, rfl, rfl, by decide +kernel, rfl, by decide +kernel, by decide +kernel⟩
theorem ck_6 : chkB (GL.gens tbL) ["cell", "own", "corner"] f_face_of_cell.body (defScope (top 17)) (defBody (top 17)) = true := by decide +kernel
theorem sc_7 : FnScope ["cell", "other", "corner"] ["cell", "other"] (defScope (top 18)) := ⟨rfl, rfl, rfl, by decide +kernel, rfl, by decide +kernel, by decide +kernel⟩
theorem ck_7 : chkB (GL.gens tbL) ["cell", "other", "corner"] f_common_corners.body (defScope (top 18)) (defBody (top 18)) = true := by decide +kernel
theorem sc_8 : FnScope ["value", "dimension", "cells", "cell", "later"] ["value"] (defScope (top 20)) := ⟨rfl, rfl, rfl, by decide +kernel, rfl, by decide +kernel, by decide +kernel⟩
theorem ck_8 : chkB (GL.gens tbL) ["value", "dimension", "cells", "cell", "later"] f_is_parting.body (defScope (top 20)) (defBody (top 20)) = true := by decide +kernel
theorem sc_9 : FnScope ["parting"] ["parting"] (defScope (top 21)) := ⟨rfl, rfl, rfl, by decide +kernel, rfl, by decide +kernel, by decide +kernel⟩
theorem ck_9 : chkB (GL.gens tbL) ["parting"] f_check_parting.body (defScope (top 21)) (defBody (top 21)) = true := by decide +kernel
theorem sc_10 : FnScope ["parting", "dimension", "found", "face", "cell"] ["parting", "dimension"] (defScope (top 22)) := ⟨rfl, rfl, rfl, by decide +kernel, rfl, by decide +kernel, by decide +kernel⟩
theorem ck_10 : chkB (GL.gens tbL) ["parting", "dimension", "found", "face", "cell"] f_faces_in.body (defScope (top 22)) (defBody (top 22)) = true := by decide +kernel
theorem sc_11 : FnScope ["parting", "index", "other"] ["parting", "index", "other"] (defScope (top 23)) := ⟨rfl, rfl, rfl, by decide +kernel, rfl, by decide +kernel, by decide +kernel⟩
theorem ck_11 : chkB (GL.gens tbL) ["parting", "index", "other"] f_common_face.body (defScope (top 23)) (defBody (top 23)) = true := by decide +kernel
theorem sc_12 : FnScope ["parting", "index"] ["parting", "index"] (defScope (top 24)) := ⟨rfl, rfl, rfl, by decide +kernel, rfl, by decide +kernel, by decide +kernel⟩
theorem ck_12 : chkB (GL.gens tbL) ["parting", "index"] f_check_index.body (defScope (top 24)) (defBody (top 24)) = true := by decide +kernel
theorem sc_13 : FnScope ["script", "turn", "own", "mixed", "each"] ["script", "turn"] (defScope (top 26)) := ⟨rfl, rfl, rfl, by decide +kernel, rfl, by decide +kernel, by decide +kernel⟩
theorem ck_13 : chkB (GL.gens tbL) ["script", "turn", "own", "mixed", "each"] f_law_spring.body (defScope (top 26)) (defBody (top 26)) = true := by decide +kernel
theorem sc_14 : FnScope ["spring", "many", "figure", "step"] ["spring", "many"] (defScope (top 27)) := ⟨rfl, rfl, rfl, by decide +kernel, rfl, by decide +kernel, by decide +kernel⟩
theorem ck_14 : chkB (GL.gens tbL) ["spring", "many", "figure", "step"] f_law_draw.body (defScope (top 27)) (defBody (top 27)) = true := by decide +kernel
theorem sc_15 : FnScope ["spring", "some"] ["spring", "some"] (defScope (top 28)) := ⟨rfl, rfl, rfl, by decide +kernel, rfl, by decide +kernel, by decide +kernel⟩
theorem ck_15 : chkB (GL.gens tbL) ["spring", "some"] f_law_pick.body (defScope (top 28)) (defBody (top 28)) = true := by decide +kernel
theorem sc_16 : FnScope ["spring", "most", "n", "last", "numbers", "turn", "found", "left", "k"] ["spring", "most"] (defScope (top 29)) := ⟨rfl, rfl, rfl, by decide +kernel, rfl, by decide +kernel, by decide +kernel⟩
theorem ck_16 : chkB (GL.gens tbL) ["spring", "most", "n", "last", "numbers", "turn", "found", "left", "k"] f_law_parting.body (defScope (top 29)) (defBody (top 29)) = true := by decide +kernel
theorem sc_17 : FnScope ["cell", "many", "found", "number", "some"] ["cell", "many"] (defScope (top 30)) := ⟨rfl, rfl, rfl, by decide +kernel, rfl, by decide +kernel, by decide +kernel⟩
theorem ck_17 : chkB (GL.gens tbL) ["cell", "many", "found", "number", "some"] f_law_subsets.body (defScope (top 30)) (defBody (top 30)) = true := by decide +kernel
theorem sc_18 : FnScope ["parting", "m", "found", "cell", "face"] ["parting", "m"] (defScope (top 31)) := ⟨rfl, rfl, rfl, by decide +kernel, rfl, by decide +kernel, by decide +kernel⟩
theorem ck_18 : chkB (GL.gens tbL) ["parting", "m", "found", "cell", "face"] f_law_faces_in.body (defScope (top 31)) (defBody (top 31)) = true := by decide +kernel
theorem sc_19 : FnScope ["x"] ["x"] (defScope (top 32)) := ⟨rfl, rfl, rfl, by decide +kernel, rfl, by decide +kernel, by decide +kernel⟩
theorem ck_19 : chkB (GL.gens tbL) ["x"] f_law_is_whole.body (defScope (top 32)) (defBody (top 32)) = true := by decide +kernel
theorem sc_20 : FnScope ["x", "n", "k"] ["x", "n"] (defScope (top 33)) := ⟨rfl, rfl, rfl, by decide +kernel, rfl, by decide +kernel, by decide +kernel⟩
theorem ck_20 : chkB (GL.gens tbL) ["x", "n", "k"] f_law_is_cell.body (defScope (top 33)) (defBody (top 33)) = true := by decide +kernel
theorem sc_21 : FnScope ["x", "cells", "cell", "k"] ["x"] (defScope (top 34)) := ⟨rfl, rfl, rfl, by decide +kernel, rfl, by decide +kernel, by decide +kernel⟩
theorem ck_21 : chkB (GL.gens tbL) ["x", "cells", "cell", "k"] f_law_is_parting.body (defScope (top 34)) (defBody (top 34)) = true := by decide +kernel
theorem sc_22 : FnScope ["spring", "cell", "at", "odd"] ["spring", "cell"] (defScope (top 35)) := ⟨rfl, rfl, rfl, by decide +kernel, rfl, by decide +kernel, by decide +kernel⟩
theorem ck_22 : chkB (GL.gens tbL) ["spring", "cell", "at", "odd"] f_law_bent_cell.body (defScope (top 35)) (defBody (top 35)) = true := by decide +kernel
theorem sc_23 : FnScope ["spring", "parting", "n", "cells", "way", "at", "many", "k"] ["spring", "parting"] (defScope (top 36)) := ⟨rfl, rfl, rfl, by decide +kernel, rfl, by decide +kernel, by decide +kernel⟩
theorem ck_23 : chkB (GL.gens tbL) ["spring", "parting", "n", "cells", "way", "at", "many", "k"] f_law_bent.body (defScope (top 36)) (defBody (top 36)) = true := by decide +kernel
theorem sc_24 : FnScope ["spring", "parting", "n", "cells", "odd", "value", "m", "due", "index", "cell", "other", "number", "told"] ["spring"] (defScope (top 37)) := ⟨rfl, rfl, rfl, by decide +kernel, rfl, by decide +kernel, by decide +kernel⟩
theorem ck_24 : chkB (GL.gens tbL) ["spring", "parting", "n", "cells", "odd", "value", "m", "due", "index", "cell", "other", "number", "told"] f_law_right.body (defScope (top 37)) (defBody (top 37)) = true := by decide +kernel
theorem sc_25 : FnScope ["script", "turn"] ["script"] (defScope (top 38)) := ⟨rfl, rfl, rfl, by decide +kernel, rfl, by decide +kernel, by decide +kernel⟩
theorem ck_25 : chkB (GL.gens tbL) ["script", "turn"] f_law.body (defScope (top 38)) (defBody (top 38)) = true := by decide +kernel
section
variable {K : PySem.W.Frag} {h : Heap} {mg : Str → Option Value} {base : Heap}
/-- what is asked of the written part for one def -/
structure At (K : PySem.W.Frag) (mg : Str → Option Value) (x : Str) (st : Stmt) (cdv : Value) : Prop where
  ex : ∃ (f : Addr) (fd : FuncData) (kV doc pm : Value) (an : Option Addr) (ct : Value), fd = PySem.W.fnOf x x (defArgs st) (defBody st) (defScope st) .none kV doc pm an cdv ct ∧ Fun K x x st f fd ∧ mg x = some (.ref f)
theorem at_mk (X : K.In h) (G : h.Ns mainGlobals mg) {x : Str} {st : Stmt} {f : Addr} {oc : Value} {od an : Option Addr} {osl : Array (Option Value)} {kV doc pm cdv ct : Value}
    (a : PySem.W.nsIn K mainGlobals x = some (some (.ref f))) (l : K.lookup f = some ⟨oc, od, .func (PySem.W.fnOf x x (defArgs st) (defBody st) (defScope st) .none kV doc pm an cdv ct), osl⟩)
    (c : PySem.W.codeIn K cdv x = true) (k : PySem.W.keepIn K (.ref f) = true) : At K mg x st cdv :=
  ⟨⟨f, _, kV, doc, pm, an, ct, rfl, fun_mk l c k, PySem.W.mg_of X G a⟩⟩
theorem cst_mk (X : K.In h) (G : h.Ns mainGlobals mg) {x : Str} {a : Addr} {od : Option Addr} {its : Array Value} {n : Nat} {sl : Array (Option Value)} (e : PySem.W.nsIn K mainGlobals x = some (some (.ref a))) (l : K.lookup a = some ⟨.type "tuple", od, .seq its n, sl⟩)
    (zs : List Int) (z : its.size ≤ sizeLine) (v : Vals (zs.map V.int) its.toList) : ∃ u v, mg x = some u ∧ RelV v u ∧ ∀ vw, RD K vw (.tup (zs.map .int)) v := by
  refine ⟨_, .ref a, PySem.W.mg_of X G e, rfl, fun vw => .tup (vs := zs.map V.int) (.inr ⟨_, its, n, l, rfl, rfl, z, v⟩) ?_⟩
  clear v
  induction zs with
  | nil => exact .nil
  | cons n zs ih => exact .cons (.int n) ih
theorem ok_mk {G : Gl0} {fn : Fn} {x : Str} {st : Stmt} {cdv : Value} {N ps : List Str} (A : At K mg x st cdv)
    (b : ∀ (kV doc pm : Value) (an : Option Addr) (ct : Value) (us : List Value), us.length = ps.length → bindArgs (PySem.W.fnOf x x (defArgs st) (defBody st) (defScope st) .none kV doc pm an cdv ct) ⟨us, []⟩ = pure (ps.zip us))
    (kw : ∀ (kV doc pm : Value) (an : Option Addr) (ct : Value) (us : List Value), us.length = ps.length → bindArgs (PySem.W.fnOf x x (defArgs st) (defBody st) (defScope st) .none kV doc pm an cdv ct) ⟨[], ps.zip us⟩ = pure (ps.zip us))
    (kn : ∀ ks pi, G.kws x ks pi = true → ∀ (kV doc pm : Value) (an : Option Addr) (ct : Value) (us : List Value), us.length = ks.length → bindArgs (PySem.W.fnOf x x (defArgs st) (defBody st) (defScope st) .none kV doc pm an cdv ct) ⟨[], ks.zip us⟩ = pure (ps.zip (pi.map fun i => us.getD i .none)))
    (S : FnScope N ps (defScope st)) (np : fn.np = ps.length) (nn : fn.nn = N.length) (hl : ps.length ≤ N.length) (ck : chkB G N fn.body (defScope st) (defBody st) = true)
    (tb : G.tb N = true → ∃ c P, cdv = .ref c ∧ P ∈ Tabs.ts ∧ GxR.TabB base mg c P) (dn : ∀ ds, G.dfs x ds ≠ true) : DefOk G K mg base fn x ps := by
  obtain ⟨f, fd, kV, doc, pm, an, ct, rfl, F, m⟩ := A.ex
  exact ⟨st, f, _, N, FunD.of F, m, .all fun us hl => b kV doc pm an ct us hl, ⟨fun s us _ hl => .of_eq (kw kV doc pm an ct us hl), fun ks pi h s us _ hl => .of_eq (kn ks pi h kV doc pm an ct us hl), fun ds h => (dn ds h).elim⟩, S, np, nn, hl, ck, tb⟩
/-- a def with defaults -/
structure AtD (K : PySem.W.Frag) (mg : Str → Option Value) (x : Str) (st : Stmt) (cdv : Value) (zs : List Int) : Prop where
  ex : ∃ (f : Addr) (fd : FuncData) (T : Addr) (kV doc pm : Value) (an : Option Addr) (ct : Value) (tc : Value) (td : Option Addr) (tn : Nat) (ts : Array (Option Value)) (its : List Value), fd = PySem.W.fnOf x x (defArgs st) (defBody st) (defScope st) (.ref T) kV doc pm an cdv ct ∧ FunD K x x st f fd ∧ mg x = some (.ref f) ∧ K.lookup T = some ⟨tc, td, .seq its.toArray tn, ts⟩ ∧ Vals (zs.map V.int) its
theorem at_mkD (X : K.In h) (G : h.Ns mainGlobals mg) {x : Str} {st : Stmt} {f T : Addr} {oc : Value} {od an : Option Addr} {osl : Array (Option Value)} {kV doc pm cdv ct : Value} {its : Array Value} {zs : List Int} {tc : Value} {td : Option Addr} {tn : Nat} {ts : Array (Option Value)}
    (a : PySem.W.nsIn K mainGlobals x = some (some (.ref f))) (l : K.lookup f = some ⟨oc, od, .func (PySem.W.fnOf x x (defArgs st) (defBody st) (defScope st) (.ref T) kV doc pm an cdv ct), osl⟩)
    (c : PySem.W.codeIn K cdv x = true) (k : PySem.W.keepIn K (.ref f) = true) (t : K.lookup T = some ⟨tc, td, .seq its tn, ts⟩) (v : Vals (zs.map V.int) its.toList) : AtD K mg x st cdv zs :=
  ⟨⟨f, _, T, kV, doc, pm, an, ct, tc, td, tn, ts, its.toList, rfl, ⟨⟨oc, od, .ref T, kV, doc, pm, an, cdv, ct, osl, rfl, l, c⟩, k⟩, PySem.W.mg_of X G a, by rw [Array.toArray_toList]; exact t, v⟩⟩
end
theorem kn_0 (cdv : Value) : ∀ ks pi, (GL.gens tbL).kws "is_whole" ks pi = true → ∀ (kV doc pm : Value) (an : Option Addr) (ct : Value) (us : List Value), us.length = ks.length → bindArgs (PySem.W.fnOf "is_whole" "is_whole" (defArgs (top 2)) (defBody (top 2)) (defScope (top 2)) .none kV doc pm an cdv ct) ⟨[], ks.zip us⟩ = pure ((["value"] : List Str).zip (pi.map fun i => us.getD i .none)) := by
  intro ks pi h
  have h : decide ((("is_whole" : Str), ks, pi) ∈ kwsL) = true := h
  have h := of_decide_eq_true h
  simp only [kwsL, List.mem_cons, List.not_mem_nil, or_false, Prod.mk.injEq] at h
  rcases h with ⟨e, rfl, rfl⟩ | ⟨e, rfl, rfl⟩
  · exact absurd e (by decide +kernel)
  · exact absurd e (by decide +kernel)
theorem kn_1 (cdv : Value) : ∀ ks pi, (GL.gens tbL).kws "is_between" ks pi = true → ∀ (kV doc pm : Value) (an : Option Addr) (ct : Value) (us : List Value), us.length = ks.length → bindArgs (PySem.W.fnOf "is_between" "is_between" (defArgs (top 3)) (defBody (top 3)) (defScope (top 3)) .none kV doc pm an cdv ct) ⟨[], ks.zip us⟩ = pure ((["value", "least", "greatest"] : List Str).zip (pi.map fun i => us.getD i .none)) := by
  intro ks pi h
  have h : decide ((("is_between" : Str), ks, pi) ∈ kwsL) = true := h
  have h := of_decide_eq_true h
  simp only [kwsL, List.mem_cons, List.not_mem_nil, or_false, Prod.mk.injEq] at h
  rcases h with ⟨e, rfl, rfl⟩ | ⟨e, rfl, rfl⟩
  · exact absurd e (by decide +kernel)
  · exact absurd e (by decide +kernel)
theorem kn_2 (cdv : Value) : ∀ ks pi, (GL.gens tbL).kws "is_ascending" ks pi = true → ∀ (kV doc pm : Value) (an : Option Addr) (ct : Value) (us : List Value), us.length = ks.length → bindArgs (PySem.W.fnOf "is_ascending" "is_ascending" (defArgs (top 4)) (defBody (top 4)) (defScope (top 4)) .none kV doc pm an cdv ct) ⟨[], ks.zip us⟩ = pure ((["value", "least", "greatest"] : List Str).zip (pi.map fun i => us.getD i .none)) := by
  intro ks pi h
  have h : decide ((("is_ascending" : Str), ks, pi) ∈ kwsL) = true := h
  have h := of_decide_eq_true h
  simp only [kwsL, List.mem_cons, List.not_mem_nil, or_false, Prod.mk.injEq] at h
  rcases h with ⟨e, rfl, rfl⟩ | ⟨e, rfl, rfl⟩
  · exact absurd e (by decide +kernel)
  · exact absurd e (by decide +kernel)
theorem kn_3 (cdv : Value) : ∀ ks pi, (GL.gens tbL).kws "check_dimension" ks pi = true → ∀ (kV doc pm : Value) (an : Option Addr) (ct : Value) (us : List Value), us.length = ks.length → bindArgs (PySem.W.fnOf "check_dimension" "check_dimension" (defArgs (top 12)) (defBody (top 12)) (defScope (top 12)) .none kV doc pm an cdv ct) ⟨[], ks.zip us⟩ = pure ((["dimension", "least", "greatest"] : List Str).zip (pi.map fun i => us.getD i .none)) := by
  intro ks pi h
  have h : decide ((("check_dimension" : Str), ks, pi) ∈ kwsL) = true := h
  have h := of_decide_eq_true h
  simp only [kwsL, List.mem_cons, List.not_mem_nil, or_false, Prod.mk.injEq] at h
  rcases h with ⟨e, rfl, rfl⟩ | ⟨e, rfl, rfl⟩
  · exact absurd e (by decide +kernel)
  · exact absurd e (by decide +kernel)
theorem kn_4 (cdv : Value) : ∀ ks pi, (GL.gens tbL).kws "check_least" ks pi = true → ∀ (kV doc pm : Value) (an : Option Addr) (ct : Value) (us : List Value), us.length = ks.length → bindArgs (PySem.W.fnOf "check_least" "check_least" (defArgs (top 13)) (defBody (top 13)) (defScope (top 13)) .none kV doc pm an cdv ct) ⟨[], ks.zip us⟩ = pure ((["least", "dimension"] : List Str).zip (pi.map fun i => us.getD i .none)) := by
  intro ks pi h
  have h : decide ((("check_least" : Str), ks, pi) ∈ kwsL) = true := h
  have h := of_decide_eq_true h
  simp only [kwsL, List.mem_cons, List.not_mem_nil, or_false, Prod.mk.injEq] at h
  rcases h with ⟨e, rfl, rfl⟩ | ⟨e, rfl, rfl⟩
  · exact absurd e (by decide +kernel)
  · exact absurd e (by decide +kernel)
theorem kn_5 (cdv : Value) : ∀ ks pi, (GL.gens tbL).kws "faces_of" ks pi = true → ∀ (kV doc pm : Value) (an : Option Addr) (ct : Value) (us : List Value), us.length = ks.length → bindArgs (PySem.W.fnOf "faces_of" "faces_of" (defArgs (top 15)) (defBody (top 15)) (defScope (top 15)) .none kV doc pm an cdv ct) ⟨[], ks.zip us⟩ = pure ((["dimension", "least"] : List Str).zip (pi.map fun i => us.getD i .none)) := by
  intro ks pi h
  have h : decide ((("faces_of" : Str), ks, pi) ∈ kwsL) = true := h
  have h := of_decide_eq_true h
  simp only [kwsL, List.mem_cons, List.not_mem_nil, or_false, Prod.mk.injEq] at h
  rcases h with ⟨e, rfl, rfl⟩ | ⟨e, rfl, rfl⟩
  · exact absurd e (by decide +kernel)
  · exact absurd e (by decide +kernel)
theorem kn_6 (cdv : Value) : ∀ ks pi, (GL.gens tbL).kws "face_of_cell" ks pi = true → ∀ (kV doc pm : Value) (an : Option Addr) (ct : Value) (us : List Value), us.length = ks.length → bindArgs (PySem.W.fnOf "face_of_cell" "face_of_cell" (defArgs (top 17)) (defBody (top 17)) (defScope (top 17)) .none kV doc pm an cdv ct) ⟨[], ks.zip us⟩ = pure ((["cell", "own"] : List Str).zip (pi.map fun i => us.getD i .none)) := by
  intro ks pi h
  have h : decide ((("face_of_cell" : Str), ks, pi) ∈ kwsL) = true := h
  have h := of_decide_eq_true h
  simp only [kwsL, List.mem_cons, List.not_mem_nil, or_false, Prod.mk.injEq] at h
  rcases h with ⟨e, rfl, rfl⟩ | ⟨e, rfl, rfl⟩
  · exact absurd e (by decide +kernel)
  · exact absurd e (by decide +kernel)
theorem kn_7 (cdv : Value) : ∀ ks pi, (GL.gens tbL).kws "common_corners" ks pi = true → ∀ (kV doc pm : Value) (an : Option Addr) (ct : Value) (us : List Value), us.length = ks.length → bindArgs (PySem.W.fnOf "common_corners" "common_corners" (defArgs (top 18)) (defBody (top 18)) (defScope (top 18)) .none kV doc pm an cdv ct) ⟨[], ks.zip us⟩ = pure ((["cell", "other"] : List Str).zip (pi.map fun i => us.getD i .none)) := by
  intro ks pi h
  have h : decide ((("common_corners" : Str), ks, pi) ∈ kwsL) = true := h
  have h := of_decide_eq_true h
  simp only [kwsL, List.mem_cons, List.not_mem_nil, or_false, Prod.mk.injEq] at h
  rcases h with ⟨e, rfl, rfl⟩ | ⟨e, rfl, rfl⟩
  · exact absurd e (by decide +kernel)
  · exact absurd e (by decide +kernel)
theorem kn_8 (cdv : Value) : ∀ ks pi, (GL.gens tbL).kws "is_parting" ks pi = true → ∀ (kV doc pm : Value) (an : Option Addr) (ct : Value) (us : List Value), us.length = ks.length → bindArgs (PySem.W.fnOf "is_parting" "is_parting" (defArgs (top 20)) (defBody (top 20)) (defScope (top 20)) .none kV doc pm an cdv ct) ⟨[], ks.zip us⟩ = pure ((["value"] : List Str).zip (pi.map fun i => us.getD i .none)) := by
  intro ks pi h
  have h : decide ((("is_parting" : Str), ks, pi) ∈ kwsL) = true := h
  have h := of_decide_eq_true h
  simp only [kwsL, List.mem_cons, List.not_mem_nil, or_false, Prod.mk.injEq] at h
  rcases h with ⟨e, rfl, rfl⟩ | ⟨e, rfl, rfl⟩
  · exact absurd e (by decide +kernel)
  · exact absurd e (by decide +kernel)
theorem kn_9 (cdv : Value) : ∀ ks pi, (GL.gens tbL).kws "check_parting" ks pi = true → ∀ (kV doc pm : Value) (an : Option Addr) (ct : Value) (us : List Value), us.length = ks.length → bindArgs (PySem.W.fnOf "check_parting" "check_parting" (defArgs (top 21)) (defBody (top 21)) (defScope (top 21)) .none kV doc pm an cdv ct) ⟨[], ks.zip us⟩ = pure ((["parting"] : List Str).zip (pi.map fun i => us.getD i .none)) := by
  intro ks pi h
  have h : decide ((("check_parting" : Str), ks, pi) ∈ kwsL) = true := h
  have h := of_decide_eq_true h
  simp only [kwsL, List.mem_cons, List.not_mem_nil, or_false, Prod.mk.injEq] at h
  rcases h with ⟨e, rfl, rfl⟩ | ⟨e, rfl, rfl⟩
  · exact absurd e (by decide +kernel)
  · exact absurd e (by decide +kernel)
theorem kn_10 (cdv : Value) : ∀ ks pi, (GL.gens tbL).kws "faces_in" ks pi = true → ∀ (kV doc pm : Value) (an : Option Addr) (ct : Value) (us : List Value), us.length = ks.length → bindArgs (PySem.W.fnOf "faces_in" "faces_in" (defArgs (top 22)) (defBody (top 22)) (defScope (top 22)) .none kV doc pm an cdv ct) ⟨[], ks.zip us⟩ = pure ((["parting", "dimension"] : List Str).zip (pi.map fun i => us.getD i .none)) := by
  intro ks pi h
  have h : decide ((("faces_in" : Str), ks, pi) ∈ kwsL) = true := h
  have h := of_decide_eq_true h
  simp only [kwsL, List.mem_cons, List.not_mem_nil, or_false, Prod.mk.injEq] at h
  rcases h with ⟨e, rfl, rfl⟩ | ⟨e, rfl, rfl⟩
  · exact absurd e (by decide +kernel)
  · exact fun _ _ _ _ _ us hl => match us, hl with | [_, _], _ => rfl
theorem kn_11 (cdv : Value) : ∀ ks pi, (GL.gens tbL).kws "common_face" ks pi = true → ∀ (kV doc pm : Value) (an : Option Addr) (ct : Value) (us : List Value), us.length = ks.length → bindArgs (PySem.W.fnOf "common_face" "common_face" (defArgs (top 23)) (defBody (top 23)) (defScope (top 23)) .none kV doc pm an cdv ct) ⟨[], ks.zip us⟩ = pure ((["parting", "index", "other"] : List Str).zip (pi.map fun i => us.getD i .none)) := by
  intro ks pi h
  have h : decide ((("common_face" : Str), ks, pi) ∈ kwsL) = true := h
  have h := of_decide_eq_true h
  simp only [kwsL, List.mem_cons, List.not_mem_nil, or_false, Prod.mk.injEq] at h
  rcases h with ⟨e, rfl, rfl⟩ | ⟨e, rfl, rfl⟩
  · exact fun _ _ _ _ _ us hl => match us, hl with | [_, _, _], _ => rfl
  · exact absurd e (by decide +kernel)
theorem kn_12 (cdv : Value) : ∀ ks pi, (GL.gens tbL).kws "_check_index" ks pi = true → ∀ (kV doc pm : Value) (an : Option Addr) (ct : Value) (us : List Value), us.length = ks.length → bindArgs (PySem.W.fnOf "_check_index" "_check_index" (defArgs (top 24)) (defBody (top 24)) (defScope (top 24)) .none kV doc pm an cdv ct) ⟨[], ks.zip us⟩ = pure ((["parting", "index"] : List Str).zip (pi.map fun i => us.getD i .none)) := by
  intro ks pi h
  have h : decide ((("_check_index" : Str), ks, pi) ∈ kwsL) = true := h
  have h := of_decide_eq_true h
  simp only [kwsL, List.mem_cons, List.not_mem_nil, or_false, Prod.mk.injEq] at h
  rcases h with ⟨e, rfl, rfl⟩ | ⟨e, rfl, rfl⟩
  · exact absurd e (by decide +kernel)
  · exact absurd e (by decide +kernel)
theorem kn_13 (cdv : Value) : ∀ ks pi, (GL.gens tbL).kws "_law_spring" ks pi = true → ∀ (kV doc pm : Value) (an : Option Addr) (ct : Value) (us : List Value), us.length = ks.length → bindArgs (PySem.W.fnOf "_law_spring" "_law_spring" (defArgs (top 26)) (defBody (top 26)) (defScope (top 26)) .none kV doc pm an cdv ct) ⟨[], ks.zip us⟩ = pure ((["script", "turn"] : List Str).zip (pi.map fun i => us.getD i .none)) := by
  intro ks pi h
  have h : decide ((("_law_spring" : Str), ks, pi) ∈ kwsL) = true := h
  have h := of_decide_eq_true h
  simp only [kwsL, List.mem_cons, List.not_mem_nil, or_false, Prod.mk.injEq] at h
  rcases h with ⟨e, rfl, rfl⟩ | ⟨e, rfl, rfl⟩
  · exact absurd e (by decide +kernel)
  · exact absurd e (by decide +kernel)
theorem kn_14 (cdv : Value) : ∀ ks pi, (GL.gens tbL).kws "_law_draw" ks pi = true → ∀ (kV doc pm : Value) (an : Option Addr) (ct : Value) (us : List Value), us.length = ks.length → bindArgs (PySem.W.fnOf "_law_draw" "_law_draw" (defArgs (top 27)) (defBody (top 27)) (defScope (top 27)) .none kV doc pm an cdv ct) ⟨[], ks.zip us⟩ = pure ((["spring", "many"] : List Str).zip (pi.map fun i => us.getD i .none)) := by
  intro ks pi h
  have h : decide ((("_law_draw" : Str), ks, pi) ∈ kwsL) = true := h
  have h := of_decide_eq_true h
  simp only [kwsL, List.mem_cons, List.not_mem_nil, or_false, Prod.mk.injEq] at h
  rcases h with ⟨e, rfl, rfl⟩ | ⟨e, rfl, rfl⟩
  · exact absurd e (by decide +kernel)
  · exact absurd e (by decide +kernel)
theorem kn_15 (cdv : Value) : ∀ ks pi, (GL.gens tbL).kws "_law_pick" ks pi = true → ∀ (kV doc pm : Value) (an : Option Addr) (ct : Value) (us : List Value), us.length = ks.length → bindArgs (PySem.W.fnOf "_law_pick" "_law_pick" (defArgs (top 28)) (defBody (top 28)) (defScope (top 28)) .none kV doc pm an cdv ct) ⟨[], ks.zip us⟩ = pure ((["spring", "some"] : List Str).zip (pi.map fun i => us.getD i .none)) := by
  intro ks pi h
  have h : decide ((("_law_pick" : Str), ks, pi) ∈ kwsL) = true := h
  have h := of_decide_eq_true h
  simp only [kwsL, List.mem_cons, List.not_mem_nil, or_false, Prod.mk.injEq] at h
  rcases h with ⟨e, rfl, rfl⟩ | ⟨e, rfl, rfl⟩
  · exact absurd e (by decide +kernel)
  · exact absurd e (by decide +kernel)
theorem kn_16 (cdv : Value) : ∀ ks pi, (GL.gens tbL).kws "_law_parting" ks pi = true → ∀ (kV doc pm : Value) (an : Option Addr) (ct : Value) (us : List Value), us.length = ks.length → bindArgs (PySem.W.fnOf "_law_parting" "_law_parting" (defArgs (top 29)) (defBody (top 29)) (defScope (top 29)) .none kV doc pm an cdv ct) ⟨[], ks.zip us⟩ = pure ((["spring", "most"] : List Str).zip (pi.map fun i => us.getD i .none)) := by
  intro ks pi h
  have h : decide ((("_law_parting" : Str), ks, pi) ∈ kwsL) = true := h
  have h := of_decide_eq_true h
  simp only [kwsL, List.mem_cons, List.not_mem_nil, or_false, Prod.mk.injEq] at h
  rcases h with ⟨e, rfl, rfl⟩ | ⟨e, rfl, rfl⟩
  · exact absurd e (by decide +kernel)
  · exact absurd e (by decide +kernel)
theorem kn_17 (cdv : Value) : ∀ ks pi, (GL.gens tbL).kws "_law_subsets" ks pi = true → ∀ (kV doc pm : Value) (an : Option Addr) (ct : Value) (us : List Value), us.length = ks.length → bindArgs (PySem.W.fnOf "_law_subsets" "_law_subsets" (defArgs (top 30)) (defBody (top 30)) (defScope (top 30)) .none kV doc pm an cdv ct) ⟨[], ks.zip us⟩ = pure ((["cell", "many"] : List Str).zip (pi.map fun i => us.getD i .none)) := by
  intro ks pi h
  have h : decide ((("_law_subsets" : Str), ks, pi) ∈ kwsL) = true := h
  have h := of_decide_eq_true h
  simp only [kwsL, List.mem_cons, List.not_mem_nil, or_false, Prod.mk.injEq] at h
  rcases h with ⟨e, rfl, rfl⟩ | ⟨e, rfl, rfl⟩
  · exact absurd e (by decide +kernel)
  · exact absurd e (by decide +kernel)
theorem kn_18 (cdv : Value) : ∀ ks pi, (GL.gens tbL).kws "_law_faces_in" ks pi = true → ∀ (kV doc pm : Value) (an : Option Addr) (ct : Value) (us : List Value), us.length = ks.length → bindArgs (PySem.W.fnOf "_law_faces_in" "_law_faces_in" (defArgs (top 31)) (defBody (top 31)) (defScope (top 31)) .none kV doc pm an cdv ct) ⟨[], ks.zip us⟩ = pure ((["parting", "m"] : List Str).zip (pi.map fun i => us.getD i .none)) := by
  intro ks pi h
  have h : decide ((("_law_faces_in" : Str), ks, pi) ∈ kwsL) = true := h
  have h := of_decide_eq_true h
  simp only [kwsL, List.mem_cons, List.not_mem_nil, or_false, Prod.mk.injEq] at h
  rcases h with ⟨e, rfl, rfl⟩ | ⟨e, rfl, rfl⟩
  · exact absurd e (by decide +kernel)
  · exact absurd e (by decide +kernel)
theorem kn_19 (cdv : Value) : ∀ ks pi, (GL.gens tbL).kws "_law_is_whole" ks pi = true → ∀ (kV doc pm : Value) (an : Option Addr) (ct : Value) (us : List Value), us.length = ks.length → bindArgs (PySem.W.fnOf "_law_is_whole" "_law_is_whole" (defArgs (top 32)) (defBody (top 32)) (defScope (top 32)) .none kV doc pm an cdv ct) ⟨[], ks.zip us⟩ = pure ((["x"] : List Str).zip (pi.map fun i => us.getD i .none)) := by
  intro ks pi h
  have h : decide ((("_law_is_whole" : Str), ks, pi) ∈ kwsL) = true := h
  have h := of_decide_eq_true h
  simp only [kwsL, List.mem_cons, List.not_mem_nil, or_false, Prod.mk.injEq] at h
  rcases h with ⟨e, rfl, rfl⟩ | ⟨e, rfl, rfl⟩
  · exact absurd e (by decide +kernel)
  · exact absurd e (by decide +kernel)
theorem kn_20 (cdv : Value) : ∀ ks pi, (GL.gens tbL).kws "_law_is_cell" ks pi = true → ∀ (kV doc pm : Value) (an : Option Addr) (ct : Value) (us : List Value), us.length = ks.length → bindArgs (PySem.W.fnOf "_law_is_cell" "_law_is_cell" (defArgs (top 33)) (defBody (top 33)) (defScope (top 33)) .none kV doc pm an cdv ct) ⟨[], ks.zip us⟩ = pure ((["x", "n"] : List Str).zip (pi.map fun i => us.getD i .none)) := by
  intro ks pi h
  have h : decide ((("_law_is_cell" : Str), ks, pi) ∈ kwsL) = true := h
  have h := of_decide_eq_true h
  simp only [kwsL, List.mem_cons, List.not_mem_nil, or_false, Prod.mk.injEq] at h
  rcases h with ⟨e, rfl, rfl⟩ | ⟨e, rfl, rfl⟩
  · exact absurd e (by decide +kernel)
  · exact absurd e (by decide +kernel)
theorem kn_21 (cdv : Value) : ∀ ks pi, (GL.gens tbL).kws "_law_is_parting" ks pi = true → ∀ (kV doc pm : Value) (an : Option Addr) (ct : Value) (us : List Value), us.length = ks.length → bindArgs (PySem.W.fnOf "_law_is_parting" "_law_is_parting" (defArgs (top 34)) (defBody (top 34)) (defScope (top 34)) .none kV doc pm an cdv ct) ⟨[], ks.zip us⟩ = pure ((["x"] : List Str).zip (pi.map fun i => us.getD i .none)) := by
  intro ks pi h
  have h : decide ((("_law_is_parting" : Str), ks, pi) ∈ kwsL) = true := h
  have h := of_decide_eq_true h
  simp only [kwsL, List.mem_cons, List.not_mem_nil, or_false, Prod.mk.injEq] at h
  rcases h with ⟨e, rfl, rfl⟩ | ⟨e, rfl, rfl⟩
  · exact absurd e (by decide +kernel)
  · exact absurd e (by decide +kernel)
theorem kn_22 (cdv : Value) : ∀ ks pi, (GL.gens tbL).kws "_law_bent_cell" ks pi = true → ∀ (kV doc pm : Value) (an : Option Addr) (ct : Value) (us : List Value), us.length = ks.length → bindArgs (PySem.W.fnOf "_law_bent_cell" "_law_bent_cell" (defArgs (top 35)) (defBody (top 35)) (defScope (top 35)) .none kV doc pm an cdv ct) ⟨[], ks.zip us⟩ = pure ((["spring", "cell"] : List Str).zip (pi.map fun i => us.getD i .none)) := by
  intro ks pi h
  have h : decide ((("_law_bent_cell" : Str), ks, pi) ∈ kwsL) = true := h
  have h := of_decide_eq_true h
  simp only [kwsL, List.mem_cons, List.not_mem_nil, or_false, Prod.mk.injEq] at h
  rcases h with ⟨e, rfl, rfl⟩ | ⟨e, rfl, rfl⟩
  · exact absurd e (by decide +kernel)
  · exact absurd e (by decide +kernel)
theorem kn_23 (cdv : Value) : ∀ ks pi, (GL.gens tbL).kws "_law_bent" ks pi = true → ∀ (kV doc pm : Value) (an : Option Addr) (ct : Value) (us : List Value), us.length = ks.length → bindArgs (PySem.W.fnOf "_law_bent" "_law_bent" (defArgs (top 36)) (defBody (top 36)) (defScope (top 36)) .none kV doc pm an cdv ct) ⟨[], ks.zip us⟩ = pure ((["spring", "parting"] : List Str).zip (pi.map fun i => us.getD i .none)) := by
  intro ks pi h
  have h : decide ((("_law_bent" : Str), ks, pi) ∈ kwsL) = true := h
  have h := of_decide_eq_true h
  simp only [kwsL, List.mem_cons, List.not_mem_nil, or_false, Prod.mk.injEq] at h
  rcases h with ⟨e, rfl, rfl⟩ | ⟨e, rfl, rfl⟩
  · exact absurd e (by decide +kernel)
  · exact absurd e (by decide +kernel)
theorem kn_24 (cdv : Value) : ∀ ks pi, (GL.gens tbL).kws "_law_right" ks pi = true → ∀ (kV doc pm : Value) (an : Option Addr) (ct : Value) (us : List Value), us.length = ks.length → bindArgs (PySem.W.fnOf "_law_right" "_law_right" (defArgs (top 37)) (defBody (top 37)) (defScope (top 37)) .none kV doc pm an cdv ct) ⟨[], ks.zip us⟩ = pure ((["spring"] : List Str).zip (pi.map fun i => us.getD i .none)) := by
  intro ks pi h
  have h : decide ((("_law_right" : Str), ks, pi) ∈ kwsL) = true := h
  have h := of_decide_eq_true h
  simp only [kwsL, List.mem_cons, List.not_mem_nil, or_false, Prod.mk.injEq] at h
  rcases h with ⟨e, rfl, rfl⟩ | ⟨e, rfl, rfl⟩
  · exact absurd e (by decide +kernel)
  · exact absurd e (by decide +kernel)
theorem kn_25 (cdv : Value) : ∀ ks pi, (GL.gens tbL).kws "law" ks pi = true → ∀ (kV doc pm : Value) (an : Option Addr) (ct : Value) (us : List Value), us.length = ks.length → bindArgs (PySem.W.fnOf "law" "law" (defArgs (top 38)) (defBody (top 38)) (defScope (top 38)) .none kV doc pm an cdv ct) ⟨[], ks.zip us⟩ = pure ((["script"] : List Str).zip (pi.map fun i => us.getD i .none)) := by
  intro ks pi h
  have h : decide ((("law" : Str), ks, pi) ∈ kwsL) = true := h
  have h := of_decide_eq_true h
  simp only [kwsL, List.mem_cons, List.not_mem_nil, or_false, Prod.mk.injEq] at h
  rcases h with ⟨e, rfl, rfl⟩ | ⟨e, rfl, rfl⟩
  · exact absurd e (by decide +kernel)
  · exact absurd e (by decide +kernel)
theorem dn_0 : ∀ ds, (GL.gens tbL).dfs "is_whole" ds ≠ true := by
  intro ds h
  have h : decide ((("is_whole" : Str), ds) ∈ dfsL) = true := h
  have h := of_decide_eq_true h
  simp only [dfsL, List.mem_cons, List.not_mem_nil, or_false, Prod.mk.injEq] at h
  rcases h with ⟨e, _⟩
  · exact absurd e (by decide +kernel)
theorem dn_1 : ∀ ds, (GL.gens tbL).dfs "is_between" ds ≠ true := by
  intro ds h
  have h : decide ((("is_between" : Str), ds) ∈ dfsL) = true := h
  have h := of_decide_eq_true h
  simp only [dfsL, List.mem_cons, List.not_mem_nil, or_false, Prod.mk.injEq] at h
  rcases h with ⟨e, _⟩
  · exact absurd e (by decide +kernel)
theorem dn_2 : ∀ ds, (GL.gens tbL).dfs "is_ascending" ds ≠ true := by
  intro ds h
  have h : decide ((("is_ascending" : Str), ds) ∈ dfsL) = true := h
  have h := of_decide_eq_true h
  simp only [dfsL, List.mem_cons, List.not_mem_nil, or_false, Prod.mk.injEq] at h
  rcases h with ⟨e, _⟩
  · exact absurd e (by decide +kernel)
theorem dn_4 : ∀ ds, (GL.gens tbL).dfs "check_least" ds ≠ true := by
  intro ds h
  have h : decide ((("check_least" : Str), ds) ∈ dfsL) = true := h
  have h := of_decide_eq_true h
  simp only [dfsL, List.mem_cons, List.not_mem_nil, or_false, Prod.mk.injEq] at h
  rcases h with ⟨e, _⟩
  · exact absurd e (by decide +kernel)
theorem dn_5 : ∀ ds, (GL.gens tbL).dfs "faces_of" ds ≠ true := by
  intro ds h
  have h : decide ((("faces_of" : Str), ds) ∈ dfsL) = true := h
  have h := of_decide_eq_true h
  simp only [dfsL, List.mem_cons, List.not_mem_nil, or_false, Prod.mk.injEq] at h
  rcases h with ⟨e, _⟩
  · exact absurd e (by decide +kernel)
theorem dn_6 : ∀ ds, (GL.gens tbL).dfs "face_of_cell" ds ≠ true := by
  intro ds h
  have h : decide ((("face_of_cell" : Str), ds) ∈ dfsL) = true := h
  have h := of_decide_eq_true h
  simp only [dfsL, List.mem_cons, List.not_mem_nil, or_false, Prod.mk.injEq] at h
  rcases h with ⟨e, _⟩
  · exact absurd e (by decide +kernel)
theorem dn_7 : ∀ ds, (GL.gens tbL).dfs "common_corners" ds ≠ true := by
  intro ds h
  have h : decide ((("common_corners" : Str), ds) ∈ dfsL) = true := h
  have h := of_decide_eq_true h
  simp only [dfsL, List.mem_cons, List.not_mem_nil, or_false, Prod.mk.injEq] at h
  rcases h with ⟨e, _⟩
  · exact absurd e (by decide +kernel)
theorem dn_8 : ∀ ds, (GL.gens tbL).dfs "is_parting" ds ≠ true := by
  intro ds h
  have h : decide ((("is_parting" : Str), ds) ∈ dfsL) = true := h
  have h := of_decide_eq_true h
  simp only [dfsL, List.mem_cons, List.not_mem_nil, or_false, Prod.mk.injEq] at h
  rcases h with ⟨e, _⟩
  · exact absurd e (by decide +kernel)
theorem dn_9 : ∀ ds, (GL.gens tbL).dfs "check_parting" ds ≠ true := by
  intro ds h
  have h : decide ((("check_parting" : Str), ds) ∈ dfsL) = true := h
  have h := of_decide_eq_true h
  simp only [dfsL, List.mem_cons, List.not_mem_nil, or_false, Prod.mk.injEq] at h
  rcases h with ⟨e, _⟩
  · exact absurd e (by decide +kernel)
theorem dn_10 : ∀ ds, (GL.gens tbL).dfs "faces_in" ds ≠ true := by
  intro ds h
  have h : decide ((("faces_in" : Str), ds) ∈ dfsL) = true := h
  have h := of_decide_eq_true h
  simp only [dfsL, List.mem_cons, List.not_mem_nil, or_false, Prod.mk.injEq] at h
  rcases h with ⟨e, _⟩
  · exact absurd e (by decide +kernel)
theorem dn_11 : ∀ ds, (GL.gens tbL).dfs "common_face" ds ≠ true := by
  intro ds h
  have h : decide ((("common_face" : Str), ds) ∈ dfsL) = true := h
  have h := of_decide_eq_true h
  simp only [dfsL, List.mem_cons, List.not_mem_nil, or_false, Prod.mk.injEq] at h
  rcases h with ⟨e, _⟩
  · exact absurd e (by decide +kernel)
theorem dn_12 : ∀ ds, (GL.gens tbL).dfs "_check_index" ds ≠ true := by
  intro ds h
  have h : decide ((("_check_index" : Str), ds) ∈ dfsL) = true := h
  have h := of_decide_eq_true h
  simp only [dfsL, List.mem_cons, List.not_mem_nil, or_false, Prod.mk.injEq] at h
  rcases h with ⟨e, _⟩
  · exact absurd e (by decide +kernel)
theorem dn_13 : ∀ ds, (GL.gens tbL).dfs "_law_spring" ds ≠ true := by
  intro ds h
  have h : decide ((("_law_spring" : Str), ds) ∈ dfsL) = true := h
  have h := of_decide_eq_true h
  simp only [dfsL, List.mem_cons, List.not_mem_nil, or_false, Prod.mk.injEq] at h
  rcases h with ⟨e, _⟩
  · exact absurd e (by decide +kernel)
theorem dn_14 : ∀ ds, (GL.gens tbL).dfs "_law_draw" ds ≠ true := by
  intro ds h
  have h : decide ((("_law_draw" : Str), ds) ∈ dfsL) = true := h
  have h := of_decide_eq_true h
  simp only [dfsL, List.mem_cons, List.not_mem_nil, or_false, Prod.mk.injEq] at h
  rcases h with ⟨e, _⟩
  · exact absurd e (by decide +kernel)
theorem dn_15 : ∀ ds, (GL.gens tbL).dfs "_law_pick" ds ≠ true := by
  intro ds h
  have h : decide ((("_law_pick" : Str), ds) ∈ dfsL) = true := h
  have h := of_decide_eq_true h
  simp only [dfsL, List.mem_cons, List.not_mem_nil, or_false, Prod.mk.injEq] at h
  rcases h with ⟨e, _⟩
  · exact absurd e (by decide +kernel)
theorem dn_16 : ∀ ds, (GL.gens tbL).dfs "_law_parting" ds ≠ true := by
  intro ds h
  have h : decide ((("_law_parting" : Str), ds) ∈ dfsL) = true := h
  have h := of_decide_eq_true h
  simp only [dfsL, List.mem_cons, List.not_mem_nil, or_false, Prod.mk.injEq] at h
  rcases h with ⟨e, _⟩
  · exact absurd e (by decide +kernel)
theorem dn_17 : ∀ ds, (GL.gens tbL).dfs "_law_subsets" ds ≠ true := by
  intro ds h
  have h : decide ((("_law_subsets" : Str), ds) ∈ dfsL) = true := h
  have h := of_decide_eq_true h
  simp only [dfsL, List.mem_cons, List.not_mem_nil, or_false, Prod.mk.injEq] at h
  rcases h with ⟨e, _⟩
  · exact absurd e (by decide +kernel)
theorem dn_18 : ∀ ds, (GL.gens tbL).dfs "_law_faces_in" ds ≠ true := by
  intro ds h
  have h : decide ((("_law_faces_in" : Str), ds) ∈ dfsL) = true := h
  have h := of_decide_eq_true h
  simp only [dfsL, List.mem_cons, List.not_mem_nil, or_false, Prod.mk.injEq] at h
  rcases h with ⟨e, _⟩
  · exact absurd e (by decide +kernel)
theorem dn_19 : ∀ ds, (GL.gens tbL).dfs "_law_is_whole" ds ≠ true := by
  intro ds h
  have h : decide ((("_law_is_whole" : Str), ds) ∈ dfsL) = true := h
  have h := of_decide_eq_true h
  simp only [dfsL, List.mem_cons, List.not_mem_nil, or_false, Prod.mk.injEq] at h
  rcases h with ⟨e, _⟩
  · exact absurd e (by decide +kernel)
theorem dn_20 : ∀ ds, (GL.gens tbL).dfs "_law_is_cell" ds ≠ true := by
  intro ds h
  have h : decide ((("_law_is_cell" : Str), ds) ∈ dfsL) = true := h
  have h := of_decide_eq_true h
  simp only [dfsL, List.mem_cons, List.not_mem_nil, or_false, Prod.mk.injEq] at h
  rcases h with ⟨e, _⟩
  · exact absurd e (by decide +kernel)
theorem dn_21 : ∀ ds, (GL.gens tbL).dfs "_law_is_parting" ds ≠ true := by
  intro ds h
  have h : decide ((("_law_is_parting" : Str), ds) ∈ dfsL) = true := h
  have h := of_decide_eq_true h
  simp only [dfsL, List.mem_cons, List.not_mem_nil, or_false, Prod.mk.injEq] at h
  rcases h with ⟨e, _⟩
  · exact absurd e (by decide +kernel)
theorem dn_22 : ∀ ds, (GL.gens tbL).dfs "_law_bent_cell" ds ≠ true := by
  intro ds h
  have h : decide ((("_law_bent_cell" : Str), ds) ∈ dfsL) = true := h
  have h := of_decide_eq_true h
  simp only [dfsL, List.mem_cons, List.not_mem_nil, or_false, Prod.mk.injEq] at h
  rcases h with ⟨e, _⟩
  · exact absurd e (by decide +kernel)
theorem dn_23 : ∀ ds, (GL.gens tbL).dfs "_law_bent" ds ≠ true := by
  intro ds h
  have h : decide ((("_law_bent" : Str), ds) ∈ dfsL) = true := h
  have h := of_decide_eq_true h
  simp only [dfsL, List.mem_cons, List.not_mem_nil, or_false, Prod.mk.injEq] at h
  rcases h with ⟨e, _⟩
  · exact absurd e (by decide +kernel)
theorem dn_24 : ∀ ds, (GL.gens tbL).dfs "_law_right" ds ≠ true := by
  intro ds h
  have h : decide ((("_law_right" : Str), ds) ∈ dfsL) = true := h
  have h := of_decide_eq_true h
  simp only [dfsL, List.mem_cons, List.not_mem_nil, or_false, Prod.mk.injEq] at h
  rcases h with ⟨e, _⟩
  · exact absurd e (by decide +kernel)
theorem dn_25 : ∀ ds, (GL.gens tbL).dfs "law" ds ≠ true := by
  intro ds h
  have h : decide ((("law" : Str), ds) ∈ dfsL) = true := h
  have h := of_decide_eq_true h
  simp only [dfsL, List.mem_cons, List.not_mem_nil, or_false, Prod.mk.injEq] at h
  rcases h with ⟨e, _⟩
  · exact absurd e (by decide +kernel)
structure Txt (K : PySem.W.Frag) (mg : Str → Option Value) : Prop where
  d0 : ∃ cdv, At K mg "is_whole" (top 2) cdv
  d1 : ∃ cdv, At K mg "is_between" (top 3) cdv
  d2 : At K mg "is_ascending" (top 4) (.ref 50)
  d3 : ∃ cdv, AtD K mg "check_dimension" (top 12) cdv [0, 3]
  d4 : ∃ cdv, At K mg "check_least" (top 13) cdv
  d5 : ∃ cdv, At K mg "faces_of" (top 15) cdv
  d6 : ∃ cdv, At K mg "face_of_cell" (top 17) cdv
  d7 : ∃ cdv, At K mg "common_corners" (top 18) cdv
  d8 : At K mg "is_parting" (top 20) (.ref 184)
  d9 : ∃ cdv, At K mg "check_parting" (top 21) cdv
  d10 : ∃ cdv, At K mg "faces_in" (top 22) cdv
  d11 : ∃ cdv, At K mg "common_face" (top 23) cdv
  d12 : ∃ cdv, At K mg "_check_index" (top 24) cdv
  d13 : ∃ cdv, At K mg "_law_spring" (top 26) cdv
  d14 : ∃ cdv, At K mg "_law_draw" (top 27) cdv
  d15 : ∃ cdv, At K mg "_law_pick" (top 28) cdv
  d16 : ∃ cdv, At K mg "_law_parting" (top 29) cdv
  d17 : ∃ cdv, At K mg "_law_subsets" (top 30) cdv
  d18 : ∃ cdv, At K mg "_law_faces_in" (top 31) cdv
  d19 : ∃ cdv, At K mg "_law_is_whole" (top 32) cdv
  d20 : ∃ cdv, At K mg "_law_is_cell" (top 33) cdv
  d21 : ∃ cdv, At K mg "_law_is_parting" (top 34) cdv
  d22 : ∃ cdv, At K mg "_law_bent_cell" (top 35) cdv
  d23 : ∃ cdv, At K mg "_law_bent" (top 36) cdv
  d24 : ∃ cdv, At K mg "_law_right" (top 37) cdv
  d25 : ∃ cdv, At K mg "law" (top 38) cdv
section
variable {K : PySem.W.Frag} {mg : Str → Option Value} {base : Heap}
theorem dk_0 (T : Txt K mg) : DefOk (GL.gens tbL) K mg base f_is_whole "is_whole" ["value"] := by
  obtain ⟨cdv, A⟩ := T.d0
  exact ok_mk A (fun _ _ _ _ _ us hl => match us, hl with | [_], _ => rfl) (fun _ _ _ _ _ us hl => match us, hl with | [_], _ => rfl) (kn_0 _) sc_0 rfl rfl (by decide) ck_0 (fun z => absurd z (by decide +kernel)) dn_0
theorem dk_1 (T : Txt K mg) : DefOk (GL.gens tbL) K mg base f_is_between "is_between" ["value", "least", "greatest"] := by
  obtain ⟨cdv, A⟩ := T.d1
  exact ok_mk A (fun _ _ _ _ _ us hl => match us, hl with | [_, _, _], _ => rfl) (fun _ _ _ _ _ us hl => match us, hl with | [_, _, _], _ => rfl) (kn_1 _) sc_1 rfl rfl (by decide) ck_1 (fun z => absurd z (by decide +kernel)) dn_1
theorem dk_2 (T : Txt K mg) (tb : GxR.TabB base mg 50 48) : DefOk (GL.gens tbL) K mg base f_is_ascending "is_ascending" ["value", "least", "greatest"] :=
  ok_mk T.d2 (fun _ _ _ _ _ us hl => match us, hl with | [_, _, _], _ => rfl) (fun _ _ _ _ _ us hl => match us, hl with | [_, _, _], _ => rfl) (kn_2 _) sc_2 rfl rfl (by decide) ck_2 (fun _ => ⟨50, 48, rfl, by decide, tb⟩) dn_2
theorem dk_3 (T : Txt K mg) : DefOk (GL.gens tbL) K mg base f_check_dimension "check_dimension" ["dimension", "least", "greatest"] := by
  obtain ⟨cdv, A⟩ := T.d3
  obtain ⟨f, fd, Tt, kV, doc, pm, an, ct, tc, td, tn, ts, its, rfl, F, m, tl, vv⟩ := A.ex
  obtain ⟨u1, us1, rfl, r1, vv⟩ := CB.vals_cons vv
  obtain ⟨u2, us2, rfl, r2, vv⟩ := CB.vals_cons vv
  obtain rfl := CB.vals_nil vv
  refine ⟨_, f, _, ["dimension", "least", "greatest"], F, m, fun s us hK hl => ?_, ⟨fun s us hK hl => ?_, fun ks pi h s us hK hl => ?_, fun ds h => ?_⟩, sc_3, rfl, rfl, by decide, ck_3, fun z => absurd z (by decide +kernel)⟩
  · match us, hl with | [_, _, _], _ => exact BindsTo.of_defaults rfl (hK _ _ tl) rfl rfl rfl
  · match us, hl with | [_, _, _], _ => exact BindsTo.of_defaults rfl (hK _ _ tl) rfl rfl rfl
  · have h : decide ((("check_dimension" : Str), ks, pi) ∈ kwsL) = true := h
    have h := of_decide_eq_true h
    simp only [kwsL, List.mem_cons, List.not_mem_nil, or_false, Prod.mk.injEq] at h
    rcases h with ⟨e, _⟩ | ⟨e, _⟩
    · exact absurd e (by decide +kernel)
    · exact absurd e (by decide +kernel)
  · have h : decide ((("check_dimension" : Str), ds) ∈ dfsL) = true := h
    have h := of_decide_eq_true h
    simp only [dfsL, List.mem_cons, List.not_mem_nil, or_false, Prod.mk.injEq] at h
    rcases h with ⟨e, rfl⟩
    · refine ⟨[u1, u2], [V.int 0, V.int 3], fun s us hK hl => ?_, .cons r1 (.cons r2 (.nil)), fun vw => .cons (.int 0) (.cons (.int 3) (.nil))⟩
      match us, hl with
      | [_], _ => exact BindsTo.of_defaults rfl (hK _ _ tl) rfl rfl rfl
      | [], hl => exact absurd hl (by simp)
      | _ :: _ :: _, hl => exact absurd hl (by simp)
theorem dk_4 (T : Txt K mg) : DefOk (GL.gens tbL) K mg base f_check_least "check_least" ["least", "dimension"] := by
  obtain ⟨cdv, A⟩ := T.d4
  exact ok_mk A (fun _ _ _ _ _ us hl => match us, hl with | [_, _], _ => rfl) (fun _ _ _ _ _ us hl => match us, hl with | [_, _], _ => rfl) (kn_4 _) sc_4 rfl rfl (by decide) ck_4 (fun z => absurd z (by decide +kernel)) dn_4
theorem dk_5 (T : Txt K mg) : DefOk (GL.gens tbL) K mg base f_faces_of "faces_of" ["dimension", "least"] := by
  obtain ⟨cdv, A⟩ := T.d5
  exact ok_mk A (fun _ _ _ _ _ us hl => match us, hl with | [_, _], _ => rfl) (fun _ _ _ _ _ us hl => match us, hl with | [_, _], _ => rfl) (kn_5 _) sc_5 rfl rfl (by decide) ck_5 (fun z => absurd z (by decide +kernel)) dn_5
theorem dk_6 (T : Txt K mg) : DefOk (GL.gens tbL) K mg base f_face_of_cell "face_of_cell" ["cell", "own"] := by
  obtain ⟨cdv, A⟩ := T.d6
  exact ok_mk A (fun _ _ _ _ _ us hl => match us, hl with | [_, _], _ => rfl) (fun _ _ _ _ _ us hl => match us, hl with | [_, _], _ => rfl) (kn_6 _) sc_6 rfl rfl (by decide) ck_6 (fun z => absurd z (by decide +kernel)) dn_6
theorem dk_7 (T : Txt K mg) : DefOk (GL.gens tbL) K mg base f_common_corners "common_corners" ["cell", "other"] := by
  obtain ⟨cdv, A⟩ := T.d7
  exact ok_mk A (fun _ _ _ _ _ us hl => match us, hl with | [_, _], _ => rfl) (fun _ _ _ _ _ us hl => match us, hl with | [_, _], _ => rfl) (kn_7 _) sc_7 rfl rfl (by decide) ck_7 (fun z => absurd z (by decide +kernel)) dn_7
theorem dk_8 (T : Txt K mg) (tb : GxR.TabB base mg 184 182) : DefOk (GL.gens tbL) K mg base f_is_parting "is_parting" ["value"] :=
  ok_mk T.d8 (fun _ _ _ _ _ us hl => match us, hl with | [_], _ => rfl) (fun _ _ _ _ _ us hl => match us, hl with | [_], _ => rfl) (kn_8 _) sc_8 rfl rfl (by decide) ck_8 (fun _ => ⟨184, 182, rfl, by decide, tb⟩) dn_8
theorem dk_9 (T : Txt K mg) : DefOk (GL.gens tbL) K mg base f_check_parting "check_parting" ["parting"] := by
  obtain ⟨cdv, A⟩ := T.d9
  exact ok_mk A (fun _ _ _ _ _ us hl => match us, hl with | [_], _ => rfl) (fun _ _ _ _ _ us hl => match us, hl with | [_], _ => rfl) (kn_9 _) sc_9 rfl rfl (by decide) ck_9 (fun z => absurd z (by decide +kernel)) dn_9
theorem dk_10 (T : Txt K mg) : DefOk (GL.gens tbL) K mg base f_faces_in "faces_in" ["parting", "dimension"] := by
  obtain ⟨cdv, A⟩ := T.d10
  exact ok_mk A (fun _ _ _ _ _ us hl => match us, hl with | [_, _], _ => rfl) (fun _ _ _ _ _ us hl => match us, hl with | [_, _], _ => rfl) (kn_10 _) sc_10 rfl rfl (by decide) ck_10 (fun z => absurd z (by decide +kernel)) dn_10
theorem dk_11 (T : Txt K mg) : DefOk (GL.gens tbL) K mg base f_common_face "common_face" ["parting", "index", "other"] := by
  obtain ⟨cdv, A⟩ := T.d11
  exact ok_mk A (fun _ _ _ _ _ us hl => match us, hl with | [_, _, _], _ => rfl) (fun _ _ _ _ _ us hl => match us, hl with | [_, _, _], _ => rfl) (kn_11 _) sc_11 rfl rfl (by decide) ck_11 (fun z => absurd z (by decide +kernel)) dn_11
theorem dk_12 (T : Txt K mg) : DefOk (GL.gens tbL) K mg base f_check_index "_check_index" ["parting", "index"] := by
  obtain ⟨cdv, A⟩ := T.d12
  exact ok_mk A (fun _ _ _ _ _ us hl => match us, hl with | [_, _], _ => rfl) (fun _ _ _ _ _ us hl => match us, hl with | [_, _], _ => rfl) (kn_12 _) sc_12 rfl rfl (by decide) ck_12 (fun z => absurd z (by decide +kernel)) dn_12
theorem dk_13 (T : Txt K mg) : DefOk (GL.gens tbL) K mg base f_law_spring "_law_spring" ["script", "turn"] := by
  obtain ⟨cdv, A⟩ := T.d13
  exact ok_mk A (fun _ _ _ _ _ us hl => match us, hl with | [_, _], _ => rfl) (fun _ _ _ _ _ us hl => match us, hl with | [_, _], _ => rfl) (kn_13 _) sc_13 rfl rfl (by decide) ck_13 (fun z => absurd z (by decide +kernel)) dn_13
theorem dk_14 (T : Txt K mg) : DefOk (GL.gens tbL) K mg base f_law_draw "_law_draw" ["spring", "many"] := by
  obtain ⟨cdv, A⟩ := T.d14
  exact ok_mk A (fun _ _ _ _ _ us hl => match us, hl with | [_, _], _ => rfl) (fun _ _ _ _ _ us hl => match us, hl with | [_, _], _ => rfl) (kn_14 _) sc_14 rfl rfl (by decide) ck_14 (fun z => absurd z (by decide +kernel)) dn_14
theorem dk_15 (T : Txt K mg) : DefOk (GL.gens tbL) K mg base f_law_pick "_law_pick" ["spring", "some"] := by
  obtain ⟨cdv, A⟩ := T.d15
  exact ok_mk A (fun _ _ _ _ _ us hl => match us, hl with | [_, _], _ => rfl) (fun _ _ _ _ _ us hl => match us, hl with | [_, _], _ => rfl) (kn_15 _) sc_15 rfl rfl (by decide) ck_15 (fun z => absurd z (by decide +kernel)) dn_15
theorem dk_16 (T : Txt K mg) : DefOk (GL.gens tbL) K mg base f_law_parting "_law_parting" ["spring", "most"] := by
  obtain ⟨cdv, A⟩ := T.d16
  exact ok_mk A (fun _ _ _ _ _ us hl => match us, hl with | [_, _], _ => rfl) (fun _ _ _ _ _ us hl => match us, hl with | [_, _], _ => rfl) (kn_16 _) sc_16 rfl rfl (by decide) ck_16 (fun z => absurd z (by decide +kernel)) dn_16
theorem dk_17 (T : Txt K mg) : DefOk (GL.gens tbL) K mg base f_law_subsets "_law_subsets" ["cell", "many"] := by
  obtain ⟨cdv, A⟩ := T.d17
  exact ok_mk A (fun _ _ _ _ _ us hl => match us, hl with | [_, _], _ => rfl) (fun _ _ _ _ _ us hl => match us, hl with | [_, _], _ => rfl) (kn_17 _) sc_17 rfl rfl (by decide) ck_17 (fun z => absurd z (by decide +kernel)) dn_17
theorem dk_18 (T : Txt K mg) : DefOk (GL.gens tbL) K mg base f_law_faces_in "_law_faces_in" ["parting", "m"] := by
  obtain ⟨cdv, A⟩ := T.d18
  exact ok_mk A (fun _ _ _ _ _ us hl => match us, hl with | [_, _], _ => rfl) (fun _ _ _ _ _ us hl => match us, hl with | [_, _], _ => rfl) (kn_18 _) sc_18 rfl rfl (by decide) ck_18 (fun z => absurd z (by decide +kernel)) dn_18
theorem dk_19 (T : Txt K mg) : DefOk (GL.gens tbL) K mg base f_law_is_whole "_law_is_whole" ["x"] := by
  obtain ⟨cdv, A⟩ := T.d19
  exact ok_mk A (fun _ _ _ _ _ us hl => match us, hl with | [_], _ => rfl) (fun _ _ _ _ _ us hl => match us, hl with | [_], _ => rfl) (kn_19 _) sc_19 rfl rfl (by decide) ck_19 (fun z => absurd z (by decide +kernel)) dn_19
theorem dk_20 (T : Txt K mg) : DefOk (GL.gens tbL) K mg base f_law_is_cell "_law_is_cell" ["x", "n"] := by
  obtain ⟨cdv, A⟩ := T.d20
  exact ok_mk A (fun _ _ _ _ _ us hl => match us, hl with | [_, _], _ => rfl) (fun _ _ _ _ _ us hl => match us, hl with | [_, _], _ => rfl) (kn_20 _) sc_20 rfl rfl (by decide) ck_20 (fun z => absurd z (by decide +kernel)) dn_20
theorem dk_21 (T : Txt K mg) : DefOk (GL.gens tbL) K mg base f_law_is_parting "_law_is_parting" ["x"] := by
  obtain ⟨cdv, A⟩ := T.d21
  exact ok_mk A (fun _ _ _ _ _ us hl => match us, hl with | [_], _ => rfl) (fun _ _ _ _ _ us hl => match us, hl with | [_], _ => rfl) (kn_21 _) sc_21 rfl rfl (by decide) ck_21 (fun z => absurd z (by decide +kernel)) dn_21
theorem dk_22 (T : Txt K mg) : DefOk (GL.gens tbL) K mg base f_law_bent_cell "_law_bent_cell" ["spring", "cell"] := by
  obtain ⟨cdv, A⟩ := T.d22
  exact ok_mk A (fun _ _ _ _ _ us hl => match us, hl with | [_, _], _ => rfl) (fun _ _ _ _ _ us hl => match us, hl with | [_, _], _ => rfl) (kn_22 _) sc_22 rfl rfl (by decide) ck_22 (fun z => absurd z (by decide +kernel)) dn_22
theorem dk_23 (T : Txt K mg) : DefOk (GL.gens tbL) K mg base f_law_bent "_law_bent" ["spring", "parting"] := by
  obtain ⟨cdv, A⟩ := T.d23
  exact ok_mk A (fun _ _ _ _ _ us hl => match us, hl with | [_, _], _ => rfl) (fun _ _ _ _ _ us hl => match us, hl with | [_, _], _ => rfl) (kn_23 _) sc_23 rfl rfl (by decide) ck_23 (fun z => absurd z (by decide +kernel)) dn_23
theorem dk_24 (T : Txt K mg) : DefOk (GL.gens tbL) K mg base f_law_right "_law_right" ["spring"] := by
  obtain ⟨cdv, A⟩ := T.d24
  exact ok_mk A (fun _ _ _ _ _ us hl => match us, hl with | [_], _ => rfl) (fun _ _ _ _ _ us hl => match us, hl with | [_], _ => rfl) (kn_24 _) sc_24 rfl rfl (by decide) ck_24 (fun z => absurd z (by decide +kernel)) dn_24
theorem dk_25 (T : Txt K mg) : DefOk (GL.gens tbL) K mg base f_law "law" ["script"] := by
  obtain ⟨cdv, A⟩ := T.d25
  exact ok_mk A (fun _ _ _ _ _ us hl => match us, hl with | [_], _ => rfl) (fun _ _ _ _ _ us hl => match us, hl with | [_], _ => rfl) (kn_25 _) sc_25 rfl rfl (by decide) ck_25 (fun z => absurd z (by decide +kernel)) dn_25
theorem all_ok (T : Txt K mg) (t0 : GxR.TabB base mg 50 48) (t1 : GxR.TabB base mg 184 182) : ∀ (i : Nat) x, (GL.gens tbL).fns[i]? = some x → ∃ fn ps, prog[i]? = some fn ∧ (GL.gens tbL).pars[i]? = some ps ∧ DefOk (GL.gens tbL) K mg base fn x ps := by
  intro i x e
  match i, e with
  | 0, e => cases e; exact ⟨_, _, rfl, rfl, dk_0 T⟩
  | 1, e => cases e; exact ⟨_, _, rfl, rfl, dk_1 T⟩
  | 2, e => cases e; exact ⟨_, _, rfl, rfl, dk_2 T t0⟩
  | 3, e => cases e; exact ⟨_, _, rfl, rfl, dk_3 T⟩
  | 4, e => cases e; exact ⟨_, _, rfl, rfl, dk_4 T⟩
  | 5, e => cases e; exact ⟨_, _, rfl, rfl, dk_5 T⟩
  | 6, e => cases e; exact ⟨_, _, rfl, rfl, dk_6 T⟩
  | 7, e => cases e; exact ⟨_, _, rfl, rfl, dk_7 T⟩
  | 8, e => cases e; exact ⟨_, _, rfl, rfl, dk_8 T t1⟩
  | 9, e => cases e; exact ⟨_, _, rfl, rfl, dk_9 T⟩
  | 10, e => cases e; exact ⟨_, _, rfl, rfl, dk_10 T⟩
  | 11, e => cases e; exact ⟨_, _, rfl, rfl, dk_11 T⟩
  | 12, e => cases e; exact ⟨_, _, rfl, rfl, dk_12 T⟩
  | 13, e => cases e; exact ⟨_, _, rfl, rfl, dk_13 T⟩
  | 14, e => cases e; exact ⟨_, _, rfl, rfl, dk_14 T⟩
  | 15, e => cases e; exact ⟨_, _, rfl, rfl, dk_15 T⟩
  | 16, e => cases e; exact ⟨_, _, rfl, rfl, dk_16 T⟩
  | 17, e => cases e; exact ⟨_, _, rfl, rfl, dk_17 T⟩
  | 18, e => cases e; exact ⟨_, _, rfl, rfl, dk_18 T⟩
  | 19, e => cases e; exact ⟨_, _, rfl, rfl, dk_19 T⟩
  | 20, e => cases e; exact ⟨_, _, rfl, rfl, dk_20 T⟩
  | 21, e => cases e; exact ⟨_, _, rfl, rfl, dk_21 T⟩
  | 22, e => cases e; exact ⟨_, _, rfl, rfl, dk_22 T⟩
  | 23, e => cases e; exact ⟨_, _, rfl, rfl, dk_23 T⟩
  | 24, e => cases e; exact ⟨_, _, rfl, rfl, dk_24 T⟩
  | 25, e => cases e; exact ⟨_, _, rfl, rfl, dk_25 T⟩
  | n + 26, e => exact absurd e (by simp [GL, Gl0.gens, fnL])
end
/-- the law's def, at any depth -/
theorem law_fn {P : Program} {w : World} {K : PySem.W.Frag} {mg : Str → Option Value} {base : Heap} {f : Addr} {fd : FuncData} (fu k : Nat) (F : Fun K "law" "law" (top 38) f fd) (m : mg "law" = some (.ref f)) (T : Txt K mg) (blt : ∀ x ∈ bltL, mg x = none) (cst : ∀ p ∈ cstL, ∃ u v, mg p.1 = some u ∧ RelV v u ∧ ∀ vw, RD K vw p.2 v) (bf : (∀ p ∈ bfL, mg p.1 = some (.builtin p.2)) ∧ ∀ p ∈ tysL, mg p.1 = some (.type p.2)) (t0 : GxR.TabB base mg 50 48) (t1 : GxR.TabB base mg 184 182) :
    FnG P w K mg base (2 * k) f fd ["script"] (aD K w (runP prog fu k 25)) := by
  have b : Binds K fd ["script"] [] := F.binds fun _ _ _ _ _ _ us hl => match us, hl with | [_], _ => rfl
  exact prog_ok (G := GL.gens tbL) (fun k X hc hr => rules hc hr) (fun F k r N elt i it sc e h X hk ok => gens_ok F k r N elt i it sc e h X hk ok) (all_ok T t0 t1) blt cst bf k 25 "law" f_law (top 38) f fd ["script", "turn"] ["script"] rfl rfl (FunD.of F) m b sc_25 rfl rfl (by decide) ck_25 fun z => absurd z (by decide +kernel)
theorem law_at {l : PySem.W.OpenLaw} {w : World} {K : PySem.W.Frag} {mg : Str → Option Value} {fa : Addr} {h : Heap} (fu : Nat) (X : K.In h) (G : h.Ns mainGlobals mg) (hfa : mg "law" = some (.ref fa)) (T : Txt K mg)
    (blt : ∀ x ∈ bltL, mg x = none) (cst : ∀ p ∈ cstL, ∃ u v, mg p.1 = some u ∧ RelV v u ∧ ∀ vw, RD K vw p.2 v) (bf : (∀ p ∈ bfL, mg p.1 = some (.builtin p.2)) ∧ ∀ p ∈ tysL, mg p.1 = some (.type p.2))
    (hT : ∀ p ∈ ([(50, 48), (184, 182)] : List (Addr × Addr)), h.get? p.2 = some { cls := .none, data := .fields #[] }) (nT : ∀ p ∈ ([(50, 48), (184, 182)] : List (Addr × Addr)), K.lookup p.2 = none) (hC : ∀ p ∈ ([(50, 48), (184, 182)] : List (Addr × Addr)), PySem.W.CodeHd h p.1 p.2)
    (math : ∀ (M : Sto) (ns : List Int), M[0]? = some (.flst (ns.map .int)) → ns.length ≤ 63 → W (runP prog fu 40 25 [.loc 0] M) fun r _ => r = .bl true) : LawAt l w K 80 63 "script" mg fa h := by
  obtain ⟨cdv, ⟨f, fd, kV, doc, pm, an, ct, efd, F, m⟩⟩ := T.d25
  have e : f = fa := by rw [hfa] at m; cases m; rfl
  subst e
  refine ⟨fd, [(50, 48), (184, 182)], aD K w (runP prog fu 40 25), hT, nT, hC, fun s u => by rw [efd]; exact .of_eq rfl, fun H a ns hl hbt hH hS => ?_, fun h0 X0 G0 tab => ?_⟩
  · obtain ⟨d, M', e, q⟩ := math [.flst (ns.map .int)] ns rfl hl
    subst q
    have ro : ∀ u : Vw, u.H = H → RO K w u (.flst (ns.map .int)) a := fun u hu => by
      refine ⟨_, by rw [hu]; exact hS, ?_⟩
      clear hS hl e hbt
      induction ns with
      | nil => exact .nil
      | cons n ns ih => exact .cons (.int n) ih
    refine ⟨⟨fun _ => a, 1, H⟩, [.flst (ns.map .int)], [.loc 0], rfl, ⟨fun P hP => ?_, rfl, fun i j oi oj hi hj mi mj e => ?_, fun i o hi => ?_⟩, .cons (.loc (i := 0) Nat.one_pos) .nil, _, _, e, ?_⟩
    · obtain ⟨p, hp, rfl⟩ : ∃ p ∈ ([(50, 48), (184, 182)] : List (Addr × Addr)), p.2 = P := by
        simp only [Tabs.ts, tabsI, List.mem_cons, List.not_mem_nil, or_false] at hP
        rcases hP with rfl | rfl
        · exact ⟨(50, 48), by decide, rfl⟩
        · exact ⟨(184, 182), by decide, rfl⟩
      exact ⟨#[], hH p hp, trivial⟩
    · match i, hi with
      | 0, hi => cases hi; cases mi
    · match i, hi with
      | 0, hi => cases hi; exact ro _ rfl
    · intro u' v E' W' r'
      cases r'
      rfl
  · exact law_fn fu 40 F m T blt cst bf (tab (50, 48) (by decide)) (tab (184, 182) (by decide))
end
section
open PySem PySem.W PyProof.Rows DD
abbrev R (fu k : Nat) : Fns := runP prog fu k
theorem s0 {fu k d M} (hk : 1 ≤ k) (h : OkV M d) : R fu k 0 [d] M = some (.bl (isWhole d), M) := by
  obtain ⟨k, rfl⟩ : ∃ j, k = j + 1 := ⟨k - 1, by omega⟩
  obtain ⟨x, M', e, q1, q2⟩ : W (R fu (k + 1) 0 [d] M) fun x M' => x = .bl (isWhole d) ∧ M' = M := by
    refine w_run (fn := f_is_whole) rfl rfl ?_
    simp only [f_is_whole]
    walk_at "ev"
    have e1 := isi_int h
    have e2 := isi_bool h
    cases d <;> simp [isWhole, w_some, isiB, e1, e2]
  rw [e, q1, q2]
def isBetw (d : D) (lo hi : Int) : Bool := match d with
  | .int i => decide (lo ≤ i) && decide (i ≤ hi)
  | _ => false
theorem s1 {fu k d lo hi M} (hk : 2 ≤ k) (h : OkV M d) : R fu k 1 [d, .int lo, .int hi] M = some (.bl (isBetw d lo hi), M) := by
  obtain ⟨k, rfl⟩ : ∃ j, k = j + 1 := ⟨k - 1, by omega⟩
  obtain ⟨x, M', e, q1, q2⟩ : W (R fu (k + 1) 1 [d, .int lo, .int hi] M) fun x M' => x = .bl (isBetw d lo hi) ∧ M' = M := by
    refine w_run (fn := f_is_between) rfl rfl ?_
    simp only [f_is_between]
    walk_at "ev"
    rw [show runP prog fu k = R fu k from rfl, s0 (by omega) h]
    simp only [w_some]
    cases d <;> simp [isWhole, isBetw, leD]
    omega
  rw [e, q1, q2]
def ltI : D → D → Bool
  | .int a, .int b => decide (a < b)
  | _, _ => false
def isAsc (d : D) (lo hi : Int) : Bool := match d with
  | .tup xs => xs.all (isBetw · lo hi) && adj ltI xs
  | _ => false
theorem s2 {fu k d lo hi M} (hk : 3 ≤ k) (h : OkV M d) : W (R fu k 2 [d, .int lo, .int hi] M) fun r M' => Fr [] M M' ∧ r = .bl (isAsc d lo hi) := by
  obtain ⟨k, rfl⟩ : ∃ j, k = j + 1 := ⟨k - 1, by omega⟩
  refine w_run (fn := f_is_ascending) rfl rfl ?_
  simp only [f_is_ascending]
  walk_at "ev"
  simp only [isiB, isi_tup h]
  cases h with
  | tup hl h =>
    rename_i xs
    simp only [isTup, Option.map_some, w_some, Bool.not_true, bindC, bindMany, wipeD, ownC, Option.some.injEq, exists_eq_left', D.bl.injEq, Bool.false_eq_true, false_implies, true_and, true_implies, D.tup.injEq]
    refine (loopA_pure (isBetw · lo hi) xs M fun x hx M' f => ?_).mono fun b M2 ⟨f, eb⟩ => ?_
    · walk_at "ev"
      rw [show runP prog fu k = R fu k from rfl, s1 (by omega) ((h x hx).mono f), w_some]
      exact ⟨.refl, rfl⟩
    · subst eb
      refine ⟨fun e => ⟨f, by simp only [isAsc]; rw [show xs.all (isBetw · lo hi) = false by simpa using e]; rfl⟩, fun e => ?_⟩
      have hall : xs.all (isBetw · lo hi) = true := by simpa using e
      simp only [slcD, w_some, cut1, D.tup.injEq]
      refine ⟨_, _, rfl, rfl, ?_⟩
      refine lc_w (fun _ => true) (fun d => .bl (match d with | .tup [x, y] => ltI x y | _ => false)) ?_ (fun _ _ => rfl) (fun x hx M' f' => ?_) fun M3 f3 e3 => ?_
      · exact size1000 (by simp [zipD]; omega)
      · obtain ⟨⟨a, b⟩, hab, rfl⟩ := List.mem_map.mp hx
        have h1 := (List.of_mem_zip hab).1
        have h2 : b ∈ xs := List.mem_of_mem_tail (List.of_mem_zip hab).2
        have q1 := List.all_eq_true.mp hall a h1
        have q2 := List.all_eq_true.mp hall b h2
        cases a <;> simp [isBetw] at q1
        cases b <;> simp [isBetw] at q2
        walk_at "ev"
        refine ⟨.refl, ?_⟩
        simp [ltD, Fr.refl, ltI]
      · rw [List.filter_eq_self.mpr (by simp)] at e3
        rw [w_all e3]
        refine ⟨f.trans f3, ?_⟩
        simp only [isAsc, hall, Bool.true_and, adj, zipD, List.all_map]
        rfl
  | _ => simp [isTup, w_some, isAsc, Fr.refl]

def isFrac (d : D) : Bool := match d with
  | .tup [.int n, .int m] => decide (0 < m) && decide (Nat.gcd n.natAbs m.natAbs = 1)
  | _ => false
/-- whole numbers from 0 on, so many -/
def isPow (n : Int) (d : D) : Bool := match d with
  | .tup xs => decide ((xs.length : Int) = n) && xs.all fun x => match x with | .int i => decide (0 ≤ i) | _ => false
  | _ => false
def isTerm (n j : Int) (d : D) : Bool := match d with
  | .tup [a, p, f] => isAsc a 1 n && (match a with | .tup xs => decide ((xs.length : Int) = j) | _ => false) && isPow n p && isFrac f && decide (f ≠ .tup [.int 0, .int 1])
  | _ => false
theorem isAsc_tup {a : D} {lo hi : Int} (h : isAsc a lo hi = true) : ∃ xs : List Int, a = iD xs := by
  cases a with
  | tup xs =>
    simp only [isAsc, Bool.and_eq_true] at h
    have : ∀ ys : List D, ys.all (isBetw · lo hi) = true → ∃ zs : List Int, ys = zs.map .int := fun ys => by
      induction ys with
      | nil => exact fun _ => ⟨[], rfl⟩
      | cons y ys ih =>
        intro q
        simp only [List.all_cons, Bool.and_eq_true] at q
        obtain ⟨zs, rfl⟩ := ih q.2
        cases y <;> simp [isBetw] at q
        exact ⟨_ :: zs, rfl⟩
    obtain ⟨zs, e⟩ := this xs h.1
    exact ⟨zs, by rw [e]; rfl⟩
  | _ => simp [isAsc] at h
theorem isPow_tup {n : Int} {p : D} (h : isPow n p = true) : ∃ xs : List Int, p = iD xs ∧ (xs.length : Int) = n ∧ ∀ x ∈ xs, 0 ≤ x := by
  cases p with
  | tup xs =>
    simp only [isPow, Bool.and_eq_true, decide_eq_true_eq] at h
    have : ∀ ys : List D, (ys.all fun x => match x with | .int i => decide (0 ≤ i) | _ => false) = true → ∃ zs : List Int, ys = zs.map .int ∧ ∀ x ∈ zs, 0 ≤ x := fun ys => by
      induction ys with
      | nil => exact fun _ => ⟨[], rfl, fun _ h => nomatch h⟩
      | cons y ys ih =>
        intro q
        simp only [List.all_cons, Bool.and_eq_true] at q
        obtain ⟨zs, rfl, h⟩ := ih q.2
        cases y <;> simp at q
        exact ⟨_ :: zs, rfl, fun x hx => by rcases List.mem_cons.mp hx with rfl | hx; exact q.1; exact h x hx⟩
    obtain ⟨zs, e, q⟩ := this xs h.2
    exact ⟨zs, by rw [e]; rfl, by rw [e] at h; simpa using h.1, q⟩
  | _ => simp [isPow] at h
theorem isFrac_tup {f : D} (h : isFrac f = true) : ∃ n m, f = .tup [.int n, .int m] ∧ 0 < m ∧ Nat.gcd n.natAbs m.natAbs = 1 := by
  unfold isFrac at h
  split at h
  · simp only [Bool.and_eq_true, decide_eq_true_eq] at h
    exact ⟨_, _, rfl, h⟩
  · cases h
def nilD : D := .tup [.int 0, .int 1]
theorem eqD_pair {M : Sto} {a b c d : Int} : eqD (.tup [.int a, .int b]) (.tup [.int c, .int d]) M = some (decide (a = c ∧ b = d)) := by
  have := eqD_iD (M := M) [a, b] [c, d]
  simpa [iD] using this
end
section
open PySem PySem.W PyProof.Rows DD
theorem intsOf_map (xs : List Int) : intsOf (xs.map .int) = some xs := by
  induction xs with
  | nil => rfl
  | cons x xs ih => simp [intsOf, ih]
/-! ### the law's own -/
theorem s19 {fu k d M} (hk : 1 ≤ k) (h : OkV M d) : R fu k 19 [d] M = some (.bl (isWhole d), M) := by
  obtain ⟨k, rfl⟩ : ∃ j, k = j + 1 := ⟨k - 1, by omega⟩
  exact s0 (fu := fu) (k := k + 1) hk h
theorem ratio_same {n : Int} {m : Nat} (h0 : 0 < m) : (n.fdiv (Nat.gcd n.natAbs m) = n ∧ (m : Int).fdiv (Nat.gcd n.natAbs m) = m) ↔ Nat.gcd n.natAbs m = 1 := by
  have hg : 0 < Nat.gcd n.natAbs m := Nat.gcd_pos_of_pos_right _ h0
  generalize Nat.gcd n.natAbs m = g at hg
  constructor
  · rintro ⟨_, h⟩
    rw [Int.fdiv_eq_ediv_of_nonneg _ (by omega)] at h
    rcases Nat.lt_or_ge g 2 with h2 | h2
    · omega
    · have := Nat.div_lt_self h0 h2
      have h3 : ((m / g : Nat) : Int) = (m : Int) := by rw [← h]; norm_cast
      omega
  · rintro rfl
    simp
theorem ix0 {M : Sto} {a : D} {xs : List D} : ixD M (.tup (a :: xs)) (.int 0) = some a := by
  rw [ixD]; exact atI_nat (a :: xs) 0
theorem ix1 {M : Sto} {a b : D} {xs : List D} : ixD M (.tup (a :: b :: xs)) (.int 1) = some b := by
  rw [ixD]; exact atI_nat (a :: b :: xs) 1
theorem ix2 {M : Sto} {a b c : D} {xs : List D} : ixD M (.tup (a :: b :: c :: xs)) (.int 2) = some c := by
  rw [ixD]; exact atI_nat (a :: b :: c :: xs) 2
end
section
open PySem PySem.W PyProof.Rows DD
theorem new_at {M : Sto} {o : MO} : (M ++ [o])[M.length]? = some o := by simp
theorem all_whole_ints : ∀ {xs : List D}, xs.all isWhole = true → ∃ zs : List Int, xs = zs.map .int
  | [], _ => ⟨[], rfl⟩
  | x :: xs, h => by
    simp only [List.all_cons, Bool.and_eq_true] at h
    obtain ⟨zs, rfl⟩ := all_whole_ints h.2
    cases x <;> simp [isWhole] at h
    exact ⟨_ :: zs, rfl⟩
/-- a list of numbers is not empty -/
theorem ne_nil {M : Sto} {i j : Nat} {xs : List Int} (hi : M[i]? = some (.lst (xs.map .int))) (hj : M[j]? = some (.lst [])) : eqD (.loc i) (.loc j) M = some xs.isEmpty := by
  have e1 : pyP M (.loc i) = some (.list (xs.map .int)) := by
    simp only [pyP, depthMost, pyOf, hi, pys_ints, Option.map_some]
  have e2 : pyP M (.loc j) = some (.list []) := by
    simp only [pyP, depthMost, pyOf, hj, pysOf, Option.map_some]
  have h0 := shaped_list []
  simp only [List.map_nil] at h0
  simp only [eqD, e1, e2, shaped_list, h0, Bool.and_self, if_true, PyData.eqv]
  cases xs <;> simp [PyData.eqvAll]
/-- one part of a term: a tuple of so many whole numbers -/
def isNums (d : D) (m : Int) : Bool := match d with
  | .tup xs => decide ((xs.length : Int) = m) && xs.all isWhole
  | _ => false
theorem isNums_tup {d : D} {m : Int} (h : isNums d m = true) : ∃ zs : List Int, d = iD zs ∧ (zs.length : Int) = m := by
  cases d with
  | tup xs =>
    simp only [isNums, Bool.and_eq_true, decide_eq_true_eq] at h
    obtain ⟨zs, rfl⟩ := all_whole_ints h.2
    exact ⟨zs, rfl, by simpa using h.1⟩
  | _ => simp [isNums] at h
theorem isNums_iD {zs : List Int} {m : Int} (h : (zs.length : Int) = m) : isNums (iD zs) m = true := by
  simp only [isNums, iD, Bool.and_eq_true, decide_eq_true_eq]
  exact ⟨by simpa using h, by simp [isWhole]⟩
theorem adj_map {α β : Type} {r : β → β → Bool} {f : α → β} {xs : List α} : adj r (xs.map f) = adj (fun a b => r (f a) (f b)) xs := by
  unfold adj
  rw [← List.map_tail, List.zip_map, List.all_map]
  rfl
/-- a list of numbers made by a comprehension beside [] -/
theorem ne_new {M2 : Sto} {n : Nat} {xs : List Int} (h : M2[n]? = some (.lst (xs.map .int))) : eqD (.loc n) (.loc M2.length) (M2 ++ [.lst []]) = some xs.isEmpty :=
  ne_nil ((Fr.app (S := [])).get h (by simp)) new_at
theorem filt_ints {c : D → Bool} {f : Int → Bool} (h : ∀ i, c (.int i) = f i) (xs : List Int) : (((xs.map D.int).filter c).map fun d => d) = (xs.filter f).map .int := by
  rw [List.map_id', List.filter_map]
  congr 1
  exact List.filter_congr fun x _ => h x
theorem rng1 {j : Int} (hj : 0 ≤ j ∧ j ≤ 1000) : rngD [.int 1, .int j] = some (((List.range (j - 1).toNat).map fun k : Nat => (1 + (k : Int))).map .int) := by
  simp only [rngD]
  rw [if_pos (by omega)]
  simp
theorem adj_range {α : Type} {r : α → α → Bool} {xs : List α} {c : Int → Bool} (hc : ∀ k (h : k + 1 < xs.length), c (1 + (k : Int)) = !r xs[k] xs[k + 1]) :
    (((List.range ((xs.length : Int) - 1).toNat).map fun k : Nat => (1 + (k : Int))).filter c).isEmpty = adj r xs := by
  rw [Bool.eq_iff_iff, adj_iff, List.isEmpty_iff, List.filter_eq_nil_iff]
  constructor
  · intro h k hk
    have := h (1 + (k : Int)) (List.mem_map.mpr ⟨k, List.mem_range.mpr (by omega), rfl⟩)
    rw [hc k hk] at this
    simpa using this
  · intro h z hz
    obtain ⟨k, hk, rfl⟩ := List.mem_map.mp hz
    have hk := List.mem_range.mp hk
    rw [hc k (by omega), h k (by omega)]
    simp
end
section
open PySem PySem.W PyProof.Rows DD
/-- the spring -/
def Sp (s : Nat) (M : Sto) : Prop := ∃ a b c : Int, M[s]? = some (.lst [.int a, .int b, .int c]) ∧ 0 ≤ a
theorem Sp.lt {s : Nat} {M : Sto} (h : Sp s M) : s < M.length := by
  obtain ⟨_, _, _, h, _⟩ := h; exact (List.getElem?_eq_some_iff.mp h).1
theorem Sp.ld {s : Nat} {M : Sto} (h : Sp s M) : LD M s := by
  obtain ⟨_, _, _, h, _⟩ := h; exact .inl ⟨_, h⟩
theorem Sp.keep {s : Nat} {M M' : Sto} (h : Sp s M) (f : Fr [] M M') : Sp s M' := by
  obtain ⟨a, b, c, h, z⟩ := h; exact ⟨a, b, c, f.get h (by simp), z⟩
theorem set_at {M : Sto} {s : Nat} {o : MO} (h : s < M.length) : (M.set s o)[s]? = some o := List.getElem?_set_self h
theorem fmod_nat (a : Int) {b : Nat} (h : 0 < b) : ∃ v : Nat, a.fmod (b : Int) = v ∧ v < b := by
  rw [Int.fmod_eq_emod_of_nonneg _ (by omega)]
  have h1 := Int.emod_nonneg a (show (b : Int) ≠ 0 by omega)
  have h2 := Int.emod_lt_of_pos a (show (0 : Int) < b by omega)
  exact ⟨(a % (b : Int)).toNat, by omega, by omega⟩
theorem s11 {fu k s M} {many : Nat} (hk : 1 ≤ k) (h : Sp s M) (h0 : 0 < many) (h1 : many < 1073741824) : W (R fu k 14 [.loc s, .int many] M) fun r M' => Fr [s] M M' ∧ Sp s M' ∧ ∃ v : Nat, r = .int v ∧ v < many := by
  obtain ⟨k, rfl⟩ : ∃ j, k = j + 1 := ⟨k - 1, by omega⟩
  refine w_run (fn := f_law_draw) rfl rfl ?_
  have hs := h.lt
  obtain ⟨a, b, c, e, ha⟩ := h
  simp only [f_law_draw]
  walk_at "ev"
  have i0 : ∀ x y z : D, L2.atI [x, y, z] 0 = some x := fun _ _ _ => rfl
  have i1 : ∀ x y z : D, L2.atI [x, y, z] 1 = some y := fun _ _ _ => rfl
  have i2 : ∀ x y z : D, L2.atI [x, y, z] 2 = some z := fun _ _ _ => rfl
  have n0 : L2.ixN 3 0 = some 0 := rfl
  have n1 : L2.ixN 3 1 = some 1 := rfl
  have n2 : L2.ixN 3 2 = some 2 := rfl
  simp only [ixD, e, i0, gtD, Option.some.injEq, exists_eq_left', decide_eq_true_eq, decide_eq_false_iff_not]
  have hm : (many : Int) ≠ 0 := by omega
  refine ⟨fun h => ?_, fun h => ?_⟩
  · have hd : (decide ((0 : Int) < many) && okDiv a many) = true := by
      simp [okDiv, hm, h0]; exact ⟨by omega, .inl h1⟩
    simp only [divmodB, hd, if_true, w_some]
    walk_at "ev"
    simp only [setD, e, List.length_cons, List.length_nil, Nat.reduceAdd, n0, Option.map_some, Option.some.injEq, exists_eq_left']
    have h2 := Int.emod_nonneg a hm
    have h3 := Int.emod_lt_of_pos a (show (0 : Int) < many by omega)
    refine ⟨.set (by simp) rfl, ⟨a / many, b, c, ?_, Int.ediv_nonneg ha (by omega)⟩, (a % many).toNat, ?_, ?_⟩
    · rw [set_at hs]; rfl
    · rw [Int.toNat_of_nonneg h2]
    · omega
  · walk_at "ev"
    simp only [i2, Option.some.injEq, exists_eq_left', w_add, setD, e, List.length_cons, List.length_nil, Nat.reduceAdd, n2, Option.map_some, set_at hs, List.set_cons_succ, List.set_cons_zero, i1, w_mulL, Int.reduceLT, Int.reduceNeg, w_int, w_mod, ne_eq, Int.reduceEq, not_false_eq_true]
    obtain ⟨v, ev, hv⟩ := fmod_nat (b + 50021 * (c + 1)) (b := 2147483647) (by omega)
    rw [show ((2147483647 : Nat) : Int) = 2147483647 from rfl] at ev
    simp only [ev]
    rw [w_mul (okMul_l (by omega) (by omega))]
    simp only [i2, Option.some.injEq, exists_eq_left', set_at hs, w_mulL, Int.reduceLT, Int.reduceNeg, w_add, w_int, w_mod, ne_eq, Int.reduceEq, not_false_eq_true]
    obtain ⟨u, eu, hu⟩ := fmod_nat (v * ((v : Int).fmod 8191 + 48271) + 37 * (c + 1)) (b := 2147483647) (by omega)
    rw [show ((2147483647 : Nat) : Int) = 2147483647 from rfl] at eu
    simp only [eu, List.length_cons, List.length_nil, Nat.reduceAdd, n1, Option.map_some, Option.some.injEq, exists_eq_left']
    rw [w_fdiv (by decide) (by decide)]
    simp only [w_int, w_mod hm]
    have hs' : s < (M.set s (MO.lst [D.int a, D.int b, D.int (c + 1)])).length := by simpa using hs
    refine ⟨(Fr.set (by simp) rfl).trans (.set (by simp) rfl), ⟨a, u, c + 1, set_at hs', ha⟩, ?_⟩
    obtain ⟨q, eq, hq⟩ := fmod_nat ((u : Int).fdiv 239) h0
    exact ⟨q, by rw [eq], hq⟩
end
section
open PySem PySem.W PyProof.Rows DD
theorem s12 {fu k s l M xs} (hk : 2 ≤ k) (h : Sp s M) (hl : M[l]? = some (.lst xs)) (ne : l ≠ s) (h0 : 0 < xs.length) (h1 : xs.length ≤ 1000) : W (R fu k 15 [.loc s, .loc l] M) fun r M' => Fr [s] M M' ∧ Sp s M' ∧ r ∈ xs := by
  obtain ⟨k, rfl⟩ : ∃ j, k = j + 1 := ⟨k - 1, by omega⟩
  refine w_run (fn := f_law_pick) rfl rfl ?_
  simp only [f_law_pick]
  walk_at "ev"
  rw [w_lenL hl]
  refine (s11 (fu := fu) (k := k) (by omega) h h0 (by omega)).mono fun r M1 ⟨f, sp, v, e, hv⟩ => ?_
  subst e
  have hl' : M1[l]? = some (.lst xs) := f.get hl (by simpa using ne)
  simp only [ixD, hl', atI_nat, List.getElem?_eq_getElem hv, Option.some.injEq, exists_eq_left']
  exact ⟨f, sp, List.getElem_mem _⟩
/-- a drawn fraction -/
def FracOk (x y : Int) : Prop := 0 < y ∧ y ≤ 1009 ∧ Nat.gcd x.natAbs y.natAbs = 1 ∧ x ≠ 0 ∧ x.natAbs ≤ 1000000000
theorem frac_ok {n : Int} {m : Nat} (hn : n ≠ 0) (hn2 : n.natAbs ≤ 1000000000) (h0 : 0 < m) (hm : m ≤ 1009) : FracOk (n.fdiv (Nat.gcd n.natAbs m)) ((m : Int).fdiv (Nat.gcd n.natAbs m)) := by
  have hg : 0 < Nat.gcd n.natAbs m := Nat.gcd_pos_of_pos_right _ h0
  obtain ⟨c, hc⟩ := Nat.gcd_dvd_left n.natAbs m
  obtain ⟨e, he⟩ := Nat.gcd_dvd_right n.natAbs m
  have hgc : Nat.gcd n.natAbs m * Nat.gcd c e = Nat.gcd n.natAbs m := by
    rw [← Nat.gcd_mul_left, ← hc, ← he]
  have h1 : Nat.gcd c e = 1 := Nat.eq_of_mul_eq_mul_left hg (by rw [hgc, Nat.mul_one])
  generalize hG : Nat.gcd n.natAbs m = g at *
  have hfm : ((m : Int)).fdiv (g : Int) = (e : Int) := by
    rw [he, Int.fdiv_eq_ediv_of_nonneg _ (by omega), Int.natCast_mul, Int.mul_ediv_cancel_left _ (by omega)]
  have hfn : (n.fdiv (g : Int)).natAbs = c := by
    rw [Int.fdiv_eq_ediv_of_nonneg _ (by omega)]
    rcases Int.natAbs_eq n with q | q
    · rw [q, hc, Int.natCast_mul, Int.mul_ediv_cancel_left _ (by omega)]; simp
    · rw [q, hc, Int.natCast_mul, ← Int.mul_neg, Int.mul_ediv_cancel_left _ (by omega)]; simp
  rw [hfm]
  have he0 : 0 < e := by
    rcases Nat.eq_zero_or_pos e with z | z
    · rw [z] at he; omega
    · exact z
  have hc0 : 0 < c := by
    rcases Nat.eq_zero_or_pos c with z | z
    · rw [z] at hc; omega
    · exact z
  have le1 : e ≤ m := by rw [he]; exact Nat.le_mul_of_pos_left _ hg
  have le2 : c ≤ n.natAbs := by rw [hc]; exact Nat.le_mul_of_pos_left _ hg
  refine ⟨by omega, by omega, ?_, ?_, ?_⟩
  · rw [hfn]; simpa using h1
  · intro z; rw [z] at hfn; simp at hfn; omega
  · rw [hfn]; omega
end
section
open PySem PySem.W PyProof.Rows DD
theorem chkDim {fu k M} {d lo hi : Int} (hk : 3 ≤ k) (h : lo ≤ d ∧ d ≤ hi) : W (R fu k 3 [.int d, .int lo, .int hi] M) fun _ M' => M' = M := by
  obtain ⟨k, rfl⟩ : ∃ j, k = j + 1 := ⟨k - 1, by omega⟩
  refine w_run (fn := f_check_dimension) rfl rfl ?_
  simp only [f_check_dimension]
  walk_at "ev"
  have e : runP prog fu k 1 [D.int d, D.int lo, D.int hi] M = some (.bl (isBetw (.int d) lo hi), M) := s1 (by omega) (.int _)
  rw [e, w_some]
  simp [isBetw, h.1, h.2]
theorem chkLeast {fu k M} {l n : Int} (hk : 3 ≤ k) (h : 0 ≤ l ∧ l ≤ n) : W (R fu k 4 [.int l, .int n] M) fun _ M' => M' = M := by
  obtain ⟨k, rfl⟩ : ∃ j, k = j + 1 := ⟨k - 1, by omega⟩
  refine w_run (fn := f_check_least) rfl rfl ?_
  simp only [f_check_least]
  walk_at "ev"
  have e : runP prog fu k 1 [D.int l, D.int 0, D.int n] M = some (.bl (isBetw (.int l) 0 n), M) := s1 (by omega) (.int _)
  rw [e, w_some]
  simp [isBetw, h.1, h.2]
/-- places as a value -/
def nD (y : List Nat) : D := .tup (y.map fun (i : Nat) => .int i)
def facesL (n l : Nat) : List (List Nat) := (List.range (n + 1 - l)).flatMap fun i => chsL (n + 1) (l + 1 + i)
theorem chs_len : ∀ n ∈ List.range 5, ∀ r ∈ List.range (n + 1), (chsL n r).length ≤ 6 := by decide +kernel
def partL (n l b : Nat) : List (List Nat) := (List.range b).flatMap fun i => chsL (n + 1) (l + 1 + i)
theorem partL_s (n l b : Nat) : partL n l (b + 1) = partL n l b ++ chsL (n + 1) (l + 1 + b) := by simp [partL, List.range_succ, List.flatMap_append]
theorem partL_len (n l : Nat) : ∀ b, n ≤ 3 → l + b ≤ n + 1 → (partL n l b).length ≤ 6 * b
  | 0, _, _ => by simp [partL]
  | b + 1, hn, h => by
    have := partL_len n l b hn (by omega)
    have h2 := chs_len (n + 1) (List.mem_range.mpr (by omega)) (l + 1 + b) (List.mem_range.mpr (by omega))
    rw [partL_s, List.length_append]; omega
theorem facesOf {fu k M n l} (hk : 4 ≤ k) (hn : n ≤ 3) (hl : l ≤ n) : W (R fu k 5 [.int (n : Nat), .int (l : Nat)] M) fun d M' => Fr [] M M' ∧ d = .tup ((facesL n l).map nD) := by
  obtain ⟨k, rfl⟩ : ∃ j, k = j + 1 := ⟨k - 1, by omega⟩
  refine w_run (fn := f_faces_of) rfl rfl ?_
  simp only [f_faces_of]
  walk_at "ev"

  walk_at "ev"
  refine (chkDim (fu := fu) (k := k) (d := (n : Int)) (lo := 0) (hi := 3) (by omega) (by omega)).mono fun _ M1 e => ?_
  subst e
  refine (chkLeast (fu := fu) (k := k) (l := (l : Int)) (n := (n : Int)) (by omega) (by omega)).mono fun _ M1 e => ?_
  subst e
  walk_at "ev"
  simp only [w_add]
  refine ⟨_, rng_up (by omega) (by omega), ?_⟩
  have hc : ((n : Int) + 2 - ((l : Int) + 1)).toNat = n + 1 - l := by omega
  rw [hc]
  have F1 : Fr [] M1 (M1 ++ [.lst []]) := .app
  have e1 : (M1 ++ [MO.lst []])[M1.length]? = some (.lst ((partL n l 0).map nD)) := new_at
  generalize ht : M1.length = t at *
  refine loopS_inv (fun ys δ M' => Fr [] M1 M' ∧ ∃ (b c : Nat) (v : Option D), ys = up c ((l + 1 + b : Nat) : Int) ∧ b + c = n + 1 - l ∧ δ = [some (.int (n : Nat)), some (.int (l : Nat)), some (.loc t), v] ∧ M'[t]? = some (.lst ((partL n l b).map nD))) (fun _ _ _ _ => rfl) ?_ ?_ _ _ _ ⟨F1, 0, n + 1 - l, none, rfl, by omega, rfl, e1⟩
  · rintro _ xs δ M5 ⟨f5, b, c, v, ex, eb, rfl, e5⟩
    obtain ⟨c', rfl, rfl, rfl⟩ := up_cons ex
    have hcs := chs_len (n + 1) (List.mem_range.mpr (by omega)) (l + 1 + b) (List.mem_range.mpr (by omega))
    have hpl : (partL n l b).length ≤ 6 * b := partL_len n l b hn (by omega)
    rw [ws_body, wt_one]
    walk_at "ev"
    simp only [w_add]
    have cb : combB [.int ((n : Int) + 1), .int ((l + 1 + b : Nat) : Int)] M5 = some (.loc M5.length, M5 ++ [.lst ((chsL (n + 1) (l + 1 + b)).map nD)]) := by
      simp only [combB]
      rw [if_pos ⟨by omega, by omega, by omega, by omega⟩]
      have h1 : ((n : Int) + 1).toNat = n + 1 := by omega
      have h2 : (((l + 1 + b : Nat) : Int)).toNat = l + 1 + b := by omega
      rw [h1, h2]; rfl
    have tl : t < M5.length := (List.getElem?_eq_some_iff.mp e5).1
    have e6 : (M5 ++ [MO.lst ((chsL (n + 1) (l + 1 + b)).map nD)])[t]? = some (.lst ((partL n l b).map nD)) := Fr.get (.app (S := [])) e5 (by simp)
    have ext : mthD .extend (.loc t) [.loc M5.length] (M5 ++ [MO.lst ((chsL (n + 1) (l + 1 + b)).map nD)]) = some (.non, (M5 ++ [MO.lst ((chsL (n + 1) (l + 1 + b)).map nD)]).set t (.lst ((partL n l (b + 1)).map nD))) := by
      simp only [mthD, extendM, e6, new_at]
      rw [if_pos (Nat.le_trans (show _ ≤ 1000 by simp only [List.length_map]; omega) (size1000 (Nat.le_refl _))), partL_s, List.map_append]
    refine ⟨by simp only [preM, e5], ?_⟩
    rw [cb, w_some, ext, w_some]
    refine ⟨Fr.setF (f5.trans .app) (by rw [← ht]; exact Nat.le_refl _) rfl, b + 1, c', _, by rw [show ((l + 1 + b : Nat) : Int) + 1 = ((l + 1 + (b + 1) : Nat) : Int) by omega], by omega, rfl, ?_⟩
    rw [List.getElem?_set_self (by simp; omega)]
  · rintro δ M5 ⟨f5, b, c, v, ex, eb, rfl, e5⟩
    have hc0 : c = 0 := by cases c with
      | zero => rfl
      | succ c => simp [up] at ex
    have hb : b = n + 1 - l := by omega
    subst hb
    refine ⟨_, rfl, ?_⟩
    simp only [tupleB, seqOf, e5, Option.map_some, w_some]
    exact ⟨f5, rfl⟩
end
section
open PySem PySem.W PyProof.Rows DD
theorem iD_get {M : Sto} {p : List Int} {i : Nat} (h : i < p.length) : ixD M (iD p) (.int i) = some (.int (p.getD i 0)) := by
  rw [iD, ixD, atI_nat]
  simp [List.getD_eq_getElem?_getD, h]
theorem faceOf {fu k M} {cs : List Int} {y : List Nat} (hk : 1 ≤ k) (hy : ∀ i ∈ y, i < cs.length) (hl : y.length ≤ 100) : W (R fu k 6 [iD cs, nD y] M) fun d M' => Fr [] M M' ∧ d = iD (y.map fun i => cs.getD i 0) := by
  obtain ⟨k, rfl⟩ : ∃ j, k = j + 1 := ⟨k - 1, by omega⟩
  refine w_run (fn := f_face_of_cell) rfl rfl ?_
  simp only [f_face_of_cell]
  walk_at "ev"
  refine ⟨y.map fun (i : Nat) => .int i, by simp only [nD, seqOf], ?_⟩
  refine lc_w (fun _ => true) (fun d => match d with | .int i => .int (cs.getD i.toNat 0) | _ => .non) (size1000 (by simp; omega)) (fun _ _ => by simp only [nD, okAt]) (fun x hx M2 f2 => ?_) fun M2 f2 e4 => ?_
  · obtain ⟨i, hi, rfl⟩ := List.mem_map.mp hx
    walk_at "ev"
    have h := hy i hi
    exact ⟨.refl, _, iD_get h, .refl, by rw [Int.toNat_natCast]⟩
  · have e5 : M2[M.length]? = some (.lst ((y.map fun i => cs.getD i 0).map .int)) := by
      rw [e4, List.filter_eq_self.mpr (by simp), List.map_map, List.map_map]
      congr 2
    simp only [tupleB, seqOf, e5, Option.map_some, w_some]
    exact ⟨f2, rfl⟩
theorem commonOf {fu k M} {cs ds : List Int} (hk : 1 ≤ k) (hl : cs.length ≤ 100) : W (R fu k 7 [iD cs, iD ds] M) fun d M' => Fr [] M M' ∧ d = iD (cs.filter fun c => decide (c ∈ ds)) := by
  obtain ⟨k, rfl⟩ : ∃ j, k = j + 1 := ⟨k - 1, by omega⟩
  refine w_run (fn := f_common_corners) rfl rfl ?_
  simp only [f_common_corners]
  walk_at "ev"
  refine ⟨cs.map .int, by simp only [iD, seqOf], ?_⟩
  refine lc_w (fun d => match d with | .int a => decide (a ∈ ds) | _ => false) (fun d => d) (size1000 (by simp; omega)) (fun _ _ => by simp only [iD, okAt]) (fun x hx M2 f2 => ?_) fun M2 f2 e4 => ?_
  · obtain ⟨a, ha2, rfl⟩ := List.mem_map.mp hx
    walk_at "ev"
    rw [inD_ints]
    exact ⟨_, rfl, .refl, rfl, fun _ => .refl⟩
  · rw [List.map_id', List.filter_map] at e4
    have e5 : M2[M.length]? = some (.lst ((cs.filter fun a => decide (a ∈ ds)).map .int)) := e4
    simp only [tupleB, seqOf, e5, Option.map_some, w_some]
    exact ⟨f2, rfl⟩
end
section
open PySem PySem.W PyProof.Rows DD
theorem pyP_iD {M : Sto} (xs : List Int) : pyP M (iD xs) = some (iP xs) := by
  simp only [pyP, depthMost, pyOf, iD, iP]
  rw [pysOf_ints xs (n := 38)]; rfl
theorem ltD_iD {M : Sto} (a b : List Int) : ltD (iD a) (iD b) M = some (ilt a b) := by
  have h : ltD (iD a) (iD b) M = match pyP M (iD a), pyP M (iD b) with
    | some p, some q => if alike p q && SeqAt.shaped p && SeqAt.shaped q then some (dataLt p q) else none
    | _, _ => none := by rfl
  rw [h, pyP_iD, pyP_iD]
  simp [alike_iP, shaped_iP, dataLt_iP]
theorem isBetw_int {d : D} {lo hi : Int} (h : isBetw d lo hi = true) : ∃ i, d = .int i ∧ lo ≤ i ∧ i ≤ hi := by
  cases d <;> simp [isBetw] at h
  exact ⟨_, rfl, h⟩
def toIs : D → List Int
  | .tup xs => xs.map fun x => match x with | .int i => i | _ => 0
  | _ => []
theorem toIs_iD (xs : List Int) : toIs (iD xs) = xs := by simp [toIs, iD, Function.comp_def]
/-- a cell's corners, so many -/
def isCell (n : Int) (d : D) : Bool := isAsc d 0 999 && decide (((toIs d).length : Int) = n + 1)
def isPart (d : D) : Bool := match d with
  | .tup [.int n, .tup cs] => decide (1 ≤ n) && decide (n ≤ 3) && decide (1 ≤ cs.length) && decide (cs.length ≤ 12) && cs.all (isCell n) && adj (fun x y => ilt (toIs x) (toIs y)) cs
  | _ => false
theorem s8 {fu k d M} (hk : 5 ≤ k) (h : OkV M d) : W (R fu k 8 [d] M) fun r M' => Fr [] M M' ∧ r = .bl (isPart d) := by
  obtain ⟨k, rfl⟩ : ∃ j, k = j + 1 := ⟨k - 1, by omega⟩
  refine w_run (fn := f_is_parting) rfl rfl ?_
  simp only [f_is_parting]
  walk_at "ev"
  simp only [isiB, isi_tup h]
  cases h with
  | tup hl h =>
    rename_i xs
    simp only [isTup, Option.map_some, w_some, Bool.not_true, Option.some.injEq, exists_eq_left', D.bl.injEq, Bool.false_eq_true, false_implies, true_and, true_implies, D.tup.injEq, lenB, seqOf, eqD_int, Int.reduceEq]
    rcases xs with _ | ⟨a, _ | ⟨p, _ | ⟨t, r⟩⟩⟩
    · simp [isPart, Fr.refl]
    · simp [isPart, Fr.refl]
    · simp only [List.length_cons, List.length_nil, Nat.zero_add, Nat.reduceAdd, Int.cast_ofNat_Int, decide_true, Bool.not_true, Bool.false_eq_true, false_implies, true_and, true_implies]
      walk_at "ev"
      rw [show runP prog fu k = R fu k from rfl, s1 (by omega) (h a (by simp)), w_some]
      refine ⟨_, rfl, fun e => ⟨.refl, ?_⟩, fun e => ?_⟩
      · have e : isBetw a 1 3 = false := by simpa using e
        simp only [isPart]
        split
        · rename_i n cs he
          cases he
          simp only [isBetw] at e
          simp [e]
        · rfl
      · have e : isBetw a 1 3 = true := by simpa using e
        obtain ⟨n, rfl, n0, n3⟩ := isBetw_int e
        simp only [isi_tup (h p (by simp)), Option.map_some, w_some]
        have hp := h p (by simp)
        refine ⟨_, rfl, fun e => ⟨.refl, ?_⟩, fun e => ?_⟩
        · have e : isTup p = false := by simpa using e
          cases p <;> simp [isTup, isPart] at e ⊢
        · cases p with
          | tup cs =>
            have hcs := hp
            simp only [w_some]
            rw [s1 (by omega) (.int _), w_some]
            refine ⟨_, rfl, fun e => ⟨.refl, ?_⟩, fun e => ?_⟩
            · have e : isBetw (.int (cs.length : Int)) 1 12 = false := by simpa using e
              simp only [isBetw, Bool.and_eq_false_iff, decide_eq_false_iff_not] at e
              rcases e with e | e
              · have : ¬ 1 ≤ cs.length := by omega
                simp [isPart, this]
              · have : ¬ cs.length ≤ 12 := by omega
                simp [isPart, this]
            · have e : isBetw (.int (cs.length : Int)) 1 12 = true := by simpa using e
              simp only [isBetw, Bool.and_eq_true, decide_eq_true_eq] at e
              refine ⟨cs, rfl, ?_⟩
              refine (loopA_pure (isCell n) cs M fun x hx M' f => ?_).mono fun b M2 ⟨f, eb⟩ => ?_
              · walk_at "ev"
                refine (s2 (fu := fu) (k := k) (by omega) ((hcs.mem x hx).mono f)).mono fun r M3 ⟨f3, e3⟩ => ?_
                subst e3
                refine ⟨_, rfl, fun e => ?_, fun e => ⟨f3, by simp [isCell, e]⟩⟩
                obtain ⟨zs, rfl⟩ := isAsc_tup e
                simp only [lenB, iD, seqOf, w_some, w_add, eqD_int, Option.some.injEq, exists_eq_left', List.length_map]
                refine ⟨f3, ?_⟩
                have e' : isAsc (iD zs) 0 999 = true := e
                have e2 : isCell n (.tup (zs.map .int)) = decide ((zs.length : Int) = n + 1) := by
                  show isCell n (iD zs) = _
                  rw [isCell, e', toIs_iD, Bool.true_and]
                rw [e2]
              · subst eb
                have hn : decide (1 ≤ n) = true ∧ decide (n ≤ 3) = true ∧ decide (1 ≤ cs.length) = true ∧ decide (cs.length ≤ 12) = true := ⟨decide_eq_true n0, decide_eq_true n3, decide_eq_true (by omega), decide_eq_true (by omega)⟩
                refine ⟨fun e => ⟨f, ?_⟩, fun e => ?_⟩
                · have e : cs.all (isCell n) = false := by simpa using e
                  simp only [isPart, e, Bool.and_false, Bool.false_and]
                have hall : cs.all (isCell n) = true := by simpa using e
                have cell : ∀ c ∈ cs, ∃ zs, c = iD zs := fun c hc => by
                  have := List.all_eq_true.mp hall c hc
                  rw [isCell, Bool.and_eq_true] at this
                  exact isAsc_tup this.1
                simp only [slcD, w_some, cut1, D.tup.injEq]
                refine ⟨_, _, rfl, rfl, ?_⟩
                refine lc_w (fun _ => true) (fun d => .bl (match d with | .tup [x, y] => ilt (toIs x) (toIs y) | _ => false)) (size1000 (by simp [zipD]; omega)) (fun _ _ => rfl) (fun x hx M' f' => ?_) fun M3 f3 e3 => ?_
                · obtain ⟨⟨a, b⟩, hab, rfl⟩ := List.mem_map.mp hx
                  obtain ⟨za, rfl⟩ := cell a (List.of_mem_zip hab).1
                  obtain ⟨zb, rfl⟩ := cell b (List.mem_of_mem_tail (List.of_mem_zip hab).2)
                  walk_at "ev"
                  exact ⟨.refl, _, ltD_iD za zb, .refl, by simp only [toIs_iD]⟩
                · rw [List.filter_eq_self.mpr (by simp)] at e3
                  rw [w_all e3]
                  refine ⟨f.trans f3, ?_⟩
                  simp only [isPart, hn, hall, Bool.true_and, adj, zipD, List.all_map]
                  rfl
          | _ => simp [isTup] at e
    · have : ¬ (((r.length : Nat) : Int) + 1 + 1 + 1 = 2) := by omega
      simp [isPart, Fr.refl, this]
  | _ => simp [isTup, w_some, isPart, Fr.refl]
end
section
open PySem PySem.W PyProof.Rows DD
/-- a parting as a value -/
def pD (n : Nat) (cs : List (List Int)) : D := .tup [.int n, .tup (cs.map iD)]
structure PtOk (n : Nat) (cs : List (List Int)) : Prop where
  part : isPart (pD n cs) = true
  dim : 1 ≤ n ∧ n ≤ 3
  many : 1 ≤ cs.length ∧ cs.length ≤ 12
  cell : ∀ c ∈ cs, c.length = n + 1
  nod : ∀ c ∈ cs, c.Nodup
theorem PtOk.okv {M : Sto} {n : Nat} {cs : List (List Int)} (h : PtOk n cs) : OkV M (pD n cs) := by
  have h12 := h.many.2
  have h3 := h.dim.2
  refine .tup (by simp) fun x hx => ?_
  simp only [List.mem_cons, List.not_mem_nil, or_false] at hx
  rcases hx with rfl | rfl
  · exact .int _
  · refine .tup (by simp; omega) fun x hx => ?_
    obtain ⟨c, hc, rfl⟩ := List.mem_map.mp hx
    refine .tup (by have := h.cell c hc; simp; omega) fun x hx => ?_
    obtain ⟨i, _, rfl⟩ := List.mem_map.mp hx
    exact .int _
theorem chkPart {fu k M n cs} (hk : 6 ≤ k) (h : PtOk n cs) : W (R fu k 9 [pD n cs] M) fun _ M' => Fr [] M M' := by
  obtain ⟨k, rfl⟩ : ∃ j, k = j + 1 := ⟨k - 1, by omega⟩
  refine w_run (fn := f_check_parting) rfl rfl ?_
  simp only [f_check_parting]
  walk_at "ev"
  refine (s8 (fu := fu) (k := k) (by omega) h.okv).mono fun r M1 ⟨f1, e⟩ => ?_
  subst e
  rw [h.part]
  exact ⟨_, rfl, fun z => (by cases z), fun _ => f1⟩
theorem chkIx {fu k M n cs} {i : Nat} (hk : 3 ≤ k) (h : PtOk n cs) (hi : i < cs.length) : W (R fu k 12 [pD n cs, .int i] M) fun _ M' => M' = M := by
  obtain ⟨k, rfl⟩ : ∃ j, k = j + 1 := ⟨k - 1, by omega⟩
  refine w_run (fn := f_check_index) rfl rfl ?_
  simp only [f_check_index]
  walk_at "ev"
  have i1 : ixD M (pD n cs) (.int 1) = some (.tup (cs.map iD)) := rfl
  simp only [i1, Option.some.injEq, exists_eq_left', lenB, seqOf, w_some, w_subI, List.length_map]
  have e : runP prog fu k 1 [D.int (i : Int), D.int 0, D.int ((cs.length : Int) - 1)] M = some (.bl (isBetw (.int (i : Int)) 0 ((cs.length : Int) - 1)), M) := s1 (by omega) (.int _)
  rw [e, w_some]
  have hb : isBetw (.int (i : Int)) 0 ((cs.length : Int) - 1) = true := by simp [isBetw]; omega
  rw [hb]
  exact ⟨_, rfl, fun z => (by cases z), fun _ => rfl⟩
theorem cell_at {M : Sto} {cs : List (List Int)} {i : Nat} (hi : i < cs.length) : ixD M (.tup (cs.map iD)) (.int (i : Int)) = some (iD (cs.getD i [])) := by
  rw [ixD, atI_nat]
  simp [List.getD_eq_getElem?_getD, hi]
theorem comFace {fu k M n cs} {i j : Nat} (hk : 7 ≤ k) (h : PtOk n cs) (hi : i < cs.length) (hj : j < cs.length) : W (R fu k 11 [pD n cs, .int i, .int j] M) fun d M' => Fr [] M M' ∧ d = iD ((cs.getD i []).filter fun c => decide (c ∈ cs.getD j [])) := by
  obtain ⟨k, rfl⟩ : ∃ j, k = j + 1 := ⟨k - 1, by omega⟩
  refine w_run (fn := f_common_face) rfl rfl ?_
  simp only [f_common_face]
  walk_at "ev"
  refine (chkPart (fu := fu) (k := k) (by omega) h).mono fun _ M1 f1 => ?_
  refine (chkIx (fu := fu) (k := k) (by omega) h hi).mono fun _ M2 e => ?_
  subst e
  refine (chkIx (fu := fu) (k := k) (by omega) h hj).mono fun _ M3 e => ?_
  subst e
  walk_at "ev"
  have i1 : ∀ M : Sto, ixD M (pD n cs) (.int 1) = some (.tup (cs.map iD)) := fun _ => rfl
  simp only [i1, Option.some.injEq, exists_eq_left', cell_at hi, cell_at hj]
  refine (commonOf (fu := fu) (k := k) (by omega) ?_).mono fun d M4 ⟨f4, e⟩ => ⟨f1.trans f4, e⟩
  have hm : cs.getD i [] ∈ cs := by
    simp [List.getD_eq_getElem?_getD, hi]
  have := h.cell _ hm
  have := h.dim.2
  omega
end
section
open PySem PySem.W PyProof.Rows DD
theorem ilt_key (a b : List Int) : ilt a b = keyLt (a, []) (b, []) := by
  rw [keyLt_eq]
  by_cases h : a = b
  · simp [h, ilt_irrefl]
  · simp [h]
/-- a list of lists of numbers, sorted -/
def lSort (xs : List (List Int)) : List (List Int) := xs.mergeSort fun a b => !ilt b a
theorem lSort_key (xs : List (List Int)) : keySort (xs.map fun x => ((x, []) : Key)) = (lSort xs).map fun x => ((x, []) : Key) := by
  rw [keySort, lSort, ← List.map_mergeSort (r := fun a b => !ilt b a)]
  intro a _ b _
  rw [ilt_key]
theorem lSort_perm (xs : List (List Int)) : (lSort xs).Perm xs := List.mergeSort_perm xs _
theorem lSort_strict {xs : List (List Int)} (h : xs.Nodup) : (lSort xs).Pairwise fun a b => ilt a b = true := by
  have nd : (xs.map fun x => ((x, []) : Key)).Nodup := by
    rw [List.nodup_iff_pairwise_ne] at h ⊢
    rw [List.pairwise_map]
    exact h.imp fun n z => n (by simpa using z)
  have := keySort_strict nd
  rw [lSort_key, List.pairwise_map] at this
  exact this.imp fun h => by rw [ilt_key]; exact h
theorem sortD_iD {M : Sto} {xs : List (List Int)} (h : xs.length ≤ sizeLine) (hne : ∀ x ∈ xs, x ≠ []) : sortD M (xs.map iD) = some ((lSort xs).map iD) := by
  have hp : pysOf M depthMost (xs.map iD) = some (xs.map iP) := by
    have key : ∀ xs : List (List Int), pysOf M (38 + 2) (xs.map iD) = some (xs.map iP) := fun xs => by
      induction xs with
      | nil => simp [pysOf]
      | cons x xs ih =>
        have h1 : pyOf M (38 + 2) (iD x) = some (iP x) := pyP_iD x
        have h2 := ih
        simp only [List.map_cons]
        rw [pysOf, h1, h2]
        rfl
    exact key xs
  have al : ∀ as bs : List (List Int), alikeAll (as.map iP) (bs.map iP) = true := fun as => by
    induction as with
    | nil => intro bs; simp [alikeAll]
    | cons x as ih => intro bs; cases bs <;> simp [alikeAll, alike_iP, ih]
  rw [sortD, hp]
  have hz : (xs.map iD).zip (xs.map iP) = xs.map fun k => (iD k, iP k) := by simp [List.zip_map']
  simp only
  rw [if_pos, hz, lSort, ← List.map_mergeSort (r := fun a b => !ilt b a)]
  · rw [List.map_map]; rfl
  · intro a _ b _
    rw [← dataLt_iP]
  · simp only [al, Bool.and_eq_true, Bool.true_and, List.all_map, decide_eq_true_eq, List.length_map]
    refine ⟨⟨⟨?_, ?_⟩, ?_⟩, h⟩
    · simp [Function.comp_def, alike_iP]
    · simp [Function.comp_def, shaped_iP]
    · rw [Bool.or_eq_true]; left
      rw [List.all_eq_true]
      intro x hx
      cases x with
      | nil => exact absurd rfl (hne _ hx)
      | cons a x => simp [iP]
/-- lists without doubles and with the same members sort alike -/
theorem lSort_ext {xs ys : List (List Int)} (hx : xs.Nodup) (hy : ys.Nodup) (h : ∀ z, z ∈ xs ↔ z ∈ ys) : lSort xs = lSort ys := by
  have hp : (lSort xs).Perm (lSort ys) := ((lSort_perm xs).trans ((List.perm_ext_iff_of_nodup hx hy).mpr h)).trans (lSort_perm ys).symm
  refine hp.eq_of_pairwise (le := fun a b => ilt a b = true) (fun a b _ _ h1 h2 => ?_) (lSort_strict hx) (lSort_strict hy)
  rw [ilt_key] at h1 h2
  have := keyLt_trans h1 h2
  rw [keyLt_irrefl] at this; cases this
end
section
open PySem PySem.W PyProof.Rows DD
theorem okKey_iD (k : List Int) : okKey (iD k) = true := by
  obtain ⟨ks, e, d⟩ := keysOf_ints k
  simp [okKey, iD, keyOf, e, NestedKey.depth, d]
theorem iD_iff {a b : List Int} : iD a = iD b ↔ a = b := ⟨iD_inj, fun h => by rw [h]⟩
/-- a dict that holds faces -/
def setE (T : List (List Int)) : List (D × D) := T.map fun k => (iD k, D.bl true)
def insL (T : List (List Int)) (k : List Int) : List (List Int) := if k ∈ T then T else T ++ [k]
theorem put_set (T : List (List Int)) (k : List Int) : putD (setE T) (iD k) (.bl true) = setE (insL T k) := by
  unfold putD insL
  have e1 : (setE T).any (fun kv => decide (kv.1 = iD k)) = decide (k ∈ T) := by
    rw [Bool.eq_iff_iff]
    simp [setE, List.any_eq_true, iD_iff]
  rw [e1]
  by_cases h : k ∈ T
  · simp only [h, decide_true, if_true]
    conv => rhs; rw [← List.map_id (setE T)]
    refine List.map_congr_left fun e he => ?_
    obtain ⟨z, hz, rfl⟩ := List.mem_map.mp he
    simp
  · simp [h, setE]
theorem setD_iD {M : Sto} {l : Nat} {T : List (List Int)} {k : List Int} (h : M[l]? = some (.dct (setE T))) (hl : T.length < sizeLine) : setD M (.loc l) (iD k) (.bl true) = some (M.set l (.dct (setE (insL T k)))) := by
  have ok := okKey_iD k
  have e : iD k = .tup (k.map .int) := rfl
  have : setD M (.loc l) (iD k) (.bl true) = match M[l]? with
    | some (.dct kvs) => if okKey (iD k) && decide (kvs.length < sizeLine) then some (M.set l (.dct (putD kvs (iD k) (.bl true)))) else none
    | _ => none := by rw [e]; rfl
  rw [this, h]
  simp only [ok, Bool.true_and, put_set]
  rw [if_pos (by simpa [setE] using hl)]
theorem insL_nodup {T : List (List Int)} {k : List Int} (h : T.Nodup) : (insL T k).Nodup := by
  unfold insL
  split
  · exact h
  · rename_i n
    rw [List.nodup_append]
    refine ⟨h, by simp, fun a ha b hb => ?_⟩
    rw [List.mem_singleton.mp hb]
    intro z; rw [z] at ha; exact n ha
theorem mem_insL {T : List (List Int)} {k z : List Int} : z ∈ insL T k ↔ z ∈ T ∨ z = k := by
  unfold insL
  split
  · rename_i h
    exact ⟨.inl, fun q => q.elim id fun e => e ▸ h⟩
  · simp
theorem insL_len (T : List (List Int)) (k : List Int) : (insL T k).length ≤ T.length + 1 := by
  unfold insL; split <;> simp
/-- sorted(dict) -/
theorem sorted_set {M : Sto} {l : Nat} {T : List (List Int)} {Q : D → Sto → Prop} (h : M[l]? = some (.dct (setE T))) (hl : T.length ≤ sizeLine) (hne : ∀ x ∈ T, x ≠ []) : W (sortedB [.loc l] M) Q = Q (.loc M.length) (M ++ [.lst ((lSort T).map iD)]) := by
  have e : (setE T).map (·.1) = T.map iD := by simp [setE, Function.comp_def]
  simp only [sortedB, h, e, sortD_iD hl hne, Option.map_some, w_some]
end
section
open PySem PySem.W PyProof.Rows DD
def pickC (c : List Int) (y : List Nat) : List Int := y.map fun i => c.getD i 0
theorem faces_fin : ∀ n ∈ List.range 4, ∀ m ∈ List.range (n + 1), (facesL n m).length ≤ 15 ∧ ∀ y ∈ facesL n m, y.length ≤ 4 ∧ ∀ i ∈ y, i < n + 1 := by decide +kernel
theorem len_nD {M : Sto} {y : List Nat} : lenB [nD y] M = some (.int (y.length : Nat), M) := by simp [lenB, nD, seqOf]
theorem facesIn {fu k M n cs} {m : Nat} (hk : 7 ≤ k) (h : PtOk n cs) (hm : m ≤ n) : W (R fu k 10 [pD n cs, .int m] M) fun d M' => Fr [] M M' ∧ ∃ F : List (List Int), d = .tup ((lSort F).map iD) ∧ F.Nodup ∧ F.length ≤ 200 ∧ ∀ z, z ∈ F ↔ ∃ y ∈ facesL n m, y.length = m + 1 ∧ ∃ c ∈ cs, z = pickC c y := by
  obtain ⟨k, rfl⟩ : ∃ j, k = j + 1 := ⟨k - 1, by omega⟩
  have hd := h.dim
  have h12 := h.many
  obtain ⟨fl, fy⟩ := faces_fin n (List.mem_range.mpr (by omega)) m (List.mem_range.mpr (by omega))
  refine w_run (fn := f_faces_in) rfl rfl ?_
  simp only [f_faces_in]
  walk_at "ev"
  refine (chkPart (fu := fu) (k := k) (by omega) h).mono fun _ M1 f1 => ?_
  have i0 : ∀ M : Sto, ixD M (pD n cs) (.int 0) = some (.int (n : Nat)) := fun _ => rfl
  have i1 : ∀ M : Sto, ixD M (pD n cs) (.int 1) = some (.tup (cs.map iD)) := fun _ => rfl
  simp only [i0, Option.some.injEq, exists_eq_left']
  refine (chkDim (fu := fu) (k := k) (d := (m : Int)) (lo := 0) (hi := (n : Int)) (by omega) (by omega)).mono fun _ M2 e => ?_
  subst e
  refine (facesOf (fu := fu) (k := k) (n := n) (l := m) (by omega) hd.2 hm).mono fun d M3 ⟨f3, e⟩ => ?_
  subst e
  have e3 : M3[M2.length]? = some (.dct (setE [])) := f3.get (new_at (M := M2) (o := MO.dct [])) (by simp)
  have ht0 : M.length ≤ M2.length := f1.le
  have F3 : Fr [] M M3 := (f1.trans .app).trans f3
  generalize ht : M2.length = t at *
  refine ⟨(facesL n m).map nD, by simp only [seqOf], ?_⟩
  refine loopS_inv (fun ys δ M' => Fr [] M M' ∧ ∃ (pre post : List (List Nat)) (T : List (List Int)) (v w : Option D), facesL n m = pre ++ post ∧ ys = post.map nD ∧ δ = [some (pD n cs), some (.int (m : Nat)), some (.loc t), v, w] ∧ M'[t]? = some (.dct (setE T)) ∧ T.Nodup ∧ T.length ≤ 12 * pre.length ∧ ∀ z, z ∈ T ↔ ∃ y ∈ pre, y.length = m + 1 ∧ ∃ c ∈ cs, z = pickC c y) (fun _ _ _ _ => by simp only [okAt]) ?_ ?_ _ _ _ ⟨F3, [], facesL n m, [], none, none, rfl, rfl, rfl, e3, by simp, by simp, by simp⟩
  · rintro _ xs δ M4 ⟨f4, pre, post, T, v, w, ea, ey, rfl, e4, nd, tl, mem⟩
    cases post with
    | nil => simp at ey
    | cons y post =>
    simp only [List.map_cons, List.cons.injEq] at ey
    obtain ⟨rfl, rfl⟩ := ey
    have hy : y ∈ facesL n m := by rw [ea]; simp
    obtain ⟨y4, yi⟩ := fy y hy
    have hpl : pre.length + 1 ≤ 15 := by
      have : (facesL n m).length = pre.length + (post.length + 1) := by rw [ea]; simp
      omega
    rw [ws_body]
    walk_at "ev"
    rw [len_nD, w_some, w_add]
    simp only [eqD_int, Option.some.injEq, exists_eq_left', decide_eq_true_eq, decide_eq_false_iff_not]
    refine ⟨fun hlen => ?_, fun hlen => ?_⟩
    · have i1' : ixD M4 (pD n cs) (.int 1) = some (.tup (cs.map iD)) := rfl
      walk_at "ev"
      simp only [i1', seqOf, Option.some.injEq, exists_eq_left']
      refine loopS_inv (fun ys δ M' => Fr [] M M' ∧ ∃ (pre2 post2 : List (List Int)) (T2 : List (List Int)) (w : Option D), cs = pre2 ++ post2 ∧ ys = post2.map iD ∧ δ = [some (pD n cs), some (.int (m : Nat)), some (.loc t), some (nD y), w] ∧ M'[t]? = some (.dct (setE T2)) ∧ T2.Nodup ∧ T2.length ≤ 12 * pre.length + pre2.length ∧ ∀ z, z ∈ T2 ↔ z ∈ T ∨ ∃ c ∈ pre2, z = pickC c y) (fun _ _ _ _ => by simp only [okAt]) ?_ ?_ _ _ _ ⟨f4, [], cs, T, _, rfl, rfl, rfl, e4, nd, by simpa using tl, by simp⟩
      · rintro _ xs δ M5 ⟨f5, pre2, post2, T2, w, eb, ez, rfl, e5, nd2, tl2, mem2⟩
        cases post2 with
        | nil => simp at ez
        | cons c post2 =>
        simp only [List.map_cons, List.cons.injEq] at ez
        obtain ⟨rfl, rfl⟩ := ez
        have hc : c ∈ cs := by rw [eb]; simp
        have hcl := h.cell c hc
        have hp2 : pre2.length + 1 ≤ 12 := by
          have : cs.length = pre2.length + (post2.length + 1) := by rw [eb]; simp
          omega
        rw [ws_body]
        walk_at "ev"
        refine (faceOf (fu := fu) (k := k) (cs := c) (y := y) (by omega) (fun i hi => by rw [hcl]; exact yi i hi) (by omega)).mono fun d M6 ⟨f6, e⟩ => ?_
        subst e
        have e6 := f6.get e5 (by simp)
        have tl6 : t < M6.length := (List.getElem?_eq_some_iff.mp e6).1
        refine ⟨_, setD_iD (k := pickC c y) e6 (Nat.lt_of_lt_of_le (show T2.length < 1000 by omega) (size1000 (Nat.le_refl _))), ?_⟩
        refine ⟨(f5.trans f6).setF ht0 rfl, pre2 ++ [c], post2, insL T2 (pickC c y), _, by rw [eb]; simp, rfl, rfl, List.getElem?_set_self tl6, insL_nodup nd2, by have := insL_len T2 (pickC c y); simp; omega, fun z => ?_⟩
        rw [mem_insL, mem2]
        simp only [List.mem_append, List.mem_singleton]
        constructor
        · rintro ((q | ⟨c', q, e⟩) | e)
          · exact .inl q
          · exact .inr ⟨c', .inl q, e⟩
          · exact .inr ⟨c, .inr rfl, e⟩
        · rintro (q | ⟨c', q | rfl, e⟩)
          · exact .inl (.inl q)
          · exact .inl (.inr ⟨c', q, e⟩)
          · exact .inr e
      · rintro δ M5 ⟨f5, pre2, post2, T2, w, eb, ez, rfl, e5, nd2, tl2, mem2⟩
        have : post2 = [] := by simpa using ez.symm
        subst this
        rw [List.append_nil] at eb
        subst eb
        refine ⟨f5, pre ++ [y], post, T2, _, _, by rw [ea]; simp, rfl, rfl, e5, nd2, by simp; omega, fun z => ?_⟩
        rw [mem2, mem]
        simp only [List.mem_append, List.mem_singleton]
        constructor
        · rintro (⟨y', q, r⟩ | ⟨c, q, e⟩)
          · exact ⟨y', .inl q, r⟩
          · exact ⟨y, .inr rfl, by omega, c, q, e⟩
        · rintro ⟨y', q | rfl, r1, c, q2, e⟩
          · exact .inl ⟨y', q, r1, c, q2, e⟩
          · exact .inr ⟨c, q2, e⟩
    · refine ⟨f4, pre ++ [y], post, T, _, _, by rw [ea]; simp, rfl, rfl, e4, nd, by simp; omega, fun z => ?_⟩
      rw [mem]
      simp only [List.mem_append, List.mem_singleton]
      constructor
      · rintro ⟨y', q, r⟩
        exact ⟨y', .inl q, r⟩
      · rintro ⟨y', q | rfl, r1, r2⟩
        · exact ⟨y', q, r1, r2⟩
        · exact absurd r1 (by omega)
  · rintro δ M4 ⟨f4, pre, post, T, v, w, ea, ey, rfl, e4, nd, tl, mem⟩
    have : post = [] := by simpa using ey.symm
    subst this
    rw [List.append_nil] at ea
    subst ea
    refine ⟨_, rfl, ?_⟩
    rw [sorted_set e4 (Nat.le_trans (show T.length ≤ 1000 by omega) (size1000 (Nat.le_refl _))) fun x hx => ?_]
    · simp only [tupleB, seqOf, new_at, Option.map_some, w_some]
      exact ⟨f4.trans .app, T, rfl, nd, by omega, mem⟩
    · obtain ⟨y, _, hl, c, _, rfl⟩ := (mem x).mp hx
      intro z
      have := congrArg List.length z
      simp [pickC, hl] at this
end
section
open PySem PySem.W PyProof.Rows DD
theorem iD_app (as : List Int) (a : Int) : as.map D.int ++ [.int a] = (as ++ [a]).map .int := by simp
/-- all parts of a row, in the law's order -/
def subsG {α : Type} (c : List α) : List (List α) := c.foldl (fun F x => F ++ F.map (· ++ [x])) [[]]
theorem subsG_snoc {α : Type} (c : List α) (x : α) : subsG (c ++ [x]) = subsG c ++ (subsG c).map (· ++ [x]) := by simp [subsG, List.foldl_append]
theorem subsG_len {α : Type} (c : List α) : (subsG c).length = 2 ^ c.length ∧ ∀ y ∈ subsG c, y.length ≤ c.length := by
  generalize hn : c.length = n
  induction n generalizing c with
  | zero =>
    have : c = [] := by simpa using hn
    subst this
    simp [subsG]
  | succ n ih =>
    obtain ⟨d, x, rfl⟩ : ∃ d x, c = d ++ [x] := ⟨c.dropLast, c.getLast (by intro z; rw [z] at hn; simp at hn), (List.dropLast_concat_getLast _).symm⟩
    have hd : d.length = n := by simpa using hn
    obtain ⟨i1, i2⟩ := ih d hd
    rw [subsG_snoc]
    refine ⟨by rw [List.length_append, List.length_map, i1, Nat.pow_succ]; omega, fun y hy => ?_⟩
    rcases List.mem_append.mp hy with hy | hy
    · have := i2 y hy; omega
    · obtain ⟨z, hz, rfl⟩ := List.mem_map.mp hy
      have := i2 z hz
      simp; omega
theorem subsW {fu k M} {c : List Int} {m : Nat} (hk : 1 ≤ k) (hc : c.length ≤ 4) : W (R fu k 17 [iD c, .int m] M) fun d M' => Fr [] M M' ∧ ∃ l, d = .loc l ∧ M.length ≤ l ∧ M'[l]? = some (.lst (((subsG c).filter fun y => decide (y.length = m)).map iD)) := by
  obtain ⟨k, rfl⟩ : ∃ j, k = j + 1 := ⟨k - 1, by omega⟩
  refine w_run (fn := f_law_subsets) rfl rfl ?_
  simp only [f_law_subsets]
  refine ws_step (fun δ M1 => Fr [] M M1 ∧ ∃ l, δ = [some (iD c), some (.int (m : Nat)), some (.loc l), none, none] ∧ M.length ≤ l ∧ M1[l]? = some (.lst ([[]].map iD))) ?_ ?_
  · walk_at "ev"
    exact ⟨.app, _, rfl, Nat.le_refl _, by simp [iD]⟩
  rintro _ M1 ⟨f1, l, rfl, hl, e1⟩
  refine ws_step (fun δ M2 => Fr [] M M2 ∧ ∃ (l : Nat) (v : Option D), δ = [some (iD c), some (.int (m : Nat)), some (.loc l), v, none] ∧ M.length ≤ l ∧ M2[l]? = some (.lst ((subsG c).map iD))) ?_ ?_
  · walk_at "ev"
    refine ⟨c.map .int, by simp only [iD, seqOf], ?_⟩
    refine loopS_inv (fun ys δ M2 => Fr [] M M2 ∧ ∃ (l : Nat) (v : Option D) (pre post : List Int), c = pre ++ post ∧ ys = post.map .int ∧ δ = [some (iD c), some (.int (m : Nat)), some (.loc l), v, none] ∧ M.length ≤ l ∧ M2[l]? = some (.lst ((subsG pre).map iD))) (fun _ _ _ _ => by simp only [iD, okAt]) ?_ ?_ _ _ _ ⟨f1, l, none, [], c, rfl, rfl, rfl, hl, e1⟩
    · rintro _ xs _ M2 ⟨f, l, v, pre, post, ea, ey, rfl, hl, e2⟩
      cases post with
      | nil => simp at ey
      | cons x post =>
      simp only [List.map_cons, List.cons.injEq] at ey
      obtain ⟨rfl, rfl⟩ := ey
      have hpl : pre.length ≤ 3 := by
        have : c.length = pre.length + (post.length + 1) := by rw [ea]; simp
        omega
      obtain ⟨s1, s2⟩ := subsG_len pre
      have h8 : (subsG pre).length ≤ 8 := by
        rw [s1]; exact Nat.pow_le_pow_right (by omega) hpl
      rw [ws_body]
      walk_at "ev"
      simp only [seqOf, e2, Option.some.injEq, exists_eq_left']
      refine lc_w (fun _ => true) (fun d => iD (toIs d ++ [x])) (size1000 (by simp; omega)) (fun M' f' => by simp [okAt, f'.get e2 (by simp)]) (fun z hz M' f' => ?_) fun M3 f3 e3 => ?_
      · obtain ⟨as, ha, rfl⟩ := List.mem_map.mp hz
        have := s2 as ha
        walk_at "ev"
        refine ⟨.refl, ?_⟩
        rw [toIs_iD]
        simp only [iD]
        rw [w_addT (size1000 (by simp; omega)), iD_app]
        exact ⟨.refl, rfl⟩
      · rw [List.filter_eq_self.mpr (by simp), List.map_map] at e3
        have e3' : M3[M2.length]? = some (.lst (((subsG pre).map fun as => as ++ [x]).map iD)) := by
          rw [e3, List.map_map]
          simp only [Function.comp_def, toIs_iD]
        rw [w_addL (f3.get e2 (by simp)) e3' (size1000 (by simp; omega))]
        refine ⟨(f.trans f3).trans .app, M3.length, _, pre ++ [x], post, by rw [ea]; simp, rfl, rfl, by have := (f.trans f3).le; omega, ?_⟩
        rw [new_at, subsG_snoc, List.map_append]
    · rintro _ M2 ⟨f, l, v, pre, post, ea, ey, rfl, hl, e2⟩
      have : post = [] := by simpa using ey.symm
      subst this
      rw [List.append_nil] at ea
      subst ea
      exact ⟨f, l, v, rfl, hl, e2⟩
  rintro _ M2 ⟨f2, l, v, rfl, hl, e2⟩
  obtain ⟨s1, s2⟩ := subsG_len c
  have h16 : (subsG c).length ≤ 16 := by
    rw [s1]; exact Nat.pow_le_pow_right (by omega) hc
  walk_at "ev"
  simp only [seqOf, e2, Option.some.injEq, exists_eq_left']
  refine lc_w (fun d => decide ((toIs d).length = m)) (fun d => d) (size1000 (by simp; omega)) (fun M' f' => by simp [okAt, f'.get e2 (by simp)]) (fun z hz M' f' => ?_) fun M3 f3 e3 => ?_
  · obtain ⟨as, ha, rfl⟩ := List.mem_map.mp hz
    walk_at "ev"
    simp only [iD]
    rw [w_lenT, eqD_int]
    have := toIs_iD as
    simp only [iD] at this
    simp only [this, Option.some.injEq, exists_eq_left', List.length_map, Fr.refl, true_and]
    refine ⟨?_, fun _ => trivial⟩
    by_cases q : as.length = m
    · simp [q]
    · have : ¬ (as.length : Int) = m := by omega
      simp [q, this]
  · rw [List.map_id', List.filter_map] at e3
    have hf : ((fun d => decide ((toIs d).length = m)) ∘ iD) = fun as => decide (as.length = m) := by
      funext as; simp [toIs_iD]
    rw [hf] at e3
    exact ⟨f2.trans f3, _, rfl, by have := f2.le; omega, e3⟩
end
section
open PySem PySem.W PyProof.Rows DD
theorem subsG_map {α β : Type} (g : α → β) (c : List α) : subsG (c.map g) = (subsG c).map (List.map g) := by
  generalize hn : c.length = n
  induction n generalizing c with
  | zero =>
    have : c = [] := by simpa using hn
    subst this
    simp [subsG]
  | succ n ih =>
    obtain ⟨d, x, rfl⟩ : ∃ d x, c = d ++ [x] := ⟨c.dropLast, c.getLast (by intro z; rw [z] at hn; simp at hn), (List.dropLast_concat_getLast _).symm⟩
    have hd : d.length = n := by simpa using hn
    rw [List.map_append, List.map_cons, List.map_nil, subsG_snoc, subsG_snoc, ih d hd]
    simp [Function.comp_def]
theorem faces_subs : ∀ n ∈ List.range 4, ∀ m ∈ List.range (n + 1), (∀ y ∈ facesL n m, y.length = m + 1 → y ∈ subsG (List.range (n + 1))) ∧ ∀ y ∈ subsG (List.range (n + 1)), y.length = m + 1 → y ∈ facesL n m := by decide +kernel
theorem mem_faces {n m : Nat} {c : List Int} (hn : n ≤ 3) (hm : m ≤ n) (hc : c.length = n + 1) (z : List Int) : z ∈ (subsG c).filter (fun y => decide (y.length = m + 1)) ↔ ∃ y ∈ facesL n m, y.length = m + 1 ∧ z = pickC c y := by
  obtain ⟨h1, h2⟩ := faces_subs n (List.mem_range.mpr (by omega)) m (List.mem_range.mpr (by omega))
  have e : subsG c = (subsG (List.range (n + 1))).map (pickC c) := by
    have ec : c = (List.range (n + 1)).map fun i => c.getD i 0 := by
      refine List.ext_getElem (by simp [hc]) fun i g1 g2 => ?_
      simp [List.getD_eq_getElem?_getD, g1]
    conv => lhs; rw [ec]
    rw [subsG_map]; rfl
  rw [List.mem_filter, e]
  simp only [List.mem_map, decide_eq_true_eq]
  constructor
  · rintro ⟨⟨y, hy, rfl⟩, hl⟩
    have hl' : y.length = m + 1 := by simpa [pickC] using hl
    exact ⟨y, h2 y hy hl', hl', rfl⟩
  · rintro ⟨y, hy, hl, rfl⟩
    exact ⟨⟨y, h1 y hy hl, rfl⟩, by simpa [pickC] using hl⟩
end
section
open PySem PySem.W PyProof.Rows DD
theorem iP_shape : ∀ F : List (List Int), PyData.canLayAll0 (F.map iP) = true ∧ PyData.depthAll (F.map iP) ≤ 1
  | [] => by simp [PyData.canLayAll0, PyData.depthAll]
  | x :: F => by
    obtain ⟨h1, h2⟩ := iP_shape F
    simp only [List.map_cons, PyData.canLayAll0, PyData.depthAll, h1, Bool.and_true, iP, PyData.canLay0, canLay_ints, PyData.depth, depth_ints]
    exact ⟨trivial, Nat.max_le.mpr ⟨by decide, h2⟩⟩
theorem shaped_faces (F : List (List Int)) : SeqAt.shaped (.list (F.map iP)) = true := by
  obtain ⟨h1, h2⟩ := iP_shape F
  simp [SeqAt.shaped, PyData.canLay0, PyData.depth, h1]
  omega
theorem pys_faces {M : Sto} {n : Nat} : ∀ F : List (List Int), pysOf M (n + 1) (F.map iD) = some (F.map iP)
  | [] => by simp [pysOf]
  | x :: F => by
    have h1 : pyOf M (n + 1) (iD x) = some (iP x) := py_iD x
    simp only [List.map_cons]
    rw [pysOf, h1, pys_faces F]
    rfl
theorem inD_faces {M : Sto} {l : Nat} {F : List (List Int)} (h : M[l]? = some (.lst (F.map iD))) (f : List Int) : inD (iD f) (.loc l) M = some (decide (f ∈ F)) := by
  have h1 : dictAt M (.loc l) = none := by simp only [dictAt, h]
  have h2 : seqOf M (.loc l) = some (F.map iD) := by simp only [seqOf, h]
  have h3 : pyP M (.loc l) = some (.list (F.map iP)) := by
    simp only [pyP, depthMost, pyOf, h]
    rw [pys_faces F (n := 38)]; rfl
  have hf : flatD (iD f) = false := rfl
  unfold inD
  simp only [h1, h2, hf, Bool.false_and, Bool.false_eq_true, if_false, pyP_iD, h3, shaped_iP, shaped_faces, Bool.and_self, if_true]
  congr 1
  rw [List.any_map, Bool.eq_iff_iff]
  simp only [List.any_eq_true, Function.comp_apply, eqv_iP, decide_eq_true_eq]
  exact ⟨fun ⟨z, hz, e⟩ => e ▸ hz, fun hz => ⟨f, hz, rfl⟩⟩
theorem subsG_sub {α : Type} (c : List α) : ∀ y ∈ subsG c, ∀ x ∈ y, x ∈ c := by
  generalize hn : c.length = n
  induction n generalizing c with
  | zero =>
    have : c = [] := by simpa using hn
    subst this
    simp [subsG]
  | succ n ih =>
    obtain ⟨d, x, rfl⟩ : ∃ d x, c = d ++ [x] := ⟨c.dropLast, c.getLast (by intro z; rw [z] at hn; simp at hn), (List.dropLast_concat_getLast _).symm⟩
    have hd : d.length = n := by simpa using hn
    intro y hy z hz
    rw [subsG_snoc] at hy
    rcases List.mem_append.mp hy with hy | hy
    · exact List.mem_append_left _ (ih d hd y hy z hz)
    · obtain ⟨w, hw, rfl⟩ := List.mem_map.mp hy
      rcases List.mem_append.mp hz with hz | hz
      · exact List.mem_append_left _ (ih d hd w hw z hz)
      · exact List.mem_append_right _ hz
theorem subsG_nodup {α : Type} (c : List α) (h : c.Nodup) : (subsG c).Nodup := by
  generalize hn : c.length = n
  induction n generalizing c with
  | zero =>
    have : c = [] := by simpa using hn
    subst this
    simp [subsG]
  | succ n ih =>
    obtain ⟨d, x, rfl⟩ : ∃ d x, c = d ++ [x] := ⟨c.dropLast, c.getLast (by intro z; rw [z] at hn; simp at hn), (List.dropLast_concat_getLast _).symm⟩
    have hd : d.length = n := by simpa using hn
    rw [List.nodup_append] at h
    obtain ⟨h1, _, h3⟩ := h
    have i1 := ih d h1 hd
    rw [subsG_snoc, List.nodup_append]
    refine ⟨i1, ?_, fun a ha b hb e => ?_⟩
    · rw [List.nodup_iff_pairwise_ne] at i1 ⊢
      rw [List.pairwise_map]
      exact i1.imp fun n z => n (List.append_cancel_right z)
    · obtain ⟨w, hw, rfl⟩ := List.mem_map.mp hb
      subst e
      have := subsG_sub d _ ha x (by simp)
      exact h3 x this x (by simp) rfl
end
section
open PySem PySem.W PyProof.Rows DD
theorem sorted_lst {M : Sto} {l : Nat} {T : List (List Int)} {Q : D → Sto → Prop} (h : M[l]? = some (.lst (T.map iD))) (hl : T.length ≤ sizeLine) (hne : ∀ x ∈ T, x ≠ []) : W (sortedB [.loc l] M) Q = Q (.loc M.length) (M ++ [.lst ((lSort T).map iD)]) := by
  simp only [sortedB, h, sortD_iD hl hne, Option.map_some, w_some]
theorem lawFaces {fu k M n cs} {m : Nat} (hk : 3 ≤ k) (h : PtOk n cs) (hm : m ≤ n) : W (R fu k 18 [pD n cs, .int m] M) fun d M' => Fr [] M M' ∧ ∃ (l : Nat) (F : List (List Int)), d = .loc l ∧ M'[l]? = some (.lst ((lSort F).map iD)) ∧ F.Nodup ∧ ∀ z, z ∈ F ↔ ∃ y ∈ facesL n m, y.length = m + 1 ∧ ∃ c ∈ cs, z = pickC c y := by
  obtain ⟨k, rfl⟩ : ∃ j, k = j + 1 := ⟨k - 1, by omega⟩
  have hd := h.dim
  have h12 := h.many
  refine w_run (fn := f_law_faces_in) rfl rfl ?_
  simp only [f_law_faces_in]
  have i1 : ∀ M : Sto, ixD M (pD n cs) (.int 1) = some (.tup (cs.map iD)) := fun _ => rfl
  walk_at "ev"
  simp only [i1, seqOf, Option.some.injEq, exists_eq_left']
  refine loopS_inv (fun ys δ M2 => Fr [] M M2 ∧ ∃ (l : Nat) (v w : Option D) (pre post F : List (List Int)), cs = pre ++ post ∧ ys = post.map iD ∧ δ = [some (pD n cs), some (.int (m : Nat)), some (.loc l), v, w] ∧ M2[l]? = some (.lst (F.map iD)) ∧ F.Nodup ∧ F.length ≤ 16 * pre.length ∧ ∀ z, z ∈ F ↔ ∃ y ∈ facesL n m, y.length = m + 1 ∧ ∃ c ∈ pre, z = pickC c y) (fun _ _ _ _ => by simp only [okAt]) ?_ ?_ _ _ _ ⟨.app, M.length, none, none, [], cs, [], rfl, rfl, rfl, new_at, by simp, by simp, by simp⟩
  · rintro _ xs _ M2 ⟨f, l, v, w, pre, post, F, ea, ey, rfl, e2, nd, fl, mem⟩
    cases post with
    | nil => simp at ey
    | cons c post =>
    simp only [List.map_cons, List.cons.injEq] at ey
    obtain ⟨rfl, rfl⟩ := ey
    have hc : c ∈ cs := by rw [ea]; simp
    have hcl := h.cell c hc
    have hpl : pre.length + 1 ≤ 12 := by
      have : cs.length = pre.length + (post.length + 1) := by rw [ea]; simp
      omega
    rw [ws_body]
    walk_at "ev"
    rw [w_add, show ((m : Int) + 1) = ((m + 1 : Nat) : Int) by omega]
    refine (subsW (fu := fu) (k := k) (c := c) (m := m + 1) (by omega) (by omega)).mono fun d M3 ⟨f3, l3, e, hl3, e3⟩ => ?_
    subst e
    have hmf := mem_faces (n := n) (m := m) (c := c) hd.2 hm hcl
    have hnd : ((subsG c).filter fun y => decide (y.length = m + 1)).Nodup := (subsG_nodup c (h.nod c hc)).sublist List.filter_sublist
    have hln : ((subsG c).filter fun y => decide (y.length = m + 1)).length ≤ 16 := by
      refine Nat.le_trans (List.length_filter_le ..) ?_
      rw [(subsG_len c).1]
      have h4 : c.length ≤ 4 := by omega
      exact (Nat.pow_le_pow_right (n := 2) (by omega) h4 : 2 ^ c.length ≤ 2 ^ 4)
    generalize (subsG c).filter (fun y => decide (y.length = m + 1)) = G at *
    have e2' := f3.get e2 (by simp)
    simp only [seqOf, e3, Option.some.injEq, exists_eq_left']
    refine lc_w (fun d => decide (toIs d ∉ F)) (fun d => d) (size1000 (by simp; omega)) (fun M' f' => by simp [okAt, f'.get e3 (by simp)]) (fun x hx M' f' => ?_) fun M4 f4 e4 => ?_
    · obtain ⟨z, hz, rfl⟩ := List.mem_map.mp hx
      walk_at "ev"
      rw [inD_faces (f'.get e2' (by simp)) z, toIs_iD]
      refine ⟨_, rfl, .refl, by by_cases q : z ∈ F <;> simp [q], fun _ => .refl⟩
    · rw [List.map_id', List.filter_map] at e4
      have hf : ((fun d => decide (toIs d ∉ F)) ∘ iD) = fun z => decide (z ∉ F) := by funext z; simp [toIs_iD]
      rw [hf] at e4
      have e2'' := f4.get e2' (by simp)
      have hlf : (G.filter fun z => decide (z ∉ F)).length ≤ 16 := Nat.le_trans (List.length_filter_le ..) hln
      rw [w_addL e2'' e4 (size1000 (by simp only [List.length_map]; omega))]
      refine ⟨((f.trans f3).trans f4).trans .app, _, _, _, pre ++ [c], post, F ++ G.filter (fun z => decide (z ∉ F)), by rw [ea]; simp, rfl, rfl, by rw [new_at, List.map_append], ?_, by simp only [List.length_append, List.length_cons, List.length_nil]; omega, fun z => ?_⟩
      · rw [List.nodup_append]
        refine ⟨nd, hnd.sublist List.filter_sublist, fun a ha b hb e => ?_⟩
        subst e
        have := (List.mem_filter.mp hb).2
        simp [ha] at this
      · rw [List.mem_append, List.mem_filter, hmf]
        simp only [List.mem_append, List.mem_singleton, decide_eq_true_eq]
        constructor
        · rintro (q | ⟨⟨y, q, r, e⟩, _⟩)
          · obtain ⟨y, q, r, c', q2, e⟩ := (mem z).mp q
            exact ⟨y, q, r, c', .inl q2, e⟩
          · exact ⟨y, q, r, c, .inr rfl, e⟩
        · rintro ⟨y, q, r, c', q2 | rfl, e⟩
          · exact .inl ((mem z).mpr ⟨y, q, r, c', q2, e⟩)
          · by_cases hz : z ∈ F
            · exact .inl hz
            · exact .inr ⟨⟨y, q, r, e⟩, hz⟩
  · rintro _ M2 ⟨f, l, v, w, pre, post, F, ea, ey, rfl, e2, nd, fl, mem⟩
    have : post = [] := by simpa using ey.symm
    subst this
    rw [List.append_nil] at ea
    subst ea
    refine ⟨_, rfl, ?_⟩
    rw [sorted_lst e2 (Nat.le_trans (show F.length ≤ 1000 by omega) (size1000 (Nat.le_refl _))) fun x hx => ?_]
    · exact ⟨f.trans .app, _, F, rfl, new_at, nd, mem⟩
    · obtain ⟨y, _, hl, c, _, rfl⟩ := (mem x).mp hx
      intro z
      have := congrArg List.length z
      simp [pickC, hl] at this
end
section
open PySem PySem.W PyProof.Rows DD
theorem map_erase {α β : Type} (f : α → β) : ∀ (l : List α) (i : Nat), (l.map f).eraseIdx i = (l.eraseIdx i).map f
  | [], _ => by simp
  | _ :: _, 0 => by simp
  | _ :: l, i + 1 => by simp [map_erase f l i]
theorem Sp.set {s l : Nat} {o : MO} {M : Sto} (h : Sp s M) (n : s ≠ l) : Sp s (M.set l o) := by
  obtain ⟨a, b, c, h, z⟩ := h; exact ⟨a, b, c, by rw [List.getElem?_set_ne (Ne.symm n)]; exact h, z⟩
theorem new_lt {M : Sto} {o : MO} {l : Nat} (h : l < M.length) : l < (M ++ [o]).length := by simp; omega
theorem pairs_iff {xs : List Int} : xs.Pairwise (· < ·) → ∀ lo hi : Int, (∀ x ∈ xs, lo ≤ x ∧ x ≤ hi) → isAsc (iD xs) lo hi = true := by
  intro h lo hi hb
  simp only [isAsc, iD, Bool.and_eq_true]
  refine ⟨?_, ?_⟩
  · rw [List.all_eq_true]
    intro d hd
    obtain ⟨i, hi', rfl⟩ := List.mem_map.mp hd
    simpa [isBetw] using hb i hi'
  · rw [adj_iff]
    intro k hk
    simp only [List.length_map] at hk
    simp only [List.getElem_map, ltI, decide_eq_true_eq]
    exact List.pairwise_iff_getElem.mp h k (k + 1) (by omega) hk (by omega)
theorem adj_pair {α : Type} {r : α → α → Bool} {xs : List α} (h : xs.Pairwise fun a b => r a b = true) : adj r xs = true := by
  rw [adj_iff]
  intro k hk
  exact List.pairwise_iff_getElem.mp h k (k + 1) (by omega) hk (by omega)
theorem mk_pt {n : Nat} {F : List (List Int)} (h1 : 1 ≤ n) (h3 : n ≤ 3) (hl1 : 1 ≤ F.length) (hl : F.length ≤ 12) (nd : F.Nodup) (hc : ∀ c ∈ F, c.length = n + 1 ∧ c.Pairwise (· < ·) ∧ ∀ x ∈ c, 0 ≤ x ∧ x ≤ 999) : PtOk n (lSort F) := by
  have hp := lSort_perm F
  have hc' : ∀ c ∈ lSort F, c.length = n + 1 ∧ c.Pairwise (· < ·) ∧ ∀ x ∈ c, 0 ≤ x ∧ x ≤ 999 := fun c q => hc c (hp.mem_iff.mp q)
  refine ⟨?_, ⟨h1, h3⟩, ⟨by rw [hp.length_eq]; exact hl1, by rw [hp.length_eq]; exact hl⟩, fun c q => (hc' c q).1, fun c q => ?_⟩
  · simp only [pD, isPart, List.length_map, hp.length_eq, List.all_map]
    have a1 : (lSort F).all (isCell (n : Int) ∘ iD) = true := by
      rw [List.all_eq_true]
      intro c q
      obtain ⟨q1, q2, q3⟩ := hc' c q
      simp only [Function.comp_apply, isCell, Bool.and_eq_true, decide_eq_true_eq, toIs_iD]
      exact ⟨pairs_iff q2 0 999 q3, by omega⟩
    have a2 : adj (fun x y => ilt (toIs x) (toIs y)) ((lSort F).map iD) = true := by
      refine adj_pair ?_
      rw [List.pairwise_map]
      exact (lSort_strict nd).imp fun h => by simpa only [toIs_iD] using h
    rw [a1, a2]
    simp only [Bool.and_true, Bool.and_eq_true, decide_eq_true_eq]
    omega
  · rw [List.nodup_iff_pairwise_ne]
    exact (hc' c q).2.1.imp fun h => by omega
theorem lawParting {fu k s M} {most : Nat} (hk : 3 ≤ k) (h : Sp s M) (h0 : 0 < most) (h1 : most ≤ 12) : W (R fu k 16 [.loc s, .int most] M) fun d M' => Fr [s] M M' ∧ Sp s M' ∧ ∃ n cs, d = pD n cs ∧ PtOk n cs := by
  obtain ⟨k, rfl⟩ : ∃ j, k = j + 1 := ⟨k - 1, by omega⟩
  refine w_run (fn := f_law_parting) rfl rfl ?_
  simp only [f_law_parting]
  refine ws_step (fun δ M1 => Fr [s] M M1 ∧ Sp s M1 ∧ ∃ (n : Nat) (last : Int) (L : Nat), δ = [some (.loc s), some (.int most), some (.int n), some (.int last), some (.loc L), none, none, none, none] ∧ 1 ≤ n ∧ n ≤ 3 ∧ -1 ≤ last ∧ last ≤ 936 ∧ M.length ≤ L ∧ M1[L]? = some (.lst [])) ?_ ?_
  · walk_at "ev"
    refine (s12 (fu := fu) (k := k) (by omega) (h.keep .app) new_at (Nat.ne_of_gt h.lt) (by simp) (by simp)).mono fun r M1 ⟨f1, sp1, m1⟩ => ?_
    refine (s12 (fu := fu) (k := k) (by omega) (sp1.keep .app) new_at (Nat.ne_of_gt sp1.lt) (by simp) (by simp)).mono fun r2 M2 ⟨f2, sp2, m2⟩ => ?_
    have F1 : Fr [s] M M1 := Fr.app.trans f1
    have F2 : Fr [s] M M2 := F1.trans (Fr.app.trans f2)
    simp only [List.mem_cons, List.not_mem_nil, or_false] at m1 m2
    have e1 : ∃ n : Nat, r = .int n ∧ 1 ≤ n ∧ n ≤ 3 := by
      rcases m1 with rfl | rfl | rfl | rfl | rfl
      · exact ⟨1, rfl, by omega⟩
      · exact ⟨2, rfl, by omega⟩
      · exact ⟨2, rfl, by omega⟩
      · exact ⟨3, rfl, by omega⟩
      · exact ⟨2, rfl, by omega⟩
    have e2 : ∃ i : Int, r2 = .int i ∧ -1 ≤ i ∧ i ≤ 936 := by
      rcases m2 with rfl | rfl | rfl | rfl | rfl <;> exact ⟨_, rfl, by omega⟩
    obtain ⟨n, rfl, n1, n3⟩ := e1
    obtain ⟨i, rfl, i1, i3⟩ := e2
    walk_at "ev"
    exact ⟨F2.trans .app, sp2.keep .app, n, i, M2.length, rfl, n1, n3, i1, i3, F2.le, new_at⟩
  rintro _ M1 ⟨f1, sp1, n, last0, L, rfl, n1, n3, la1, la2, hL, e1⟩
  have sL : ∀ {M' : Sto}, Fr [s] M M' → s < M.length := fun _ => h.lt
  have hs : s < M.length := h.lt
  have sneL : s ≠ L := by omega
  refine ws_step (fun δ M2 => Fr [s] M M2 ∧ Sp s M2 ∧ ∃ (last : Int) (xs : List Int) (t : Option D), δ = [some (.loc s), some (.int most), some (.int n), some (.int last), some (.loc L), t, none, none, none] ∧ M2[L]? = some (.lst (xs.map .int)) ∧ n + 1 ≤ xs.length ∧ xs.length ≤ 7 ∧ xs.Pairwise (· < ·) ∧ ∀ x ∈ xs, 0 ≤ x ∧ x ≤ 999) ?_ ?_
  · walk_at "ev"
    rw [w_add]
    refine (s11 (fu := fu) (k := k) (by omega) sp1 (many := 4) (by omega) (by omega)).mono fun r M2 ⟨f2, sp2, v, e, hv⟩ => ?_
    subst e
    rw [w_add]
    have hcnt : ((n : Int) + 1 + (v : Int)) = ((n + 1 + v : Nat) : Int) := by omega
    rw [hcnt]
    refine ⟨_, rng_up0 (by omega), ?_⟩
    rw [Int.toNat_natCast]
    have e2 : M2[L]? = some (.lst (([] : List Int).map .int)) := f2.get e1 (by simpa using sneL.symm)
    refine loopS_inv (fun ys δ M3 => Fr [s] M M3 ∧ Sp s M3 ∧ ∃ (c : Nat) (a last : Int) (xs : List Int) (t : Option D), ys = up c a ∧ δ = [some (.loc s), some (.int most), some (.int n), some (.int last), some (.loc L), t, none, none, none] ∧ M3[L]? = some (.lst (xs.map .int)) ∧ xs.length + c = n + 1 + v ∧ xs.Pairwise (· < ·) ∧ (∀ x ∈ xs, 0 ≤ x ∧ x ≤ last) ∧ -1 ≤ last ∧ last ≤ 936 + 9 * (xs.length : Int)) (fun _ _ _ _ => rfl) ?_ ?_ _ _ _ ⟨f1.trans f2, sp2, _, _, last0, [], none, rfl, rfl, e2, by simp, by simp, by simp, la1, by simpa using la2⟩
    · rintro _ ys _ M3 ⟨f3, sp3, c, a, last, xs, t, ey, rfl, e3, hc, pw, mem, l1, l2⟩
      obtain ⟨c', rfl, rfl, rfl⟩ := up_cons ey
      rw [ws_body]
      walk_at "ev"
      rw [w_add]
      refine (s12 (fu := fu) (k := k) (by omega) (sp3.keep .app) new_at (Nat.ne_of_gt sp3.lt) (by simp) (by simp)).mono fun r M4 ⟨f4, sp4, m4⟩ => ?_
      have e4 : M4[L]? = some (.lst (xs.map .int)) := f4.get (Fr.get (.app (S := [])) e3 (by simp)) (by simpa using sneL.symm)
      have er : ∃ j : Int, r = .int j ∧ 0 ≤ j ∧ j ≤ 8 := by
        simp only [List.mem_cons, List.not_mem_nil, or_false] at m4
        rcases m4 with rfl | rfl | rfl | rfl | rfl <;> exact ⟨_, rfl, by omega⟩
      obtain ⟨j, rfl, j0, j8⟩ := er
      rw [w_add]
      walk_at "ev"
      have f34 : Fr [s] M M4 := f3.trans (Fr.app.trans f4)
      refine ⟨by simp only [preM, e4], ?_⟩
      have hap : mthD .append (.loc L) [.int (last + 1 + j)] M4 = some (.non, M4.set L (.lst ((xs ++ [last + 1 + j]).map .int))) := by
        simp only [mthD, appendM, e4]
        rw [if_pos (Nat.lt_of_lt_of_le (show (xs.map D.int).length < 1000 by simp; omega) (size1000 (Nat.le_refl _)))]
        simp
      rw [hap, w_some]
      have hL4 : L < M4.length := (List.getElem?_eq_some_iff.mp e4).1
      refine ⟨f34.setF hL rfl, sp4.set sneL, c', a + 1, last + 1 + j, xs ++ [last + 1 + j], _, rfl, rfl, set_at hL4, by simp; omega, ?_, ?_, by omega, by simp; omega⟩
      · rw [List.pairwise_append]
        refine ⟨pw, by simp, fun x hx y hy => ?_⟩
        have := mem x hx
        simp only [List.mem_singleton] at hy
        omega
      · intro x hx
        rcases List.mem_append.mp hx with hx | hx
        · have := mem x hx; omega
        · simp only [List.mem_singleton] at hx; omega
    · rintro _ M3 ⟨f3, sp3, c, a, last, xs, t, ey, rfl, e3, hc, pw, mem, l1, l2⟩
      have := up_nil ey
      subst this
      exact ⟨f3, sp3, last, xs, t, rfl, e3, by omega, by omega, pw, fun x hx => by have := mem x hx; omega⟩
  rintro _ M2 ⟨f2, sp2, last, xs, t, rfl, e2, xl, xh, pw, mem⟩
  refine ws_step (fun δ M3 => Fr [s] M M3 ∧ Sp s M3 ∧ ∃ Fd, δ = [some (.loc s), some (.int most), some (.int n), some (.int last), some (.loc L), t, some (.loc Fd), none, none] ∧ M3[L]? = some (.lst (xs.map .int)) ∧ M3[Fd]? = some (.lst (([] : List (List Int)).map iD)) ∧ M.length ≤ Fd ∧ Fd ≠ L) ?_ ?_
  · walk_at "ev"
    exact ⟨f2.trans .app, sp2.keep .app, M2.length, rfl, Fr.get (.app (S := [])) e2 (by simp), new_at, f2.le, Nat.ne_of_gt (List.getElem?_eq_some_iff.mp e2).1⟩
  rintro _ M3 ⟨f3, sp3, Fd, rfl, e3, g3, hF, neF⟩
  have sneF : s ≠ Fd := by omega
  refine ws_step (fun δ M4 => Fr [s] M M4 ∧ Sp s M4 ∧ ∃ (t lf kk : Option D) (F : List (List Int)), δ = [some (.loc s), some (.int most), some (.int n), some (.int last), some (.loc L), t, some (.loc Fd), lf, kk] ∧ M4[Fd]? = some (.lst (F.map iD)) ∧ 1 ≤ F.length ∧ F.length ≤ 12 ∧ F.Nodup ∧ ∀ c ∈ F, c.length = n + 1 ∧ c.Sublist xs) ?_ ?_
  · walk_at "ev"
    refine (s11 (fu := fu) (k := k) (by omega) sp3 (many := most) (by omega) (by omega)).mono fun r M4 ⟨f4, sp4, v, e, hv⟩ => ?_
    subst e
    rw [w_add]
    have hcnt : ((1 : Int) + (v : Int)) = ((1 + v : Nat) : Int) := by omega
    rw [hcnt]
    refine ⟨_, rng_up0 (by omega), ?_⟩
    rw [Int.toNat_natCast]
    have e4 := f4.get e3 (by simpa using sneL.symm)
    have g4 := f4.get g3 (by simpa using sneF.symm)
    refine loopS_inv (fun ys δ M5 => Fr [s] M M5 ∧ Sp s M5 ∧ ∃ (c b : Nat) (a : Int) (t lf kk : Option D) (F : List (List Int)), ys = up c a ∧ b + c = 1 + v ∧ δ = [some (.loc s), some (.int most), some (.int n), some (.int last), some (.loc L), t, some (.loc Fd), lf, kk] ∧ M5[L]? = some (.lst (xs.map .int)) ∧ M5[Fd]? = some (.lst (F.map iD)) ∧ (1 ≤ b → 1 ≤ F.length) ∧ F.length ≤ b ∧ F.Nodup ∧ ∀ c ∈ F, c.length = n + 1 ∧ c.Sublist xs) (fun _ _ _ _ => rfl) ?_ ?_ _ _ _ ⟨f3.trans f4, sp4, _, 0, _, _, _, _, [], rfl, by omega, rfl, e4, g4, by omega, by simp, by simp, by simp⟩
    · rintro _ ys _ M5 ⟨f5, sp5, c, b, a, t, lf, kk, F, ey, hbc, rfl, e5, g5, hb1, hb2, nd, mF⟩
      obtain ⟨c', rfl, rfl, rfl⟩ := up_cons ey
      rw [ws_body, wt_one]
      refine ws_step (fun δ M6 => Fr [s] M M6 ∧ Sp s M6 ∧ ∃ (Lf : Nat), δ = [some (.loc s), some (.int most), some (.int n), some (.int last), some (.loc L), some (.int a), some (.loc Fd), some (.loc Lf), kk] ∧ M6[L]? = some (.lst (xs.map .int)) ∧ M6[Fd]? = some (.lst (F.map iD)) ∧ M6[Lf]? = some (.lst (xs.map .int)) ∧ M.length ≤ Lf ∧ Lf ≠ L ∧ Lf ≠ Fd) ?_ ?_
      · walk_at "ev"
        simp only [listB, seqOf, e5, w_some]
        exact ⟨f5.trans .app, sp5.keep .app, _, rfl, Fr.get (.app (S := [])) e5 (by simp), Fr.get (.app (S := [])) g5 (by simp), new_at, f5.le, Nat.ne_of_gt (List.getElem?_eq_some_iff.mp e5).1, Nat.ne_of_gt (List.getElem?_eq_some_iff.mp g5).1⟩
      rintro _ M6 ⟨f6, sp6, Lf, rfl, e6, g6, l6, hLf, n1', n2'⟩
      have sneLf : s ≠ Lf := by omega
      refine ws_step (fun δ M7 => Fr [s] M M7 ∧ Sp s M7 ∧ ∃ (kk : Option D) (zs : List Int), δ = [some (.loc s), some (.int most), some (.int n), some (.int last), some (.loc L), some (.int a), some (.loc Fd), some (.loc Lf), kk] ∧ M7[L]? = some (.lst (xs.map .int)) ∧ M7[Fd]? = some (.lst (F.map iD)) ∧ M7[Lf]? = some (.lst (zs.map .int)) ∧ zs.length = n + 1 ∧ zs.Sublist xs) ?_ ?_
      · walk_at "ev"
        rw [w_lenL e6, List.length_map, w_subI, w_subI]
        have hc2 : ((xs.length : Int) - (n : Int) - 1) = ((xs.length - n - 1 : Nat) : Int) := by omega
        rw [hc2]
        refine ⟨_, rng_up0 (by omega), ?_⟩
        rw [Int.toNat_natCast]
        refine loopS_inv (fun ys δ M7 => Fr [s] M M7 ∧ Sp s M7 ∧ ∃ (c : Nat) (a2 : Int) (kk : Option D) (zs : List Int), ys = up c a2 ∧ zs.length = n + 1 + c ∧ δ = [some (.loc s), some (.int most), some (.int n), some (.int last), some (.loc L), some (.int a), some (.loc Fd), some (.loc Lf), kk] ∧ M7[L]? = some (.lst (xs.map .int)) ∧ M7[Fd]? = some (.lst (F.map iD)) ∧ M7[Lf]? = some (.lst (zs.map .int)) ∧ zs.Sublist xs) (fun _ _ _ _ => rfl) ?_ ?_ _ _ _ ⟨f6, sp6, _, _, kk, xs, rfl, by omega, rfl, e6, g6, l6, List.Sublist.refl _⟩
        · rintro _ ys _ M7 ⟨f7, sp7, c2, a2, kk, zs, ey, hz, rfl, e7, g7, l7, sub⟩
          obtain ⟨c3, rfl, rfl, rfl⟩ := up_cons ey
          have hzl : zs.length ≤ 7 := Nat.le_trans sub.length_le xh
          rw [ws_body]
          walk_at "ev"
          refine ⟨by simp only [preM, l7], ?_⟩
          rw [w_lenL l7, List.length_map]
          refine (s11 (fu := fu) (k := k) (by omega) sp7 (many := zs.length) (by omega) (by omega)).mono fun r M8 ⟨f8, sp8, w, e, hw⟩ => ?_
          subst e
          have e8 := f8.get e7 (by simpa using sneL.symm)
          have g8 := f8.get g7 (by simpa using sneF.symm)
          have l8 := f8.get l7 (by simpa using sneLf.symm)
          have hpop : mthD .popl (.loc Lf) [.int (w : Nat)] M8 = some (.int zs[w], M8.set Lf (.lst ((zs.eraseIdx w).map .int))) := by
            simp only [mthD, poplM, l8]
            rw [if_pos (by omega), Int.toNat_natCast, List.getElem?_map, List.getElem?_eq_getElem hw, Option.map_some, Option.map_some, map_erase]
          rw [hpop, w_some]
          have hL8 : Lf < M8.length := (List.getElem?_eq_some_iff.mp l8).1
          refine ⟨(f7.trans f8).setF hLf rfl, sp8.set sneLf, c3, a2 + 1, _, zs.eraseIdx w, rfl, ?_, rfl, ?_, ?_, set_at hL8, (List.eraseIdx_sublist ..).trans sub⟩
          · rw [List.length_eraseIdx_of_lt hw]; omega
          · rw [List.getElem?_set_ne n1']; exact e8
          · rw [List.getElem?_set_ne n2']; exact g8
        · rintro _ M7 ⟨f7, sp7, c2, a2, kk, zs, ey, hz, rfl, e7, g7, l7, sub⟩
          have := up_nil ey
          subst this
          exact ⟨f7, sp7, kk, zs, rfl, e7, g7, l7, by omega, sub⟩
      rintro _ M7 ⟨f7, sp7, kk2, zs, rfl, e7, g7, l7, hz, sub⟩
      walk_at "ev"
      have ht : tupleB [.loc Lf] M7 = some (iD zs, M7) := by simp only [tupleB, seqOf, l7, Option.map_some, iD]
      rw [ht, w_some, inD_faces g7 zs]
      simp only [Option.map_some, Option.some.injEq, exists_eq_left']
      refine ⟨fun hq => ?_, fun hq => ?_⟩
      · have hni : zs ∉ F := by simpa using hq
        refine ⟨by simp only [preM, g7], ?_⟩
        rw [ht, w_some]
        have hap : mthD .append (.loc Fd) [iD zs] M7 = some (.non, M7.set Fd (.lst ((F ++ [zs]).map iD))) := by
          simp only [mthD, appendM, g7]
          rw [if_pos (Nat.lt_of_lt_of_le (show (F.map iD).length < 1000 by simp; omega) (size1000 (Nat.le_refl _)))]
          simp
        rw [hap, w_some]
        have hF7 : Fd < M7.length := (List.getElem?_eq_some_iff.mp g7).1
        refine ⟨f7.setF hF rfl, sp7.set sneF, c', b + 1, a + 1, _, _, _, F ++ [zs], rfl, by omega, rfl, ?_, set_at hF7, by simp, by simp; omega, ?_, ?_⟩
        · rw [List.getElem?_set_ne neF]; exact e7
        · rw [List.nodup_append]
          refine ⟨nd, by simp, fun x hx y hy e => ?_⟩
          simp only [List.mem_singleton] at hy
          subst e hy
          exact hni hx
        · intro c hc
          rcases List.mem_append.mp hc with hc | hc
          · exact mF c hc
          · simp only [List.mem_singleton] at hc
            subst hc
            exact ⟨hz, sub⟩
      · have hi : zs ∈ F := by simpa using hq
        refine ⟨f7, sp7, c', b + 1, a + 1, _, _, _, F, rfl, by omega, rfl, e7, g7, fun _ => List.length_pos_of_mem hi, by omega, nd, mF⟩
    · rintro _ M5 ⟨f5, sp5, c, b, a, t, lf, kk, F, ey, hbc, rfl, e5, g5, hb1, hb2, nd, mF⟩
      have := up_nil ey
      subst this
      exact ⟨f5, sp5, t, lf, kk, F, rfl, g5, hb1 (by omega), by omega, nd, mF⟩
  rintro _ M4 ⟨f4, sp4, t, lf, kk, F, rfl, g4, hl1, hl2, nd, mF⟩
  walk_at "ev"
  rw [sorted_lst g4 (Nat.le_trans hl2 (size1000 (by omega))) fun x hx => ?_]
  · simp only [tupleB, seqOf, new_at, Option.map_some, w_some]
    exact ⟨f4.trans .app, sp4.keep .app, n, lSort F, rfl, mk_pt n1 n3 hl1 hl2 nd fun c hc => ⟨(mF c hc).1, pw.sublist (mF c hc).2, fun x hx => mem x ((mF c hc).2.subset hx)⟩⟩
  · intro z
    have := (mF x hx).1
    simp [z] at this
end
section
open PySem PySem.W PyProof.Rows DD
theorem adj_range0 {α : Type} {r : α → α → Bool} {xs : List α} {n : Nat} (hn : xs.length = n + 1) {c : Int → Bool} (hc : ∀ k (h : k + 1 < xs.length), c (k : Int) = !r xs[k] xs[k + 1]) :
    (((List.range n).map fun k : Nat => (k : Int)).filter c).isEmpty = adj r xs := by
  rw [Bool.eq_iff_iff, adj_iff, List.isEmpty_iff, List.filter_eq_nil_iff]
  constructor
  · intro h k hk
    have := h (k : Int) (List.mem_map.mpr ⟨k, List.mem_range.mpr (by omega), rfl⟩)
    rw [hc k hk] at this
    simpa using this
  · intro h z hz
    obtain ⟨k, hk, rfl⟩ := List.mem_map.mp hz
    have hk := List.mem_range.mp hk
    rw [hc k (by omega), h k (by omega)]
    simp
theorem rng0 {n : Nat} (hn : n ≤ 1000) : rngD [.int (n : Int)] = some (((List.range n).map fun k : Nat => (k : Int)).map .int) := by
  rw [rng_up0 (by omega), up_eq]
  simp
theorem leD_int {M : Sto} (a b : Int) : leD (.int a) (.int b) M = some (decide (a ≤ b)) := by rfl
theorem isAsc_iD (zs : List Int) (lo hi : Int) : isAsc (iD zs) lo hi = ((zs.map D.int).all (isBetw · lo hi) && adj ltI (zs.map .int)) := rfl
theorem lawIsCell {fu k d M} {n : Nat} (hk : 2 ≤ k) (h : OkV M d) (hn : n ≤ 3) : W (R fu k 20 [d, .int n] M) fun r M' => Fr [] M M' ∧ r = .bl (isCell n d) := by
  obtain ⟨k, rfl⟩ : ∃ j, k = j + 1 := ⟨k - 1, by omega⟩
  refine w_run (fn := f_law_is_cell) rfl rfl ?_
  simp only [f_law_is_cell]
  walk_at "ev"
  simp only [isiB, isi_tup h]
  cases h with
  | tup hl h =>
    rename_i xs
    simp only [isTup, Option.map_some, w_some, Bool.not_true, Option.some.injEq, exists_eq_left', D.bl.injEq, Bool.false_eq_true, false_implies, true_and, true_implies, lenB, seqOf, w_add, eqD_int]
    refine ⟨fun e => ⟨.refl, ?_⟩, fun e => ?_⟩
    · have e : ¬ ((xs.length : Int) = n + 1) := by simpa using e
      have : isCell n (.tup xs) = false := by
        simp only [isCell, Bool.and_eq_false_iff]
        by_cases q : isAsc (.tup xs) 0 999 = true
        · obtain ⟨zs, ez⟩ := isAsc_tup q
          right
          simp only [toIs, List.length_map]
          simpa using e
        · left; simpa using q
      rw [this]
    · have e : (xs.length : Int) = n + 1 := by simpa using e
      refine lc_w (fun _ => true) (fun d => .bl (isBetw d 0 999)) (size1000 hl) (fun M' _ => by simp [okAt]) (fun x hx M' f' => ?_) fun M2 f2 e2 => ?_
      · walk_at "ev"
        rw [show runP prog fu k = R fu k from rfl, s19 (by omega) ((h x hx).mono f')]
        simp only [w_some, D.bl.injEq, exists_eq_left']
        refine ⟨.refl, fun q => ?_, fun q => ⟨.refl, ?_⟩⟩
        · cases x <;> simp [isWhole] at q
          rename_i i
          simp only [leD_int, Option.some.injEq, exists_eq_left', D.bl.injEq]
          refine ⟨fun q => ⟨.refl, ?_⟩, fun q => ⟨.refl, ?_⟩⟩
          · have q : 0 ≤ i := by simpa using q
            simp [isBetw, q]
          · have q : ¬ 0 ≤ i := by simpa using q
            simp [isBetw, q]
        · cases x <;> simp [isWhole] at q <;> simp [isBetw]
      · rw [List.filter_eq_self.mpr (by simp)] at e2
        rw [w_all e2]
        simp only [exists_eq_left', D.bl.injEq]
        refine ⟨fun q => ⟨f2, ?_⟩, fun q => ?_⟩
        · have q : xs.all (fun d => isBetw d 0 999) = false := by simpa using q
          simp only [isCell, isAsc]
          rw [q]; rfl
        · have hall : xs.all (fun d => isBetw d 0 999) = true := by simpa using q
          have : ∃ zs : List Int, xs = zs.map .int := all_whole_ints (List.all_eq_true.mpr fun x hx => by
            have := List.all_eq_true.mp hall x hx
            cases x <;> simp [isBetw] at this <;> rfl)
          obtain ⟨zs, rfl⟩ := this
          have hz : zs.length = n + 1 := by simp at e; omega
          refine ⟨_, rng0 (by omega), ?_⟩
          refine lc_w (fun d => match d with | .int i => decide (zs.getD (i + 1).toNat 0 ≤ zs.getD i.toNat 0) | _ => false) (fun d => d) (size1000 (by simp; omega)) (fun _ _ => rfl) (fun x hx M' f' => ?_) fun M4 f4 e4 => ?_
          · obtain ⟨i, hi, rfl⟩ := List.mem_map.mp hx
            obtain ⟨j, hj, rfl⟩ := List.mem_map.mp hi
            have hj := List.mem_range.mp hj
            walk_at "ev"
            rw [w_add]
            have g1 : ixD M' (.tup (zs.map .int)) (.int ((j : Int) + 1)) = some (.int (zs.getD (j + 1) 0)) := by
              rw [show ((j : Int) + 1) = ((j + 1 : Nat) : Int) by omega, ixD, atI_nat]
              have : j + 1 < zs.length := by omega
              simp [List.getD_eq_getElem?_getD, this]
            have g2 : ixD M' (.tup (zs.map .int)) (.int (j : Int)) = some (.int (zs.getD j 0)) := by
              rw [ixD, atI_nat]
              have : j < zs.length := by omega
              simp [List.getD_eq_getElem?_getD, this]
            simp only [g1, g2, Option.some.injEq, exists_eq_left', leD_int]
            refine ⟨.refl, ?_, fun _ => .refl⟩
            rw [show ((j : Int) + 1).toNat = j + 1 by omega, Int.toNat_natCast]
          · rw [filt_ints (f := fun i => decide (zs.getD (i + 1).toNat 0 ≤ zs.getD i.toNat 0)) (fun _ => rfl)] at e4
            rw [ne_new e4]
            simp only [Option.some.injEq, exists_eq_left', D.bl.injEq]
            refine ⟨(f2.trans f4).trans .app, ?_⟩
            rw [adj_range0 (xs := zs) (r := fun a b => decide (a < b)) hz]
            · show _ = isCell n (iD zs)
              simp only [isCell, isAsc_iD, toIs_iD]
              rw [show (zs.map D.int).all (fun x => isBetw x 0 999) = true from hall, adj_map]
              simp only [ltI, Bool.true_and]
              have : decide ((zs.length : Int) = n + 1) = true := by simp; omega
              rw [this, Bool.and_true]
            · intro k hk
              have h1 : k < zs.length := by omega
              rw [show ((k : Int) + 1).toNat = k + 1 by omega, Int.toNat_natCast]
              have e1 : zs.getD (k + 1) 0 = zs[k + 1] := by simp [List.getD_eq_getElem?_getD, hk]
              have e2 : zs.getD k 0 = zs[k] := by simp [List.getD_eq_getElem?_getD, h1]
              rw [e1, e2]
              by_cases q : zs[k] < zs[k + 1]
              · have : ¬ zs[k + 1] ≤ zs[k] := by omega
                simp [q, this]
              · have : zs[k + 1] ≤ zs[k] := by omega
                simp [q, this]
  | _ => simp [isTup, w_some, isCell, isAsc, Fr.refl]
end
section
open PySem PySem.W PyProof.Rows DD
theorem intTup_ints : ∀ xs : List Int, intTups (xs.map PyData.int) = true
  | [] => by simp [intTups]
  | x :: xs => by simp [intTups, intTup, intTup_ints xs]
theorem leVs_ints : ∀ a b : List Int, leVs (a.map .int) (b.map .int) = !ilt b a
  | [], _ => by simp [leVs, ilt]
  | x :: a, [] => by simp [leVs, ilt]
  | x :: a, y :: b => by
    simp only [List.map_cons, leVs, PyData.eqv, ilt, leVs_ints a b, leV]
    by_cases h : x = y
    · subst h; simp
    · have h' : ¬ y = x := fun e => h e.symm
      simp only [beq_iff_eq, h, h', if_false]
      by_cases q : x ≤ y
      · have : ¬ y < x := by omega
        simp [q, this]
      · have : y < x := by omega
        simp [q, this]
theorem leD_iD {M : Sto} (a b : List Int) : leD (iD a) (iD b) M = some (!ilt b a) := by
  have h : leD (iD a) (iD b) M = match pyP M (iD a), pyP M (iD b) with
    | some p, some q => if alike p q && SeqAt.shaped p && SeqAt.shaped q && intTup p && intTup q then some (leV p q) else none
    | _, _ => none := by rfl
  rw [h, pyP_iD, pyP_iD]
  have i1 : ∀ x, intTup (iP x) = true := fun x => by simp [iP, intTup, intTup_ints]
  have i2 : leV (iP a) (iP b) = !ilt b a := by simp [iP, leV, leVs_ints]
  simp [alike_iP, shaped_iP, i1, i2]
theorem lawIsPart {fu k d M} (hk : 3 ≤ k) (h : OkV M d) : W (R fu k 21 [d] M) fun r M' => Fr [] M M' ∧ r = .bl (isPart d) := by
  obtain ⟨k, rfl⟩ : ∃ j, k = j + 1 := ⟨k - 1, by omega⟩
  refine w_run (fn := f_law_is_parting) rfl rfl ?_
  simp only [f_law_is_parting]
  walk_at "ev"
  simp only [isiB, isi_tup h]
  cases h with
  | tup hl h =>
    rename_i xs
    simp only [isTup, Option.map_some, w_some, Bool.not_true, Option.some.injEq, exists_eq_left', D.bl.injEq, Bool.false_eq_true, false_implies, true_and, true_implies, D.tup.injEq, lenB, seqOf, eqD_int, Int.reduceEq]
    rcases xs with _ | ⟨a, _ | ⟨p, _ | ⟨t, r⟩⟩⟩
    · simp [isPart, Fr.refl]
    · simp [isPart, Fr.refl]
    · simp only [List.length_cons, List.length_nil, Nat.zero_add, Nat.reduceAdd, Int.cast_ofNat_Int, decide_true, Bool.not_true, Bool.false_eq_true, false_implies, true_and, true_implies]
      walk_at "ev"
      simp only [ix0, ix1, Option.some.injEq, exists_eq_left']
      rw [show runP prog fu k = R fu k from rfl, s19 (by omega) (h a (by simp)), w_some]
      refine ⟨_, rfl, fun e => ⟨.refl, ?_⟩, fun e => ?_⟩
      · have e : isWhole a = false := by simpa using e
        cases a <;> simp [isWhole] at e <;> simp [isPart]
      · have e : isWhole a = true := by simpa using e
        cases a <;> simp [isWhole] at e
        rename_i n _
        simp only [leD_int, Option.some.injEq, exists_eq_left', D.bl.injEq, decide_eq_true_eq, decide_eq_false_iff_not]
        have fin : isBetw (.int n) 1 3 = false → isPart (.tup [.int n, p]) = false := fun e => by
          simp only [isPart]
          split
          · rename_i n cs he
            cases he
            simp only [isBetw] at e
            simp [e]
          · rfl
        refine ⟨fun q1 => ⟨fun q => ⟨.refl, ?_⟩, fun q => ?_⟩, fun q => ⟨.refl, ?_⟩⟩
        · rw [fin]; simp only [isBetw, q1]; simpa using q
        · have q : n ≤ 3 := by simpa using q
          have hp := h p (by simp)
          simp only [isi_tup hp, Option.map_some, w_some, Option.some.injEq, exists_eq_left', D.bl.injEq]
          refine ⟨fun e => ⟨.refl, ?_⟩, fun e => ?_⟩
          · have e : isTup p = false := by simpa using e
            cases p <;> simp [isTup, isPart] at e ⊢
          · cases p with
            | tup cs =>
              obtain ⟨m, rfl⟩ : ∃ m : Nat, n = (m : Int) := ⟨n.toNat, by omega⟩
              have hcs := hp
              simp only [w_some, seqOf, Option.some.injEq, exists_eq_left', leD_int, D.bl.injEq, decide_eq_true_eq, decide_eq_false_iff_not, D.int.injEq]
              refine ⟨fun c1 => ⟨fun c2 => ⟨.refl, ?_⟩, fun c2 => ?_⟩, fun c1 => ⟨.refl, ?_⟩⟩
              · have : ¬ cs.length ≤ 12 := by
                  have c2 := c2; simp at c2; omega
                simp [isPart, this]
              · have c2 : cs.length ≤ 12 := by have c2 := c2; simp at c2; omega
                have c1 : 1 ≤ cs.length := by omega
                refine lc_w (fun _ => true) (fun d => .bl (isCell m d)) (size1000 (by omega)) (fun M' _ => by simp [okAt]) (fun x hx M' f' => ?_) fun M2 f2 e2 => ?_
                · walk_at "ev"
                  simp only [ix0, Option.some.injEq, exists_eq_left']
                  exact ⟨.refl, (lawIsCell (fu := fu) (k := k) (n := m) (by omega) ((hcs.mem x hx).mono f') (by omega)).mono fun r M3 ⟨f3, e3⟩ => ⟨f3, e3⟩⟩
                · rw [List.filter_eq_self.mpr (by simp)] at e2
                  rw [w_all e2]
                  simp only [exists_eq_left', D.bl.injEq]
                  have hn : decide (1 ≤ (m : Int)) = true ∧ decide ((m : Int) ≤ 3) = true ∧ decide (1 ≤ cs.length) = true ∧ decide (cs.length ≤ 12) = true := ⟨decide_eq_true q1, decide_eq_true q, decide_eq_true (by omega), decide_eq_true (by omega)⟩
                  refine ⟨fun e => ⟨f2, ?_⟩, fun e => ?_⟩
                  · have e : cs.all (isCell m) = false := by simpa using e
                    simp only [isPart, e, Bool.and_false, Bool.false_and]
                  · have hall : cs.all (isCell m) = true := by simpa using e
                    have cell : ∀ c ∈ cs, ∃ zs, c = iD zs := fun c hc => by
                      have := List.all_eq_true.mp hall c hc
                      rw [isCell, Bool.and_eq_true] at this
                      exact isAsc_tup this.1
                    refine ⟨_, rng1 (by omega), ?_⟩
                    refine lc_w (fun d => match d with | .int i => !ilt (toIs (cs.getD (i - 1).toNat .non)) (toIs (cs.getD i.toNat .non)) | _ => false) (fun d => d) (size1000 (by simp; omega)) (fun _ _ => rfl) (fun x hx M' f' => ?_) fun M4 f4 e4 => ?_
                    · obtain ⟨i, hi, rfl⟩ := List.mem_map.mp hx
                      obtain ⟨j, hj, rfl⟩ := List.mem_map.mp hi
                      have hj := List.mem_range.mp hj
                      walk_at "ev"
                      have l1 : j + 1 < cs.length := by omega
                      have l0 : j < cs.length := by omega
                      have v1 : cs.getD (j + 1) .non = cs[j + 1] := by simp [List.getD_eq_getElem?_getD, l1]
                      have v0 : cs.getD j .non = cs[j] := by simp [List.getD_eq_getElem?_getD, l0]
                      have g1 : ixD M' (.tup cs) (.int (1 + (j : Int))) = some cs[j + 1] := by
                        rw [show (1 + (j : Int)) = ((j + 1 : Nat) : Int) by omega, ixD, atI_nat]
                        simp [l1]
                      have g0 : ixD M' (.tup cs) (.int (1 + (j : Int) - 1)) = some cs[j] := by
                        rw [show (1 + (j : Int) - 1) = (j : Int) by omega, ixD, atI_nat]
                        simp [l0]
                      simp only [w_subI, g1, g0, Option.some.injEq, exists_eq_left', show (1 + (j : Int) - 1).toNat = j by omega, show (1 + (j : Int)).toNat = j + 1 by omega, v1, v0]
                      obtain ⟨z1, e1⟩ := cell cs[j + 1] (List.getElem_mem _)
                      obtain ⟨z0, e0⟩ := cell cs[j] (List.getElem_mem _)
                      rw [e1, e0]
                      simp only [leD_iD, toIs_iD, Option.some.injEq, exists_eq_left']
                      exact ⟨.refl, trivial, fun _ => .refl⟩
                    · rw [filt_ints (f := fun i => !ilt (toIs (cs.getD (i - 1).toNat .non)) (toIs (cs.getD i.toNat .non))) (fun _ => rfl)] at e4
                      rw [ne_new e4]
                      simp only [Option.some.injEq, exists_eq_left', D.bl.injEq]
                      refine ⟨(f2.trans f4).trans .app, ?_⟩
                      rw [adj_range (xs := cs) (r := fun a b => ilt (toIs a) (toIs b))]
                      · simp only [isPart, hn, hall, Bool.true_and]
                      · intro j hj
                        have l0 : j < cs.length := by omega
                        have v1 : cs.getD (j + 1) .non = cs[j + 1] := by simp [List.getD_eq_getElem?_getD, hj]
                        have v0 : cs.getD j .non = cs[j] := by simp [List.getD_eq_getElem?_getD, l0]
                        rw [show (1 + (j : Int) - 1).toNat = j by omega, show (1 + (j : Int)).toNat = j + 1 by omega, v1, v0]
              · have : ¬ 1 ≤ cs.length := by omega
                simp [isPart, this]
            | _ => simp [isTup] at e
        · rw [fin]; simp only [isBetw, decide_eq_false q, Bool.false_and]
    · have : ¬ (((r.length : Nat) : Int) + 1 + 1 + 1 = 2) := by omega
      simp [isPart, Fr.refl, this]
  | _ => simp [isTup, w_some, isPart, Fr.refl]
end
section
open PySem PySem.W PyProof.Rows DD
theorem cut_mem {xs : List D} {lo hi : Option Int} : ∀ x ∈ cutD xs lo hi, x ∈ xs := fun x h => List.mem_of_mem_drop (List.mem_of_mem_take h)
theorem cut_len {xs : List D} {lo hi : Option Int} : (cutD xs lo hi).length ≤ xs.length := by
  unfold cutD
  rw [List.length_take, List.length_drop]
  omega
theorem ok_tup {M : Sto} {xs : List D} (b : Nat) (h : xs.length ≤ b) (hb : b ≤ 1000) (k : ∀ x ∈ xs, OkV M x) : OkV M (.tup xs) := .tup (Nat.le_trans h hb) k
theorem ok_ints {M : Sto} {c : List Int} : ∀ x ∈ c.map D.int, OkV M x := fun x hx => by
  obtain ⟨i, _, rfl⟩ := List.mem_map.mp hx
  exact .int i
theorem w_cut {M : Sto} {xs : List D} {lo hi : Option Int} {Q : D → Sto → Prop} : W (slcD (.tup xs) lo hi M) Q = Q (.tup (cutD xs lo hi)) M := by
  simp only [slcD, w_some]
theorem bentCell {fu k s M} {c : List Int} (hk : 3 ≤ k) (h : Sp s M) (h0 : 1 ≤ c.length) (h4 : c.length ≤ 4) : W (R fu k 22 [.loc s, iD c] M) fun d M' => Fr [s] M M' ∧ Sp s M' ∧ OkV M' d := by
  obtain ⟨k, rfl⟩ : ∃ j, k = j + 1 := ⟨k - 1, by omega⟩
  refine w_run (fn := f_law_bent_cell) rfl rfl ?_
  simp only [f_law_bent_cell]
  have ix : ∀ {M : Sto} {v : Nat}, v < c.length → ixD M (iD c) (.int (v : Int)) = some (.int (c.getD v 0)) := fun {M v} hv => by
    rw [iD, ixD, atI_nat]
    simp [List.getD_eq_getElem?_getD, hv]
  have ix0' : ∀ {M : Sto}, ixD M (iD c) (.int 0) = some (.int (c.getD 0 0)) := fun {M} => ix (v := 0) (by omega)
  have hl : ∀ {M : Sto} {Q : D → Sto → Prop}, W (lenB [iD c] M) Q = Q (.int (c.length : Nat)) M := fun {M Q} => by
    rw [iD, w_lenT, List.length_map]
  walk_at "ev"
  rw [hl]
  refine (s11 (fu := fu) (k := k) (by omega) h (many := c.length) (by omega) (by omega)).mono fun r M1 ⟨f1, sp1, v, e, hv⟩ => ?_
  subst e
  walk_at "ev"
  simp only [ix0', ix hv, Option.some.injEq, exists_eq_left', w_add]
  refine (s12 (fu := fu) (k := k) (by omega) (sp1.keep .app) new_at (Nat.ne_of_gt sp1.lt) (by simp) (by simp)).mono fun odd M2 ⟨f2, sp2, m2⟩ => ?_
  have okOdd : OkV M2 odd := by
    simp only [List.mem_cons, List.not_mem_nil, or_false] at m2
    rcases m2 with rfl | rfl | rfl | rfl | rfl | rfl | rfl | rfl | rfl
    · exact .int _
    · exact .int _
    · exact .bl _
    · exact .non
    · exact .str _
    · exact .int _
    · exact .int _
    · exact .int _
    · refine .tup (by simp) fun x hx => ?_
      simp only [List.mem_singleton] at hx
      subst hx
      exact .int _
  have F2 : Fr [s] M M2 := f1.trans (Fr.app.trans f2)
  have sl : ∀ (lo hi : Option Int), (cutD (c.map .int) lo hi).length ≤ 4 := fun lo hi => Nat.le_trans cut_len (by simpa using h4)
  have so : ∀ (lo hi : Option Int) (M : Sto), ∀ x ∈ cutD (c.map .int) lo hi, OkV M x := fun lo hi M x hx => ok_ints x (cut_mem x hx)
  have z1000 : ∀ {n : Nat}, n ≤ 100 → n ≤ sizeLine := fun h => size1000 (Nat.le_trans h (by decide))
  walk_at "ev"
  simp only [iD, revD, Option.some.injEq, exists_eq_left', w_cut]
  have cl : (c.map D.int).length ≤ 4 := by simpa using h4
  rw [w_addT (z1000 (by first | omega | (simp; omega)))]
  have e1 : ∀ {M : Sto} {Q : D → Sto → Prop}, W (listB [D.tup (c.map D.int)] M) Q = Q (.loc M.length) (M ++ [.lst (c.map .int)]) := fun {M Q} => by simp only [listB, seqOf, w_some]
  have s1 := sl none (some v)
  have s2 := sl (some ((v : Int) + 1)) none
  have s3 := sl none (some 1)
  have s4 := sl (some v) (some ((v : Int) + 1))
  have s5 := sl (some v) none
  have s6 := sl (some 1) none
  have o1 := so none (some v)
  have o2 := so (some ((v : Int) + 1)) none
  have o3 := so none (some 1)
  have o4 := so (some v) (some ((v : Int) + 1))
  have o5 := so (some v) none
  have o6 := so (some 1) none
  generalize cutD (c.map .int) none (some (v : Int)) = t1 at *
  generalize cutD (c.map .int) (some ((v : Int) + 1)) none = t2 at *
  generalize cutD (c.map .int) none (some 1) = t3 at *
  generalize cutD (c.map .int) (some (v : Int)) (some ((v : Int) + 1)) = t4 at *
  generalize cutD (c.map .int) (some (v : Int)) none = t5 at *
  generalize cutD (c.map .int) (some 1) none = t6 at *
  rw [e1, w_addT (z1000 (by first | omega | (simp; omega))), w_addT (z1000 (by first | omega | (simp; omega))), w_addT (z1000 (by first | omega | (simp; omega))), w_addT (z1000 (by first | omega | (simp; omega))), w_addT (z1000 (by first | omega | (simp; omega))), w_addT (z1000 (by first | omega | (simp; omega))), w_addT (z1000 (by first | omega | (simp; omega)))]
  have sp3 := sp2.keep (.app (J := [.lst (c.map .int)]))
  refine (s12 (fu := fu) (k := k) (by omega) (sp3.keep .app) new_at (Nat.ne_of_gt sp3.lt) (by simp) (by simp)).mono fun r M3 ⟨f3, sp4, m3⟩ => ⟨F2.trans ((Fr.app.trans .app).trans f3), sp4, ?_⟩
  have okO : OkV M3 odd := okOdd.mono ((Fr.app.trans .app).trans f3)
  have okL : OkV M3 (.loc M2.length) := .loc (((Fr.app (S := [s])).trans f3).ld _ (.inl ⟨_, new_at⟩))
  have mid : OkV M3 (.tup (t1 ++ [odd] ++ t2)) := by
    refine ok_tup 100 (by simp; omega) (by omega) fun x hx => ?_
    simp only [List.mem_append, List.mem_singleton] at hx
    rcases hx with (hx | hx) | hx
    · exact o1 _ x hx
    · subst hx; exact okO
    · exact o2 _ x hx
  simp only [List.mem_cons, List.not_mem_nil, or_false] at m3
  rcases m3 with rfl | rfl | rfl | rfl | rfl | rfl | rfl | rfl | rfl | rfl
  · exact ok_tup 100 (by simp; omega) (by omega) fun x hx => ok_ints x (List.mem_reverse.mp hx)
  · refine ok_tup 100 (by simp; omega) (by omega) fun x hx => ?_
    rcases List.mem_append.mp hx with hx | hx
    · exact ok_ints x hx
    · simp only [List.mem_singleton] at hx
      subst hx; exact .int _
  · exact ok_tup 100 (by omega) (by omega) fun x hx => o6 _ x hx
  · exact okL
  · exact .non
  · exact .int _
  · exact mid
  · exact mid
  · refine ok_tup 100 (by simp; omega) (by omega) fun x hx => ?_
    rcases List.mem_append.mp hx with hx | hx
    · exact ok_ints x hx
    · exact o3 _ x hx
  · refine ok_tup 100 (by simp; omega) (by omega) fun x hx => ?_
    simp only [List.mem_append] at hx
    rcases hx with (hx | hx) | hx
    · exact o1 _ x hx
    · exact o4 _ x hx
    · exact o5 _ x hx
end
section
open PySem PySem.W PyProof.Rows DD
theorem ok_iD {M : Sto} {c : List Int} (h : c.length ≤ 4) : OkV M (iD c) := ok_tup 4 (by simpa using h) (by omega) ok_ints
theorem ok_pair {M : Sto} {a b : D} (ha : OkV M a) (hb : OkV M b) : OkV M (.tup [a, b]) := .tup (by simp) fun x hx => by
  simp only [List.mem_cons, List.not_mem_nil, or_false] at hx
  rcases hx with rfl | rfl
  · exact ha
  · exact hb
theorem ok_one {M : Sto} {a : D} (ha : OkV M a) : OkV M (.tup [a]) := .tup (by simp) fun x hx => by
  simp only [List.mem_singleton] at hx
  subst hx; exact ha
theorem bent {fu k s M n cs} (hk : 4 ≤ k) (h : Sp s M) (hp : PtOk n cs) : W (R fu k 23 [.loc s, pD n cs] M) fun d M' => Fr [s] M M' ∧ Sp s M' ∧ OkV M' d := by
  obtain ⟨k, rfl⟩ : ∃ j, k = j + 1 := ⟨k - 1, by omega⟩
  obtain ⟨n1, n3⟩ := hp.dim
  obtain ⟨c1, c12⟩ := hp.many
  have hcell : ∀ c ∈ cs, c.length ≤ 4 := fun c hc => by have := hp.cell c hc; omega
  have okC : ∀ {M : Sto}, ∀ x ∈ cs.map iD, OkV M x := fun {M} x hx => by
    obtain ⟨c, hc, rfl⟩ := List.mem_map.mp hx
    exact ok_iD (hcell c hc)
  have okCs : ∀ {M : Sto}, OkV M (.tup (cs.map iD)) := ok_tup 12 (by simpa using c12) (by omega) okC
  refine w_run (fn := f_law_bent) rfl rfl ?_
  simp only [f_law_bent]
  refine ws_step (fun δ M1 => M1 = M ∧ δ = [some (.loc s), some (pD n cs), some (.int n), some (.tup (cs.map iD)), none, none, none, none]) ?_ ?_
  · walk_at "ev"
    exact ⟨_, rfl, by walk_at "ev"⟩
  rintro _ M0 ⟨rfl, rfl⟩
  refine ws_step (fun δ M1 => Fr [s] M0 M1 ∧ Sp s M1 ∧ ∃ w v : Nat, δ = [some (.loc s), some (pD n cs), some (.int n), some (.tup (cs.map iD)), some (.int w), some (.int v), none, none] ∧ v < cs.length) ?_ ?_
  · walk_at "ev"
    refine (s11 (fu := fu) (k := k) (by omega) h (many := 7) (by omega) (by omega)).mono fun r M1 ⟨f1, sp1, w, e, hw⟩ => ?_
    subst e
    rw [w_lenT, List.length_map]
    refine (s11 (fu := fu) (k := k) (by omega) sp1 (many := cs.length) (by omega) (by omega)).mono fun r M2 ⟨f2, sp2, v, e, hv⟩ => ?_
    subst e
    walk_at "ev"
    exact ⟨f1.trans f2, sp2, w, v, rfl, hv⟩
  rintro _ M1 ⟨f1, sp1, w, v, rfl, hv⟩
  walk_at "ev"
  simp only [eqD_int, Option.some.injEq, exists_eq_left', decide_eq_true_eq, decide_eq_false_iff_not]
  refine ⟨fun q => ?_, fun q0 => ?_⟩
  · simp only [w_add, w_subI]
    refine (s12 (fu := fu) (k := k) (by omega) (sp1.keep .app) new_at (Nat.ne_of_gt sp1.lt) (by simp) (by simp)).mono fun r M2 ⟨f2, sp2, m2⟩ => ?_
    refine ⟨f1.trans (Fr.app.trans f2), sp2, ok_pair ?_ okCs⟩
    simp only [List.mem_cons, List.not_mem_nil, or_false] at m2
    rcases m2 with rfl | rfl | rfl | rfl | rfl | rfl | rfl | rfl
    · exact .int _
    · exact .int _
    · exact .bl _
    · exact .non
    · exact .int _
    · exact .int _
    · exact .str _
    · exact ok_one (.int _)
  refine ⟨fun q => ?_, fun q1 => ?_⟩
  · have e1 : ∀ {M : Sto} {Q : D → Sto → Prop}, W (listB [D.tup (cs.map iD)] M) Q = Q (.loc M.length) (M ++ [.lst (cs.map iD)]) := fun {M Q} => by simp only [listB, seqOf, w_some]
    have g0 : ∀ {M : Sto}, ixD M (.tup (cs.map iD)) (.int 0) = some (iD (cs.getD 0 [])) := fun {M} => cell_at (i := 0) (by omega)
    rw [e1]
    simp only [g0, Option.some.injEq, exists_eq_left']
    refine (s12 (fu := fu) (k := k) (by omega) ((((sp1.keep .app).keep .app).keep .app).keep .app) new_at (Nat.ne_of_gt ((((sp1.keep .app).keep .app).keep .app)).lt) (by simp) (by simp)).mono fun r M2 ⟨f2, sp2, m2⟩ => ?_
    refine ⟨f1.trans ((((Fr.app.trans .app).trans .app).trans .app).trans f2), sp2, ?_⟩
    have okn : OkV M2 (.int (n : Int)) := .int _
    have ld : ∀ {i : Nat}, LD (((M1 ++ [MO.lst (List.map iD cs)]) ++ [MO.lst [D.int n, D.tup (List.map iD cs)]]) ++ [MO.dct []]) i → OkV M2 (.loc i) := fun h => .loc (((Fr.app (S := [s])).trans f2).ld _ h)
    simp only [List.mem_cons, List.not_mem_nil, or_false] at m2
    rcases m2 with rfl | rfl | rfl | rfl | rfl | rfl | rfl | rfl | rfl | rfl | rfl
    · exact ok_pair okn (ld ((Fr.app (S := [])).ld _ ((Fr.app (S := [])).ld _ (.inl ⟨_, new_at⟩))))
    · exact ok_pair okn (.tup (by simp) (by simp))
    · refine ok_pair okn (ok_iD (hcell _ ?_))
      have : 0 < cs.length := by omega
      simp [List.getD_eq_getElem?_getD, this]
    · exact ok_one okn
    · refine .tup (by simp) fun x hx => ?_
      simp only [List.mem_cons, List.not_mem_nil, or_false] at hx
      rcases hx with rfl | rfl | rfl
      · exact okn
      · exact okCs
      · exact .tup (by simp) (by simp)
    · exact ld ((Fr.app (S := [])).ld _ (.inl ⟨_, new_at⟩))
    · exact ok_pair okCs okn
    · exact ok_pair okn .non
    · exact okCs
    · exact ok_pair okn (ld (.inr ⟨_, new_at⟩))
    · exact ok_pair okn (.str _)
  refine ⟨fun q => ?_, fun q2 => ?_⟩
  · simp only [revD, Option.some.injEq, exists_eq_left']
    exact ⟨f1, sp1, ok_pair (.int _) (ok_tup 12 (by simpa using c12) (by omega) fun x hx => okC x (List.mem_reverse.mp hx))⟩
  have cl : (cs.map iD).length ≤ 12 := by simpa using c12
  have sl : ∀ (lo hi : Option Int), (cutD (cs.map iD) lo hi).length ≤ 12 := fun lo hi => Nat.le_trans cut_len cl
  have so : ∀ (lo hi : Option Int) (M : Sto), ∀ x ∈ cutD (cs.map iD) lo hi, OkV M x := fun lo hi M x hx => okC x (cut_mem x hx)
  have z1000 : ∀ {n : Nat}, n ≤ 100 → n ≤ sizeLine := fun h => size1000 (Nat.le_trans h (by decide))
  have s1 := sl none (some v)
  have s2 := sl (some ((v : Int) + 1)) none
  have s4 := sl (some v) (some ((v : Int) + 1))
  have s5 := sl (some v) none
  have o1 := so none (some v)
  have o2 := so (some ((v : Int) + 1)) none
  have o4 := so (some v) (some ((v : Int) + 1))
  have o5 := so (some v) none
  simp only [w_add, w_cut, D.int.injEq, exists_eq_left']
  generalize cutD (cs.map iD) none (some (v : Int)) = t1 at *
  generalize cutD (cs.map iD) (some ((v : Int) + 1)) none = t2 at *
  generalize cutD (cs.map iD) (some (v : Int)) (some ((v : Int) + 1)) = t4 at *
  generalize cutD (cs.map iD) (some (v : Int)) none = t5 at *
  refine ⟨fun q => ?_, fun q3 => ?_⟩
  · rw [w_addT (z1000 (by first | omega | (simp; omega))), w_addT (z1000 (by first | omega | (simp; omega)))]
    refine ⟨f1, sp1, ok_pair (.int _) (ok_tup 100 (by simp; omega) (by omega) fun x hx => ?_)⟩
    simp only [List.mem_append] at hx
    rcases hx with (hx | hx) | hx
    · exact o1 _ x hx
    · exact o4 _ x hx
    · exact o5 _ x hx
  refine ⟨fun q => ?_, fun q4 => ?_⟩
  · refine (s11 (fu := fu) (k := k) (by omega) sp1 (many := 4) (by omega) (by omega)).mono fun r M2 ⟨f2, sp2, u, e, hu⟩ => ?_
    subst e
    rw [w_add]
    walk_at "ev"
    rw [show ((11 : Int) + (u : Int)) = ((11 + u : Nat) : Int) by omega]
    refine ⟨_, rng_up0 (by omega), ?_⟩
    rw [Int.toNat_natCast, up_eq]
    refine lc_w (fun _ => true) (fun d => .tup [.int 0, .int (match d with | .int i => 3 * i + 1 | _ => 0)]) (size1000 (by simp; omega)) (fun _ _ => rfl) (fun x hx M' f' => ?_) fun M4 f4 e4 => ?_
    · obtain ⟨i, hi, rfl⟩ := List.mem_map.mp hx
      walk_at "ev"
      rw [w_mulL (by decide) (by decide), w_add]
      exact ⟨.refl, .refl, rfl⟩
    · rw [List.filter_eq_self.mpr (by simp)] at e4
      simp only [tupleB, seqOf, e4, Option.map_some, w_some]
      refine ⟨(f1.trans f2).trans f4.nil, sp2.keep f4, ok_pair (.int _) (ok_tup 100 (by simp; omega) (by omega) fun x hx => ?_)⟩
      obtain ⟨y, _, rfl⟩ := List.mem_map.mp hx
      exact ok_pair (.int _) (.int _)
  · simp only [cell_at hv, Option.some.injEq, exists_eq_left']
    have hm : cs.getD v [] ∈ cs := by simp [List.getD_eq_getElem?_getD, hv]
    refine (bentCell (fu := fu) (k := k) (by omega) sp1 (by have := hp.cell _ hm; omega) (hcell _ hm)).mono fun r M2 ⟨f2, sp2, ok⟩ => ?_
    rw [w_addT (z1000 (by first | omega | (simp; omega))), w_addT (z1000 (by first | omega | (simp; omega)))]
    refine ⟨f1.trans f2, sp2, ok_pair (.int _) (ok_tup 100 (by simp; omega) (by omega) fun x hx => ?_)⟩
    simp only [List.mem_append, List.mem_singleton] at hx
    rcases hx with (hx | hx) | hx
    · exact o1 _ x hx
    · subst hx; exact ok
    · exact o2 _ x hx
end
section
open PySem PySem.W PyProof.Rows DD
theorem w_repr {M : Sto} {Q : D → Sto → Prop} {x : D} {p : PyData} (h : pyP M x = some p) (h1 : canRepr x = true) (h2 : p.showable = true) (h3 : p.shown.length ≤ sizeLine) : W (reprB [x] M) Q = Q (.str p.shown) M := by
  simp only [reprB, h, h1, h2, h3, decide_true, Bool.and_self, if_true, w_some]
/-- what a list of truths is written as -/
def okShow (p : PyData) : Bool := p.showable && decide (p.shown.length ≤ sizeLine) && PyData.strOk p.shown
theorem show_bl2 (a b : Bool) : okShow (.list [.bool a, .bool b]) = true := by cases a <;> cases b <;> decide +kernel
theorem w_repr' {M : Sto} {Q : D → Sto → Prop} {x : D} {p : PyData} (h : pyP M x = some p) (h1 : canRepr x = true) (h2 : okShow p = true) : W (reprB [x] M) Q = Q (.str p.shown) M := by
  simp only [okShow, Bool.and_eq_true, decide_eq_true_eq] at h2
  exact w_repr h h1 h2.1.1 h2.1.2
theorem eq_show {M : Sto} {p q : PyData} (h : okShow p = true) (g : okShow q = true) : eqD (.str p.shown) (.str q.shown) M = some (decide (p.shown = q.shown)) := by
  simp only [okShow, Bool.and_eq_true, decide_eq_true_eq] at h g
  exact eq_strs h.2 g.2
theorem pyP_list {M : Sto} {l : Nat} {xs : List D} {ps : List PyData} (h : M[l]? = some (.lst xs)) (g : pysOf M 39 xs = some ps) : pyP M (.loc l) = some (.list ps) := by
  simp only [pyP, depthMost, pyOf, h, g, Option.map_some]
theorem repr_bls {M : Sto} {l : Nat} {x y : Bool} {Q : D → Sto → Prop} (h : M[l]? = some (.lst [.bl x, .bl y])) : W (reprB [.loc l] M) Q = Q (.str (PyData.list [.bool x, .bool y]).shown) M :=
  w_repr' (pyP_list h (by simp [pysOf, pyOf])) rfl (show_bl2 _ _)
theorem eq_bls {M : Sto} {x y : Bool} : eqD (.str (PyData.list [.bool x, .bool y]).shown) (.str (PyData.list [.bool x, .bool y]).shown) M = some true := by
  rw [eq_show (show_bl2 _ _) (show_bl2 _ _)]; simp
/-- rows of small numbers as written -/
theorem shws_small {b : Nat} : ∀ xs : List Int, (∀ x ∈ xs, x.natAbs.log2 < b) → Shws b (xs.map .int)
  | [], _ => by simp [Shws]
  | x :: xs, h => by
    simp only [List.map_cons, Shws, Shw]
    exact ⟨h x (by simp), shws_small xs fun y hy => h y (List.mem_cons_of_mem _ hy)⟩
theorem gszs_ints (b : Nat) : ∀ xs : List Int, gszs b (xs.map .int) = xs.length * (b + 3)
  | [] => by simp [gszs]
  | x :: xs => by simp only [List.map_cons, gszs, gsz, gszs_ints b xs, List.length_cons, Nat.add_mul]; omega
theorem shws_rows {b : Nat} : ∀ F : List (List Int), (∀ z ∈ F, ∀ x ∈ z, x.natAbs.log2 < b) → Shws b (F.map iP)
  | [], _ => by simp [Shws]
  | z :: F, h => by
    simp only [List.map_cons, Shws]
    exact ⟨by simp only [iP, Shw]; exact shws_small z (h z (by simp)), shws_rows F fun y hy => h y (List.mem_cons_of_mem _ hy)⟩
theorem gszs_rows (b m : Nat) : ∀ F : List (List Int), (∀ z ∈ F, z.length ≤ m) → gszs b (F.map iP) ≤ F.length * (m * (b + 3) + 5)
  | [], _ => by simp [gszs]
  | z :: F, h => by
    have i := gszs_rows b m F fun y hy => h y (List.mem_cons_of_mem _ hy)
    have h1 : z.length * (b + 3) ≤ m * (b + 3) := Nat.mul_le_mul_right _ (h z (by simp))
    simp only [List.map_cons, gszs, iP, gsz, gszs_ints, List.length_cons, Nat.add_mul] at *
    omega
theorem PtOk.rng {n : Nat} {cs : List (List Int)} (h : PtOk n cs) : ∀ c ∈ cs, ∀ x ∈ c, 0 ≤ x ∧ x ≤ 999 := by
  have hp := h.part
  simp only [pD, isPart, Bool.and_eq_true, List.all_map] at hp
  intro c hc x hx
  have h1 := List.all_eq_true.mp hp.1.2 c hc
  simp only [Function.comp_apply, isCell, Bool.and_eq_true, isAsc_iD] at h1
  have := List.all_eq_true.mp h1.1.1 (.int x) (List.mem_map.mpr ⟨x, hx, rfl⟩)
  simpa [isBetw] using this
theorem log_small {x : Int} (h : 0 ≤ x ∧ x ≤ 999) : x.natAbs.log2 < 10 := by
  by_cases z : x.natAbs = 0
  · rw [z]; decide
  · rw [Nat.log2_lt z]; omega
theorem getD_rng {c : List Int} (h : ∀ x ∈ c, 0 ≤ x ∧ x ≤ 999) (i : Nat) : 0 ≤ c.getD i 0 ∧ c.getD i 0 ≤ 999 := by
  rw [List.getD_eq_getElem?_getD]
  by_cases q : i < c.length
  · rw [List.getElem?_eq_getElem q]; exact h _ (List.getElem_mem _)
  · rw [List.getElem?_eq_none (by omega)]; simp
/-- a list of rows of faces, written -/
def frP (Fs : List (List (List Int))) : PyData := .list (Fs.map fun F => .tuple (F.map iP))
theorem pys_rows {M : Sto} {n : Nat} : ∀ Fs : List (List (List Int)), pysOf M (n + 2) (Fs.map fun F => .tup (F.map iD)) = some (Fs.map fun F => .tuple (F.map iP))
  | [] => by simp [pysOf]
  | F :: Fs => by
    simp only [List.map_cons]
    rw [pysOf, pys_rows Fs]
    have : pyOf M (n + 2) (.tup (F.map iD)) = some (.tuple (F.map iP)) := by rw [pyOf, pys_faces]; rfl
    rw [this]; rfl
end
section
open PySem PySem.W PyProof.Rows DD
theorem repr_rows {M : Sto} {l b : Nat} {Fs : List (List (List Int))} {Q : D → Sto → Prop} (hl : M[l]? = some (.lst (Fs.map fun F => .tup (F.map iD)))) (h0 : 0 < b) (hb : b ≤ 1920) (h : Shw b (frP Fs)) (hz : gsz b (frP Fs) ≤ sizeLine) : W (reprB [.loc l] M) Q = Q (.str (frP Fs).shown) M :=
  repr_ok h0 hb (pyP_list hl (pys_rows Fs)) rfl h hz
theorem rows2 {F : List (List Int)} (hr : ∀ z ∈ F, ∀ x ∈ z, 0 ≤ x ∧ x ≤ 999) (h4 : ∀ z ∈ F, z.length ≤ 4) (hl : F.length ≤ 200) : Shw 10 (frP [F, F]) ∧ gsz 10 (frP [F, F]) ≤ sizeLine := by
  have h1 := shws_rows (b := 10) F fun z hz x hx => log_small (hr z hz x hx)
  have h2 := gszs_rows 10 4 F h4
  constructor
  · simp only [frP, List.map_cons, List.map_nil, Shw, Shws]
    exact ⟨h1, h1, trivial⟩
  · refine Nat.le_trans ?_ (show 40000 ≤ sizeLine by decide)
    simp only [frP, List.map_cons, List.map_nil, gsz, gszs]
    have : F.length * (4 * (10 + 3) + 5) ≤ 200 * 57 := Nat.mul_le_mul_right _ hl
    omega
theorem repr2 {M : Sto} {l : Nat} {F : List (List Int)} {Q : D → Sto → Prop} (hl : M[l]? = some (.lst [.tup (F.map iD), .tup (F.map iD)])) (h : Shw 10 (frP [F, F])) (hz : gsz 10 (frP [F, F]) ≤ sizeLine) : W (reprB [.loc l] M) Q = Q (.str (frP [F, F]).shown) M :=
  repr_rows (Fs := [F, F]) hl (by decide) (by decide) h hz
theorem pys_tups {M : Sto} {n : Nat} : ∀ Fs : List (List Int), pysOf M (n + 1) (Fs.map iD) = some (Fs.map iP)
  | [] => by simp [pysOf]
  | F :: Fs => by
    simp only [List.map_cons]
    rw [pysOf, pys_tups Fs, py_iD]
    rfl
theorem repr_tups {M : Sto} {l : Nat} {F : List (List Int)} {Q : D → Sto → Prop} (hl : M[l]? = some (.lst (F.map iD))) (hr : ∀ z ∈ F, ∀ x ∈ z, 0 ≤ x ∧ x ≤ 999) (h4 : ∀ z ∈ F, z.length ≤ 4) (hl2 : F.length ≤ 3) : W (reprB [.loc l] M) Q = Q (.str (PyData.list (F.map iP)).shown) M := by
  refine repr_ok (b := 10) (by decide) (by decide) (pyP_list hl (pys_tups F)) rfl ?_ ?_
  · simp only [Shw]
    exact shws_rows F fun z hz x hx => log_small (hr z hz x hx)
  · have h2 := gszs_rows 10 4 F h4
    refine Nat.le_trans ?_ (show 40000 ≤ sizeLine by decide)
    simp only [gsz]
    have : F.length * (4 * (10 + 3) + 5) ≤ 3 * 57 := Nat.mul_le_mul_right _ hl2
    omega
theorem eq_tups {M : Sto} {F : List (List Int)} (hr : ∀ z ∈ F, ∀ x ∈ z, 0 ≤ x ∧ x ≤ 999) : eqD (.str (PyData.list (F.map iP)).shown) (.str (PyData.list (F.map iP)).shown) M = some true :=
  eq_shown (b := 10) (by decide) (by decide) (by simp only [Shw]; exact shws_rows F fun z hz x hx => log_small (hr z hz x hx))
theorem adj_asc : ∀ {c : List Int}, adj ltI (c.map .int) = true → c.Pairwise (· < ·)
  | [], _ => .nil
  | [a], _ => by simp
  | a :: b :: c, h => by
    have h : (ltI (.int a) (.int b) && adj ltI ((b :: c).map .int)) = true := h
    rw [Bool.and_eq_true] at h
    have i := adj_asc h.2
    have ab : a < b := by simpa [ltI] using h.1
    refine List.pairwise_cons.mpr ⟨fun x hx => ?_, i⟩
    rcases List.mem_cons.mp hx with rfl | hx
    · exact ab
    · have := (List.pairwise_cons.mp i).1 x hx; omega
theorem PtOk.asc {n : Nat} {cs : List (List Int)} (h : PtOk n cs) : ∀ c ∈ cs, c.Pairwise (· < ·) := by
  have hp := h.part
  simp only [pD, isPart, Bool.and_eq_true, List.all_map] at hp
  intro c hc
  have h1 := List.all_eq_true.mp hp.1.2 c hc
  simp only [Function.comp_apply, isCell, Bool.and_eq_true, isAsc_iD] at h1
  exact adj_asc h1.1.2
theorem asc_uniq {as bs : List Int} (ha : as.Pairwise (· < ·)) (hb : bs.Pairwise (· < ·)) (h : ∀ x, x ∈ as ↔ x ∈ bs) : as = bs := by
  have na : as.Nodup := by rw [List.nodup_iff_pairwise_ne]; exact ha.imp fun h => by omega
  have nb : bs.Nodup := by rw [List.nodup_iff_pairwise_ne]; exact hb.imp fun h => by omega
  exact ((List.perm_ext_iff_of_nodup na nb).mpr h).eq_of_pairwise (le := fun a b => a < b) (fun a b _ _ h1 h2 => by omega) ha hb
theorem common_swap {a b : List Int} (ha : a.Pairwise (· < ·)) (hb : b.Pairwise (· < ·)) : b.filter (fun c => decide (c ∈ a)) = a.filter (fun c => decide (c ∈ b)) :=
  asc_uniq (hb.sublist List.filter_sublist) (ha.sublist List.filter_sublist) fun x => by simp [List.mem_filter, And.comm]
theorem law2 {M : Sto} {l : Nat} {b : Bool} {Q : D → Sto → Prop} (h : M[l]? = some (.lst [.bl b])) : W (opB .mul (.loc l) (.int 2) M) Q = Q (.loc M.length) (M ++ [.lst [.bl b, .bl b]]) := w_mulLs (k := 2) h (by omega)
theorem lawRight {fu k s M} (hk : 9 ≤ k) (h : Sp s M) : W (R fu k 24 [.loc s] M) fun d M' => Fr [s] M M' ∧ d = .bl true := by
  obtain ⟨k, rfl⟩ : ∃ j, k = j + 1 := ⟨k - 1, by omega⟩
  have hs := h.lt
  refine w_run (fn := f_law_right) rfl rfl ?_
  simp only [f_law_right]
  refine ws_step (fun δ M1 => Fr [s] M M1 ∧ Sp s M1 ∧ ∃ (n : Nat) (cs : List (List Int)), PtOk n cs ∧ δ = [some (.loc s), some (pD n cs), none, none, none, none, none, none, none, none, none, none, none]) ?_ ?_
  · walk_at "ev"
    refine (lawParting (fu := fu) (k := k) (most := 12) (by omega) h (by omega) (by omega)).mono fun d M1 ⟨f1, sp1, n, cs, e, hp⟩ => ?_
    subst e
    exact ⟨f1, sp1, n, cs, hp, rfl⟩
  rintro _ M1 ⟨f1, sp1, n, cs, hp, rfl⟩
  refine ws_step (fun δ M2 => M2 = M1 ∧ δ = [some (.loc s), some (pD n cs), some (.int n), some (.tup (cs.map iD)), none, none, none, none, none, none, none, none, none]) ?_ ?_
  · walk_at "ev"
    exact ⟨_, rfl, by walk_at "ev"⟩
  rintro _ M2 ⟨rfl, rfl⟩
  refine ws_step (fun δ M3 => Fr [s] M M3 ∧ Sp s M3 ∧ δ = [some (.loc s), some (pD n cs), some (.int n), some (.tup (cs.map iD)), none, none, none, none, none, none, none, none, none]) ?_ ?_
  · walk_at "ev"
    refine (s8 (fu := fu) (k := k) (by omega) hp.okv).mono fun r M3 ⟨f3, e⟩ => ?_
    subst e
    refine (s8 (fu := fu) (k := k) (by omega) hp.okv).mono fun r M4 ⟨f4, e⟩ => ?_
    subst e
    rw [hp.part, repr_bls new_at, repr_bls new_at, eq_bls]
    simp only [Option.map_some, Option.some.injEq, exists_eq_left', Bool.not_true, Bool.false_eq_true, false_implies, true_implies, true_and]
    exact ⟨((f1.trans f3.nil).trans f4.nil).trans (Fr.app.trans .app), (((sp1.keep f3).keep f4).keep .app).keep .app⟩
  rintro _ M3 ⟨f3, sp3, rfl⟩
  refine ws_step (fun δ M4 => Fr [s] M M4 ∧ Sp s M4 ∧ ∃ odd, OkV M4 odd ∧ δ = [some (.loc s), some (pD n cs), some (.int n), some (.tup (cs.map iD)), some odd, none, none, none, none, none, none, none, none]) ?_ ?_
  · walk_at "ev"
    have F0 : Fr [] M3 ((M3 ++ [MO.dct []]) ++ [MO.lst []]) := Fr.app.trans .app
    refine (s12 (fu := fu) (k := k) (by omega) ((sp3.keep F0).keep .app) new_at (Nat.ne_of_gt (sp3.keep F0).lt) (by simp) (by simp)).mono fun r M4 ⟨f4, sp4, m4⟩ => ?_
    refine ⟨f3.trans (F0.nil.trans (Fr.app.trans f4)), sp4, r, ?_, rfl⟩
    have ld : ∀ {i : Nat}, LD ((M3 ++ [MO.dct []]) ++ [MO.lst []]) i → OkV M4 (.loc i) := fun h => .loc (((Fr.app (S := [s])).trans f4).ld _ h)
    have p2 : ∀ a b : Int, OkV M4 (.tup [.int a, .int b]) := fun a b => ok_pair (.int _) (.int _)
    simp only [List.mem_cons, List.not_mem_nil, or_false] at m4
    rcases m4 with rfl | rfl | rfl | rfl | rfl | rfl | rfl | rfl | rfl | rfl | rfl
    · exact .non
    · exact .int _
    · exact .str _
    · exact .tup (by simp) (by simp)
    · exact ok_pair (.int _) (ok_one (p2 _ _))
    · exact ok_pair (.int _) (ok_one (p2 _ _))
    · exact ok_pair (.int _) (ok_one (ok_one (.int _)))
    · exact ld ((Fr.app (S := [])).ld _ (.inr ⟨_, new_at⟩))
    · exact ld (.inl ⟨_, new_at⟩)
    · exact .bl _
    · exact ok_pair (.int _) (ok_pair (p2 _ _) (.int _))
  rintro _ M4 ⟨f4, sp4, odd, okO, rfl⟩
  refine ws_step (fun δ M5 => Fr [s] M M5 ∧ Sp s M5 ∧ ∃ v, δ = [some (.loc s), some (pD n cs), some (.int n), some (.tup (cs.map iD)), some odd, v, none, none, none, none, none, none, none]) ?_ ?_
  · walk_at "ev"
    refine (bent (fu := fu) (k := k) (by omega) sp4 hp).mono fun b1 M5 ⟨f5, sp5, ok5⟩ => ?_
    refine (bent (fu := fu) (k := k) (by omega) sp5 hp).mono fun b2 M6 ⟨f6, sp6, ok6⟩ => ?_
    simp only [seqOf, new_at, Option.some.injEq, exists_eq_left']
    have g6 : (M6 ++ [MO.lst [b1, b2, odd]])[M6.length]? = some (.lst [b1, b2, odd]) := new_at
    have F6 : Fr [s] M (M6 ++ [MO.lst [b1, b2, odd]]) := ((f4.trans f5).trans f6).trans .app
    have all6 : ∀ x ∈ [b1, b2, odd], OkV (M6 ++ [MO.lst [b1, b2, odd]]) x := fun x hx => by
      simp only [List.mem_cons, List.not_mem_nil, or_false] at hx
      rcases hx with rfl | rfl | rfl
      · exact ok5.mono (f6.trans .app)
      · exact ok6.mono (Fr.app (S := []))
      · exact okO.mono ((f5.trans f6).trans .app)
    have ne6 : M6.length ≠ s := by have := sp6.lt; omega
    have sp7 := sp6.keep (.app (J := [MO.lst [b1, b2, odd]]))
    generalize M6 ++ [MO.lst [b1, b2, odd]] = M7 at *
    generalize M6.length = l at *
    refine loopS_inv (fun ys δ M8 => Fr [s] M M8 ∧ Sp s M8 ∧ M8[l]? = some (.lst [b1, b2, odd]) ∧ (∀ x ∈ ys, OkV M8 x) ∧ ∃ v, δ = [some (.loc s), some (pD n cs), some (.int n), some (.tup (cs.map iD)), some odd, v, none, none, none, none, none, none, none]) (fun _ _ M' ⟨_, _, g, _⟩ => by simp [okAt, g]) ?_ ?_ _ _ _ ⟨F6, sp7, g6, all6, none, rfl⟩
    · rintro x ys _ M8 ⟨f8, sp8, g8, ok8, v, rfl⟩
      have okx := ok8 x (by simp)
      rw [ws_body]
      walk_at "ev"
      refine (s8 (fu := fu) (k := k) (by omega) okx).mono fun r M9 ⟨f9, e⟩ => ?_
      subst e
      refine (s8 (fu := fu) (k := k) (by omega) (okx.mono f9)).mono fun r M10 ⟨f10, e⟩ => ?_
      subst e
      rw [repr_bls new_at]
      refine (lawIsPart (fu := fu) (k := k) (by omega) (((okx.mono f9).mono f10).mono (Fr.app (S := [])))).mono fun r M11 ⟨f11, e⟩ => ?_
      subst e
      rw [law2 new_at, repr_bls new_at, eq_bls]
      simp only [Option.map_some, Option.some.injEq, exists_eq_left', Bool.not_true, Bool.false_eq_true, false_implies, true_implies, true_and]
      have ff : Fr [] M8 ((M11 ++ [MO.lst [.bl (isPart x)]]) ++ [MO.lst [.bl (isPart x), .bl (isPart x)]]) := (((f9.trans f10).trans .app).trans f11).trans (Fr.app.trans .app)
      exact ⟨f8.trans ff.nil, sp8.keep ff, ff.get g8 (by simp), fun y hy => (ok8 y (List.mem_cons_of_mem _ hy)).mono ff, _, rfl⟩
    · rintro _ M8 ⟨f8, sp8, g8, ok8, v, rfl⟩
      exact ⟨f8, sp8, v, rfl⟩
  rintro _ M5 ⟨f5, sp5, v, rfl⟩
  have hd := hp.dim
  refine ws_step (fun δ M6 => Fr [s] M M6 ∧ Sp s M6 ∧ ∃ m due, δ = [some (.loc s), some (pD n cs), some (.int n), some (.tup (cs.map iD)), some odd, v, m, due, none, none, none, none, none]) ?_ ?_
  · walk_at "ev"
    rw [w_add, show ((n : Int) + 1) = ((n + 1 : Nat) : Int) by omega]
    refine ⟨_, rng_up0 (by omega), ?_⟩
    rw [Int.toNat_natCast]
    refine loopS_inv (fun ys δ M6 => Fr [s] M M6 ∧ Sp s M6 ∧ ∃ (c a : Nat) (m due : Option D), ys = up c a ∧ a + c = n + 1 ∧ δ = [some (.loc s), some (pD n cs), some (.int n), some (.tup (cs.map iD)), some odd, v, m, due, none, none, none, none, none]) (fun _ _ _ _ => rfl) ?_ ?_ _ _ _ ⟨f5, sp5, n + 1, 0, none, none, rfl, by omega, rfl⟩
    · rintro _ ys _ M6 ⟨f6, sp6, c, a, m, due, ey, hc, rfl⟩
      obtain ⟨c', rfl, rfl, rfl⟩ := up_cons ey
      have ha : a ≤ n := by omega
      rw [ws_body]
      walk_at "ev"
      refine (lawFaces (fu := fu) (k := k) (by omega) hp ha).mono fun r M7 ⟨f7, l, F, e, e7, nd, mem⟩ => ?_
      subst e
      simp only [tupleB, seqOf, e7, Option.map_some, w_some]
      refine (facesIn (fu := fu) (k := k) (by omega) hp ha).mono fun r M8 ⟨f8, G, e, ndG, lG, memG⟩ => ?_
      have eFG : lSort G = lSort F := lSort_ext ndG nd fun z => by rw [mem, memG]
      have pmG := lSort_perm G
      rw [eFG] at e pmG
      subst e
      simp only [w_callp, w_es, w_es0, w_var, List.getElem?_cons_succ, List.getElem?_cons_zero, Option.some.injEq, exists_eq_left', List.map_cons, List.map_nil, List.getD_cons_zero, List.getD_cons_succ]
      refine (facesIn (fu := fu) (k := k) (by omega) hp ha).mono fun r M9 ⟨f9, G2, e, ndG2, lG2, memG2⟩ => ?_
      have eFG2 : lSort G2 = lSort F := lSort_ext ndG2 nd fun z => by rw [mem, memG2]
      rw [eFG2] at e
      subst e
      have hr : ∀ z ∈ lSort F, z.length ≤ 4 ∧ ∀ x ∈ z, 0 ≤ x ∧ x ≤ 999 := fun z hz => by
        obtain ⟨y, hy, hl, c, hc, rfl⟩ := (memG z).mp (pmG.mem_iff.mp hz)
        refine ⟨by simp [pickC]; omega, fun x hx => ?_⟩
        obtain ⟨i, _, rfl⟩ := List.mem_map.mp hx
        exact getD_rng (hp.rng c hc) i
      obtain ⟨w1, w2⟩ := rows2 (F := lSort F) (fun z hz => (hr z hz).2) (fun z hz => (hr z hz).1) (by rw [pmG.length_eq]; exact lG)
      rw [repr2 new_at w1 w2, repr2 new_at w1 w2, eq_shown (by decide) (by decide) w1]
      simp only [Option.map_some, Option.some.injEq, exists_eq_left', Bool.not_true, Bool.false_eq_true, false_implies, true_implies, true_and]
      have ff := (f7.trans f8).trans f9
      exact ⟨(f6.trans ff.nil).trans (Fr.app.trans .app), ((sp6.keep ff).keep .app).keep .app, c', a + 1, _, _, by simp, by omega, rfl⟩
    · rintro _ M6 ⟨f6, sp6, c, a, m, due, ey, hc, rfl⟩
      exact ⟨f6, sp6, m, due, rfl⟩
  rintro _ M6 ⟨f6, sp6, m, due, rfl⟩
  refine ws_step (fun δ M7 => Fr [s] M M7 ∧ Sp s M7 ∧ δ.length = 13) ?_ ?_
  · walk_at "ev"
    have dl : (enumD (cs.map iD) 0).length = cs.length := by rw [enum_len, List.length_map]
    refine loopS_inv (fun ys δ M7 => Fr [s] M M7 ∧ Sp s M7 ∧ ∃ (b : Nat) (due w x y z t : Option D), ys = (enumD (cs.map iD) 0).drop b ∧ δ = [some (.loc s), some (pD n cs), some (.int n), some (.tup (cs.map iD)), some odd, v, m, due, w, x, y, z, t]) (fun _ _ _ _ => rfl) ?_ ?_ _ _ _ ⟨f6, sp6, 0, due, none, none, none, none, none, by simp, rfl⟩
    · rintro e ys _ M7 ⟨f7, sp7, b, due, w, x, y, z, t, ey, rfl⟩
      obtain ⟨g1, g2, g3⟩ := drop_cons ey
      rw [dl] at g3
      obtain ⟨y0, g4, rfl⟩ := enum_get g1
      have hy0 : y0 = iD (cs.getD b []) := by
        rw [List.getElem?_map, List.getElem?_eq_getElem g3] at g4
        have : iD (cs[b]) = y0 := by simpa using g4
        rw [← this]
        simp [List.getD_eq_getElem?_getD, g3]
      subst hy0
      have eb : (0 : Int) + (b : Int) = (b : Int) := by omega
      rw [ws_body]
      walk_at "ev"
      rw [eb, w_lenT, List.length_map]
      refine (s11 (fu := fu) (k := k) (by omega) sp7 (many := cs.length) (by omega) (by have := hp.many; omega)).mono fun r M8 ⟨f8, sp8, u, e, hu⟩ => ?_
      subst e
      walk_at "ev"
      have hmb : cs.getD b [] ∈ cs := by simp [List.getD_eq_getElem?_getD, g3]
      have hcb := hp.cell _ hmb
      have hrb := hp.rng _ hmb
      refine ⟨(cs.getD b []).map .int, by simp only [iD, seqOf], ?_⟩
      refine lc_w (fun d => match d with | .int a => decide (a ∈ cs.getD u []) | _ => false) (fun d => d) (size1000 (by rw [List.length_map]; omega)) (fun _ _ => by simp only [iD, okAt]) (fun x hx M2 f2 => ?_) fun M9 f9 e9 => ?_
      · obtain ⟨a, ha2, rfl⟩ := List.mem_map.mp hx
        walk_at "ev"
        simp only [cell_at hu, Option.some.injEq, exists_eq_left', inD_ints]
        exact ⟨.refl, trivial, fun _ => .refl⟩
      rw [List.map_id', List.filter_map] at e9
      have e9 : M9[M8.length]? = some (.lst (((cs.getD b []).filter fun a => decide (a ∈ cs.getD u [])).map .int)) := e9
      simp only [tupleB, seqOf, e9, Option.map_some, w_some]
      refine (comFace (fu := fu) (k := k) (by omega) hp g3 hu).mono fun r M10 ⟨f10, e⟩ => ?_
      subst e
      simp only [w_callp, w_es, w_es0, w_var, List.getElem?_cons_succ, List.getElem?_cons_zero, Option.some.injEq, exists_eq_left', List.map_cons, List.map_nil, List.getD_cons_zero, List.getD_cons_succ]
      refine (comFace (fu := fu) (k := k) (by omega) hp hu g3).mono fun r M11 ⟨f11, e⟩ => ?_
      have hmu : cs.getD u [] ∈ cs := by simp [List.getD_eq_getElem?_getD, hu]
      rw [common_swap (hp.asc _ hmb) (hp.asc _ hmu)] at e
      subst e
      refine (comFace (fu := fu) (k := k) (by omega) hp g3 g3).mono fun r M12 ⟨f12, e⟩ => ?_
      have eself : (cs.getD b []).filter (fun c => decide (c ∈ cs.getD b [])) = cs.getD b [] := List.filter_eq_self.mpr fun x hx => by simpa using hx
      rw [eself] at e
      subst e
      have hfr : ∀ z ∈ [(cs.getD b []).filter (fun a => decide (a ∈ cs.getD u [])), (cs.getD b []).filter (fun a => decide (a ∈ cs.getD u [])), cs.getD b []], z.length ≤ 4 ∧ ∀ x ∈ z, 0 ≤ x ∧ x ≤ 999 := fun z hz => by
        simp only [List.mem_cons, List.not_mem_nil, or_false] at hz
        have hfl : ((cs.getD b []).filter (fun a => decide (a ∈ cs.getD u []))).length ≤ 4 := Nat.le_trans (List.length_filter_le ..) (by omega)
        rcases hz with rfl | rfl | rfl
        · exact ⟨hfl, fun x hx => hrb x (List.mem_filter.mp hx).1⟩
        · exact ⟨hfl, fun x hx => hrb x (List.mem_filter.mp hx).1⟩
        · exact ⟨by omega, hrb⟩
      have h1 := (Fr.app (S := []) (J := [MO.lst [iD (cs.getD b [])]])).get (f12.get (new_at (M := M11) (o := MO.lst [iD ((cs.getD b []).filter fun c => decide (c ∈ cs.getD u [])), iD ((cs.getD b []).filter fun c => decide (c ∈ cs.getD u []))])) (by simp)) (by simp)
      rw [w_addL h1 new_at (size1000 (by simp))]
      simp only [List.cons_append, List.nil_append]
      have hr3 := fun z hz => (hfr z hz).2
      have hl3 := fun z hz => (hfr z hz).1
      generalize (cs.getD b []).filter (fun a => decide (a ∈ cs.getD u [])) = G at *
      have rr : ∀ {M : Sto} {l : Nat} {Q : D → Sto → Prop}, M[l]? = some (.lst [iD G, iD G, iD (cs.getD b [])]) → W (reprB [.loc l] M) Q = Q (.str (PyData.list ([G, G, cs.getD b []].map iP)).shown) M := fun {M l Q} h => repr_tups (F := [G, G, cs.getD b []]) h hr3 hl3 (by simp)
      have rr2 : ∀ {M : Sto} {Q : D → Sto → Prop}, W (reprB [.loc M.length] (M ++ [MO.lst [D.tup (G.map D.int), D.tup (G.map D.int), iD (cs.getD b [])]])) Q = Q (.str (PyData.list ([G, G, cs.getD b []].map iP)).shown) (M ++ [MO.lst [D.tup (G.map D.int), D.tup (G.map D.int), iD (cs.getD b [])]]) := fun {M Q} => rr new_at
      rw [rr new_at, rr2, eq_tups hr3]
      simp only [Option.map_some, Option.some.injEq, exists_eq_left', Bool.not_true, Bool.false_eq_true, false_implies, true_implies, true_and]
      have ff : Fr [] M8 M12 := (((f9.trans f10).trans f11).trans .app).trans f12
      have F8 : Fr [s] M M12 := (f7.trans f8).trans ff.nil
      exact ⟨((F8.trans .app).trans .app).trans .app, (((sp8.keep ff).keep .app).keep .app).keep .app, b + 1, _, _, _, _, _, _, g2, rfl⟩
    · rintro _ M7 ⟨f7, sp7, b, due, w, x, y, z, t, ey, rfl⟩
      exact ⟨f7, sp7, rfl⟩
  rintro _ M7 ⟨f7, sp7, _⟩
  walk_at "ev"
  exact f7
end
section
open PySem PySem.W PyProof.Rows DD
theorem s10 {fu k a M} {t : Nat} {ns : List Int} (hk : 1 ≤ k) (ha : M[a]? = some (.flst (ns.map .int))) (hn : ns.length ≤ 63) (ht : t ≤ 10) : W (R fu k 13 [.loc a, .int t] M) fun r M' => Fr [] M M' ∧ ∃ s, r = .loc s ∧ M.length ≤ s ∧ Sp s M' := by
  obtain ⟨k, rfl⟩ : ∃ j, k = j + 1 := ⟨k - 1, by omega⟩
  refine w_run (fn := f_law_spring) rfl rfl ?_
  simp only [f_law_spring]
  refine ws_step (fun δ M1 => M = M1 ∧ ∃ own : Int, δ = [some (.loc a), some (.int t), some (.int own), none, none]) ?_ ?_
  · walk_at "ev"
    simp only [lenB, seqOf, ha, w_some, ltD, Option.some.injEq, exists_eq_left', List.length_map]
    refine ⟨fun h => ?_, fun _ => ?_⟩
    · have h : t < ns.length := by simpa using h
      simp only [ixD, ha, atI_nat, List.getElem?_map, List.getElem?_eq_getElem h, Option.map_some, Option.some.injEq, exists_eq_left', w_int]
      exact ⟨trivial, _, rfl⟩
    · rw [w_mulL (by decide) (by decide), w_add]
      exact ⟨rfl, _, rfl⟩
  rintro _ M0 ⟨rfl, own, rfl⟩
  refine ws_step (fun δ M1 => M = M1 ∧ ∃ mx : Int, δ = [some (.loc a), some (.int t), some (.int own), some (.int mx), none]) ?_ ?_
  · walk_at "ev"
    rw [w_mulL (by decide) (by decide), w_add]
    exact ⟨rfl, _, rfl⟩
  rintro _ M0 ⟨rfl, mx, rfl⟩
  refine ws_step (fun δ M1 => Fr [] M M1 ∧ ∃ (mx : Int) (v : Option D), δ = [some (.loc a), some (.int t), some (.int own), some (.int mx), v]) ?_ ?_
  · walk_at "ev"
    have hc : slcD (.loc a) none (some 9) M = some (.loc M.length, M ++ [.lst ((ns.take 9).map .int)]) := by
      simp only [slcD, ha]
      rw [show (9 : Int) = ((9 : Nat) : Int) from rfl, cut_to, ← List.map_take]
    rw [hc, w_some]
    simp only [seqOf, new_at, Option.some.injEq, exists_eq_left']
    refine loopS_inv (fun xs δ M1 => Fr [] (M ++ [MO.lst ((ns.take 9).map D.int)]) M1 ∧ ∃ (zs : List Int) (mx : Int) (v : Option D), xs = zs.map .int ∧ δ = [some (.loc a), some (.int t), some (.int own), some (.int mx), v]) ?_ ?_ ?_ _ _ _ ⟨.refl, ns.take 9, mx, none, rfl, rfl⟩
    · rintro xs δ M1 ⟨f, _⟩
      have := f.get (new_at (M := M) (o := MO.lst ((ns.take 9).map D.int))) (by simp)
      simp only [okAt, this]; simp
    · rintro x xs _ M1 ⟨f, zs, mx, v, ez, rfl⟩
      cases zs with
      | nil => simp at ez
      | cons z zs =>
        simp only [List.map_cons, List.cons.injEq] at ez
        obtain ⟨rfl, rfl⟩ := ez
        rw [ws_body]
        walk_at "ev"
        rw [w_mulR (by decide) (by decide), w_int, w_mod (by decide), w_mulR (by decide) (by decide), w_add, w_add, w_int, w_mod (by decide)]
        exact ⟨f, zs, _, _, rfl, rfl⟩
    · rintro _ M1 ⟨f, zs, mx, v, ez, rfl⟩
      exact ⟨Fr.app.trans f, mx, v, rfl⟩
  rintro _ M1 ⟨f1, mx2, v, rfl⟩
  refine ws_step (fun δ M2 => M1 = M2 ∧ ∃ mx : Int, δ = [some (.loc a), some (.int t), some (.int own), some (.int mx), v]) ?_ ?_
  · walk_at "ev"
    rw [w_mulR (by decide) (by decide), w_int, w_mod (by decide), w_mulR (by decide) (by decide), w_add, w_add, w_int, w_mod (by decide)]
    exact ⟨rfl, _, rfl⟩
  rintro _ M2 ⟨rfl, mx3, rfl⟩
  walk_at "ev"
  simp only [w_abs]
  rw [w_pow (by decide) (by decide) (by decide)]
  simp only [geD, Option.some.injEq, exists_eq_left']
  refine ⟨fun _ => ⟨f1.trans .app, _, rfl, f1.le, _, _, _, new_at, by split <;> omega⟩, fun _ => ⟨f1.trans .app, _, rfl, f1.le, _, _, _, new_at, by omega⟩⟩
end
section
open PySem PySem.W PyProof.Rows DD
theorem s25 {fu k M} {ns : List Int} (hk : 13 ≤ k) (ha : M[0]? = some (.flst (ns.map .int))) (hn : ns.length ≤ 63) (hfu : 2 ^ 8000 ≤ fu) : W (R fu k 25 [.loc 0] M) fun r _ => r = .bl true := by
  obtain ⟨k, rfl⟩ : ∃ j, k = j + 1 := ⟨k - 1, by omega⟩
  refine w_run (fn := f_law) rfl rfl ?_
  simp only [f_law]
  walk_at "ev"
  simp only [lenB, seqOf, ha, w_some, List.length_map, minB, maxB]
  obtain ⟨m, em, hm⟩ : ∃ m : Nat, (if (if (3 : Int) < (ns.length : Int) then (3 : Int) else (ns.length : Int)) > 2 then (if (3 : Int) < (ns.length : Int) then (3 : Int) else (ns.length : Int)) else 2) = (m : Int) ∧ m ≤ 5 := by
    exact ⟨max 2 (min ns.length 3), by split <;> split <;> omega, by omega⟩
  rw [em]
  refine ⟨_, rng_up0 (by omega), ?_⟩
  refine lc_w (fun _ => true) (fun _ => .bl true) (size1000 (by rw [up_eq]; simp; omega)) (fun M' f => rfl) (fun x hx M' f => ?_) fun M2 f2 e2 => ?_
  · rw [up_eq] at hx
    obtain ⟨i, hi, rfl⟩ := List.mem_map.mp hx
    have hi := List.mem_range.mp hi
    walk_at "ev"
    refine ⟨.refl, ?_⟩
    rw [Int.zero_add]
    refine (s10 (fu := fu) (k := k) (by omega) (f.get ha (by simp)) hn (by omega)).mono fun d M1 ⟨f1, s, e, hs, sp⟩ => ?_
    subst e
    refine (lawRight (fu := fu) (k := k) (by omega) sp).mono fun d M3 ⟨f3, e⟩ => ?_
    exact ⟨Fr.fresh (f1.nil.trans f3) hs, e⟩
  · have e3 : M2[M.length]? = some (.lst ((up m 0).map fun x => .bl true)) := by
      rw [e2, List.filter_eq_self.mpr (by simp)]
      simp
    rw [w_all (f := fun _ => true) e3]
    simp
end
end DD.K43
local macro_rules | `(tactic| o_head ($_f $K $as $e)) => `(tactic| o_head (PySem.W.kmHook $K $as $e [48, 182]))
open PySem PySem.W PyProof.Rows in
set_option maxRecDepth 100000 in
set_option maxHeartbeats 0 in
theorem PySem.Challenge.cw_cellrises_k43_partings_of_anything_holds : PySem.Challenge.rw_cellrises_k43_partings_of_anything.Holds := by
  w_on; o_law; k_head; (case hw => w_witness2)
  k_fill
  refine DD.walk_ofTG (l := PySem.Challenge.rw_cellrises_k43_partings_of_anything) (k := 80) (n := 63) (x := "script") rfl (by decide) rfl ⟨rfl, by decide, by decide⟩ (fun w h Y => PySem.W.km_in_of Y) ?F
  case F =>
    intro w mg fa h Y KX G hmg
    have hT8 := PySem.W.km_tabs_of Y
    refine DD.K43.law_at (2 ^ 8000) KX G hmg ?T ?blt ?cst ?bf ?hT ?nT ?hC ?math
    case T =>
      refine' ⟨?d0, ?d1, ?d2, ?d3, ?d4, ?d5, ?d6, ?d7, ?d8, ?d9, ?d10, ?d11, ?d12, ?d13, ?d14, ?d15, ?d16, ?d17, ?d18, ?d19, ?d20, ?d21, ?d22, ?d23, ?d24, ?d25⟩
      (case d0 => (refine' ⟨_, DD.K43.at_mk KX G ?a ?l ?c ?k⟩; (case a => k_is); (case l => k_is); (case c => k_is); (case k => k_is)))
      (case d1 => (refine' ⟨_, DD.K43.at_mk KX G ?a ?l ?c ?k⟩; (case a => k_is); (case l => k_is); (case c => k_is); (case k => k_is)))
      (case d2 => (refine' DD.K43.at_mk KX G ?a ?l ?c ?k; (case a => k_is); (case l => k_is); (case c => k_is); (case k => k_is)))
      (case d3 => (refine' ⟨_, DD.K43.at_mkD KX G ?a ?l ?c ?k ?t ?v⟩; (case a => k_is); (case l => k_is); (case c => k_is); (case k => k_is); (case t => k_is); (case v => exact .cons ⟨_, rfl⟩ (.cons ⟨_, rfl⟩ (.nil)))))
      (case d4 => (refine' ⟨_, DD.K43.at_mk KX G ?a ?l ?c ?k⟩; (case a => k_is); (case l => k_is); (case c => k_is); (case k => k_is)))
      (case d5 => (refine' ⟨_, DD.K43.at_mk KX G ?a ?l ?c ?k⟩; (case a => k_is); (case l => k_is); (case c => k_is); (case k => k_is)))
      (case d6 => (refine' ⟨_, DD.K43.at_mk KX G ?a ?l ?c ?k⟩; (case a => k_is); (case l => k_is); (case c => k_is); (case k => k_is)))
      (case d7 => (refine' ⟨_, DD.K43.at_mk KX G ?a ?l ?c ?k⟩; (case a => k_is); (case l => k_is); (case c => k_is); (case k => k_is)))
      (case d8 => (refine' DD.K43.at_mk KX G ?a ?l ?c ?k; (case a => k_is); (case l => k_is); (case c => k_is); (case k => k_is)))
      (case d9 => (refine' ⟨_, DD.K43.at_mk KX G ?a ?l ?c ?k⟩; (case a => k_is); (case l => k_is); (case c => k_is); (case k => k_is)))
      (case d10 => (refine' ⟨_, DD.K43.at_mk KX G ?a ?l ?c ?k⟩; (case a => k_is); (case l => k_is); (case c => k_is); (case k => k_is)))
      (case d11 => (refine' ⟨_, DD.K43.at_mk KX G ?a ?l ?c ?k⟩; (case a => k_is); (case l => k_is); (case c => k_is); (case k => k_is)))
      (case d12 => (refine' ⟨_, DD.K43.at_mk KX G ?a ?l ?c ?k⟩; (case a => k_is); (case l => k_is); (case c => k_is); (case k => k_is)))
      (case d13 => (refine' ⟨_, DD.K43.at_mk KX G ?a ?l ?c ?k⟩; (case a => k_is); (case l => k_is); (case c => k_is); (case k => k_is)))
      (case d14 => (refine' ⟨_, DD.K43.at_mk KX G ?a ?l ?c ?k⟩; (case a => k_is); (case l => k_is); (case c => k_is); (case k => k_is)))
      (case d15 => (refine' ⟨_, DD.K43.at_mk KX G ?a ?l ?c ?k⟩; (case a => k_is); (case l => k_is); (case c => k_is); (case k => k_is)))
      (case d16 => (refine' ⟨_, DD.K43.at_mk KX G ?a ?l ?c ?k⟩; (case a => k_is); (case l => k_is); (case c => k_is); (case k => k_is)))
      (case d17 => (refine' ⟨_, DD.K43.at_mk KX G ?a ?l ?c ?k⟩; (case a => k_is); (case l => k_is); (case c => k_is); (case k => k_is)))
      (case d18 => (refine' ⟨_, DD.K43.at_mk KX G ?a ?l ?c ?k⟩; (case a => k_is); (case l => k_is); (case c => k_is); (case k => k_is)))
      (case d19 => (refine' ⟨_, DD.K43.at_mk KX G ?a ?l ?c ?k⟩; (case a => k_is); (case l => k_is); (case c => k_is); (case k => k_is)))
      (case d20 => (refine' ⟨_, DD.K43.at_mk KX G ?a ?l ?c ?k⟩; (case a => k_is); (case l => k_is); (case c => k_is); (case k => k_is)))
      (case d21 => (refine' ⟨_, DD.K43.at_mk KX G ?a ?l ?c ?k⟩; (case a => k_is); (case l => k_is); (case c => k_is); (case k => k_is)))
      (case d22 => (refine' ⟨_, DD.K43.at_mk KX G ?a ?l ?c ?k⟩; (case a => k_is); (case l => k_is); (case c => k_is); (case k => k_is)))
      (case d23 => (refine' ⟨_, DD.K43.at_mk KX G ?a ?l ?c ?k⟩; (case a => k_is); (case l => k_is); (case c => k_is); (case k => k_is)))
      (case d24 => (refine' ⟨_, DD.K43.at_mk KX G ?a ?l ?c ?k⟩; (case a => k_is); (case l => k_is); (case c => k_is); (case k => k_is)))
      (case d25 => (refine' ⟨_, DD.K43.at_mk KX G ?a ?l ?c ?k⟩; (case a => k_is); (case l => k_is); (case c => k_is); (case k => k_is)))
    case blt =>
      intro x hx
      simp only [DD.K43.bltL, List.mem_cons, List.not_mem_nil, or_false] at hx
      rcases hx with rfl | rfl | rfl | rfl | rfl | rfl | rfl | rfl | rfl | rfl | rfl | rfl | rfl | rfl | rfl | rfl | rfl | rfl | rfl | rfl
      · refine mg_none_of KX G ?_; k_is
      · refine mg_none_of KX G ?_; k_is
      · refine mg_none_of KX G ?_; k_is
      · refine mg_none_of KX G ?_; k_is
      · refine mg_none_of KX G ?_; k_is
      · refine mg_none_of KX G ?_; k_is
      · refine mg_none_of KX G ?_; k_is
      · refine mg_none_of KX G ?_; k_is
      · refine mg_none_of KX G ?_; k_is
      · refine mg_none_of KX G ?_; k_is
      · refine mg_none_of KX G ?_; k_is
      · refine mg_none_of KX G ?_; k_is
      · refine mg_none_of KX G ?_; k_is
      · refine mg_none_of KX G ?_; k_is
      · refine mg_none_of KX G ?_; k_is
      · refine mg_none_of KX G ?_; k_is
      · refine mg_none_of KX G ?_; k_is
      · refine mg_none_of KX G ?_; k_is
      · refine mg_none_of KX G ?_; k_is
      · refine mg_none_of KX G ?_; k_is
    case cst =>
      intro p hp
      simp only [DD.K43.cstL, List.mem_cons, List.not_mem_nil, or_false] at hp
    case bf =>
      refine ⟨fun p hp => ?_, fun p hp => ?_⟩
      · simp only [DD.K43.bfL, List.mem_cons, List.not_mem_nil, or_false] at hp
      · simp only [DD.K43.tysL, List.mem_cons, List.not_mem_nil, or_false] at hp
        subst hp
        refine mg_of KX G ?_; k_is
    case hT =>
      intro p hp
      refine hT8 p.2 ?_
      simp only [List.mem_cons, List.not_mem_nil, or_false] at hp
      rcases hp with rfl | rfl
      · decide
      · decide
    case nT =>
      intro p hp
      simp only [List.mem_cons, List.not_mem_nil, or_false] at hp
      rcases hp with rfl | rfl
      · kernel_rfl
      · kernel_rfl
    case hC =>
      intro p hp
      simp only [List.mem_cons, List.not_mem_nil, or_false] at hp
      rcases hp with rfl | rfl
      · exact codeHd_of_K KX (by kernel_rfl)
      · exact codeHd_of_K KX (by kernel_rfl)
    case math => exact fun M ns h hl => DD.K43.s25 (by decide) h hl (Nat.le_refl _)
