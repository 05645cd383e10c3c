import PyProof.Rows.All
import Wide.All
import OpenK.AllK
import Wide.FinOn
import HandS.HeadHook1
import HandS.HeadHook2
import HandS.Exc
import HandS.Words
import HandS.Head0
import HandS.Head1
import HandS.Head2
import HandS.Head3
import HandS.Base
import HandS.Call
import HandS.List
import HandS.Comp
import HandS.Ends
import HandS.Dict
import HandS.Iter
import KE.KeyNested
import HandS.Codes
import HandS.HeadEnd
import HandS.ExcField
import HandS.Style
import HandS.DictTup
import KE.KDictList
import KE.KDictZip
import HandS.Zip
import HandS.DictComp
import PyProof.Rows.FactsN_isinstance
import PyProof.TupleKey
import PyProof.DictKinds
import PyProof.DictMoreH
import HandS.IsInst
import PyProof.ReprReads
import HandS.Rev
import HandS.Gcd
import HandS.Flow
import HandS.Deep
import HandS.ExcOwn
import HandS.ExcInit
import HandS.CallSlots
import HandS.WordsExc
import HandS.WordsList
import HandS.Wide
import HandS.TupMul
import HandS.TupAny
import HandS.Walk
import PyProof.Draws
import PyProof.EnumMake
import KE.GoesMore
import PyProof.ReprRoads
import KE.KDictWalk
import HandS.SortRule
import HandS.TupSets
import HandS.SetBool
import HandS.Strs
import KE.KDictCopyH
import HandS.Star
import HandS.SortOrd
import HandS.SetFor
import HandS.ExcIs
import HandS.Defaults
import PySem.Challenge.RW_owncells_k18_dealings_by_hand
section
set_option Elab.async false
set_option linter.all false
set_option maxRecDepth 100000
set_option maxHeartbeats 4000000
/-! an interpreter of plain Python over values, and its relation to the hand layer's heap -/
namespace Pi
open PySem PySem.Spec PyProof.Rows L2

/-- a value; loc: a list, a dict, an object that may change -/
inductive PV where
  | non | bl (b : Bool) | int (i : Int) | str (x : Str) | ty (n : String)
  | tup (xs : List PV) | lst (xs : List PV) | loc (n : Nat)
/-- what stands in the store -/
inductive SO where
  | lst (xs : List PV)
  | dct (deep : Bool) (kvs : List (PV × PV))
structure Sto where
  next : Nat
  objs : List (Nat × SO)
def getO : List (Nat × SO) → Nat → Option SO
  | [], _ => none
  | (m, o) :: r, n => bif Nat.beq m n then some o else getO r n
def putO : List (Nat × SO) → Nat → SO → List (Nat × SO)
  | [], _, _ => []
  | (m, u) :: r, n, o => bif Nat.beq m n then (m, o) :: r else (m, u) :: putO r n o
def Sto.get (st : Sto) (n : Nat) : Option SO := getO st.objs n
def Sto.put (st : Sto) (n : Nat) (o : SO) : Sto := ⟨st.next, putO st.objs n o⟩
def Sto.new (st : Sto) (o : SO) : Sto := ⟨Nat.succ st.next, (st.next, o) :: st.objs⟩
def dropO (n : Nat) : List (Nat × SO) → List (Nat × SO)
  | [] => []
  | (m, o) :: r => bif Nat.ble n m then dropO n r else (m, o) :: r
def Sto.cut (st : Sto) (n : Nat) : Sto := ⟨st.next, dropO n st.objs⟩

theorem getO_put_same {l : List (Nat × SO)} {n : Nat} {o u : SO} (h : getO l n = some u) : getO (putO l n o) n = some o := by
  induction l with
  | nil => cases h
  | cons p r ih =>
    obtain ⟨m, v⟩ := p
    simp only [getO, putO] at h ⊢
    cases e : Nat.beq m n with
    | true => simp [getO, e]
    | false => rw [e] at h; simp only [cond_false] at h ⊢; simp only [getO, e, cond_false]; exact ih h
theorem getO_put_ne {l : List (Nat × SO)} {n k : Nat} {o : SO} (h : k ≠ n) : getO (putO l n o) k = getO l k := by
  induction l with
  | nil => rfl
  | cons p r ih =>
    obtain ⟨m, v⟩ := p
    simp only [getO, putO]
    cases e : Nat.beq m n with
    | true =>
      have e' := Nat.eq_of_beq_eq_true e
      subst e'
      have z : Nat.beq m k = false := by
        cases z : Nat.beq m k with
        | true => exact absurd (Nat.eq_of_beq_eq_true z).symm h
        | false => rfl
      simp [getO, z]
    | false => simp only [cond_false, getO, ih]
/-- newer ones ahead -/
def Desc (l : List (Nat × SO)) : Prop := l.Pairwise fun a b => b.1 < a.1
theorem getO_mem {l : List (Nat × SO)} {k : Nat} {o : SO} (h : getO l k = some o) : (k, o) ∈ l := by
  induction l with
  | nil => cases h
  | cons p r ih =>
    obtain ⟨m, v⟩ := p
    simp only [getO] at h
    cases z : Nat.beq m k with
    | true =>
      have e := Nat.eq_of_beq_eq_true z
      subst e
      rw [z] at h
      cases h
      exact List.mem_cons_self
    | false => rw [z, cond_false] at h; exact List.mem_cons_of_mem _ (ih h)
theorem getO_of_mem {l : List (Nat × SO)} {k : Nat} {o : SO} (d : Desc l) (h : (k, o) ∈ l) : getO l k = some o := by
  induction l with
  | nil => cases h
  | cons p r ih =>
    obtain ⟨m, v⟩ := p
    have d' := List.pairwise_cons.mp d
    simp only [getO]
    rcases List.mem_cons.mp h with e | e
    · cases e
      rw [Nat.beq_refl]
      rfl
    · have lt := d'.1 _ e
      have z : Nat.beq m k = false := by
        cases z : Nat.beq m k with
        | true => have := Nat.eq_of_beq_eq_true z; simp only at lt; omega
        | false => rfl
      rw [z, cond_false]
      exact ih d'.2 e
theorem drop_suffix (n : Nat) : ∀ l : List (Nat × SO), dropO n l <:+ l
  | [] => List.suffix_refl _
  | (m, o) :: r => by
    unfold dropO
    cases Nat.ble n m with
    | true => exact (drop_suffix n r).trans (List.suffix_cons _ _)
    | false => exact List.suffix_refl _
theorem getO_drop {l : List (Nat × SO)} {n k : Nat} {o : SO} (d : Desc l) (h : getO (dropO n l) k = some o) : getO l k = some o :=
  getO_of_mem d ((drop_suffix n l).subset (getO_mem h))
theorem Desc.drop {l : List (Nat × SO)} {n : Nat} (d : Desc l) : Desc (dropO n l) := d.sublist (drop_suffix n l).sublist
theorem put_ids (n : Nat) (o : SO) : ∀ l : List (Nat × SO), (putO l n o).map (·.1) = l.map (·.1)
  | [] => rfl
  | (m, u) :: r => by
    unfold putO
    cases Nat.beq m n with
    | true => rfl
    | false => show m :: (putO r n o).map (·.1) = _; rw [put_ids n o r]; rfl
theorem desc_ids {l : List (Nat × SO)} : Desc l ↔ (l.map (·.1)).Pairwise (fun a b => b < a) := by
  unfold Desc
  rw [List.pairwise_map]
theorem Desc.put {l : List (Nat × SO)} {n : Nat} {o : SO} (d : Desc l) : Desc (putO l n o) := by
  rw [desc_ids, put_ids, ← desc_ids]
  exact d

/-! ### the relation to the abstract heap -/
structure Mu where
  /-- where a loc stands -/
  f : Nat → Option Addr
  /-- lists that are being made: no value tells of them -/
  p : Addr → Prop
instance : CoeFun Mu (fun _ => Nat → Option Addr) := ⟨Mu.f⟩
/-- a list as it stands, of the heap or of the written part -/
def Sx (K : PySem.W.Frag) (H : Hp) (a : Addr) (xs : List V) : Prop :=
  Rd H a (.lst xs) ∨ (∃ (its : Array Value) (n : Nat), K.lookup a = some ({ cls := .type "list", data := .seq its n } : Obj) ∧ its.size ≤ sizeLine ∧ Vals xs its.toList)
/-- a list that is only read -/
def RdL (K : PySem.W.Frag) (H : Hp) (μ : Mu) (a : Addr) (xs : List V) : Prop :=
  (Rd H a (.lst xs) ∧ (∀ n, μ n ≠ some a) ∧ ¬ μ.p a) ∨ (∃ (its : Array Value) (n : Nat), K.lookup a = some ({ cls := .type "list", data := .seq its n } : Obj) ∧ its.size ≤ sizeLine ∧ Vals xs its.toList)
theorem RdL.sx {K : PySem.W.Frag} {H : Hp} {μ : Mu} {a : Addr} {xs : List V} (h : RdL K H μ a xs) : Sx K H a xs := h.imp (·.1) id
theorem Sx.sq {K : PySem.W.Frag} {H : Hp} {a : Addr} {xs : List V} (h : Sx K H a xs) : SqL K H a xs := h.imp id fun ⟨its, n, e, z, r⟩ => ⟨_, its, n, e, rfl, rfl, rfl, z, r⟩
theorem RdL.sq {K : PySem.W.Frag} {H : Hp} {μ : Mu} {a : Addr} {xs : List V} (h : RdL K H μ a xs) : SqL K H a xs := h.sx.sq
theorem Inv.sx {X : Cx} {pins : List (Addr × Obj)} {σ : L2.St} {H : Hp} {s : Shared} {a : Addr} {xs : List V} (I : Inv X pins σ H s) (h : Sx X.K H a xs) :
    xs.length ≤ sizeLine ∧ ∃ (its : List Value) (n : Nat), Vals xs its ∧ xs.length = its.length ∧ s.heap.get? a = some { cls := .type "list", data := .seq its.toArray n } := by
  rcases h with h | ⟨its, n, hk, hz, r⟩
  · obtain ⟨z, its, n, r, e⟩ := h.ok I.hok
    exact ⟨z, its, n, r, r.length, e⟩
  · have e := r.length
    refine ⟨by rw [e]; simpa using hz, its.toList, n, r, e, ?_⟩
    have := I.kIn a _ hk
    simpa using this
mutual
inductive RV (K : PySem.W.Frag) (H : Hp) (μ : Mu) : PV → V → Prop
  | non : RV K H μ .non .non
  | bl (b : Bool) : RV K H μ (.bl b) (.bl b)
  | int (i : Int) : RV K H μ (.int i) (.int i)
  | str (x : Str) : RV K H μ (.str x) (.str x)
  | ty (n : String) : RV K H μ (.ty n) (.ty n)
  | tup {a : Addr} {vs : List V} {ps : List PV} : SqT K H a vs → RVs K H μ ps vs → RV K H μ (.tup ps) (.ref a)
  | lst {a : Addr} {vs : List V} {ps : List PV} : RdL K H μ a vs → RVs K H μ ps vs → RV K H μ (.lst ps) (.ref a)
  | loc {n : Nat} {a : Addr} : μ n = some a → RV K H μ (.loc n) (.ref a)
inductive RVs (K : PySem.W.Frag) (H : Hp) (μ : Mu) : List PV → List V → Prop
  | nil : RVs K H μ [] []
  | cons {p : PV} {v : V} {ps : List PV} {vs : List V} : RV K H μ p v → RVs K H μ ps vs → RVs K H μ (p :: ps) (v :: vs)
end
/-- what holds of values in later heaps -/
structure Wk (K : PySem.W.Frag) (H : Hp) (μ : Mu) (H' : Hp) (μ' : Mu) : Prop where
  mu : ∀ n a, μ n = some a → μ' n = some a
  tup : ∀ a xs, SqT K H a xs → SqT K H' a xs
  lst : ∀ a xs, RdL K H μ a xs → RdL K H' μ' a xs
/-- what holds of later heaps -/
structure Ext (K : PySem.W.Frag) (H : Hp) (μ : Mu) (H' : Hp) (μ' : Mu) : Prop extends Wk K H μ H' μ' where
  prv : ∀ a, μ.p a → μ'.p a ∧ ∀ o, H a = some o → H' a = some o
  frz : ∀ a o u, H a = some (.frz o u) → H' a = some (.frz o u)
section
variable {K : PySem.W.Frag} {H H1 H2 : Hp} {μ μ1 μ2 : Mu}
theorem Ext.refl : Ext K H μ H μ := ⟨⟨fun _ _ h => h, fun _ _ h => h, fun _ _ h => h⟩, fun _ h => ⟨h, fun _ h => h⟩, fun _ _ _ h => h⟩
theorem Ext.trans (x : Ext K H μ H1 μ1) (y : Ext K H1 μ1 H2 μ2) : Ext K H μ H2 μ2 :=
  ⟨⟨fun n a h => y.mu n a (x.mu n a h), fun a xs h => y.tup a xs (x.tup a xs h), fun a xs h => y.lst a xs (x.lst a xs h)⟩, fun a h => ⟨(y.prv a (x.prv a h).1).1, fun o e => (y.prv a (x.prv a h).1).2 o ((x.prv a h).2 o e)⟩, fun a o u h => y.frz a o u (x.frz a o u h)⟩
mutual
theorem RV.wk (x : Wk K H μ H1 μ1) : ∀ {p : PV} {v : V}, RV K H μ p v → RV K H1 μ1 p v
  | _, _, .non => .non
  | _, _, .bl b => .bl b
  | _, _, .int i => .int i
  | _, _, .str z => .str z
  | _, _, .ty n => .ty n
  | _, _, .tup h r => .tup (x.tup _ _ h) (RVs.wk x r)
  | _, _, .lst h r => .lst (x.lst _ _ h) (RVs.wk x r)
  | _, _, .loc h => .loc (x.mu _ _ h)
theorem RVs.wk (x : Wk K H μ H1 μ1) : ∀ {ps : List PV} {vs : List V}, RVs K H μ ps vs → RVs K H1 μ1 ps vs
  | _, _, .nil => .nil
  | _, _, .cons r rs => .cons (RV.wk x r) (RVs.wk x rs)
end
theorem RV.ext (x : Ext K H μ H1 μ1) {p : PV} {v : V} (r : RV K H μ p v) : RV K H1 μ1 p v := RV.wk x.toWk r
theorem RVs.ext (x : Ext K H μ H1 μ1) {ps : List PV} {vs : List V} (r : RVs K H μ ps vs) : RVs K H1 μ1 ps vs := RVs.wk x.toWk r
theorem RVs.length : ∀ {ps : List PV} {vs : List V}, RVs K H μ ps vs → ps.length = vs.length
  | _, _, .nil => rfl
  | _, _, .cons _ rs => congrArg (· + 1) rs.length
theorem RVs.append : ∀ {ps qs : List PV} {vs us : List V}, RVs K H μ ps vs → RVs K H μ qs us → RVs K H μ (ps ++ qs) (vs ++ us)
  | _, _, _, _, .nil, s => s
  | _, _, _, _, .cons r rs, s => .cons r (rs.append s)
theorem RVs.get : ∀ {ps : List PV} {vs : List V} {i : Nat} {p : PV}, RVs K H μ ps vs → ps[i]? = some p → ∃ v, vs[i]? = some v ∧ RV K H μ p v
  | _, _, 0, _, .cons r _, e => by simp at e; subst e; exact ⟨_, rfl, r⟩
  | _, _, i + 1, p, .cons _ rs, e => by
    obtain ⟨v, h1, h2⟩ := RVs.get (i := i) (p := p) rs (by simpa using e)
    exact ⟨v, by simpa using h1, h2⟩
  | _, _, _, _, .nil, e => by simp at e
theorem RVs.take : ∀ {ps : List PV} {vs : List V} (n : Nat), RVs K H μ ps vs → RVs K H μ (ps.take n) (vs.take n)
  | _, _, 0, _ => .nil
  | _, _, _ + 1, .nil => .nil
  | _, _, n + 1, .cons r rs => .cons r (RVs.take n rs)
theorem RVs.drop : ∀ {ps : List PV} {vs : List V} (n : Nat), RVs K H μ ps vs → RVs K H μ (ps.drop n) (vs.drop n)
  | _, _, 0, r => r
  | _, _, _ + 1, .nil => .nil
  | _, _, n + 1, .cons _ rs => RVs.drop n rs
theorem RVs.set : ∀ {ps : List PV} {vs : List V} {p : PV} {v : V} (i : Nat), RVs K H μ ps vs → RV K H μ p v → RVs K H μ (ps.set i p) (vs.set i v)
  | _, _, _, _, _, .nil, _ => .nil
  | _, _, _, _, 0, .cons _ rs, r => .cons r rs
  | _, _, _, _, i + 1, .cons q rs, r => .cons q (RVs.set i rs r)
theorem RVs.reverse {ps : List PV} {vs : List V} (r : RVs K H μ ps vs) : RVs K H μ ps.reverse vs.reverse := by
  induction ps generalizing vs with
  | nil => cases r; exact .nil
  | cons p ps ih =>
    cases r with
    | cons a b => rw [List.reverse_cons, List.reverse_cons]; exact (ih b).append (.cons a .nil)
theorem RVs.ints : ∀ {ns : List Int} {vs : List V}, RVs K H μ (ns.map PV.int) vs → vs = ns.map V.int
  | [], _, .nil => rfl
  | n :: ns, _, .cons r rs => by cases r; rw [RVs.ints rs]; rfl
theorem RVs.of_ints : ∀ (ns : List Int), RVs K H μ (ns.map PV.int) (ns.map V.int)
  | [] => .nil
  | n :: ns => .cons (.int n) (RVs.of_ints ns)

/-- keys of cells: an int and a tuple of ints -/
abbrev CK := Int × List Int
def ckHash (k : CK) : Int := reduceHash (Builtin.Tuple.tupleHashOf [hashInt k.1, reduceHash (Builtin.Tuple.tupleHashOf (k.2.map hashInt))])
mutual
/-- keys of dicts: ints, tuples of such -/
def nkP : NestedKey → PV
  | .num i => .int i
  | .tup ks => .tup (nkPs ks)
  | .none => .non
  | .text _ => .non
def nkPs : List NestedKey → List PV
  | [] => []
  | k :: ks => nkP k :: nkPs ks
end
mutual
def nkFree : NestedKey → Bool
  | .num _ => true
  | .tup ks => nkFrees ks
  | .none => false
  | .text _ => false
def nkFrees : List NestedKey → Bool
  | [] => true
  | k :: ks => nkFree k && nkFrees ks
end
mutual
def nkHash : NestedKey → Int
  | .num i => hashInt i
  | .tup ks => reduceHash (Builtin.Tuple.tupleHashOf (nkHashes ks))
  | .none => 0
  | .text _ => 0
def nkHashes : List NestedKey → List Int
  | [] => []
  | k :: ks => nkHash k :: nkHashes ks
end
def entN (x : NestedKey × Addr × Value) : DictEntry := ⟨nkHash x.1, .ref x.2.1, x.2.2⟩
/-- a dict whose keys are such tuples -/
def dkO (a : Addr) (xs : List (NestedKey × Addr × V)) : HO := .ext fun h => xs.length ≤ sizeLine ∧ (a == sysModules) = false ∧ ∃ ys : List (NestedKey × Addr × Value),
  Paired (fun (p : NestedKey × Addr × V) (q : NestedKey × Addr × Value) => p.1 = q.1 ∧ p.2.1 = q.2.1 ∧ RelV p.2.2 q.2.2) xs ys ∧
  ∃ o es ep, h.get? a = some o ∧ o.ExactDict ∧ o.data = .dict es ep ∧ es.toList = ys.map entN ∧ (ys.map (·.1)).Nodup
def ckP (k : CK) : PV := .tup [.int k.1, .tup (k.2.map PV.int)]
/-- a key of a dict of ints and texts -/
def keyP : Key → PV
  | .inl i => .int i
  | .inr s => .str s
inductive RKs (K : PySem.W.Frag) (H : Hp) (μ : Mu) : List (PV × PV) → List (Key × V) → Prop
  | nil : RKs K H μ [] []
  | cons {k : Key} {p : PV} {v : V} {kvs : List (PV × PV)} {ks : List (Key × V)} : RV K H μ p v → RKs K H μ kvs ks → RKs K H μ ((keyP k, p) :: kvs) ((k, v) :: ks)
inductive RCs (K : PySem.W.Frag) (H : Hp) (μ : Mu) : List (PV × PV) → List (NestedKey × Addr × V) → Prop
  | nil : RCs K H μ [] []
  | cons {k : NestedKey} {b : Addr} {p : PV} {v : V} {kvs : List (PV × PV)} {ks : List (NestedKey × Addr × V)} : nkFree k = true → k.depth ≤ 7 → RV K H μ (nkP k) (.ref b) → RV K H μ p v → RCs K H μ kvs ks → RCs K H μ ((nkP k, p) :: kvs) ((k, b, v) :: ks)
theorem RKs.wk (x : Wk K H μ H1 μ1) : ∀ {kvs : List (PV × PV)} {ks : List (Key × V)}, RKs K H μ kvs ks → RKs K H1 μ1 kvs ks
  | _, _, .nil => .nil
  | _, _, .cons r rs => .cons (r.wk x) (rs.wk x)
theorem RCs.wk (x : Wk K H μ H1 μ1) : ∀ {kvs : List (PV × PV)} {ks : List (NestedKey × Addr × V)}, RCs K H μ kvs ks → RCs K H1 μ1 kvs ks
  | _, _, .nil => .nil
  | _, _, .cons f d q r rs => .cons f d (q.wk x) (r.wk x) (rs.wk x)
/-- an object of the store -/
def RO (K : PySem.W.Frag) (H : Hp) (μ : Mu) (a : Addr) : SO → Prop
  | .lst ps => ∃ vs, H a = some (.lst vs) ∧ RVs K H μ ps vs
  | .dct false kvs => ∃ ks, H a = some (.dK ks) ∧ RKs K H μ kvs ks
  | .dct true kvs => ∃ ks, H a = some (dkO a ks) ∧ RCs K H μ kvs ks
theorem RO.wk {H' : Hp} {μ' : Mu} {a : Addr} {o : SO} (x : Wk K H μ H' μ') (e : H' a = H a) (h : RO K H μ a o) : RO K H' μ' a o := by
  cases o with
  | lst ps =>
    obtain ⟨vs, h1, r⟩ := h
    exact ⟨vs, e.trans h1, RVs.wk x r⟩
  | dct b kvs =>
    cases b with
    | false =>
      obtain ⟨vs, h1, r⟩ := h
      exact ⟨vs, e.trans h1, r.wk x⟩
    | true =>
      obtain ⟨vs, h1, r⟩ := h
      exact ⟨vs, e.trans h1, r.wk x⟩
theorem RO.some {a : Addr} {o : SO} (h : RO K H μ a o) : ∃ u, H a = some u := by
  cases o with
  | lst ps =>
    obtain ⟨vs, h1, r⟩ := h
    exact ⟨_, h1⟩
  | dct b kvs =>
    cases b with
    | false =>
      obtain ⟨vs, h1, r⟩ := h
      exact ⟨_, h1⟩
    | true =>
      obtain ⟨vs, h1, r⟩ := h
      exact ⟨_, h1⟩
/-- what a loc may be -/
def Chg : HO → Prop
  | .tup _ => False
  | .frz _ _ => False
  | _ => True
theorem Chg.tup {o : HO} (c : Chg o) (xs : List V) : o ≠ .tup xs := fun e => by subst e; exact c
theorem Chg.frz {o u : HO} {b : Obj} (c : Chg o) : o ≠ .frz b u := fun e => by subst e; exact c
/-- the store is held -/
structure Hr (K : PySem.W.Frag) (H : Hp) (μ : Mu) (st : Sto) : Prop where
  inj : ∀ n m a, μ n = some a → μ m = some a → n = m
  trk : ∀ n a, μ n = some a → H a ≠ none
  low : ∀ n a, μ n = some a → n < st.next
  des : Desc st.objs
  prv : ∀ n a, μ n = some a → ¬ μ.p a
  prT : ∀ a, μ.p a → ∃ u, H a = some u ∧ Chg u
  obj : ∀ n o, st.get n = some o → ∃ a, μ n = some a ∧ RO K H μ a o
def RE (K : PySem.W.Frag) (H : Hp) (μ : Mu) (ρ : List (Option PV)) (σ : L2.St) : Prop :=
  ρ.length = σ.length ∧ ∀ (i : Nat) (p : PV), ρ[i]? = some (some p) → ∃ v, σ[i]? = some (some v) ∧ RV K H μ p v
theorem RE.ext {ρ : List (Option PV)} {σ : L2.St} (h : RE K H μ ρ σ) (x : Ext K H μ H1 μ1) : RE K H1 μ1 ρ σ :=
  ⟨h.1, fun i p e => let ⟨v, a, b⟩ := h.2 i p e; ⟨v, a, b.ext x⟩⟩

/-! ### what is made and written -/
/-- a new object that is no loc -/
theorem Ext.made {p : Addr} {o : HO} (hp : H p = none) : Ext K H μ (upd H p o) μ := by
  have k : ∀ {a u}, Rd H a u → Rd (upd H p o) a u := fun {a u} h => by
    rcases h with h | ⟨z, h⟩
    · exact .inl (by rw [upd_ne (ne_of_none h hp)]; exact h)
    · exact .inr ⟨z, by rw [upd_ne (ne_of_none h hp)]; exact h⟩
  exact ⟨⟨fun _ _ h => h, fun a xs h => h.imp k id, fun a xs h => h.imp (fun q => ⟨k q.1, q.2⟩) id⟩, fun a h => ⟨h, fun o e => by rw [upd_ne (ne_of_none e hp)]; exact e⟩, fun a o u e => by rw [upd_ne (ne_of_none e hp)]; exact e⟩
theorem RO.made {st : Sto} {p a : Addr} {o : HO} {u : SO} (hp : H p = none) (h : RO K H μ a u) : RO K (upd H p o) μ a u := by
  obtain ⟨w, e⟩ := h.some
  exact h.wk (Ext.made hp).toWk (upd_ne (ne_of_none e hp))
theorem Hr.made {st : Sto} {p : Addr} {o : HO} (h : Hr K H μ st) (hp : H p = none) : Hr K (upd H p o) μ st := by
  refine ⟨h.inj, fun n a e => ?_, h.low, h.des, h.prv, fun a e => ?_, fun n u e => ?_⟩
  · by_cases q : a = p
    · subst q; rw [upd_same]; simp
    · rw [upd_ne q]; exact h.trk n a e
  · obtain ⟨xs, w, c⟩ := h.prT a e
    exact ⟨xs, by rw [upd_ne (ne_of_none w hp)]; exact w, c⟩
  · obtain ⟨a, e1, e2⟩ := h.obj n u e
    exact ⟨a, e1, e2.made (st := st) hp⟩
theorem Hr.free {st : Sto} {p : Addr} (h : Hr K H μ st) (hp : H p = none) : ∀ n, μ n ≠ some p := fun n e => h.trk n p e hp
theorem Hr.freeP {st : Sto} {p : Addr} (h : Hr K H μ st) (hp : H p = none) : ¬ μ.p p := fun e => by
  obtain ⟨xs, w, _⟩ := h.prT p e
  rw [hp] at w
  cases w
/-- a tuple is made -/
theorem RV.tupMade {st : Sto} {p : Addr} {vs : List V} {ps : List PV} (hp : H p = none) (r : RVs K H μ ps vs) : RV K (upd H p (.tup vs)) μ (.tup ps) (.ref p) :=
  .tup (SqT.of upd_same) (r.ext (Ext.made hp))
/-- a list that is only read is made -/
theorem RV.lstMade {st : Sto} {p : Addr} {vs : List V} {ps : List PV} (h : Hr K H μ st) (hp : H p = none) (r : RVs K H μ ps vs) : RV K (upd H p (.lst vs)) μ (.lst ps) (.ref p) :=
  .lst (.inl ⟨.inl upd_same, h.free hp, h.freeP hp⟩) (r.ext (Ext.made hp))
/-- a loc is made -/
def muNew (μ : Mu) (n : Nat) (p : Addr) : Mu := ⟨fun m => if m = n then some p else μ m, μ.p⟩
theorem muNew_same {n : Nat} {p : Addr} : muNew μ n p n = some p := if_pos rfl
theorem muNew_ne {n m : Nat} {p : Addr} (h : m ≠ n) : muNew μ n p m = μ m := if_neg h
theorem Ext.loc {st : Sto} {p : Addr} {o : HO} (h : Hr K H μ st) (hp : H p = none) : Ext K H μ (upd H p o) (muNew μ st.next p) := by
  have e0 := Ext.made (K := K) (μ := μ) (o := o) hp
  refine ⟨⟨fun n a e => ?_, e0.tup, fun a xs q => ?_⟩, fun a q => ⟨q, (e0.prv a q).2⟩, e0.frz⟩
  · rw [muNew_ne (Nat.ne_of_lt (h.low n a e))]; exact e
  · rcases q with ⟨q, nm, np⟩ | q
    · refine .inl ⟨(Rd_made hp q), fun n => ?_, np⟩
      by_cases z : n = st.next
      · subst z
        rw [muNew_same]
        intro e
        cases e
        rcases q with q | ⟨_, q⟩ <;> (rw [hp] at q; cases q)
      · rw [muNew_ne z]; exact nm n
    · exact .inr q
where
  Rd_made {p a : Addr} {o u : HO} {H : Hp} (hp : H p = none) (h : Rd H a u) : Rd (upd H p o) a u := by
    rcases h with h | ⟨z, h⟩
    · exact .inl (by rw [upd_ne (ne_of_none h hp)]; exact h)
    · exact .inr ⟨z, by rw [upd_ne (ne_of_none h hp)]; exact h⟩
end
end Pi
end
section
set_option Elab.async false
set_option linter.all false
set_option maxRecDepth 100000
set_option maxHeartbeats 4000000
namespace Pi
open PySem PySem.Spec PyProof.Rows L2
/-! ### what is seen of the heap behind the top -/
mutual
/-- the reading of a constant, off the written part -/
def pvV (K : PySem.W.Frag) : PV → Value → Option V
  | .non, .none => some .non
  | .bl b, .bool c => if b = c then some (.bl b) else none
  | .int i, .int j _ => if i = j then some (.int i) else none
  | .str x, .str y _ => if x = y then some (.str x) else none
  | .tup ps, .ref a => match K.lookup a with
    | some ⟨.type c, _, .seq its _, _⟩ => if c = "tuple" ∧ its.size ≤ sizeLine then (match pvVs K ps its.toList with
      | some vs => some (.ref a)
      | none => none) else none
    | _ => none
  | _, _ => none
def pvVs (K : PySem.W.Frag) : List PV → List Value → Option (List V)
  | [], [] => some []
  | p :: ps, u :: us => match pvV K p u, pvVs K ps us with
    | some v, some vs => some (v :: vs)
    | _, _ => none
  | _, _ => none
end
def conB (K : PySem.W.Frag) (x : Str × PV) : Bool := match PySem.W.nsIn K mainGlobals x.1 with
  | some (some u) => (pvV K x.2 u).isSome
  | _ => false
def gcdB (K : PySem.W.Frag) : Bool := match PySem.W.nsIn K mainGlobals "gcd" with
  | some (some (.builtin id)) => id == "math.gcd"
  | _ => false
def bltH : List Str := ["len", "tuple", "list", "sum", "any", "all", "max", "min", "abs", "int", "sorted", "set", "repr", "str", "bool", "dict", "isinstance", "enumerate", "reversed", "range", "zip"]
def nmsC (glb : List (Str × PV)) (gcd : Bool) (K : PySem.W.Frag) : Bool := bltH.all (fun n => (He.Fa.free n).ok K) && (glb.all (conB K) && (!gcd || gcdB K))
/-- a class over ValueError, its object -/
def xoB (K : PySem.W.Frag) (C : Addr) : Bool := match K.lookup C with
  | some ⟨.type "type", _, .cls cd, sl⟩ => (match cd.mro, sl.toList with
    | .ref C' :: bm, [_, _, _, _, some (.builtin n), _] => C' == C && (n == "ValueError.__new__" && (!cd.hasDel && (cd.hasDict && PySem.HandSPX.refsVE bm)))
    | _, _ => false)
  | _ => false
theorem xoB_ok {K : PySem.W.Frag} {C : Addr} (h : xoB K C = true) : ∃ nm q N bs bm sn sub ab col dd k0 k1 k2 k3 k5, K.lookup C = some (excClassObj nm q C N bs bm true sn sub ab col dd k0 k1 k2 k3 k5 "ValueError.__new__") ∧ PySem.HandSPX.refsVE bm = true := by
  unfold xoB at h
  split at h
  · rename_i dd cd sl ho
    split at h
    · rename_i C' bm k0 k1 k2 k3 n k5 hm hs
      simp only [Bool.and_eq_true, beq_iff_eq, Bool.not_eq_true'] at h
      obtain ⟨rfl, rfl, hdel, hdi, hr⟩ := h
      obtain ⟨nm, bs, mro, ns, qn, hd, sn, sub, ab, col, del⟩ := cd
      dsimp only at hm hdel hdi
      subst hm hdel hdi
      have hsl : sl = #[k0, k1, k2, k3, some (.builtin "ValueError.__new__"), k5] := by
        obtain ⟨l⟩ := sl
        simp only at hs
        rw [hs]
      subst hsl
      exact ⟨nm, qn, ns, bs, bm, sn, sub, ab, col, dd, k0, k1, k2, k3, k5, ho, hr⟩
    · cases h
  · cases h
/-- all that is asked of the class x with the field f, its __init__'s text apart -/
def xcL (K : PySem.W.Frag) (C : Addr) (f : Str) : List Bool :=
  [xoB K C, He.eqO (PySem.W.findIn K (.ref C) "__setattr__") (some (some (.builtin "object.__setattr__"))), decide (PySem.W.subIn K (.ref C) (.type "BaseException") = some true), decide (PySem.W.typeIn K (.ref C) = some (.type "type")), PySem.W.keepIn K (.ref C),
   He.eqO (PySem.W.findIn K (.ref C) "__getattribute__") (some (some (.builtin "BaseException.__getattribute__"))), He.eqO (PySem.W.findIn K (.ref C) "__getattr__") (some none), PySem.W.hasDictIn K C,
   He.eqO (PySem.W.findIn K (.ref C) "__class__") (some (some (.builtin "object.__class__"))), He.eqO (PySem.W.specialIn K (.builtin "object.__class__") "__get__") (some (some (.builtin "getset_descriptor.__get__"))), decide (PySem.W.takesIn K (.builtin "object.__class__") = some true),
   decide (PySem.W.mroIn K C (.type "object") = some true), He.eqO (PySem.W.findIn K (.ref C) "__init__") (some (some (.ref (He.ma K C "__init__")))), decide (PySem.W.typeIn K (.ref (He.ma K C "__init__")) = some (.type "function")),
   He.eqO (PySem.W.findIn K (.ref C) f) (some none), decide (PySem.W.exmOne K (.ref C) (.ref C) = some true)]
def xcB (K : PySem.W.Frag) (x f : Str) : Bool := (He.Fa.glo x).ok K && (xcL K (He.ga K x) f).all id
def dOf (x : Str) (st : Stmt) : He.DefD := ⟨(x, none), x, x, defArgs st, defBody st, defScope st, [], []⟩
/-! ### a Hook of any look at the written part -/
def hookF (as : List Addr) {α : Type} (o : PySem.W.Frag → α) (v : α) : PySem.W.Hook where
  α := α
  obs := fun s => o (He.frG s.heap.get? as)
  val := fun _ => v
  says := fun _ h => ∃ K : PySem.W.Frag, K.In h ∧ o K = v
  of := fun _ _ e => ⟨_, He.frG_in, e⟩
  keeps := fun _ _ _ ⟨K, hK, c⟩ k => ⟨K, PySem.W.Frag.In.keeps hK k, c⟩
def seeF (as : List Addr) {α : Type} (o : PySem.W.Frag → α) (s : PySem.W.SharedT) : α := o (He.frG (HandSHeadRun.getT s) as)
theorem seeF_eq {as : List Addr} {α : Type} {o : PySem.W.Frag → α} {v : α} (s : PySem.W.SharedT) : seeF as o s = (hookF as o v).obs s.abs := by
  have e : HandSHeadRun.getT s = s.abs.heap.get? := funext (HandSHeadRun.getT_eq s)
  unfold seeF
  rw [e]
  rfl
theorem map_two {α β γ : Type} {x : Option α} {f : α → β} {g : α → γ} {a : β} {b : γ} (h1 : x.map f = some a) (h2 : x.map g = some b) : x.map (fun z => (f z, g z)) = some (a, b) := by
  cases x with
  | none => cases h1
  | some z => cases h1; cases h2; rfl
end Pi
end
section
set_option Elab.async false
set_option linter.all false
set_option maxRecDepth 1000000
set_option maxHeartbeats 0
namespace Pi.Z
open PySem PySem.Spec PyProof.Rows L2 Pi
def top (i : Nat) : Stmt := PySem.Challenge.pw_owncells_k18_dealings_by_hand.main.body.getD i (.Pass ⟨0, 0, 0, 0⟩)
def fn0 : List He.DefD := [dOf ("plus" : PySem.Str) (top 13), dOf ("less" : PySem.Str) (top 14), dOf ("weighted" : PySem.Str) (top 15), dOf ("remainder" : PySem.Str) (top 16), dOf ("multiplied" : PySem.Str) (top 17), dOf ("units" : PySem.Str) (top 18), dOf ("reduced" : PySem.Str) (top 19), dOf ("gathered" : PySem.Str) (top 20), dOf ("signed" : PySem.Str) (top 21), dOf ("hermite" : PySem.Str) (top 22), dOf ("transposed" : PySem.Str) (top 23), dOf ("agreeing" : PySem.Str) (top 24), dOf ("is_diagonal" : PySem.Str) (top 25), dOf ("coordinates" : PySem.Str) (top 26), dOf ("divisors" : PySem.Str) (top 27), dOf ("is_integer" : PySem.Str) (top 35), dOf ("is_between" : PySem.Str) (top 36), dOf ("is_number" : PySem.Str) (top 37), dOf ("is_tuple" : PySem.Str) (top 38), dOf ("is_few" : PySem.Str) (top 39)]
def fn1 : List He.DefD := [dOf ("is_row" : PySem.Str) (top 40), dOf ("is_place" : PySem.Str) (top 41), dOf ("is_matrix" : PySem.Str) (top 42), dOf ("is_reference" : PySem.Str) (top 43), dOf ("wrong_in_statement" : PySem.Str) (top 44), dOf ("wrong_in_arrays" : PySem.Str) (top 45), dOf ("wrong_in_statements" : PySem.Str) (top 46), dOf ("wrong_in_program" : PySem.Str) (top 47), dOf ("need_program" : PySem.Str) (top 48), dOf ("is_lot" : PySem.Str) (top 49), dOf ("need_lot" : PySem.Str) (top 50), dOf ("need_statement" : PySem.Str) (top 51), dOf ("is_round" : PySem.Str) (top 52), dOf ("need_round" : PySem.Str) (top 53), dOf ("touched" : PySem.Str) (top 54), dOf ("cells" : PySem.Str) (top 55), dOf ("touched_of" : PySem.Str) (top 56), dOf ("have_common" : PySem.Str) (top 57), dOf ("do_meet" : PySem.Str) (top 58), dOf ("written" : PySem.Str) (top 59)]
def fn2 : List He.DefD := [dOf ("sight" : PySem.Str) (top 61), dOf ("uses" : PySem.Str) (top 62), dOf ("ties" : PySem.Str) (top 63), dOf ("joined" : PySem.Str) (top 64), dOf ("groups_by" : PySem.Str) (top 65), dOf ("groups" : PySem.Str) (top 66), dOf ("basis" : PySem.Str) (top 67), dOf ("ways_apart" : PySem.Str) (top 68), dOf ("is_modulus" : PySem.Str) (top 72), dOf ("is_form" : PySem.Str) (top 73), dOf ("need_form" : PySem.Str) (top 74), dOf ("wrong_in_dealing" : PySem.Str) (top 75), dOf ("need_dealing" : PySem.Str) (top 76), dOf ("number_by" : PySem.Str) (top 77), dOf ("hand_by" : PySem.Str) (top 78), dOf ("hand" : PySem.Str) (top 79), dOf ("are_alike" : PySem.Str) (top 80), dOf ("do_agree" : PySem.Str) (top 81), dOf ("do_all_agree" : PySem.Str) (top 82), dOf ("does_keep" : PySem.Str) (top 83)]
def fn3 : List He.DefD := [dOf ("group_form" : PySem.Str) (top 84), dOf ("step_form" : PySem.Str) (top 85), dOf ("need_dealt" : PySem.Str) (top 86), dOf ("is_right" : PySem.Str) (top 87), dOf ("steps_within" : PySem.Str) (top 88), dOf ("does_tell" : PySem.Str) (top 89), dOf ("do_share" : PySem.Str) (top 90), dOf ("is_finest" : PySem.Str) (top 91), dOf ("is_span" : PySem.Str) (top 94), dOf ("is_box" : PySem.Str) (top 95), dOf ("need_box" : PySem.Str) (top 96), dOf ("many_places" : PySem.Str) (top 97), dOf ("many_rounds" : PySem.Str) (top 98), dOf ("need_few_rounds" : PySem.Str) (top 99), dOf ("places_in" : PySem.Str) (top 100), dOf ("head" : PySem.Str) (top 101), dOf ("step_between" : PySem.Str) (top 102), dOf ("are_tied" : PySem.Str) (top 103), dOf ("hands_by" : PySem.Str) (top 104), dOf ("many_hands" : PySem.Str) (top 105)]
def fn4 : List He.DefD := [dOf ("turned" : PySem.Str) (top 106), dOf ("add_runs" : PySem.Str) (top 107), dOf ("folded" : PySem.Str) (top 108), dOf ("many_in" : PySem.Str) (top 109), dOf ("hands_of" : PySem.Str) (top 110), dOf ("moved" : PySem.Str) (top 111), dOf ("hands_in" : PySem.Str) (top 112), dOf ("need_rounds" : PySem.Str) (top 114), dOf ("end" : PySem.Str) (top 115), dOf ("chains" : PySem.Str) (top 116), dOf ("ring" : PySem.Str) (top 117), dOf ("taken_rings" : PySem.Str) (top 118), dOf ("tied_paper" : PySem.Str) (top 119), dOf ("apart_paper" : PySem.Str) (top 120), dOf ("paper" : PySem.Str) (top 121), dOf ("does_part" : PySem.Str) (top 122), dOf ("is_way" : PySem.Str) (top 123), dOf ("is_taken" : PySem.Str) (top 124), dOf ("do_tie" : PySem.Str) (top 125), dOf ("check" : PySem.Str) (top 126)]
def fn5 : List He.DefD := [dOf ("_law_one_right" : PySem.Str) (top 128), dOf ("_law_said" : PySem.Str) (top 129), dOf ("_law_ring_right" : PySem.Str) (top 130), dOf ("_law_two_loops_right" : PySem.Str) (top 131), dOf ("_law_apart_right" : PySem.Str) (top 132), dOf ("_law_line_right" : PySem.Str) (top 133), dOf ("law" : PySem.Str) (top 134)]
def fn : List He.DefD := fn0 ++ (fn1 ++ (fn2 ++ (fn3 ++ (fn4 ++ (fn5)))))
def ad0 : List Addr := [3, 205, 204, 52, 202, 203, 51, 201, 50, 53, 319, 232, 231, 237, 236, 242, 241, 249, 248, 256]
def ad1 : List Addr := [255, 261, 260, 268, 267, 275, 274, 280, 279, 287, 286, 294, 293, 299, 298, 306, 305, 311, 310, 318]
def ad2 : List Addr := [317, 326, 325, 333, 332, 340, 339, 347, 346, 354, 353, 361, 360, 368, 367, 375, 374, 382, 381, 389]
def ad3 : List Addr := [388, 396, 395, 403, 402, 410, 409, 417, 416, 424, 423, 431, 430, 438, 437, 445, 444, 452, 451, 457]
def ad4 : List Addr := [456, 464, 463, 469, 468, 474, 473, 481, 480, 486, 485, 491, 490, 496, 495, 501, 500, 506, 505, 511]
def ad5 : List Addr := [510, 518, 517, 525, 524, 530, 529, 537, 536, 544, 543, 551, 550, 558, 557, 565, 564, 572, 571, 577]
def ad6 : List Addr := [576, 584, 583, 591, 590, 598, 597, 605, 604, 612, 611, 617, 616, 622, 621, 629, 628, 636, 635, 643]
def ad7 : List Addr := [642, 650, 649, 655, 654, 660, 659, 667, 666, 672, 671, 679, 678, 684, 683, 691, 690, 698, 697, 703]
def ad8 : List Addr := [702, 710, 709, 717, 716, 724, 723, 729, 728, 736, 735, 743, 742, 750, 749, 757, 756, 764, 763, 769]
def ad9 : List Addr := [768, 774, 773, 779, 778, 786, 785, 793, 792, 800, 799, 805, 804, 810, 809, 817, 816, 822, 821, 829]
def ad10 : List Addr := [828, 836, 835, 841, 840, 848, 847, 853, 852, 860, 859, 865, 864, 872, 871, 879, 878, 886, 885, 891]
def ad11 : List Addr := [890, 898, 897, 905, 904]
def ad : List Addr := ad0 ++ (ad1 ++ (ad2 ++ (ad3 ++ (ad4 ++ (ad5 ++ (ad6 ++ (ad7 ++ (ad8 ++ (ad9 ++ (ad10 ++ (ad11)))))))))))
def fa0 : List He.Fa := [.glo ("plus" : PySem.Str), .glo ("less" : PySem.Str), .glo ("weighted" : PySem.Str), .glo ("remainder" : PySem.Str), .glo ("multiplied" : PySem.Str), .glo ("units" : PySem.Str), .glo ("reduced" : PySem.Str), .glo ("gathered" : PySem.Str), .glo ("signed" : PySem.Str), .glo ("hermite" : PySem.Str), .glo ("transposed" : PySem.Str), .glo ("agreeing" : PySem.Str), .glo ("is_diagonal" : PySem.Str), .glo ("coordinates" : PySem.Str), .glo ("divisors" : PySem.Str), .glo ("is_integer" : PySem.Str), .glo ("is_between" : PySem.Str), .glo ("is_number" : PySem.Str), .glo ("is_tuple" : PySem.Str), .glo ("is_few" : PySem.Str)]
def fa1 : List He.Fa := [.glo ("is_row" : PySem.Str), .glo ("is_place" : PySem.Str), .glo ("is_matrix" : PySem.Str), .glo ("is_reference" : PySem.Str), .glo ("wrong_in_statement" : PySem.Str), .glo ("wrong_in_arrays" : PySem.Str), .glo ("wrong_in_statements" : PySem.Str), .glo ("wrong_in_program" : PySem.Str), .glo ("need_program" : PySem.Str), .glo ("is_lot" : PySem.Str), .glo ("need_lot" : PySem.Str), .glo ("need_statement" : PySem.Str), .glo ("is_round" : PySem.Str), .glo ("need_round" : PySem.Str), .glo ("touched" : PySem.Str), .glo ("cells" : PySem.Str), .glo ("touched_of" : PySem.Str), .glo ("have_common" : PySem.Str), .glo ("do_meet" : PySem.Str), .glo ("written" : PySem.Str)]
def fa2 : List He.Fa := [.glo ("sight" : PySem.Str), .glo ("uses" : PySem.Str), .glo ("ties" : PySem.Str), .glo ("joined" : PySem.Str), .glo ("groups_by" : PySem.Str), .glo ("groups" : PySem.Str), .glo ("basis" : PySem.Str), .glo ("ways_apart" : PySem.Str), .glo ("is_modulus" : PySem.Str), .glo ("is_form" : PySem.Str), .glo ("need_form" : PySem.Str), .glo ("wrong_in_dealing" : PySem.Str), .glo ("need_dealing" : PySem.Str), .glo ("number_by" : PySem.Str), .glo ("hand_by" : PySem.Str), .glo ("hand" : PySem.Str), .glo ("are_alike" : PySem.Str), .glo ("do_agree" : PySem.Str), .glo ("do_all_agree" : PySem.Str), .glo ("does_keep" : PySem.Str)]
def fa3 : List He.Fa := [.glo ("group_form" : PySem.Str), .glo ("step_form" : PySem.Str), .glo ("need_dealt" : PySem.Str), .glo ("is_right" : PySem.Str), .glo ("steps_within" : PySem.Str), .glo ("does_tell" : PySem.Str), .glo ("do_share" : PySem.Str), .glo ("is_finest" : PySem.Str), .glo ("is_span" : PySem.Str), .glo ("is_box" : PySem.Str), .glo ("need_box" : PySem.Str), .glo ("many_places" : PySem.Str), .glo ("many_rounds" : PySem.Str), .glo ("need_few_rounds" : PySem.Str), .glo ("places_in" : PySem.Str), .glo ("head" : PySem.Str), .glo ("step_between" : PySem.Str), .glo ("are_tied" : PySem.Str), .glo ("hands_by" : PySem.Str), .glo ("many_hands" : PySem.Str)]
def fa4 : List He.Fa := [.glo ("turned" : PySem.Str), .glo ("add_runs" : PySem.Str), .glo ("folded" : PySem.Str), .glo ("many_in" : PySem.Str), .glo ("hands_of" : PySem.Str), .glo ("moved" : PySem.Str), .glo ("hands_in" : PySem.Str), .glo ("need_rounds" : PySem.Str), .glo ("end" : PySem.Str), .glo ("chains" : PySem.Str), .glo ("ring" : PySem.Str), .glo ("taken_rings" : PySem.Str), .glo ("tied_paper" : PySem.Str), .glo ("apart_paper" : PySem.Str), .glo ("paper" : PySem.Str), .glo ("does_part" : PySem.Str), .glo ("is_way" : PySem.Str), .glo ("is_taken" : PySem.Str), .glo ("do_tie" : PySem.Str), .glo ("check" : PySem.Str)]
def fa5 : List He.Fa := [.glo ("_law_one_right" : PySem.Str), .glo ("_law_said" : PySem.Str), .glo ("_law_ring_right" : PySem.Str), .glo ("_law_two_loops_right" : PySem.Str), .glo ("_law_apart_right" : PySem.Str), .glo ("_law_line_right" : PySem.Str), .glo ("law" : PySem.Str)]
def fa : List He.Fa := fa0 ++ (fa1 ++ (fa2 ++ (fa3 ++ (fa4 ++ (fa5)))))
def loose0 : List PySem.Str := [("NestError" : PySem.Str), ("BadProgram" : PySem.Str), ("BadLot" : PySem.Str), ("BadRound" : PySem.Str), ("BadNumber" : PySem.Str), ("BadBox" : PySem.Str), ("BadForm" : PySem.Str), ("BadDealing" : PySem.Str), ("BadPaper" : PySem.Str), ("TooGreat" : PySem.Str), ("plus" : PySem.Str), ("less" : PySem.Str), ("weighted" : PySem.Str), ("remainder" : PySem.Str), ("multiplied" : PySem.Str), ("units" : PySem.Str), ("reduced" : PySem.Str), ("gathered" : PySem.Str), ("signed" : PySem.Str), ("hermite" : PySem.Str)]
def loose1 : List PySem.Str := [("transposed" : PySem.Str), ("agreeing" : PySem.Str), ("is_diagonal" : PySem.Str), ("coordinates" : PySem.Str), ("divisors" : PySem.Str), ("MOST_DEPTH" : PySem.Str), ("MOST_ROWS" : PySem.Str), ("MOST_THINGS" : PySem.Str), ("MOST_FACTOR" : PySem.Str), ("MOST_OFFSET" : PySem.Str), ("KINDS" : PySem.Str), ("is_integer" : PySem.Str), ("is_between" : PySem.Str), ("is_number" : PySem.Str), ("is_tuple" : PySem.Str), ("is_few" : PySem.Str), ("is_row" : PySem.Str), ("is_place" : PySem.Str), ("is_matrix" : PySem.Str), ("is_reference" : PySem.Str)]
def loose2 : List PySem.Str := [("wrong_in_statement" : PySem.Str), ("wrong_in_arrays" : PySem.Str), ("wrong_in_statements" : PySem.Str), ("wrong_in_program" : PySem.Str), ("need_program" : PySem.Str), ("is_lot" : PySem.Str), ("need_lot" : PySem.Str), ("need_statement" : PySem.Str), ("is_round" : PySem.Str), ("need_round" : PySem.Str), ("touched" : PySem.Str), ("cells" : PySem.Str), ("touched_of" : PySem.Str), ("have_common" : PySem.Str), ("do_meet" : PySem.Str), ("written" : PySem.Str), ("sight" : PySem.Str), ("uses" : PySem.Str), ("ties" : PySem.Str), ("joined" : PySem.Str)]
def loose3 : List PySem.Str := [("groups_by" : PySem.Str), ("groups" : PySem.Str), ("basis" : PySem.Str), ("ways_apart" : PySem.Str), ("MOST_MODULUS" : PySem.Str), ("MOST_FORMS" : PySem.Str), ("is_modulus" : PySem.Str), ("is_form" : PySem.Str), ("need_form" : PySem.Str), ("wrong_in_dealing" : PySem.Str), ("need_dealing" : PySem.Str), ("number_by" : PySem.Str), ("hand_by" : PySem.Str), ("hand" : PySem.Str), ("are_alike" : PySem.Str), ("do_agree" : PySem.Str), ("do_all_agree" : PySem.Str), ("does_keep" : PySem.Str), ("group_form" : PySem.Str), ("step_form" : PySem.Str)]
def loose4 : List PySem.Str := [("need_dealt" : PySem.Str), ("is_right" : PySem.Str), ("steps_within" : PySem.Str), ("does_tell" : PySem.Str), ("do_share" : PySem.Str), ("is_finest" : PySem.Str), ("MOST_ROUNDS" : PySem.Str), ("is_span" : PySem.Str), ("is_box" : PySem.Str), ("need_box" : PySem.Str), ("many_places" : PySem.Str), ("many_rounds" : PySem.Str), ("need_few_rounds" : PySem.Str), ("places_in" : PySem.Str), ("head" : PySem.Str), ("step_between" : PySem.Str), ("are_tied" : PySem.Str), ("hands_by" : PySem.Str), ("many_hands" : PySem.Str), ("turned" : PySem.Str)]
def loose5 : List PySem.Str := [("add_runs" : PySem.Str), ("folded" : PySem.Str), ("many_in" : PySem.Str), ("hands_of" : PySem.Str), ("moved" : PySem.Str), ("hands_in" : PySem.Str), ("need_rounds" : PySem.Str), ("end" : PySem.Str), ("chains" : PySem.Str), ("ring" : PySem.Str), ("taken_rings" : PySem.Str), ("tied_paper" : PySem.Str), ("apart_paper" : PySem.Str), ("paper" : PySem.Str), ("does_part" : PySem.Str), ("is_way" : PySem.Str), ("is_taken" : PySem.Str), ("do_tie" : PySem.Str), ("check" : PySem.Str), ("_law_one_right" : PySem.Str)]
def loose6 : List PySem.Str := [("_law_said" : PySem.Str), ("_law_ring_right" : PySem.Str), ("_law_two_loops_right" : PySem.Str), ("_law_apart_right" : PySem.Str), ("_law_line_right" : PySem.Str)]
def loose : List PySem.Str := loose0 ++ (loose1 ++ (loose2 ++ (loose3 ++ (loose4 ++ (loose5 ++ (loose6))))))
def glbH : List (PySem.Str × PV) := [(("MOST_DEPTH" : PySem.Str), (.int 3)), (("MOST_ROWS" : PySem.Str), (.int 3)), (("MOST_THINGS" : PySem.Str), (.int 4)), (("MOST_FACTOR" : PySem.Str), (.int 4)), (("MOST_OFFSET" : PySem.Str), (.int 9)), (("KINDS" : PySem.Str), (.tup [(.str ("read" : PySem.Str)), (.str ("write" : PySem.Str))])), (("MOST_MODULUS" : PySem.Str), (.int 1000000000000000000000000000000)), (("MOST_FORMS" : PySem.Str), (.int 13)), (("MOST_ROUNDS" : PySem.Str), (.int 4000))]
def sI_0 : Stmt := inClass (top 10) 0
def fnI : List He.DefD := [⟨(("BadPaper" : PySem.Str), some "__init__"), "__init__", "BadPaper.__init__", defArgs sI_0, defBody sI_0, defScope sI_0, [], []⟩]
abbrev R : PySem.W.OpenRow := PySem.W.OpenLaw.row PySem.Challenge.rw_owncells_k18_dealings_by_hand
abbrev qv : Program := PySem.W.view R.prog [0, 134]
noncomputable abbrev Wq (w : World) : Option (Shared × PySem.W.SharedT) := HandSHeadRun.wholeF (fun p => HandSHeadRun.stepQ (HandSHeadRun.denQ HandSHeadRun.tabQ) p w) HandSHeadRun.fenceQ 8000 R.prog
def oN (K : PySem.W.Frag) : Bool := nmsC glbH true K
def oI (K : PySem.W.Frag) : Bool × He.AlD := (xcB K ("BadPaper" : PySem.Str) ("word" : PySem.Str), He.obsD [] fnI K)
theorem runL (w : World) : (Wq w).map (fun x => HandSHeadRun.looksF R.prog x.1.heap x.2.abs) = some true := by kernel_rfl
theorem runS (w : World) : (Wq w).map (fun x => HandSHeadRun.seenQ qv loose (importedModules R.prog.main.body) (fun s => PySem.W.xlAt qv [] s && PySem.W.recOk R.toRowW.records s) x.2.abs) = some (PySem.W.openGood qv loose) := by kernel_rfl

def oA (K : PySem.W.Frag) : Bool × (Bool × He.AlD) × He.AlD × He.AlD × He.AlD × He.AlD × He.AlD × He.AlD := (oN K, (oI K, (He.obsD fa0 fn0 K, (He.obsD fa1 fn1 K, (He.obsD fa2 fn2 K, (He.obsD fa3 fn3 K, (He.obsD fa4 fn4 K, He.obsD fa5 fn5 K)))))))
def vA : Bool × (Bool × He.AlD) × He.AlD × He.AlD × He.AlD × He.AlD × He.AlD × He.AlD := (true, ((true, He.valD fnI), (He.valD fn0, (He.valD fn1, (He.valD fn2, (He.valD fn3, (He.valD fn4, He.valD fn5)))))))
theorem runA (w : World) : (Wq w).map (fun x => seeF ad oA x.2) = some vA := by kernel_rfl
abbrev hk : PySem.W.Hook := hookF ad oA vA
theorem run (w : World) : HandSHeadRun.RunEqI R qv hk (seeF ad oA) 8000 loose w := by
  unfold HandSHeadRun.RunEqI
  exact map_two (runL w) (map_two (runS w) (runA w))
end Pi.Z
end
section
set_option Elab.async false
set_option linter.all false
set_option maxRecDepth 100000
set_option maxHeartbeats 4000000
namespace Pi
open PySem PySem.Spec PyProof.Rows L2

inductive Op2 where | add | sub | mul | fdiv | mod | pow
inductive Cm where | eq | ne | lt | le | gt | ge
/-- built-in functions and classes -/
inductive BI where
  | len | tuple | list | sum | any | all | max | min | abs | int | sorted | set | gcd | repr | str
/-- methods of built-in classes -/
inductive MM where
  | append | extend | pop | index | reverse | setdefault | get | values | items
/-- built-in types that isinstance is asked of -/
inductive TyK where
  | int | bool | tuple | list | str | dict
/-- what a loop walks -/
inductive SK where | it | enum | zip | range | rev | vals | items
/-- a target of names -/
inductive TV where
  | var (i : Nat)
  | tup (ts : List TV)
inductive E where
  | var (i : Nat)
  | cst (v : PV)
  | glob (v : PV)
  | tup (es : List E)
  | lst (l : Bool) (es : List E)
  | bin (l : Bool) (op : Op2) (a b : E)
  | neg (a : E)
  | cmp (op : Cm) (a b : E)
  | chain (o1 o2 : Cm) (a b c : E)
  | is (n : Bool) (a : E) (v : PV)
  | mem (n : Bool) (a b : E)
  | and (es : List E)
  | or (es : List E)
  | not (a : E)
  | ifx (c a b : E)
  | call (f : Nat) (es : List E)
  | bi (l : Bool) (b : BI) (es : List E)
  | isi (a : E) (t : TyK)
  | meth (m : MM) (o : E) (es : List E)
  | idx (o i : E)
  | slc (l : Bool) (o : E) (lo hi : Option E)
  | rvs (l : Bool) (o : E)
  | zipstar (l : Bool) (e : E)
  | lzip (l : Bool) (a b : E)
  | lrange (l : Bool) (a : E)
  | lvals (l : Bool) (a : E)
  | dct (deep : Bool) (ks vs : List E)
  | dcomp (t : TV) (k : SK) (es : List E) (ifs : List E) (ke ve : E)
  | srtset (l : Bool) (a : E)
  | srtcomp (l : Bool) (t1 : TV) (e1 : E) (t2 : TV) (e2 : E) (ifs : List E) (elt : E)
  | two (a : E)
  | lidx (o a : E)
  | comp2 (l : Bool) (t1 : TV) (e1 : E) (t2 : TV) (e2 : E) (ifs : List E) (elt : E)
  | bad
  | comp (l : Bool) (t : TV) (k : SK) (es : List E) (ifs : List E) (elt : E)
inductive S where
  | asg (i : Nat) (e : E)
  | asgT (ts : List TV) (e : E)
  | par (is : List Nat) (es : List E)
  | aug (i : Nat) (op : Op2) (e : E)
  | sub (o i e : E)
  | expr (e : E)
  | ite (c : E) (a b : List S)
  | loop (t : TV) (k : SK) (es : List E) (body : List S)
  | whl (c : E) (body : List S)
  | ret (e : E)
  | retn
  | brk
  | cont
  | pass
  | raise (c : Nat) (es : List E)
  | asubs (ts : List (E × E)) (e : E)
  | tryc (body : List S) (cs : List Nat) (nm : Option Nat) (hd : List S)
  | bad

inductive Out (α : Type) where
  | ok (a : α) (st : Sto)
  | exc (c : Nat) (fs : List PV) (st : Sto)
  | stuck
abbrev Env := List (Option PV)
inductive Fl where
  | nx (ρ : Env) (st : Sto)
  | ret (v : PV) (st : Sto)
  | brk (ρ : Env) (st : Sto)
  | cont (ρ : Env) (st : Sto)
  | exc (c : Nat) (fs : List PV) (ρ : Env) (st : Sto)
  | stuck
def Out.bind {α β : Type} (x : Out α) (f : α → Sto → Out β) : Out β :=
  match x with
  | .ok a st => f a st
  | .exc c fs st => .exc c fs st
  | .stuck => .stuck
def Out.fl {α : Type} (x : Out α) (ρ : Env) (f : α → Sto → Fl) : Fl :=
  match x with
  | .ok a st => f a st
  | .exc c fs st => .exc c fs ρ st
  | .stuck => .stuck
def Out.of {α : Type} (x : Option α) (st : Sto) : Out α :=
  match x with
  | some a => .ok a st
  | none => .stuck

/-- the interpreter with less fuel -/
structure Ops where
  e : E → Env → Sto → Out PV
  s : S → Env → Sto → Fl
  call : Nat → List PV → Sto → Out PV
  fuel : Nat

def nth {α : Type} : List α → Nat → Option α
  | [], _ => none
  | x :: _, 0 => some x
  | _ :: r, n + 1 => nth r n
theorem nth_eq {α : Type} : ∀ (l : List α) (n : Nat), nth l n = l[n]?
  | [], _ => by simp [nth]
  | _ :: _, 0 => by simp [nth]
  | _ :: r, n + 1 => by simp [nth, nth_eq r n]
def setN {α : Type} : List α → Nat → α → List α
  | [], _, _ => []
  | _ :: r, 0, y => y :: r
  | x :: r, n + 1, y => x :: setN r n y
theorem setN_eq {α : Type} : ∀ (l : List α) (n : Nat) (y : α), setN l n y = l.set n y
  | [], _, _ => by simp [setN]
  | _ :: _, 0, _ => by simp [setN]
  | x :: r, n + 1, y => by simp [setN, setN_eq r n y]

/-- a new list: a loc, or one that is only read -/
def mkL (l : Bool) (xs : List PV) (st : Sto) : Out PV :=
  match l with
  | true => .ok (.loc st.next) (st.new (.lst xs))
  | false => .ok (.lst xs) st
def fitLen : Nat → Bool := fun n => Nat.ble n sizeLine
/-- the items of a list or a tuple -/
def itemsOf (st : Sto) : PV → Option (List PV)
  | .tup xs => some xs
  | .lst xs => some xs
  | .loc n => match st.get n with
    | some (.lst xs) => some xs
    | _ => none
  | _ => none
def listOf (st : Sto) : PV → Option (List PV)
  | .lst xs => some xs
  | .loc n => match st.get n with
    | some (.lst xs) => some xs
    | _ => none
  | _ => none
def intsOf : List PV → Option (List Int)
  | [] => some []
  | .int i :: r => match intsOf r with
    | some is => some (i :: is)
    | none => none
  | _ :: _ => none
def blsOf : List PV → Option (List Bool)
  | [] => some []
  | .bl i :: r => match blsOf r with
    | some is => some (i :: is)
    | none => none
  | _ :: _ => none
def tru (st : Sto) : PV → Option Bool
  | .non => some false
  | .bl b => some b
  | .int i => some (i != 0)
  | .tup xs => some (!xs.isEmpty)
  | .lst xs => some (!xs.isEmpty)
  | .loc n => match st.get n with
    | some (.lst xs) => some (!xs.isEmpty)
    | _ => none
  | _ => none
def small (i : Int) : Bool := Nat.blt i.natAbs 9223372036854775807
def repL {α : Type} (xs : List α) : Nat → List α
  | 0 => []
  | n + 1 => xs ++ repL xs n
def bin (l : Bool) (op : Op2) (x y : PV) (st : Sto) : Out PV :=
  match op, x, y with
  | .add, .int i, .int j => .ok (.int (i + j)) st
  | .add, .tup xs, .tup ys => if fitLen (xs.length + ys.length) then .ok (.tup (xs ++ ys)) st else .stuck
  | .add, x, y => match listOf st x, listOf st y with
    | some xs, some ys => if fitLen (xs.length + ys.length) then mkL l (xs ++ ys) st else .stuck
    | _, _ => .stuck
  | .sub, .int i, .int j => .ok (.int (i - j)) st
  | .mul, .int i, .int j => if Nat.blt (i.natAbs.log2 + j.natAbs.log2) 1000000 then .ok (.int (i * j)) st else if small i || small j then .ok (.int (i * j)) st else .stuck
  | .mul, .tup xs, .int j => if fitLen (xs.length * j.toNat) && small j then .ok (.tup (repL xs j.toNat)) st else .stuck
  | .mul, x, .int j => match listOf st x with
    | some xs => if fitLen (xs.length * j.toNat) && small j then mkL l (repL xs j.toNat) st else .stuck
    | _ => .stuck
  | .fdiv, .int i, .int j => if j != 0 && Nat.blt j.natAbs 1073741824 then .ok (.int (i.fdiv j)) st
    else if decide (0 < j) && Nat.blt j.natAbs.log2 9000 then .ok (.int (i / j)) st else .stuck
  | .mod, .int i, .int j => if j != 0 then .ok (.int (i.fmod j)) st else .stuck
  | .pow, .int i, .int j => if small i && ble' 0 j && ble' j 1000000 then .ok (.int (i ^ j.toNat)) st else .stuck
  | _, _, _ => .stuck
where
  ble' (i j : Int) : Bool := decide (i ≤ j)
/-- a datum as it stands (locs looked up) -/
def toD (st : Sto) : Nat → PV → Option PyData
  | 0, _ => none
  | n + 1, p => match p with
    | .non => some .none
    | .bl b => some (.bool b)
    | .int i => some (.int i)
    | .str x => some (.str x)
    | .ty _ => none
    | .tup xs => match toDs (toD st n) xs with
      | some ds => some (.tuple ds)
      | none => none
    | .lst xs => match toDs (toD st n) xs with
      | some ds => some (.list ds)
      | none => none
    | .loc k => match st.get k with
      | some (.lst xs) => match toDs (toD st n) xs with
        | some ds => some (.list ds)
        | none => none
      | _ => none
where
  toDs (f : PV → Option PyData) : List PV → Option (List PyData)
    | [] => some []
    | p :: r => match f p, toDs f r with
      | some d, some ds => some (d :: ds)
      | _, _ => none
def eqPV (st : Sto) : PV → PV → Option Bool
  | .int i, .int j => some (i == j)
  | .str i, .str j => some (i == j)
  | x, y => match toD st 60 x, toD st 60 y with
    | some d, some e => if SeqAt.shaped d && SeqAt.shaped e then some (PyData.eqv d e) else none
    | _, _ => none
/-- order of tuples of ints, nested -/
def ltPV : PV → PV → Option Bool
  | .int i, .int j => some (decide (i < j))
  | _, _ => none
def cmp (op : Cm) (x y : PV) (st : Sto) : Option Bool :=
  match op, x, y with
  | .eq, x, y => eqPV st x y
  | .ne, x, y => match eqPV st x y with
    | some b => some (!b)
    | none => none
  | .lt, .int i, .int j => some (decide (i < j))
  | .le, .int i, .int j => some (decide (i ≤ j))
  | .gt, .int i, .int j => some (decide (j < i))
  | .ge, .int i, .int j => some (decide (j ≤ i))
  | _, _, _ => none
def memD (st : Sto) (x c : PV) : Option Bool :=
  match toD st 60 x, toD st 60 c with
  | some d, some (.list ds) => if SeqAt.shaped d && SeqAt.shaped (.list ds) then some (ds.any fun z => PyData.eqv z d) else none
  | some d, some (.tuple ds) => if SeqAt.shaped d && SeqAt.shaped (.tuple ds) then some (ds.any fun z => PyData.eqv z d) else none
  | _, _ => none
def isTy (st : Sto) : PV → TyK → Option Bool
  | .non, _ => some false
  | .bl _, .bool => some true
  | .bl _, .int => some true
  | .bl _, _ => some false
  | .int _, .int => some true
  | .int _, _ => some false
  | .str _, .str => some true
  | .str _, _ => some false
  | .ty _, _ => none
  | .tup _, .tuple => some true
  | .tup _, _ => some false
  | .lst _, .list => some true
  | .lst _, _ => some false
  | .loc n, t => match st.get n with
    | some (.lst _) => match t with
      | .list => some true
      | _ => some false
    | _ => none
def isV : PV → PV → Option Bool
  | .non, .non => some true
  | _, .non => some false
  | .bl a, .bl b => some (a == b)
  | _, .bl b => some false
  | _, _ => none
def ixOf (n : Nat) (i : Int) : Option Nat := if 0 ≤ i then (if i < n then some i.toNat else none) else if -(n : Int) ≤ i then some (i + n).toNat else none
/-- an item -/
def idxV (st : Sto) (o i : PV) : Option PV := match i with
  | .int j => match itemsOf st o with
    | some xs => match ixOf xs.length j with
      | some k => nth xs k
      | none => none
    | none => none
  | _ => none
def cutP (xs : List PV) (lo hi : Option Int) : List PV := (xs.drop (HT.sIx xs.length 0 lo)).take (HT.sIx xs.length xs.length hi - HT.sIx xs.length 0 lo)
mutual
def bindT : TV → PV → Env → Option Env
  | .var i, v, ρ => some (setN ρ i (some v))
  | .tup ts, .tup vs, ρ => bindTs ts vs ρ
  | .tup _, _, _ => none
def bindTs : List TV → List PV → Env → Option Env
  | [], [], ρ => some ρ
  | t :: ts, v :: vs, ρ => match bindT t v ρ with
    | some ρ' => bindTs ts vs ρ'
    | none => none
  | _, _, _ => none
end
mutual
def slotsT : TV → List Nat
  | .var i => [i]
  | .tup ts => slotsTs ts
def slotsTs : List TV → List Nat
  | [] => []
  | t :: ts => slotsT t ++ slotsTs ts
end
def wipeE (ρ : Env) : List Nat → Env
  | [] => ρ
  | v :: vs => setN (wipeE ρ vs) v none
/-- what a loop walks: items as they stand, or lists that may change -/
inductive Src where
  | vals (xs : List PV)
  | dyn (k : SK) (ps : List PV)
def isLoc : PV → Bool
  | .loc _ => true
  | _ => false
def pairsL : List PV → List PV → List PV
  | x :: xs, y :: ys => .tup [x, y] :: pairsL xs ys
  | _, _ => []
def enumL : Nat → List PV → List PV
  | _, [] => []
  | n, x :: xs => .tup [.int n, x] :: enumL (n + 1) xs
def rangeL (lo : Int) : Nat → List PV
  | 0 => []
  | n + 1 => .int lo :: rangeL (lo + 1) n
def wide62 (i : Int) : Bool := Nat.blt i.natAbs (2 ^ 61)
def srcOf (k : SK) (ps : List PV) (st : Sto) : Option Src :=
  match k, ps with
  | .range, [.int j] => if wide62 j then some (.vals (rangeL 0 j.toNat)) else none
  | .range, [.int i, .int j] => if wide62 i && wide62 j then some (.vals (rangeL i (j - i).toNat)) else none
  | .range, _ => none
  | .it, [.tup xs] => some (.vals xs)
  | .it, [.lst xs] => some (.vals xs)
  | .it, [.loc n] => match listOf st (.loc n) with
    | some _ => some (.dyn .it [.loc n])
    | none => none
  | .enum, [.tup xs] => some (.vals (enumL 0 xs))
  | .enum, [.lst xs] => some (.vals (enumL 0 xs))
  | .enum, [.loc n] => match listOf st (.loc n) with
    | some _ => some (.dyn .enum [.loc n])
    | none => none
  | .rev, [.tup xs] => some (.vals xs.reverse)
  | .rev, [.lst xs] => some (.vals xs.reverse)
  | .rev, [.loc n] => match listOf st (.loc n) with
    | some xs => some (.dyn .rev [.loc n, .int xs.length])
    | none => none
  | .vals, [.loc n] => match st.get n with
    | some (.dct _ kvs) => some (.dyn .vals [.loc n, .int kvs.length])
    | _ => none
  | .zip, [x, y] => match itemsOf ⟨0, []⟩ x, itemsOf ⟨0, []⟩ y with
    | some xs, some ys => some (.vals (pairsL xs ys))
    | _, _ => match itemsOf st x, itemsOf st y with
      | some _, some _ => some (.dyn .zip [x, y])
      | _, _ => none
  | _, _ => none
/-- the item at a turn: none: it cannot be told; some none: the end -/
def Src.at (src : Src) (st : Sto) (i : Nat) : Option (Option PV) :=
  match src with
  | .vals xs => some (nth xs i)
  | .dyn .it [p] => match itemsOf st p with
    | some xs => some (nth xs i)
    | none => none
  | .dyn .enum [p] => match itemsOf st p with
    | some xs => match nth xs i with
      | some x => some (some (.tup [.int i, x]))
      | none => some none
    | none => none
  | .dyn .rev [p, .int k] => match itemsOf st p with
    | some xs => bif Nat.blt i k.toNat then (match nth xs (k.toNat - 1 - i) with
      | some x => some (some x)
      | none => none) else some none
    | none => none
  | .dyn .vals [.loc n, .int k] => match st.get n with
    | some (.dct _ kvs) => bif Nat.beq kvs.length k.toNat then some ((nth kvs i).map fun kv => kv.2) else none
    | _ => none
  | .dyn .zip [p, q] => match itemsOf st p, itemsOf st q with
    | some xs, some ys => match nth xs i, nth ys i with
      | some x, some y => some (some (.tup [x, y]))
      | _, _ => some none
    | _, _ => none
  | _ => none

def noExc {α : Type} : Out α → Out α
  | .ok a st => .ok a st
  | _ => .stuck
section
variable (R : Ops)
def evEs : List E → Env → Sto → Out (List PV)
  | [], _, st => .ok [] st
  | e :: r, ρ, st => (R.e e ρ st).bind fun v st => (evEs r ρ st).bind fun vs st => .ok (v :: vs) st
def evAnd : List E → Env → Sto → Out PV
  | [], _, _ => .stuck
  | [e], ρ, st => R.e e ρ st
  | e :: r, ρ, st => (R.e e ρ st).bind fun v st => match tru st v with
    | some true => evAnd r ρ st
    | some false => .ok v st
    | none => .stuck
def evOr : List E → Env → Sto → Out PV
  | [], _, _ => .stuck
  | [e], ρ, st => R.e e ρ st
  | e :: r, ρ, st => (R.e e ρ st).bind fun v st => match tru st v with
    | some true => .ok v st
    | some false => evOr r ρ st
    | none => .stuck
/-- a test -/
def evT (e : E) (ρ : Env) (st : Sto) : Out Bool := (R.e e ρ st).bind fun v st => Out.of (tru st v) st
def evTs : List E → Env → Sto → Out Bool
  | [], _, st => .ok true st
  | e :: r, ρ, st => (evT R e ρ st).bind fun b st => match b with
    | true => evTs r ρ st
    | false => .ok false st
/-- a comprehension's turn: the new items behind -/
def compTurn (t : TV) (own : List Nat) (ifs : List E) (elt : E) (x : PV) (ρ : Env) (acc : List PV) (st : Sto) : Out (List PV) :=
  match bindT t x (wipeE ρ own) with
  | none => .stuck
  | some ρ' => (noExc (evTs R ifs ρ' st)).bind fun b st => match b with
    | false => .ok acc st
    | true => (noExc (R.e elt ρ' st)).bind fun y st => .ok (y :: acc) st
def compVals (t : TV) (own : List Nat) (ifs : List E) (elt : E) (ρ : Env) : List PV → List PV → Sto → Out (List PV)
  | [], acc, st => .ok acc st
  | x :: xs, acc, st => (compTurn R t own ifs elt x ρ acc st).bind fun acc st => compVals t own ifs elt ρ xs acc st
def compDyn (t : TV) (own : List Nat) (ifs : List E) (elt : E) (ρ : Env) (src : Src) : Nat → Nat → List PV → Sto → Out (List PV)
  | 0, _, _, _ => .stuck
  | n + 1, i, acc, st => match src.at st i with
    | none => .stuck
    | some none => .ok acc st
    | some (some x) => (compTurn R t own ifs elt x ρ acc st).bind fun acc st => compDyn t own ifs elt ρ src n (i + 1) acc st
def compAll (t : TV) (own : List Nat) (ifs : List E) (elt : E) (ρ : Env) (src : Src) (st : Sto) : Out (List PV) :=
  match src with
  | .vals xs => if fitLen xs.length then compVals R t own ifs elt ρ xs [] st else .stuck
  | .dyn k ps => if fitLen R.fuel then compDyn R t own ifs elt ρ (.dyn k ps) R.fuel 0 [] st else .stuck
def exSs : List S → Env → Sto → Fl
  | [], ρ, st => .nx ρ st
  | s :: r, ρ, st => match R.s s ρ st with
    | .nx ρ st => exSs r ρ st
    | f => f
def loopVals (t : TV) (body : List S) : List PV → Env → Sto → Fl
  | [], ρ, st => .nx ρ st
  | x :: xs, ρ, st => match bindT t x ρ with
    | none => .stuck
    | some ρ' => match exSs R body ρ' st with
      | .nx ρ st => loopVals t body xs ρ st
      | .cont ρ st => loopVals t body xs ρ st
      | .brk ρ st => .nx ρ st
      | f => f
def loopDyn (t : TV) (body : List S) (src : Src) : Nat → Nat → Env → Sto → Fl
  | 0, _, _, _ => .stuck
  | n + 1, i, ρ, st => match src.at st i with
    | none => .stuck
    | some none => .nx ρ st
    | some (some x) => match bindT t x ρ with
      | none => .stuck
      | some ρ' => match exSs R body ρ' st with
        | .nx ρ st => loopDyn t body src n (i + 1) ρ st
        | .cont ρ st => loopDyn t body src n (i + 1) ρ st
        | .brk ρ st => .nx ρ st
        | f => f
def loopAll (t : TV) (body : List S) (src : Src) (ρ : Env) (st : Sto) : Fl :=
  match src with
  | .vals xs => loopVals R t body xs ρ st
  | .dyn k ps => loopDyn R t body (.dyn k ps) R.fuel 0 ρ st
def whlG (c : E) (body : List S) : Nat → Env → Sto → Fl
  | 0, _, _ => .stuck
  | n + 1, ρ, st => (evT R c ρ st).fl ρ fun b st => match b with
    | false => .nx ρ st
    | true => match exSs R body ρ st with
      | .nx ρ st => whlG c body n ρ st
      | .cont ρ st => whlG c body n ρ st
      | .brk ρ st => .nx ρ st
      | f => f
end
end Pi
end
section
set_option Elab.async false
set_option linter.all false
set_option maxRecDepth 100000
set_option maxHeartbeats 4000000
namespace Pi
open PySem PySem.Spec PyProof.Rows L2

/-! ### defs that are called where nothing is being shown -/
abbrev Quiet (A : Around) : Prop := A.guards = some []
theorem Quiet.deeper {A : Around} (h : Quiet A) (env : PySem.Env) : Quiet (A.deeper env) := by
  obtain ⟨a, b, c, g, u⟩ := A
  exact h
structure FnX (P : Program) (w : World) (K : PySem.W.Frag) (mg : Str → Option Value) (base : Heap) (k : Nat) (f : Addr) (fd : FuncData) (ps : List Str) (sp : Sp) : Prop where
  len : ∀ vs H Q E, sp vs H Q E → vs.length = ps.length
  run : ∀ (A : Around), Quiet A → ∀ (outer : List PySem.Env) (s : Shared) (H : Hp) (args : Args) (us : List Value) (vs : List V) (Q : VK) (E : XK), Room k A → Env0 P w K mg base A outer s H →
    BindsTo s fd args (ps.zip us) → Vals vs us → sp vs H Q E → codeAny (model P w) A (.call (.ref f) args) (CR (L2.CX P w) outer P w H s Q E) s
theorem FnX.mono {P : Program} {w : World} {K : PySem.W.Frag} {mg : Str → Option Value} {base : Heap} {j k : Nat} {f : Addr} {fd : FuncData} {ps : List Str} {sp : Sp} (F : FnX P w K mg base j f fd ps sp) (h : j ≤ k) :
    FnX P w K mg base k f fd ps sp := ⟨F.len, fun A q outer s H args us vs Q E hr => F.run A q outer s H args us vs Q E (hr.mono h)⟩
section
variable {P : Program} {w : World} {K : PySem.W.Frag} {mg : Str → Option Value} {base : Heap} {k : Nat} {f : Addr} {x qual : Str} {st : Stmt} {fd : FuncData} {N ps : List Str} {sp : Sp}
theorem fnX_ok (F : Fun K x qual st f fd) (S : FnScope N ps (defScope st)) (len : ∀ vs H Q E, sp vs H Q E → vs.length = ps.length)
    (hb : ∀ (cdv : Value) (A : Around), Quiet A → ∀ (outer : List PySem.Env) (s : Shared) (H : Hp) (vs : List V) (Q : VK) (E : XK), Room k (A.deeper (envOfC qual (defScope st) s.heap.objs.size f cdv)) → sp vs H Q E →
      ∃ t, PSs (cxOf (L2.CX P w) P w K mg base N qual (defScope st) f cdv A outer s H E) (defBody st) t ∧ t { nx := fun _ H' => Q .non H', rt := Q } (start N vs) H) :
    FnX P w K mg base (k + 1) f fd ps sp := by
  obtain ⟨oc, od, kV, doc, pm, an, cdv, ct, osl, rfl, lk, hcd⟩ := F.ex
  constructor
  · exact len
  intro A hq outer s H args us vs Q E hr e0 hbi r hsp
  have up : ∀ b o, base.get? b = some o → s.heap.get? b = some o := fun b o e => (e0.bs b o e).1
  have inK : K.In s.heap := e0.mod.kin.keeps up
  have hlim : s.heap.NoLimit := e0.mod.nolimit.keeps up
  refine codeAny_call_function hr.depth (inK _ _ lk) rfl S.co S.gen rfl (PySem.W.codeRec_of inK hcd) (hbi _ _ _ _ ?_)
  refine wpAny_newFunctionEnv_cells S.kind (fun y hy => ?_) fun env he s1 xx => ?_
  · rcases S.par y.1 (List.of_mem_zip (show (y.1, y.2) ∈ ps.zip us from hy)).1 with q | q
    · exact Or.inl q
    · exact Or.inr ⟨q, PySem.W.cellsFrom_some _ _ _ (Or.inl q)⟩
  · cases he
    refine ⟨hlim.keeps xx.toInCall.keep, codeAny_func ?_⟩
    obtain ⟨t, ht, hgoal⟩ := hb cdv A hq outer s H vs Q E (hr.deeper _) hsp
    refine wpAny_mono (ht.run [] s1 (start N vs) H _ (inv_start S hr.hd e0 (len _ _ _ _ hsp) r xx) hgoal) (fun fl s' hs => ?_) (fun _ _ z => z)
    cases fl with
    | brk => obtain ⟨_, _, _, z⟩ := hs; exact z.elim
    | cont => obtain ⟨_, _, _, z⟩ := hs; exact z.elim
    | next =>
      obtain ⟨_, H', J, z⟩ := hs
      exact ⟨V.non, H', J.os, J.bare, J.base, J.hok, rfl, z⟩
    | ret u =>
      obtain ⟨v, _, H', J, rv, z⟩ := hs
      exact ⟨v, H', J.os, J.bare, J.base, J.hok, rv, z⟩
end
section
variable {X : Cx} {k : Nat} {f C : Addr} {fd : FuncData} {ps : List Str} {sp : Sp} {W : WX} {x m : Str} {p pos apos : Pos} {e o : Expr} {es : List Expr} {t : TA}
theorem run_fnX {pins : List (Addr × Obj)} {σ : L2.St} {H : Hp} {s : Shared} {Q : VK} {us : List Value} {vs : List V} (hq : Quiet X.A) (F : FnX X.prog X.w X.K X.mg X.base k f fd ps sp) (hr : Room k X.A) (hb : Binds X.K fd ps []) (tk : Takes X W)
    (I : Inv X pins σ H s) (r : Vals vs us) (h : sp vs H Q (fun c d H' => W c d σ H')) : wpAny (model X.prog X.w) X.A (PySem.call (.ref f) us) (EP X pins σ Q) X.xe s := by
  have hl : (us ++ []).length = ps.length := by
    rw [List.append_nil, ← Paired.length r]
    exact F.len _ _ _ _ h
  have hb' := hb s us I.kIn hl
  rw [List.append_nil] at hb'
  refine wpAny_call (codeAny_mono (F.run X.A hq X.stack s H ⟨us, []⟩ us vs Q _ hr I.env0 hb' r h) fun r s' z => ?_)
  match r, z with
  | .error e, z => exact tk e s' (XE.of_call I (fun _ _ _ h => h) z)
  | .ok (.ret _), z => exact I.after z
  | .ok .next, z => exact z.elim
  | .ok .brk, z => exact z.elim
  | .ok .cont, z => exact z.elim
def tCallX (sp : Sp) (W : WX) (t : TA) : TE := fun σ H Q => t σ H fun vs H1 => sp vs H1 Q (fun c d H' => W c d σ H')
theorem pe_callX (hq : Quiet X.A) (F : FnX X.prog X.w X.K X.mg X.base k f fd ps sp) (hr : Room k X.A) (hg : Gl X x) (hm : X.mg x = some (.ref f)) (hk : PySem.W.keepIn X.K (.ref f) = true) (hb : Binds X.K fd ps []) (tk : Takes X W)
    (ha : PA X (e :: es) t) (hdb : (x == ("__debug__" : Str)) = false) (he : starEach (e :: es) X.env = (false, eval e X.env) :: starEach es X.env) (hpl : (backTo pos (starEach es X.env)).any (·.1) = false) :
    PE X (.Call (.Name x p) (e :: es) [] pos) (tCallX sp W t) := by
  constructor
  intro pins s σ H Q I h
  refine wpAny_Call_Name_kw (ld_glob I hg hm ?_ hdb)
  exact PySem.W.callWith_K (h₀ := X.base) I.ok.mod.kin hk (thn (ha.run pos pins s σ H _ I h) fun us s1 ⟨vs, H1, I1, r, q⟩ => ⟨I1.kIn, run_fnX hq F hr hb tk I1 r q⟩) he hpl
theorem pe_callX0 (hq : Quiet X.A) (F : FnX X.prog X.w X.K X.mg X.base k f fd ps sp) (hr : Room k X.A) (hg : Gl X x) (hm : X.mg x = some (.ref f)) (hk : PySem.W.keepIn X.K (.ref f) = true) (hb : Binds X.K fd ps []) (tk : Takes X W)
    (hdb : (x == ("__debug__" : Str)) = false) : PE X (.Call (.Name x p) [] [] pos) (tCallX sp W tNil) := by
  constructor
  intro pins s σ H Q I h
  refine wpAny_Call_Name_kw (ld_glob I hg hm ?_ hdb)
  exact PySem.W.callWith_K0 I.kIn hk (run_fnX (us := []) hq F hr hb tk I .nil h)
end

/-! ### readings of what the interpreter does -/
theorem _root_.L2.PE.imp {X : Cx} {e : Expr} {t t' : TE} (h : PE X e t) (i : ∀ σ H Q, t' σ H Q → t σ H Q) : PE X e t' := ⟨fun pins s σ H Q I q => h.run pins s σ H Q I (i _ _ _ q)⟩
theorem _root_.L2.PT.imp {X : Cx} {e : Expr} {t t' : TT} (h : PT X e t) (i : ∀ σ H Q, t' σ H Q → t σ H Q) : PT X e t' := ⟨fun pins s σ H Q I q => h.run pins s σ H Q I (i _ _ _ q)⟩
theorem _root_.L2.PW.imp {X : Cx} {e : Expr} {t t' : TT} (h : PW X e t) (i : ∀ σ H Q, t' σ H Q → t σ H Q) : PW X e t' := ⟨fun wh pins s σ H Q I q => h.run wh pins s σ H Q I (i _ _ _ q)⟩
theorem _root_.L2.PA.imp {X : Cx} {e : List Expr} {t t' : TA} (h : PA X e t) (i : ∀ σ H Q, t' σ H Q → t σ H Q) : PA X e t' := ⟨fun pos pins s σ H Q I q => h.run pos pins s σ H Q I (i _ _ _ q)⟩
theorem _root_.L2.PS.imp {X : Cx} {e : Stmt} {t t' : TS} (h : PS X e t) (i : ∀ D σ H, t' D σ H → t D σ H) : PS X e t' := ⟨fun pins s σ H D I q => h.run pins s σ H D I (i _ _ _ q)⟩
theorem _root_.L2.PSs.imp {X : Cx} {e : List Stmt} {t t' : TS} (h : PSs X e t) (i : ∀ D σ H, t' D σ H → t D σ H) : PSs X e t' := ⟨fun pins s σ H D I q => h.run pins s σ H D I (i _ _ _ q)⟩
theorem _root_.L2.PTs.imp {X : Cx} {e : List Expr} {t t' : TT} (h : PTs X e t) (i : ∀ σ H Q, t' σ H Q → t σ H Q) : PTs X e t' := ⟨fun pins s σ H Q I q => h.run pins s σ H Q I (i _ _ _ q)⟩

/-- an own exception class: its address, its fields' names -/
abbrev Cls := Nat → Addr × List Str
section
variable (K : PySem.W.Frag) (C : Cls)
/-- behind a value -/
def KV1 (H : Hp) (μ : Mu) (v : PV) (st : Sto) (Q : VK) : Prop := ∀ H' μ' x, Ext K H μ H' μ' → Hr K H' μ' st → RV K H' μ' v x → Q x H'
def KVs (H : Hp) (μ : Mu) (vs : List PV) (st : Sto) (Q : List V → Hp → Prop) : Prop := ∀ H' μ' xs, Ext K H μ H' μ' → Hr K H' μ' st → RVs K H' μ' vs xs → Q xs H'
/-- behind a test -/
def KB (H : Hp) (μ : Mu) (b : Bool) (st : Sto) (Q : Bool → Hp → Prop) : Prop := ∀ H' μ', Ext K H μ H' μ' → Hr K H' μ' st → Q b H'
/-- behind a statement -/
def KS (H : Hp) (μ : Mu) (n : Nat) (ρ : Env) (st : Sto) (Q : L2.St → Hp → Prop) : Prop := ∀ H' μ' σ', Ext K H μ H' μ' → Hr K H' μ' st → RE K H' μ' ρ σ' → Q σ' H'
/-- behind an exception -/
def KX (H : Hp) (μ : Mu) (c : Nat) (fs : List PV) (st : Sto) (Q : XK) : Prop :=
  ∀ H' μ' d xs, Ext K H μ H' μ' → Hr K H' μ' st → RVs K H' μ' fs xs → H' d = some (.xd ((C c).2.zip xs)) → Q (.ref (C c).1) (some d) H'

def tE (W : WX) (ev : Env → Sto → Out PV) : TE := fun σ H Q => ∃ μ ρ st, Hr K H μ st ∧ RE K H μ ρ σ ∧ match ev ρ st with
  | .ok v st' => KV1 K H μ v st' Q
  | .exc c fs st' => KX K C H μ c fs st' fun u d H2 => W u d σ H2
  | .stuck => False
end
end Pi
end
section
set_option Elab.async false
set_option linter.all false
set_option maxRecDepth 100000
set_option maxHeartbeats 4000000
namespace Pi
open PySem PySem.Spec PyProof.Rows L2
/-! what of the text the interpreter's own syntax stands for -/
structure FnI where
  name : Str
  ar : Nat
  N : List Str
  body : List S
structure Dat where
  fns : List FnI
  glb : List (Str × PV)
  cls : List (Str × List Str)
  gcd : Bool
/-- two values are the same, for sure -/
def sameL (f : PV → PV → Bool) : List PV → List PV → Bool
  | [], [] => true
  | x :: xs, y :: ys => f x y && sameL f xs ys
  | _, _ => false
def sameP : Nat → PV → PV → Bool
  | 0, _, _ => false
  | n + 1, p, q => match p, q with
    | .non, .non => true
    | .bl a, .bl b => a == b
    | .int a, .int b => decide (a = b)
    | .str a, .str b => decide (a = b)
    | .tup xs, .tup ys => sameL (sameP n) xs ys
    | _, _ => false
theorem sameL_eq {f : PV → PV → Bool} (h : ∀ x y, f x y = true → x = y) : ∀ {xs ys : List PV}, sameL f xs ys = true → xs = ys
  | [], [], _ => rfl
  | [], _ :: _, e => by simp [sameL] at e
  | _ :: _, [], e => by simp [sameL] at e
  | x :: xs, y :: ys, e => by
    simp only [sameL, Bool.and_eq_true] at e
    rw [h _ _ e.1, sameL_eq h e.2]
theorem sameP_eq : ∀ {n : Nat} {p q : PV}, sameP n p q = true → p = q
  | 0, _, _, h => by simp [sameP] at h
  | n + 1, p, q, h => by
    unfold sameP at h
    split at h
    · rfl
    · rw [eq_of_beq h]
    · rw [of_decide_eq_true h]
    · rw [of_decide_eq_true h]
    · rw [sameL_eq (fun x y e => sameP_eq e) h]
    · cases h
def glbB : List (Str × PV) → Str → PV → Bool
  | [], _, _ => false
  | (m, u) :: r, n, v => (decide (m = n) && sameP 9 u v) || glbB r n v
theorem glbB_mem {n : Str} {v : PV} : ∀ {l : List (Str × PV)}, glbB l n v = true → (n, v) ∈ l
  | [], h => by simp [glbB] at h
  | (m, u) :: r, h => by
    simp only [glbB, Bool.or_eq_true, Bool.and_eq_true, decide_eq_true_eq] at h
    rcases h with ⟨h1, h2⟩ | h
    · rw [h1, sameP_eq h2]; exact List.mem_cons_self
    · exact List.mem_cons_of_mem _ (glbB_mem h)
/-- no super() -/
def objB : Expr → Bool
  | .Name _ _ => true
  | .Subscript _ _ _ => true
  | .Call (.Attribute _ _ _) _ _ _ => true
  | _ => false
def tyN : TyK → Str
  | .int => "int" | .bool => "bool" | .tuple => "tuple" | .list => "list" | .str => "str" | .dict => "dict"
/-- how many arguments a method is given -/
def methOk : MM → Nat → Bool
  | .append, 1 => true
  | .extend, 1 => true
  | .pop, 0 => true
  | .setdefault, 2 => true
  | _, _ => false
def biOk : BI → Bool
  | .len => true | .tuple => true | .list => true | .sum => true | .any => true | .all => true | .max => true | .min => true | .abs => true | .int => true | _ => false
/-- no display of a set -/
def fsB : Expr → Bool
  | .Set _ _ _ => false
  | _ => true
def isOpB (n : Bool) : CmpOp := if n then .IsNot else .Is
def memOpB (n : Bool) : CmpOp := if n then .NotIn else .In
def biName : BI → Str
  | .len => "len" | .tuple => "tuple" | .list => "list" | .sum => "sum" | .any => "any" | .all => "all" | .max => "max" | .min => "min" | .abs => "abs" | .int => "int"
  | .sorted => "sorted" | .set => "set" | .gcd => "gcd" | .repr => "repr" | .str => "str"
def mmName : MM → Str
  | .append => "append" | .extend => "extend" | .pop => "pop" | .index => "index" | .reverse => "reverse" | .setdefault => "setdefault" | .get => "get" | .values => "values" | .items => "items"
def opOf : Op2 → Operator
  | .add => .Add | .sub => .Sub | .mul => .Mult | .fdiv => .FloorDiv | .mod => .Mod | .pow => .Pow
def cmOf : Cm → CmpOp
  | .eq => .Eq | .ne => .NotEq | .lt => .Lt | .le => .LtE | .gt => .Gt | .ge => .GtE
def isName (i : Str) : Expr → Bool
  | .Name x _ => decide (x = i)
  | _ => false
def glB (sc : Scope) (x : Str) : Bool := decide (sc.names.lookup x = some .globalImplicit) && !(x == ("__debug__" : Str))
def visB (sc : Scope) (x : Str) : Bool := (match sc.names.lookup x with
  | some .local => true
  | some .cell => true
  | some .free => true
  | _ => false) && !(x == ("__debug__" : Str)) && !(x == ("__classdict__" : Str))
def cstB : PV → Const → Bool
  | .non, .none => true
  | .bl b, .bool c => b == c
  | .int i, .int j => decide (i = j)
  | .str x, .str y => decide (x = y)
  | _, _ => false
/-- a store of a name: fs, the scope whose cells are this block's own -/
def locB (sc fs : Scope) (x : Str) : Bool := decide (sc.names.lookup x = some .local) || (decide (sc.names.lookup x = some .cell) && decide (fs.names.lookup x = some .cell))
mutual
def chkT (N : List Str) (sc fs : Scope) : TV → Expr → Bool
  | .var i, x => match x with
    | .Name n _ => decide (N[i]? = some n) && locB sc fs n
    | _ => false
  | .tup ts, x => match x with
    | .Tuple es _ _ => chkTs N sc fs ts es
    | _ => false
def chkTs (N : List Str) (sc fs : Scope) : List TV → List Expr → Bool
  | [], es => match es with
    | [] => true
    | _ => false
  | t :: ts, es => match es with
    | e :: es => chkT N sc fs t e && chkTs N sc fs ts es
    | _ => false
end
def isTuple : Expr → Bool
  | .Tuple _ _ _ => true
  | _ => false
def ownOf (N : List Str) (t : TV) : List (Str × Nat) := (slotsT t).map fun i => (N.getD i "", i)
/-- the written item of a subscript is no slice, no plain constant but an int -/
def ixB : Expr → Bool
  | .Constant (.int _) _ _ => true
  | .Constant (.str _) _ _ => true
  | .Name _ _ => true
  | .BinOp _ _ _ _ => true
  | .UnaryOp _ _ _ => true
  | .Call _ _ _ _ => true
  | .Subscript _ _ _ => true
  | _ => false
def notStar : Expr → Bool
  | .Starred _ _ => false
  | _ => true
theorem star_of {x : Expr} {xs : List Expr} {env : PySem.Env} (h : notStar x = true) : starEach (x :: xs) env = (false, eval x env) :: starEach xs env := by
  cases x <;> first | rfl | cases h
mutual
/-- as a test -/
def tstB : Expr → Bool
  | .BoolOp _ xs _ => tstBs xs
  | .UnaryOp .Not x _ => tstB x
  | .IfExp _ _ _ _ => false
  | .Name _ _ => true
  | .Call _ _ _ _ => true
  | .Subscript _ _ _ => true
  | .Compare _ [_] [_] _ => true
  | .Compare _ [_, _] [_, _] _ => true
  | _ => false
def tstBs : List Expr → Bool
  | [] => true
  | x :: xs => tstB x && tstBs xs
end
mutual
def chkE (D : Dat) (N : List Str) (sc : Scope) : E → Expr → Bool
  | .var i, x => match x with
    | .Name n _ => decide (N[i]? = some n) && visB sc n
    | _ => false
  | .cst v, x => match x with
    | .Constant c _ _ => cstB v c
    | _ => false
  | .glob v, x => match x with
    | .Name n _ => glB sc n && glbB D.glb n v
    | _ => false
  | .bad, _ => true
  | .tup es, x => match x with
    | .Tuple xs _ _ => chkEs D N sc es xs
    | _ => false
  | .lst _ es, x => match x with
    | .List xs _ => chkEs D N sc es xs
    | _ => false
  | .bin _ op a b, x => match x with
    | .BinOp y o z _ => decide (o = opOf op) && chkE D N sc a y && chkE D N sc b z
    | _ => false
  | .neg a, x => match x with
    | .UnaryOp .USub y _ => chkE D N sc a y
    | _ => false
  | .cmp op a b, x => match x with
    | .Compare y [o] [z] _ => decide (o = cmOf op) && chkE D N sc a y && chkE D N sc b z
    | _ => false
  | .chain o1 o2 a b c, x => match x with
    | .Compare y [p1, p2] [z, u] _ => decide (p1 = cmOf o1) && decide (p2 = cmOf o2) && chkE D N sc a y && chkE D N sc b z && chkE D N sc c u
    | _ => false
  | .is n a v, x => match x with
    | .Compare y [o] [.Constant k _ _] _ => decide (o = isOpB n) && cstB v k && chkE D N sc a y
    | _ => false
  | .mem n a b, x => match x with
    | .Compare y [o] [z] _ => decide (o = memOpB n) && (behindInMarks o z == false) && chkE D N sc a y && chkE D N sc b z
    | _ => false
  | .and es, x => match x with
    | .BoolOp .And xs _ => chkEs D N sc es xs && !es.isEmpty
    | _ => false
  | .or es, x => match x with
    | .BoolOp .Or xs _ => chkEs D N sc es xs && !es.isEmpty
    | _ => false
  | .not a, x => match x with
    | .UnaryOp .Not y _ => chkE D N sc a y
    | _ => false
  | .ifx c a b, x => match x with
    | .IfExp u y z _ => tstB u && chkE D N sc c u && chkE D N sc a y && chkE D N sc b z
    | _ => false
  | .call f es, x => match x with
    | .Call (.Name n _) xs [] _ => (match D.fns[f]? with
      | some fi => decide (n = fi.name)
      | none => false) && glB sc n && chkEs D N sc es xs
    | _ => false
  | .bi _ b es, x => match x with
    | .Call (.Name n _) xs [] _ => decide (n = biName b) && glB sc n && chkEs D N sc es xs && !es.isEmpty && (biOk b || (D.gcd && (match b with
      | .gcd => true
      | _ => false)) || (match b with
      | .repr => es.length == 1
      | .sorted => es.length == 1
      | _ => false))
    | _ => false
  | .isi a t, x => match x with
    | .Call (.Name n _) [y, .Name m _] [] _ => decide (n = "isinstance") && glB sc n && decide (m = tyN t) && glB sc m && notStar y && chkE D N sc a y
    | _ => false
  | .meth m o es, x => match x with
    | .Call (.Attribute y n p) xs [] pos => decide (n = mmName m) && objB y && (p.endLine == pos.line) && methOk m es.length && chkE D N sc o y && chkEs D N sc es xs
    | _ => false
  | .idx o i, x => match x with
    | .Subscript y z _ => ixB z && chkE D N sc o y && chkE D N sc i z
    | _ => false
  | .slc _ o lo hi, x => match x with
    | .Subscript y (.Slice l h none _) _ => chkE D N sc o y && chkO D N sc lo l && chkO D N sc hi h
    | _ => false
  | .comp _ t k es ifs elt, x => match x with
    | .ListComp y [c] scope _ => decide (c.is_async = 0) && chkI D N sc k c.target es c.iter && fsB c.iter && blkC N sc scope (ownOf N t) && chkT N scope scope t c.target && chkIf D N scope ifs c.ifs && chkE D N scope elt y
    | _ => false
  | .dct deep ks vs, x => match x with
    | .Dict xs ys _ => chkKs D N sc ks xs && chkEs D N sc vs ys && (ks.length == vs.length) && decide (ks.length ≤ 15) && (!deep || ks.isEmpty)
    | _ => false
  | .dcomp t k es ifs ke ve, x => match x with
    | .DictComp y1 y2 [c] scope _ => decide (c.is_async = 0) && chkI D N sc k c.target es c.iter && fsB c.iter && blkC N sc scope (ownOf N t) && chkT N scope scope t c.target && chkIf D N scope ifs c.ifs && chkE D N scope ke y1 && chkE D N scope ve y2
    | _ => false
  | .lzip _ a b, x => match x with
    | .Call (.Name n _) [.Call (.Name m _) [y, z] [] _] [] _ => decide (n = "list") && glB sc n && decide (m = "zip") && glB sc m && notStar y && notStar z && chkE D N sc a y && chkE D N sc b z
    | _ => false
  | .lrange _ a, x => match x with
    | .Call (.Name n _) [.Call (.Name m _) [y] [] _] [] _ => decide (n = "list") && glB sc n && decide (m = "range") && glB sc m && notStar y && chkE D N sc a y
    | _ => false
  | .zipstar _ a, x => match x with
    | .Call (.Name n _) [.Call (.Name m _) [.Starred y _] [] _] [] _ => decide (n = "list") && glB sc n && decide (m = "zip") && glB sc m && chkE D N sc a y
    | _ => false
  | .lvals _ a, x => match x with
    | .Call (.Name n _) [.Call (.Attribute y m p) [] [] pos] [] _ => decide (n = "list") && glB sc n && decide (m = "values") && objB y && (p.endLine == pos.line) && chkE D N sc a y
    | _ => false
  | .srtset _ a, x => match x with
    | .Call (.Name n _) [.Call (.Name m _) [y] [] _] [] _ => decide (n = "sorted") && glB sc n && decide (m = "set") && glB sc m && notStar y && chkE D N sc a y
    | _ => false
  | .srtcomp _ t1 e1 t2 e2 ifs elt, x => match x with
    | .Call (.Name n _) [.SetComp y [c1, c2] scope _] [] _ => decide (n = "sorted") && glB sc n && decide (c1.is_async = 0) && decide (c2.is_async = 0) && c1.ifs.isEmpty && chkE D N sc e1 c1.iter && fsB c1.iter && fsB c2.iter && blkC N sc scope (ownOf N (.tup [t1, t2])) && chkT N scope scope t1 c1.target && chkE D N scope e2 c2.iter && chkT N scope scope t2 c2.target && chkIf D N scope ifs c2.ifs && chkE D N scope elt y
    | _ => false
  | .lidx o a, x => match x with
    | .Call (.Attribute y n p) [z] [] pos => decide (n = "index") && objB y && (p.endLine == pos.line) && notStar z && chkE D N sc o y && chkE D N sc a z
    | _ => false
  | .two a, x => match x with
    | .Subscript y (.Slice none none (some (.Constant (.int i) _ _)) _) _ => decide (i = 2) && chkE D N sc a y
    | _ => false
  | .comp2 _ t1 e1 t2 e2 ifs elt, x => match x with
    | .ListComp y [c1, c2] scope _ => decide (c1.is_async = 0) && decide (c2.is_async = 0) && c1.ifs.isEmpty && chkE D N sc e1 c1.iter && fsB c1.iter && fsB c2.iter && blkC N sc scope (ownOf N (.tup [t1, t2])) && chkT N scope scope t1 c1.target && chkE D N scope e2 c2.iter && chkT N scope scope t2 c2.target && chkIf D N scope ifs c2.ifs && chkE D N scope elt y
    | _ => false
  | _, _ => false
/-- the keys of a display -/
def chkKs (D : Dat) (N : List Str) (sc : Scope) : List E → List (Option Expr) → Bool
  | [], xs => match xs with
    | [] => true
    | _ => false
  | e :: es, xs => match xs with
    | some x :: xs => chkE D N sc e x && chkKs D N sc es xs
    | _ => false
def chkEs (D : Dat) (N : List Str) (sc : Scope) : List E → List Expr → Bool
  | [], xs => match xs with
    | [] => true
    | _ => false
  | e :: es, xs => match xs with
    | x :: xs => notStar x && chkE D N sc e x && chkEs D N sc es xs
    | _ => false
/-- an end of a slice -/
def chkO (D : Dat) (N : List Str) (sc : Scope) : Option E → Option Expr → Bool
  | none, x => match x with
    | none => true
    | _ => false
  | some e, x => match x with
    | some y => chkE D N sc e y
    | _ => false
/-- what a loop walks -/
def chkI (D : Dat) (N : List Str) (sc : Scope) (k : SK) (tg : Expr) : List E → Expr → Bool
  | [], _ => false
  | e :: es, it => match k, es, it with
    | .it, [], it => chkE D N sc e it
    | .enum, [], .Call (.Name n _) [a] [] _ => decide (n = "enumerate") && glB sc n && isTuple tg && notStar a && chkE D N sc e a
    | .rev, [], .Call (.Name n _) [a] [] _ => decide (n = "reversed") && glB sc n && notStar a && chkE D N sc e a
    | .range, [], .Call (.Name n _) [a] [] _ => decide (n = "range") && glB sc n && notStar a && chkE D N sc e a
    | .range, [f], .Call (.Name n _) [a, b] [] _ => decide (n = "range") && glB sc n && notStar a && notStar b && chkE D N sc e a && chkE D N sc f b
    | .vals, [], .Call (.Attribute y n p) [] [] pos => decide (n = "values") && objB y && (p.endLine == pos.line) && chkE D N sc e y
    | .zip, [f], .Call (.Name n _) [a, b] [] _ => decide (n = "zip") && glB sc n && isTuple tg && notStar a && notStar b && chkE D N sc e a && chkE D N sc f b
    | _, _, _ => false
/-- a comprehension's tests -/
def chkIf (D : Dat) (N : List Str) (sc : Scope) : List E → List Expr → Bool
  | [], xs => match xs with
    | [] => true
    | _ => false
  | e :: es, xs => match es, xs with
    | [], [x] => tstB x && chkE D N sc e x
    | _, _ => false
end
end Pi
end
section
set_option Elab.async false
set_option linter.all false
set_option maxRecDepth 100000
set_option maxHeartbeats 4000000
namespace Pi
open PySem PySem.Spec PyProof.Rows L2
section
variable {K : PySem.W.Frag} {C : Cls} {W : WX} {α β γ δ : Type} {σ : L2.St} {H H1 : Hp} {μ μ1 : Mu}
/-- what is wanted behind a step that gives a, of which the machine's b tells -/
def Th (K : PySem.W.Frag) (C : Cls) (W : WX) (rel : Hp → Mu → α → β → Prop) (o : Out α) (σ : L2.St) (H : Hp) (μ : Mu) (Q : β → Hp → Prop) : Prop :=
  match o with
  | .ok a st => ∀ H' μ' b, Ext K H μ H' μ' → Hr K H' μ' st → rel H' μ' a b → Q b H'
  | .exc c fs st => KX K C H μ c fs st fun u d H' => W u d σ H'
  | .stuck => False
theorem KX.ext {c : Nat} {fs : List PV} {st : Sto} {Q : XK} (x : Ext K H μ H1 μ1) (h : KX K C H μ c fs st Q) : KX K C H1 μ1 c fs st Q := fun H' μ' d xs e => h H' μ' d xs (x.trans e)
theorem Th.ext {rel : Hp → Mu → α → β → Prop} {o : Out α} {Q : β → Hp → Prop} (x : Ext K H μ H1 μ1) (h : Th K C W rel o σ H μ Q) : Th K C W rel o σ H1 μ1 Q := by
  cases o with
  | ok a st => exact fun H' μ' b e => h H' μ' b (x.trans e)
  | exc c fs st => unfold Th at h ⊢; exact KX.ext (C := C) x h
  | stuck => exact h
theorem Th.imp {rel : Hp → Mu → α → β → Prop} {o : Out α} {Q Q' : β → Hp → Prop} (i : ∀ b H', Q b H' → Q' b H') (h : Th K C W rel o σ H μ Q) : Th K C W rel o σ H μ Q' := by
  cases o with
  | ok a st => exact fun H' μ' b e r z => i _ _ (h H' μ' b e r z)
  | exc c fs st => exact h
  | stuck => exact h
/-- one step, then the next -/
theorem Th.bind {rel : Hp → Mu → α → β → Prop} {rel' : Hp → Mu → γ → δ → Prop} {o : Out α} {f : α → Sto → Out γ} {Q : δ → Hp → Prop} (h : Th K C W rel' (o.bind f) σ H μ Q) :
    Th K C W rel o σ H μ (fun b H1 => ∃ μ1 a st1, Ext K H μ H1 μ1 ∧ Hr K H1 μ1 st1 ∧ rel H1 μ1 a b ∧ Th K C W rel' (f a st1) σ H1 μ1 Q) := by
  cases o with
  | ok a st => exact fun H' μ' b e r z => ⟨μ', a, st, e, r, z, Th.ext e h⟩
  | exc c fs st => exact h
  | stuck => exact h
/-- a step that gives a, without an exception -/
theorem Th.ok {rel : Hp → Mu → α → β → Prop} {a : α} {st : Sto} {Q : β → Hp → Prop} {b : β} (h : Th K C W rel (.ok a st) σ H μ Q) (hr : Hr K H μ st) (r : rel H μ a b) : Q b H := h H μ b .refl hr r
def relB : Hp → Mu → Bool → Bool → Prop := fun _ _ a b => a = b

def gE (K : PySem.W.Frag) (C : Cls) (W : WX) (ev : Env → Sto → Out PV) : TE := fun σ H Q => ∃ μ ρ st, Hr K H μ st ∧ RE K H μ ρ σ ∧ Th K C W (RV K) (ev ρ st) σ H μ Q
def gA (K : PySem.W.Frag) (C : Cls) (W : WX) (ev : Env → Sto → Out (List PV)) : TA := fun σ H Q => ∃ μ ρ st, Hr K H μ st ∧ RE K H μ ρ σ ∧ Th K C W (RVs K) (ev ρ st) σ H μ Q
def gT (K : PySem.W.Frag) (C : Cls) (W : WX) (ev : Env → Sto → Out Bool) : TT := fun σ H Q => ∃ μ ρ st, Hr K H μ st ∧ RE K H μ ρ σ ∧ Th K C W relB (ev ρ st) σ H μ Q
theorem gE.imp {ev : Env → Sto → Out PV} {Q Q' : VK} (i : ∀ b H', Q b H' → Q' b H') (h : gE K C W ev σ H Q) : gE K C W ev σ H Q' := let ⟨μ, ρ, st, a, b, c⟩ := h; ⟨μ, ρ, st, a, b, c.imp i⟩
theorem gA.imp {ev : Env → Sto → Out (List PV)} {Q Q' : List V → Hp → Prop} (i : ∀ b H', Q b H' → Q' b H') (h : gA K C W ev σ H Q) : gA K C W ev σ H Q' := let ⟨μ, ρ, st, a, b, c⟩ := h; ⟨μ, ρ, st, a, b, c.imp i⟩

/-- two operands, then an operator -/
theorem gE.two {ea eb : Env → Sto → Out PV} {f : PV → PV → Sto → Out PV} {Q : VK} (h : gE K C W (fun ρ st => (ea ρ st).bind fun x st => (eb ρ st).bind fun y st => f x y st) σ H Q) :
    gE K C W ea σ H fun x H1 => gE K C W eb σ H1 fun y H2 => ∃ μ st p q, Hr K H2 μ st ∧ RV K H2 μ p x ∧ RV K H2 μ q y ∧ Th K C W (RV K) (f p q st) σ H2 μ Q := by
  obtain ⟨μ, ρ, st, hr, he, h⟩ := h
  refine ⟨μ, ρ, st, hr, he, (Th.bind (rel := RV K) h).imp ?_⟩
  rintro x H1 ⟨μ1, p, st1, e1, hr1, r1, h1⟩
  refine ⟨μ1, ρ, st1, hr1, he.ext e1, (Th.bind (rel := RV K) h1).imp ?_⟩
  rintro y H2 ⟨μ2, q, st2, e2, hr2, r2, h2⟩
  exact ⟨μ2, st2, p, q, hr2, r1.ext e2, r2, h2⟩
theorem gE.one {ea : Env → Sto → Out PV} {f : PV → Sto → Out PV} {Q : VK} (h : gE K C W (fun ρ st => (ea ρ st).bind fun x st => f x st) σ H Q) :
    gE K C W ea σ H fun x H1 => ∃ μ st p, Hr K H1 μ st ∧ RV K H1 μ p x ∧ Th K C W (RV K) (f p st) σ H1 μ Q := by
  obtain ⟨μ, ρ, st, hr, he, h⟩ := h
  refine ⟨μ, ρ, st, hr, he, (Th.bind (rel := RV K) h).imp ?_⟩
  rintro x H1 ⟨μ1, p, st1, e1, hr1, r1, h1⟩
  exact ⟨μ1, st1, p, hr1, r1, h1⟩
theorem gE.args {ea : Env → Sto → Out (List PV)} {f : List PV → Sto → Out PV} {Q : VK} (h : gE K C W (fun ρ st => (ea ρ st).bind fun x st => f x st) σ H Q) :
    gA K C W ea σ H fun xs H1 => ∃ μ st ps, Hr K H1 μ st ∧ RVs K H1 μ ps xs ∧ Th K C W (RV K) (f ps st) σ H1 μ Q := by
  obtain ⟨μ, ρ, st, hr, he, h⟩ := h
  refine ⟨μ, ρ, st, hr, he, (Th.bind (rel := RVs K) h).imp ?_⟩
  rintro x H1 ⟨μ1, p, st1, e1, hr1, r1, h1⟩
  exact ⟨μ1, st1, p, hr1, r1, h1⟩

/-! ### what a context is known of -/
structure GX (P : Program) (w : World) (K : PySem.W.Frag) (mg : Str → Option Value) (k : Nat) (X : Cx) (N : List Str) (sc fs : Scope) (W : WX) : Prop where
  eP : X.prog = P
  ew : X.w = w
  eK : X.K = K
  em : X.mg = mg
  nm : X.N = N
  nd : X.N.Nodup
  scp : X.env.scope = sc
  fn : ∀ x, fs.names.lookup x = some .cell → X.fn x = true
  calm : X.calm = true
  quiet : Quiet X.A
  room : Room k X.A
  tk : Takes X W
  po : PassesOwn (model X.prog X.w) X.A X.env X.xe
end

section
variable {X : Cx} {C : Cls} {W : WX} {a b c : Expr} {ea eb ec : Env → Sto → Out PV} {pos : Pos}
/-! ### names, constants -/
theorem g_var {i : Nat} {n : Str} (hN : X.N[i]? = some n) (hv : visB X.env.scope n = true) : PE X (.Name n pos) (gE X.K C W fun ρ st => Out.of ((nth ρ i).bind id) st) := by
  unfold visB at hv
  simp only [Bool.and_eq_true, Bool.not_eq_true'] at hv
  obtain ⟨⟨hv, h1⟩, h2⟩ := hv
  have v : Vis X.env.scope n := by
    unfold Vis
    split at hv <;> first | exact .inl (by assumption) | exact .inr (.inl (by assumption)) | exact .inr (.inr (by assumption)) | cases hv
  refine (pe_var hN v h1 h2).imp ?_
  rintro σ H Q ⟨μ, ρ, st, hr, he, h⟩
  dsimp only at h
  rw [nth_eq] at h
  cases e : ρ[i]? with
  | none => rw [e] at h; exact h.elim
  | some o =>
    cases o with
    | none => rw [e] at h; exact h.elim
    | some p =>
      rw [e] at h
      obtain ⟨v, e1, r⟩ := he.2 i p e
      exact ⟨v, e1, h.ok hr r⟩
theorem g_cst {v : PV} {k : Const} {j : Nat} (h : cstB v k = true) : PE X (.Constant k j pos) (gE X.K C W fun _ st => .ok v st) := by
  cases v <;> cases k <;> first | cases h | skip
  · exact pe_non.imp fun σ H Q ⟨μ, ρ, st, hr, he, z⟩ => z.ok hr .non
  · have e := eq_of_beq (show (_ == _) = true from h)
    subst e
    exact pe_bl.imp fun σ H Q ⟨μ, ρ, st, hr, he, z⟩ => z.ok hr (.bl _)
  · have e := of_decide_eq_true (show decide _ = true from h)
    subst e
    exact pe_int.imp fun σ H Q ⟨μ, ρ, st, hr, he, z⟩ => z.ok hr (.int _)
  · have e := of_decide_eq_true (show decide _ = true from h)
    subst e
    exact pe_str.imp fun σ H Q ⟨μ, ρ, st, hr, he, z⟩ => z.ok hr (.str _)
end
end Pi
end
section
set_option Elab.async false
set_option linter.all false
set_option maxRecDepth 100000
set_option maxHeartbeats 4000000
namespace Pi
open PySem PySem.Spec PyProof.Rows L2
section
variable {X : Cx} {C : Cls} {W : WX} {a b c : Expr} {ea eb ec : Env → Sto → Out PV} {pos : Pos} {D : Dat} {N : List Str} {sc : Scope} {R : Ops}
abbrev SoundE (X : Cx) (C : Cls) (W : WX) (D : Dat) (N : List Str) (sc : Scope) (R : Ops) : Prop := ∀ e x, chkE D N sc e x = true → PE X x (gE X.K C W (R.e e))
abbrev SoundT (X : Cx) (C : Cls) (W : WX) (D : Dat) (N : List Str) (sc : Scope) (R : Ops) : Prop := ∀ e x, chkE D N sc e x = true → tstB x = true → PT X x (gT X.K C W (evT R e))
/-! ### argument lists -/
theorem g_args (S : SoundE X C W D N sc R) : ∀ {es : List E} {xs : List Expr}, chkEs D N sc es xs = true → PA X xs (gA X.K C W (evEs R es))
  | [], xs, h => by
    cases xs with
    | cons _ _ => simp [chkEs] at h
    | nil => exact pa_nil.imp fun σ H Q ⟨μ, ρ, st, hr, he, z⟩ => z.ok hr .nil
  | e :: es, xs, h => by
    cases xs with
    | nil => simp [chkEs] at h
    | cons x xs =>
      simp only [chkEs, Bool.and_eq_true] at h
      obtain ⟨⟨h1, h2⟩, h3⟩ := h
      refine (pa_cons (S e x h2) (g_args S h3) (star_of h1)).imp ?_
      rintro σ H Q ⟨μ, ρ, st, hr, he, z⟩
      refine ⟨μ, ρ, st, hr, he, (Th.bind (rel := RV X.K) z).imp ?_⟩
      rintro v H1 ⟨μ1, p, st1, e1, hr1, r1, z1⟩
      refine ⟨μ1, ρ, st1, hr1, he.ext e1, (Th.bind (rel := RVs X.K) z1).imp ?_⟩
      rintro vs H2 ⟨μ2, ps, st2, e2, hr2, r2, z2⟩
      exact z2.ok hr2 (.cons (r1.ext e2) r2)
/-- no written argument is starred -/
theorem stars_of : ∀ {es : List E} {xs : List Expr} {env : PySem.Env} {p : Pos}, chkEs D N sc es xs = true → (backTo p (starEach xs env)).any (·.1) = false
  | [], xs, env, p, h => by
    cases xs with
    | cons _ _ => simp [chkEs] at h
    | nil => rfl
  | e :: es, xs, env, p, h => by
    cases xs with
    | nil => simp [chkEs] at h
    | cons x xs =>
      simp only [chkEs, Bool.and_eq_true] at h
      obtain ⟨⟨h1, h2⟩, h3⟩ := h
      rw [star_of h1]
      have ih := stars_of (env := env) (p := p) h3
      show (backTo p ((false, eval x env) :: starEach xs env)).any (·.1) = false
      unfold backTo at ih ⊢
      simp only [List.map_cons, List.any_cons, Bool.false_or] at ih ⊢
      exact ih
theorem evEs_length {es : List E} : ∀ {ρ : Env} {st st' : Sto} {vs : List PV}, evEs R es ρ st = .ok vs st' → vs.length = es.length := by
  induction es with
  | nil => intro ρ st st' vs h; cases h; rfl
  | cons e es ih =>
    intro ρ st st' vs h
    unfold evEs at h
    cases h1 : R.e e ρ st with
    | ok v st1 =>
      rw [h1] at h
      simp only [Out.bind] at h
      cases h2 : evEs R es ρ st1 with
      | ok us st2 => rw [h2] at h; cases h; simp [ih h2]
      | exc _ _ _ => rw [h2] at h; cases h
      | stuck => rw [h2] at h; cases h
    | exc _ _ _ => rw [h1] at h; cases h
    | stuck => rw [h1] at h; cases h

/-! ### displays -/
theorem g_tup {xs : List Expr} {k : Nat} {ev : Env → Sto → Out (List PV)} (h : PA X xs (gA X.K C W ev)) : PE X (.Tuple xs k pos) (gE X.K C W fun ρ st => (ev ρ st).bind fun vs st => if fitLen vs.length then .ok (.tup vs) st else .stuck) := by
  refine (pe_tup h).imp fun σ H Q q => gA.imp ?_ (gE.args q)
  rintro vs H1 ⟨μ, st, ps, hr, r, z⟩
  split at z
  · rename_i hl
    refine ⟨by rw [← r.length]; exact Nat.le_of_ble_eq_true hl, fun p np => ?_⟩
    exact z (upd H1 p (.tup vs)) μ (.ref p) (Ext.made np) (hr.made np) (RV.tupMade (st := st) np r)
  · exact z.elim
/-- a store with a new list -/
theorem Hr.new {K : PySem.W.Frag} {H : Hp} {μ : Mu} {st : Sto} {p : Addr} {vs : List V} {ps : List PV} (h : Hr K H μ st) (np : H p = none) (r : RVs K H μ ps vs) :
    Hr K (upd H p (.lst vs)) (muNew μ st.next p) (st.new (.lst ps)) := by
  have e := Ext.loc (K := K) (o := .lst vs) h np
  have old : ∀ {n a}, μ n = some a → muNew μ st.next p n = some a := fun {n a} q => e.mu n a q
  have inv : ∀ {n a}, muNew μ st.next p n = some a → (n = st.next ∧ a = p) ∨ (n ≠ st.next ∧ μ n = some a) := fun {n a} q => by
    by_cases z : n = st.next
    · subst z; rw [muNew_same] at q; cases q; exact .inl ⟨rfl, rfl⟩
    · rw [muNew_ne z] at q; exact .inr ⟨z, q⟩
  refine ⟨fun n m a q1 q2 => ?_, fun n a q => ?_, fun n a q => ?_, ?_, fun n a q => ?_, fun a q => ?_, fun n o q => ?_⟩
  · rcases inv q1 with ⟨rfl, rfl⟩ | ⟨n1, w1⟩ <;> rcases inv q2 with ⟨rfl, z⟩ | ⟨n2, w2⟩
    · rfl
    · exact absurd w2 (h.free np m)
    · exact absurd (z ▸ w1) (h.free np n)
    · exact h.inj n m a w1 w2
  · rcases inv q with ⟨rfl, rfl⟩ | ⟨_, q⟩
    · rw [upd_same]; simp
    · have := h.trk n a q
      by_cases z : a = p
      · subst z; rw [upd_same]; simp
      · rw [upd_ne z]; exact this
  · rcases inv q with ⟨rfl, rfl⟩ | ⟨_, q⟩
    · exact Nat.lt_succ_self _
    · exact Nat.lt_succ_of_lt (h.low n a q)
  · refine List.pairwise_cons.mpr ⟨fun b hb => ?_, h.des⟩
    obtain ⟨a, e1, _⟩ := h.obj b.1 b.2 (getO_of_mem h.des hb)
    exact h.low _ _ e1
  · rcases inv q with ⟨rfl, rfl⟩ | ⟨_, q⟩
    · exact h.freeP np
    · exact h.prv n a q
  · obtain ⟨xs, w, c⟩ := h.prT a q
    exact ⟨xs, by rw [upd_ne (ne_of_none w np)]; exact w, c⟩
  · unfold Sto.get Sto.new at q
    simp only [getO] at q
    cases z : Nat.beq st.next n with
    | true =>
      have e' := Nat.eq_of_beq_eq_true z
      subst e'
      rw [z] at q
      cases q
      exact ⟨p, muNew_same, vs, upd_same, r.ext e⟩
    | false =>
      rw [z, cond_false] at q
      obtain ⟨a, e1, e2⟩ := h.obj n o q
      refine ⟨a, old e1, ?_⟩
      obtain ⟨w, e3⟩ := e2.some
      exact e2.wk e.toWk (upd_ne (ne_of_none e3 np))
/-- a new list, of either kind -/
theorem mkL_ok {l : Bool} {σ : L2.St} {H : Hp} {μ : Mu} {st : Sto} {ps : List PV} {vs : List V} {p : Addr} {Q : VK} {K : PySem.W.Frag} (z : Th K C W (RV K) (mkL l ps st) σ H μ Q) (hr : Hr K H μ st) (r : RVs K H μ ps vs) (np : H p = none) :
    Q (.ref p) (upd H p (.lst vs)) := by
  cases l with
  | true => exact z (upd H p (.lst vs)) (muNew μ st.next p) (.ref p) (Ext.loc hr np) (hr.new np r) (.loc muNew_same)
  | false => exact z (upd H p (.lst vs)) μ (.ref p) (Ext.made np) (hr.made np) (RV.lstMade hr np r)
theorem g_lst {l : Bool} {xs : List Expr} {ev : Env → Sto → Out (List PV)} (h : PA X xs (gA X.K C W ev)) : PE X (.List xs pos) (gE X.K C W fun ρ st => (ev ρ st).bind fun vs st => if fitLen vs.length then mkL l vs st else .stuck) := by
  refine (pe_lst h).imp fun σ H Q q => gA.imp ?_ (gE.args q)
  rintro vs H1 ⟨μ, st, ps, hr, r, z⟩
  split at z
  · rename_i hl
    exact ⟨by rw [← r.length]; exact Nat.le_of_ble_eq_true hl, fun p np => mkL_ok z hr r np⟩
  · exact z.elim
end
/-! ### lists by the store -/
theorem Hr.lst {K : PySem.W.Frag} {H : Hp} {μ : Mu} {st : Sto} {n : Nat} {a : Addr} {ps : List PV} (h : Hr K H μ st) (g : st.get n = some (.lst ps)) (m : μ n = some a) : ∃ vs, H a = some (.lst vs) ∧ RVs K H μ ps vs := by
  obtain ⟨b, e1, e2⟩ := h.obj n _ g
  rw [m] at e1
  cases e1
  exact e2
theorem list_of {K : PySem.W.Frag} {H : Hp} {μ : Mu} {st : Sto} {p : PV} {x : V} {ps : List PV} (h : Hr K H μ st) (r : RV K H μ p x) (e : listOf st p = some ps) : ∃ a vs, x = .ref a ∧ Sx K H a vs ∧ RVs K H μ ps vs := by
  cases r with
  | lst hl rs => cases e; exact ⟨_, _, rfl, hl.sx, rs⟩
  | @loc n a m =>
    unfold listOf at e
    cases g : st.get n with
    | none => simp [g] at e
    | some o =>
      cases o with
      | lst xs =>
        simp [g] at e
        subst e
        obtain ⟨vs, e1, e2⟩ := h.lst g m
        exact ⟨a, vs, rfl, .inl (.inl e1), e2⟩
      | dct _ _ => simp [g] at e
  | _ => cases e
theorem items_of {K : PySem.W.Frag} {H : Hp} {μ : Mu} {st : Sto} {p : PV} {x : V} {ps : List PV} (h : Hr K H μ st) (r : RV K H μ p x) (e : itemsOf st p = some ps) : ∃ a vs, x = .ref a ∧ (Sx K H a vs ∨ SqT K H a vs) ∧ RVs K H μ ps vs := by
  cases r with
  | tup hl rs => cases e; exact ⟨_, _, rfl, .inr hl, rs⟩
  | lst hl rs => cases e; exact ⟨_, _, rfl, .inl hl.sx, rs⟩
  | @loc n a m =>
    obtain ⟨a, vs, h1, h2, h3⟩ := list_of h (.loc m) (show listOf st (.loc n) = some ps from e)
    exact ⟨a, vs, h1, .inl h2, h3⟩
  | _ => cases e
end Pi
end
section
set_option Elab.async false
set_option linter.all false
set_option maxRecDepth 100000
set_option maxHeartbeats 4000000
/-! t * n for every tuple and every int -/
namespace Pi
open PySem PySem.Spec PyProof.Rows L2
theorem tuple_mulSame (l : Addr) (items : Array Value) (n : Nat) (dd : Option Addr) (sl : Array (Option Value)) (x : Int) (u : Tok) (c0 : (decide (x < -(2 ^ 63)) || decide (x ≥ 2 ^ 63)) = false) (c1 : (items.isEmpty || x == 1) = true) :
    Meets (Builtin.«tuple.__mul__» ⟨[.ref l, .int x u], []⟩) (fun _ R s => s.heap.get? l = some { cls := .type "tuple", dict := dd, data := .seq items n, slots := sl } ∧ R (.ok (.ret (Value.ref l))) s) :=
  .of_wp fun prog w A R s h => by
    obtain ⟨hp, g, d, tk, os⟩ := s
    obtain ⟨hl, h⟩ := h
    have f1 := AutoSeq1.idx_int
    wp_walk using wpAny_loadPart' hl
    repeat (first
      | (refine wpAny_ite_false (decide_eq_false (by rw [c0]; exact Bool.false_ne_true)) ?_; wp_walk using wpAny_loadPart' hl)
      | (refine wpAny_ite_true (decide_eq_true (by rw [c1])) ?_; wp_walk using wpAny_loadPart' hl))
    exact ⟨_, rfl, h⟩
theorem tuple_mulNone (l : Addr) (items : Array Value) (n : Nat) (dd : Option Addr) (sl : Array (Option Value)) (x : Int) (u : Tok) (c0 : (decide (x < -(2 ^ 63)) || decide (x ≥ 2 ^ 63)) = false) (c1 : (items.isEmpty || x == 1) = false) (c2 : (decide (x ≤ 0) || items.isEmpty) = true) :
    Meets (Builtin.«tuple.__mul__» ⟨[.ref l, .int x u], []⟩) (fun _ R s => s.heap.get? l = some { cls := .type "tuple", dict := dd, data := .seq items n, slots := sl } ∧ R (.ok (.ret (Value.ref s.heap.objs.size))) { s with heap := s.heap.push { cls := Value.type "tuple", data := Data.seq #[] }, toks := s.toks }) :=
  .of_wp fun prog w A R s h => by
    obtain ⟨hp, g, d, tk, os⟩ := s
    obtain ⟨hl, h⟩ := h
    have f1 := AutoSeq1.idx_int
    wp_walk using wpAny_loadPart' hl
    repeat (first
      | (refine wpAny_ite_false (decide_eq_false (by rw [c0]; exact Bool.false_ne_true)) ?_; wp_walk using wpAny_loadPart' hl)
      | (refine wpAny_ite_false (decide_eq_false (by rw [c1]; exact Bool.false_ne_true)) ?_; wp_walk using wpAny_loadPart' hl)
      | (refine wpAny_ite_true (decide_eq_true (by rw [c2])) ?_; wp_walk using wpAny_loadPart' hl))
    exact ⟨_, rfl, h⟩
def rRepAny (K : PySem.W.Frag) : R2 := fun x y H Q => ∃ l k xs, x = .ref l ∧ y = .int k ∧ SqT K H l xs ∧ -(2 ^ 63) ≤ k ∧ k < 2 ^ 63 ∧ xs.length * k.toNat ≤ sizeLine ∧
  ((xs = [] ∨ k = 1) → Q (.ref l) H) ∧ (¬ (xs = [] ∨ k = 1) → ∀ p, H p = none → Q (.ref p) (upd H p (.tup (List.replicate k.toNat xs).flatten)))
theorem op_repAny {X : Cx} : OpR X (binaryOp .Mult) (rRepAny X.K) := by
  intro pins s σ H x y v u Q I rx ry h
  obtain ⟨l, k, xs, rfl, rfl, hT, h1, h2, hz, q1, q2⟩ := h
  cases rx
  obtain ⟨t, rfl⟩ := ry
  obtain ⟨its, r, ⟨⟨cls, dd, data, sl⟩, ho, hc, n, hd⟩, hs⟩ := I.tuple hT
  simp only at hc hd
  subst hc hd
  have hle : its.length = xs.length := r.length.symm
  have c0 : (decide (k < -(2 ^ 63)) || decide (k ≥ 2 ^ 63)) = false := by
    rw [decide_eq_false (by omega), decide_eq_false (by omega)] <;> rfl
  by_cases hsame : xs = [] ∨ k = 1
  · have c1 : (its.toArray.isEmpty || k == 1) = true := by
      rcases hsame with e | e
      · subst e
        have e2 := List.eq_nil_of_length_eq_zero hle
        subst e2
        rfl
      · subst e; simp
    refine wpAny_binaryOp_repeat_ref (T := "tuple") (U := "int") (by decide) ⟨_, ho, rfl⟩ (fun s' => typeIs_int s' k t) noFill_tuple_mul F.fills_int_mul F.slot_int_rmul repeat_tuple F.slot_int_index.lookup
      (call_meets F.slot_int_rmul (typeIs_int s k t) F.entry_int_rmul (F.args_int_rmul_2 _ _) (int_rmul_tuple k t l its.toArray n dd sl)
        ⟨ho, rfl, ⟨_, ho, rfl⟩, call_meets F.slot_tuple_mul ⟨_, ho, rfl⟩ F.entry_tuple_mul (F.args_tuple_mul_2 _ _) (tuple_mulSame l its.toArray n dd sl k t c0 c1) ⟨ho, ?_⟩⟩)
    exact ⟨.ref l, H, I, rfl, q1 hsame⟩
  · have hne : xs ≠ [] := fun e => hsame (.inl e)
    have hk1 : k ≠ 1 := fun e => hsame (.inr e)
    have hi : its.toArray.isEmpty = false := by
      cases its with
      | nil => exact absurd (List.eq_nil_of_length_eq_zero hle.symm) hne
      | cons a b => rfl
    have c1 : (its.toArray.isEmpty || k == 1) = false := by
      rw [hi, Bool.false_or]
      exact beq_eq_false_iff_ne.mpr hk1
    have fin := q2 hsame
    by_cases hk : k ≤ 0
    · have c2 : (decide (k ≤ 0) || its.toArray.isEmpty) = true := by rw [decide_eq_true hk]; rfl
      refine wpAny_binaryOp_repeat_ref (T := "tuple") (U := "int") (by decide) ⟨_, ho, rfl⟩ (fun s' => typeIs_int s' k t) noFill_tuple_mul F.fills_int_mul F.slot_int_rmul repeat_tuple F.slot_int_index.lookup
        (call_meets F.slot_int_rmul (typeIs_int s k t) F.entry_int_rmul (F.args_int_rmul_2 _ _) (int_rmul_tuple k t l its.toArray n dd sl)
          ⟨ho, rfl, ⟨_, ho, rfl⟩, call_meets F.slot_tuple_mul ⟨_, ho, rfl⟩ F.entry_tuple_mul (F.args_tuple_mul_2 _ _) (tuple_mulNone l its.toArray n dd sl k t c0 c1 c2) ⟨ho, ?_⟩⟩)
      have e0 : k.toNat = 0 := by omega
      rw [e0] at fin
      refine ⟨.ref s.heap.objs.size, _, I.laid (t' := s.toks) (o := .tup (List.replicate 0 xs).flatten) (fun b ob q => Heap.get?_push_of_some _ q) (Nat.le_refl _) ?_, rfl, fin _ (I.hok.fresh (Nat.le_refl _))⟩
      exact ⟨by simp, [], .nil, IsTup.new _ _⟩
    · have c2 : (decide (k ≤ 0) || its.toArray.isEmpty) = false := by
        rw [hi, Bool.or_false]
        exact decide_eq_false hk
      have hkn : ((k.toNat : Nat) : Int) = k := Int.toNat_of_nonneg (by omega)
      have hsz : its.toArray.size * k.toNat ≤ sizeLine := by rw [List.size_toArray, hle]; exact hz
      have hm : ((its.toArray.size : Nat) : Int) * k ≤ (sizeLine : Nat) := by
        rw [← hkn, ← Int.natCast_mul]
        exact Int.ofNat_le.mpr hsz
      have c3 : ¬ ((its.toArray.size : Nat) : Int) * k > (2 ^ 63 - 1) / 8 := by
        have : (sizeLine : Nat) ≤ (2 ^ 63 - 1) / 8 := by decide
        omega
      have c4 : Builtin.Tuple.tupleTooMany (((its.toArray.size : Nat) : Int) * k) = false := by
        unfold Builtin.Tuple.tupleTooMany
        exact decide_eq_false (by omega)
      have flen : (List.replicate k.toNat its).flatten.length ≤ sizeLine := by
        rw [PyProof.Rows.lm_len_rep_flat, hle, Nat.mul_comm]
        exact hz
      refine wpAny_binaryOp_repeat_ref (T := "tuple") (U := "int") (by decide) ⟨_, ho, rfl⟩ (fun s' => typeIs_int s' k t) noFill_tuple_mul F.fills_int_mul F.slot_int_rmul repeat_tuple F.slot_int_index.lookup
        (call_meets F.slot_int_rmul (typeIs_int s k t) F.entry_int_rmul (F.args_int_rmul_2 _ _) (int_rmul_tuple k t l its.toArray n dd sl)
          ⟨ho, rfl, ⟨_, ho, rfl⟩, call_meets F.slot_tuple_mul ⟨_, ho, rfl⟩ F.entry_tuple_mul (F.args_tuple_mul_2 _ _) (tuple_mulW l its.toArray n dd sl k t c0 c1 c2 c3 c4 (by rw [size_rep, List.size_toArray]; exact flen)) ⟨ho, ?_⟩⟩)
      rw [size_rep]
      refine ⟨.ref s.heap.objs.size, _, I.laid (t' := s.toks) (o := .tup (List.replicate k.toNat xs).flatten) (fun b ob q => Heap.get?_push_of_some _ q) (Nat.le_refl _) ?_, rfl, fin _ (I.hok.fresh (Nat.le_refl _))⟩
      exact ⟨by rw [PyProof.Rows.lm_len_rep_flat, Nat.mul_comm]; exact hz, _, r.rep k.toNat, IsTup.new _ _⟩
end Pi
end
section
set_option Elab.async false
set_option linter.all false
set_option maxRecDepth 100000
set_option maxHeartbeats 4000000
namespace Pi
open PySem PySem.Spec PyProof.Rows L2
section
variable {X : Cx}
/-! ### lists, as they stand -/
def rCatX (K : PySem.W.Frag) : R2 := fun x y H Q => ∃ l b xs zs, x = .ref l ∧ y = .ref b ∧ Sx K H l xs ∧ Sx K H b zs ∧ xs.length + zs.length ≤ sizeLine ∧ ∀ p, H p = none → Q (.ref p) (upd H p (.lst (xs ++ zs)))
theorem op_catX : OpR X (binaryOp .Add) (rCatX X.K) := by
  intro pins s σ H x y v u Q I rx ry h
  obtain ⟨l, b, xs, zs, rfl, rfl, hH, hB, hz, q⟩ := h
  cases rx
  cases ry
  obtain ⟨z, its, n, r, hl, e⟩ := Inv.sx I hH
  obtain ⟨z2, its2, n2, r2, hl2, e2⟩ := Inv.sx I hB
  refine PySem.P.add_list e e2 ?_ (by rw [List.size_toArray, List.size_toArray]; omega)
  have ea : its.toArray ++ its2.toArray = (its ++ its2).toArray := by simp
  rw [ea]
  exact ⟨.ref _, _, I.lnew (t' := s.toks) (r.append r2) (by rw [List.length_append]; omega), rfl, q _ I.fresh⟩
def rRepX (K : PySem.W.Frag) : R2 := fun x y H Q => ∃ l k xs, x = .ref l ∧ y = .int k ∧ Sx K H l xs ∧ -(2 ^ 63) ≤ k ∧ k < 2 ^ 63 ∧ xs.length * k.toNat ≤ sizeLine ∧
  ∀ p, H p = none → Q (.ref p) (upd H p (.lst (List.replicate k.toNat xs).flatten))
theorem op_repX : OpR X (binaryOp .Mult) (rRepX X.K) := by
  intro pins s σ H x y v u Q I rx ry h
  obtain ⟨l, k, xs, rfl, rfl, hH, h1, h2, hz, q⟩ := h
  cases rx
  obtain ⟨t, rfl⟩ := ry
  obtain ⟨z, its, n, r, hl, e⟩ := Inv.sx I hH
  have hlen : its.toArray.size * k.toNat ≤ sizeLine := by rw [List.size_toArray, ← hl]; exact hz
  have hcap : ¬ its.toArray.size * k.toNat > (2 ^ 63 - 1) / 8 := by
    have : (sizeLine : Nat) ≤ (2 ^ 63 - 1) / 8 := by decide
    omega
  have hfit : ¬ (!Builtin.List.listFitsIndex k) = true := by
    rw [fitsIndex_both h1 h2]
    exact Bool.false_ne_true
  have hlong : ¬ Builtin.List.listTooLong (its.toArray.size * k.toNat) = true := by
    rw [notLongL hlen]
    exact Bool.false_ne_true
  have hnew : List.foldl (fun x1 x2 => x1 ++ x2) #[] (List.replicate (if its.toArray.isEmpty = true then 0 else k.toNat) its.toArray) = (List.replicate k.toNat its).flatten.toArray := by
    rw [size_rep]
    cases its with
    | nil => simp
    | cons a r' => rw [if_neg (by simp)]
  refine wpAny_binaryOp_repeat_ref (T := "list") (U := "int") (by decide) ⟨_, e, rfl⟩ (fun s' => typeIs_int s' k t) noFill_list_mul F.fills_int_mul F.slot_int_rmul repeat_list F.slot_int_index.lookup
    (call_meets F.slot_int_rmul (typeIs_int s k t) F.entry_int_rmul (F.args_int_rmul_2 _ _) (int___rmul___int_list k t l its.toArray n)
      ⟨e, rfl, ⟨_, e, rfl⟩, call_meets F.slot_list_mul ⟨_, e, rfl⟩ F.entry_list_mul (F.args_list_mul_2 _ _) (AutoListH.list___mul___list_int_3 l its.toArray n k t hfit hcap hlong) ⟨e, ?_⟩⟩)
  rw [hnew]
  exact ⟨.ref _, _, I.lnew (t' := s.toks) (r.rep k.toNat) (by rw [PyProof.Rows.lm_len_rep_flat, Nat.mul_comm]; exact hz), rfl, q _ I.fresh⟩
end
theorem repL_eq {α : Type} (xs : List α) : ∀ n : Nat, repL xs n = (List.replicate n xs).flatten
  | 0 => rfl
  | n + 1 => by simp [repL, repL_eq xs n, List.replicate_succ]
theorem RVs.rep {K : PySem.W.Frag} {H : Hp} {μ : Mu} {ps : List PV} {vs : List V} (r : RVs K H μ ps vs) : ∀ n : Nat, RVs K H μ (repL ps n) ((List.replicate n vs).flatten)
  | 0 => .nil
  | n + 1 => by rw [repL, List.replicate_succ, List.flatten_cons]; exact r.append (r.rep n)
theorem small_lt {j : Int} (h : small j = true) : -(2 ^ 63) ≤ j ∧ j < 2 ^ 63 := by
  have := Nat.blt_eq.mp h
  omega
theorem fit_le {n : Nat} (h : fitLen n = true) : n ≤ sizeLine := Nat.le_of_ble_eq_true h
section
variable {X : Cx} {C : Cls} {W : WX} {a b c : Expr} {ea eb ec : Env → Sto → Out PV} {pos : Pos}
def rBin (K : PySem.W.Frag) (C : Cls) (W : WX) (f : PV → PV → Sto → Out PV) : R2 := fun x y H Q => ∃ σ μ st p q, Hr K H μ st ∧ RV K H μ p x ∧ RV K H μ q y ∧ Th K C W (RV K) (f p q st) σ H μ Q
/-- a tuple is made where it may be one that stood -/
theorem tup_new {K : PySem.W.Frag} {σ : L2.St} {H : Hp} {μ : Mu} {st : Sto} {ps : List PV} {vs : List V} {p : Addr} {Q : VK} (z : Th K C W (RV K) (.ok (.tup ps) st) σ H μ Q) (hr : Hr K H μ st) (r : RVs K H μ ps vs) (np : H p = none) : Q (.ref p) (upd H p (.tup vs)) :=
  z (upd H p (.tup vs)) μ (.ref p) (Ext.made np) (hr.made np) (RV.tupMade (st := st) np r)
theorem bin_add_lst {l : Bool} {ps : List PV} {q : PV} {st : Sto} : bin l .add (.lst ps) q st = (match listOf st (.lst ps), listOf st q with
    | some xs, some ys => if fitLen (xs.length + ys.length) then mkL l (xs ++ ys) st else .stuck
    | _, _ => .stuck) := by cases q <;> rfl
theorem bin_add_loc {l : Bool} {n : Nat} {q : PV} {st : Sto} : bin l .add (.loc n) q st = (match listOf st (.loc n), listOf st q with
    | some xs, some ys => if fitLen (xs.length + ys.length) then mkL l (xs ++ ys) st else .stuck
    | _, _ => .stuck) := by cases q <;> rfl
theorem opr_bin (l : Bool) (op : Op2) : OpR X (binaryOp (opOf op)) (rBin X.K C W (bin l op)) := by
  intro pins s σ' H x y v u Q I rx ry h
  obtain ⟨σ, μ, st, p, q, hr, r1, r2, z⟩ := h
  have lists : ∀ {p q : PV}, RV X.K H μ p x → RV X.K H μ q y → (∀ xs ys, listOf st p = some xs → listOf st q = some ys → fitLen (xs.length + ys.length) = true → Th X.K C W (RV X.K) (mkL l (xs ++ ys) st) σ H μ Q) →
      (match listOf st p, listOf st q with | some xs, some ys => fitLen (xs.length + ys.length) | _, _ => false) = true → wpAny (model X.prog X.w) X.A (binaryOp .Add v u) (EP X pins σ' Q) X.xe s := by
    intro p q r1 r2 z w
    cases e1 : listOf st p with
    | none => simp [e1] at w
    | some xs =>
      cases e2 : listOf st q with
      | none => simp [e1, e2] at w
      | some ys =>
        simp only [e1, e2] at w
        obtain ⟨l1, vs, ex, h1, t1⟩ := list_of hr r1 e1
        obtain ⟨l2, us, ey, h2, t2⟩ := list_of hr r2 e2
        subst ex ey
        refine op_catX pins s σ' H _ _ v u Q I rx ry ⟨l1, l2, vs, us, rfl, rfl, h1, h2, by rw [← t1.length, ← t2.length]; exact fit_le w, fun p np => ?_⟩
        exact mkL_ok (z xs ys e1 e2 w) hr (t1.append t2) np
  cases op with
  | sub =>
    cases r1 <;> cases r2 <;> first | exact z.elim | skip
    exact op_sub pins s σ' H _ _ v u Q I rx ry ⟨_, _, rfl, rfl, z.ok hr (.int _)⟩
  | fdiv =>
    cases r1 <;> cases r2 <;> first | exact z.elim | skip
    unfold bin at z
    dsimp only at z
    split at z
    · rename_i hc
      simp only [Bool.and_eq_true, bne_iff_ne, ne_eq] at hc
      exact op_fdivN pins s σ' H _ _ v u Q I rx ry ⟨_, _, rfl, rfl, ⟨hc.1, Nat.blt_eq.mp hc.2⟩, z.ok hr (.int _)⟩
    · split at z
      · rename_i hc
        simp only [Bool.and_eq_true, decide_eq_true_eq] at hc
        exact op_fdivW pins s σ' H _ _ v u Q I rx ry ⟨_, _, rfl, rfl, ⟨hc.1, Nat.blt_eq.mp hc.2⟩, z.ok hr (.int _)⟩
      · exact z.elim
  | mod =>
    cases r1 <;> cases r2 <;> first | exact z.elim | skip
    unfold bin at z
    dsimp only at z
    split at z
    · rename_i hc
      simp only [bne_iff_ne, ne_eq] at hc
      exact op_modN pins s σ' H _ _ v u Q I rx ry ⟨_, _, rfl, rfl, hc, z.ok hr (.int _)⟩
    · exact z.elim
  | pow =>
    cases r1 <;> cases r2 <;> first | exact z.elim | skip
    unfold bin at z
    dsimp only at z
    split at z
    · rename_i hc
      simp only [Bool.and_eq_true, bin.ble', decide_eq_true_eq] at hc
      have := Nat.blt_eq.mp hc.1.1
      exact op_pow pins s σ' H _ _ v u Q I rx ry ⟨_, _, rfl, rfl, ⟨hc.1.2, hc.2, by omega⟩, z.ok hr (.int _)⟩
    · exact z.elim
  | mul =>
    have cell : ∀ {p : PV} {j : Int}, RV X.K H μ p x → y = .int j → (∀ xs, listOf st p = some xs → (fitLen (xs.length * j.toNat) && small j) = true → Th X.K C W (RV X.K) (mkL l (repL xs j.toNat) st) σ H μ Q) →
        (match listOf st p with | some xs => (fitLen (xs.length * j.toNat) && small j) | _ => false) = true → wpAny (model X.prog X.w) X.A (binaryOp .Mult v u) (EP X pins σ' Q) X.xe s := by
      intro p j r1 ey z w
      cases e1 : listOf st p with
      | none => simp [e1] at w
      | some xs =>
        simp only [e1, Bool.and_eq_true] at w
        obtain ⟨l1, vs, ex, h1, t1⟩ := list_of hr r1 e1
        subst ex ey
        obtain ⟨b1, b2⟩ := small_lt w.2
        refine op_repX pins s σ' H _ _ v u Q I rx ry ⟨l1, j, vs, rfl, rfl, h1, b1, b2, by rw [← t1.length]; exact fit_le w.1, fun p np => ?_⟩
        exact mkL_ok (z xs e1 (by rw [w.1, w.2]; rfl)) hr (t1.rep _) np
    cases r2 with
    | int j =>
      cases r1 with
      | int i =>
        unfold bin at z
        dsimp only at z
        split at z
        · rename_i hc
          exact op_mulW pins s σ' H _ _ v u Q I rx ry ⟨_, _, rfl, rfl, Nat.blt_eq.mp hc, z.ok hr (.int _)⟩
        · split at z
          · rename_i hc
            rw [Bool.or_eq_true] at hc
            have big : ((2 : Int) ^ 63) < 2 ^ 64 := by decide
            refine op_mul pins s σ' H _ _ v u Q I rx ry ⟨_, _, rfl, rfl, ?_, z.ok hr (.int _)⟩
            rcases hc with hc | hc
            · obtain ⟨b1, b2⟩ := small_lt hc
              exact .inl ⟨by omega, by omega⟩
            · obtain ⟨b1, b2⟩ := small_lt hc
              exact .inr ⟨by omega, by omega⟩
          · exact z.elim
      | @tup a vs ps hT rs =>
        unfold bin at z
        dsimp only at z
        split at z
        · rename_i hc
          simp only [Bool.and_eq_true] at hc
          obtain ⟨b1, b2⟩ := small_lt hc.2
          refine op_repAny pins s σ' H _ _ v u Q I rx ry ⟨a, j, vs, rfl, rfl, hT, b1, b2, by rw [← rs.length]; exact fit_le hc.1, fun hs => ?_, fun hs p np => ?_⟩
          · refine z.ok hr (.tup hT ?_)
            rcases hs with e | e
            · subst e
              cases rs
              have : repL ([] : List PV) j.toNat = [] := by rw [repL_eq]; induction j.toNat with
                | zero => rfl
                | succ n ih => rw [List.replicate_succ, List.flatten_cons, ih]; rfl
              rw [this]; exact .nil
            · subst e
              show RVs X.K H μ (ps ++ []) vs
              rw [List.append_nil]; exact rs
          · exact tup_new z hr (rs.rep _) np
        · exact z.elim
      | @lst a vs ps hL rs =>
        refine cell (.lst hL rs) rfl (fun xs e w => ?_) ?_
        · unfold bin at z
          dsimp only at z
          rw [e] at z
          dsimp only at z
          rw [if_pos w] at z
          exact z
        · unfold bin at z
          dsimp only at z
          split at z
          · rename_i e
            split at z
            · rename_i hc; first | exact hc | (simp only [e]; exact hc)
            · exact z.elim
          · exact z.elim
      | @loc n a m =>
        refine cell (.loc m) rfl (fun xs e w => ?_) ?_
        · unfold bin at z
          dsimp only at z
          rw [e] at z
          dsimp only at z
          rw [if_pos w] at z
          exact z
        · unfold bin at z
          dsimp only at z
          split at z
          · rename_i e
            split at z
            · rename_i hc; first | exact hc | (simp only [e]; exact hc)
            · exact z.elim
          · exact z.elim
      | _ => exact z.elim
    | _ => cases r1 <;> exact z.elim
  | add =>
    have go : ∀ {p q : PV}, RV X.K H μ p x → RV X.K H μ q y → Th X.K C W (RV X.K) (match listOf st p, listOf st q with
        | some xs, some ys => if fitLen (xs.length + ys.length) then mkL l (xs ++ ys) st else .stuck
        | _, _ => .stuck) σ H μ Q → wpAny (model X.prog X.w) X.A (binaryOp .Add v u) (EP X pins σ' Q) X.xe s := by
      intro p q r1 r2 z
      refine lists r1 r2 (fun xs ys e1 e2 w => ?_) ?_
      · rw [e1, e2] at z
        dsimp only at z
        rw [if_pos w] at z
        exact z
      · split at z
        · rename_i e1 e2
          split at z
          · rename_i hc
            first | (rw [e1, e2]; exact hc) | (simp only [e1, e2, hc])
          · exact z.elim
        · exact z.elim
    cases r1 with
    | int i =>
      cases r2 with
      | int j => exact op_add pins s σ' H _ _ v u Q I rx ry ⟨_, _, rfl, rfl, z.ok hr (.int _)⟩
      | _ => exact z.elim
    | @tup a vs ps hT rs =>
      cases r2 with
      | @tup b us qs hU ts =>
        unfold bin at z
        dsimp only at z
        split at z
        · rename_i hc
          refine op_catA pins s σ' H _ _ v u Q I rx ry ⟨a, b, vs, us, rfl, rfl, hT, hU, by rw [← rs.length, ← ts.length]; exact fit_le hc, fun e => ?_, fun _ e => ?_, fun _ _ p np => ?_⟩
          · subst e
            cases rs
            exact z.ok hr (.tup hU ts)
          · subst e
            cases ts
            rw [List.append_nil] at z
            exact z.ok hr (.tup hT rs)
          · exact tup_new z hr (rs.append ts) np
        · exact z.elim
      | _ => exact z.elim
    | lst hL rs => exact go (.lst hL rs) r2 (by rw [← bin_add_lst]; exact z)
    | loc m => exact go (.loc m) r2 (by rw [← bin_add_loc]; exact z)
    | _ => cases r2 <;> exact z.elim
end
end Pi
end
section
set_option Elab.async false
set_option linter.all false
set_option maxRecDepth 100000
set_option maxHeartbeats 4000000
namespace Pi
open PySem PySem.Spec PyProof.Rows L2
/-! ### data -/
mutual
theorem toD_ok {K : PySem.W.Frag} {H : Hp} {μ : Mu} {st : Sto} (h : Hr K H μ st) : ∀ (n : Nat) (p : PV) (v : V) (d : PyData), toD st n p = some d → RV K H μ p v → Dp K H v d
  | 0, _, _, _, e, _ => by simp [toD] at e
  | n + 1, p, v, d, e, r => by
    cases r with
    | non => simp [toD] at e; subst e; exact .non
    | bl b => simp [toD] at e; subst e; exact .bl b
    | int i => simp [toD] at e; subst e; exact .int i
    | str x => simp [toD] at e; subst e; exact .str x
    | ty x => simp [toD] at e
    | tup hT rs =>
      simp only [toD] at e
      split at e
      · rename_i ds e2
        cases e
        exact .tup hT (toDs_ok h n _ _ _ e2 rs)
      · cases e
    | lst hL rs =>
      simp only [toD] at e
      split at e
      · rename_i ds e2
        cases e
        exact .lst hL.sq (toDs_ok h n _ _ _ e2 rs)
      · cases e
    | loc m =>
      simp only [toD] at e
      split at e
      · rename_i xs g
        split at e
        · rename_i ds e2
          cases e
          obtain ⟨vs, e1, rs⟩ := h.lst g m
          exact .lst (SqL.of e1) (toDs_ok h n _ _ _ e2 rs)
        · cases e
      · cases e
theorem toDs_ok {K : PySem.W.Frag} {H : Hp} {μ : Mu} {st : Sto} (h : Hr K H μ st) : ∀ (n : Nat) (ps : List PV) (vs : List V) (ds : List PyData), toD.toDs (toD st n) ps = some ds → RVs K H μ ps vs → DpAll K H vs ds
  | n, [], _, _, e, r => by
    cases r
    simp [toD.toDs] at e
    subst e
    exact .nil
  | n, p :: ps, _, _, e, r => by
    cases r with
    | cons r1 r2 =>
      unfold toD.toDs at e
      split at e
      · rename_i d ds e1 e2
        cases e
        exact .cons (toD_ok h n _ _ _ e1 r1) (toDs_ok h n _ _ _ e2 r2)
      · cases e
end
section
variable {X : Cx} {C : Cls} {W : WX} {a b c : Expr} {ea eb ec : Env → Sto → Out PV} {pos : Pos}
theorem str_beq (i j : Str) : (i == j) = decide (i = j) := by
  rw [Bool.eq_iff_iff]; simp
/-- == , != -/
def rEqP (K : PySem.W.Frag) (neg : Bool) : R2 := fun x y H Q => ∃ μ st p q b, Hr K H μ st ∧ RV K H μ p x ∧ RV K H μ q y ∧ eqPV st p q = some b ∧ Q (.bl (if neg then !b else b)) H
theorem eq_cases {K : PySem.W.Frag} {H : Hp} {μ : Mu} {st : Sto} {p q : PV} {x y : V} {b : Bool} (hr : Hr K H μ st) (r1 : RV K H μ p x) (r2 : RV K H μ q y) (e : eqPV st p q = some b) :
    (∃ i j, x = .int i ∧ y = .int j ∧ b = decide (i = j)) ∨ (∃ i j, x = .str i ∧ y = .str j ∧ b = decide (i = j)) ∨ ∃ d f, Dp K H x d ∧ Dp K H y f ∧ SeqAt.shaped d = true ∧ SeqAt.shaped f = true ∧ b = PyData.eqv d f := by
  unfold eqPV at e
  split at e
  · cases r1; cases r2; cases e; exact .inl ⟨_, _, rfl, rfl, Bool.beq_eq_decide_eq ..⟩
  · cases r1; cases r2; cases e; exact .inr (.inl ⟨_, _, rfl, rfl, str_beq ..⟩)
  · split at e
    · rename_i d f e1 e2
      split at e
      · rename_i hs
        simp only [Bool.and_eq_true] at hs
        cases e
        exact .inr (.inr ⟨d, f, toD_ok hr _ _ _ _ e1 r1, toD_ok hr _ _ _ _ e2 r2, hs.1, hs.2, rfl⟩)
      · cases e
    · cases e
theorem op_eqP (hu : X.A.units + 64 < cLine) : OpR X (compareOp .Eq) (rEqP X.K false) := by
  intro pins s σ H x y v u Q I rx ry h
  obtain ⟨μ, st, p, q, b, hr, r1, r2, e, z⟩ := h
  rcases eq_cases hr r1 r2 e with ⟨i, j, rfl, rfl, rfl⟩ | ⟨i, j, rfl, rfl, rfl⟩ | ⟨d, f, h1, h2, h3, h4, rfl⟩
  · refine op_eq pins s σ H _ _ v u Q I rx ry ⟨rfl, ?_⟩
    have e : decide (V.int i = V.int j) = decide (i = j) := by simp
    rw [e]; exact z
  · refine op_eq pins s σ H _ _ v u Q I rx ry ⟨rfl, ?_⟩
    have e : decide (V.str i = V.str j) = decide (i = j) := by simp
    rw [e]; exact z
  · exact op_eqD hu pins s σ H _ _ v u Q I rx ry ⟨d, f, h1, h2, h3, h4, z⟩
theorem op_neP (hu : X.A.units + 64 < cLine) : OpR X (compareOp .NotEq) (rEqP X.K true) := by
  intro pins s σ H x y v u Q I rx ry h
  obtain ⟨μ, st, p, q, b, hr, r1, r2, e, z⟩ := h
  rcases eq_cases hr r1 r2 e with ⟨i, j, rfl, rfl, rfl⟩ | ⟨i, j, rfl, rfl, rfl⟩ | ⟨d, f, h1, h2, h3, h4, rfl⟩
  · refine op_ne pins s σ H _ _ v u Q I rx ry ⟨rfl, ?_⟩
    have e : decide (V.int i = V.int j) = decide (i = j) := by simp
    rw [e]; exact z
  · refine op_ne pins s σ H _ _ v u Q I rx ry ⟨rfl, ?_⟩
    have e : decide (V.str i = V.str j) = decide (i = j) := by simp
    rw [e]; exact z
  · exact op_neD hu pins s σ H _ _ v u Q I rx ry ⟨d, f, h1, h2, h3, h4, z⟩
def rCmP (K : PySem.W.Frag) (op : Cm) : R2 := fun x y H Q => ∃ μ st p q b, Hr K H μ st ∧ RV K H μ p x ∧ RV K H μ q y ∧ cmp op p q st = some b ∧ Q (.bl b) H
theorem opr_cm (op : Cm) (hu : X.A.units + 64 < cLine) : OpR X (compareOp (cmOf op)) (rCmP X.K op) := by
  intro pins s σ H x y v u Q I rx ry h
  obtain ⟨μ, st, p, q, b, hr, r1, r2, e, z⟩ := h
  cases op with
  | eq => exact op_eqP hu pins s σ H _ _ v u Q I rx ry ⟨μ, st, p, q, b, hr, r1, r2, e, z⟩
  | ne =>
    unfold cmp at e
    dsimp only at e
    split at e
    · rename_i b' e'
      cases e
      exact op_neP hu pins s σ H _ _ v u Q I rx ry ⟨μ, st, p, q, b', hr, r1, r2, e', z⟩
    · cases e
  | lt => cases r1 <;> cases r2 <;> first | cases e | skip
          exact op_lt pins s σ H _ _ v u Q I rx ry ⟨_, _, rfl, rfl, z⟩
  | le => cases r1 <;> cases r2 <;> first | cases e | skip
          exact op_le pins s σ H _ _ v u Q I rx ry ⟨_, _, rfl, rfl, z⟩
  | gt => cases r1 <;> cases r2 <;> first | cases e | skip
          exact op_gt pins s σ H _ _ v u Q I rx ry ⟨_, _, rfl, rfl, z⟩
  | ge => cases r1 <;> cases r2 <;> first | cases e | skip
          exact op_ge pins s σ H _ _ v u Q I rx ry ⟨_, _, rfl, rfl, z⟩
end
end Pi
end
section
set_option Elab.async false
set_option linter.all false
set_option maxRecDepth 100000
set_option maxHeartbeats 4000000
namespace Pi
open PySem PySem.Spec PyProof.Rows L2
section
variable {X : Cx} {C : Cls} {W : WX} {a b c : Expr} {ea eb ec : Env → Sto → Out PV} {pos : Pos}
theorem g_bin {l : Bool} {op : Op2} (ha : PE X a (gE X.K C W ea)) (hb : PE X b (gE X.K C W eb)) :
    PE X (.BinOp a (opOf op) b pos) (gE X.K C W fun ρ st => (ea ρ st).bind fun x st => (eb ρ st).bind fun y st => bin l op x y st) := by
  refine (pe_op (opr_bin (C := C) (W := W) l op) ha hb).imp fun σ H Q q => gE.imp ?_ (gE.two q)
  intro x H1 q1
  refine gE.imp ?_ q1
  rintro y H2 ⟨μ, st, p, q, hr, r1, r2, z⟩
  exact ⟨σ, μ, st, p, q, hr, r1, r2, z⟩
theorem g_neg (ha : PE X a (gE X.K C W ea)) : PE X (.UnaryOp .USub a pos) (gE X.K C W fun ρ st => (ea ρ st).bind fun x st => match x with
    | .int i => .ok (.int (-i)) st
    | _ => .stuck) := by
  refine (pe_un un_neg ha).imp fun σ H Q q => gE.imp ?_ (gE.one q)
  rintro x H1 ⟨μ, st, p, hr, r, z⟩
  cases r <;> first | exact z.elim | exact ⟨_, rfl, z.ok hr (.int _)⟩
/-- a comparison's value -/
def boolE (o : Option Bool) (st : Sto) : Out PV := match o with
  | some b => .ok (.bl b) st
  | none => .stuck
theorem boolE_ok {K : PySem.W.Frag} {σ : L2.St} {H : Hp} {μ : Mu} {st : Sto} {o : Option Bool} {Q : VK} (z : Th K C W (RV K) (boolE o st) σ H μ Q) (hr : Hr K H μ st) : ∃ b, o = some b ∧ Q (.bl b) H := by
  cases o with
  | none => exact z.elim
  | some b => exact ⟨b, rfl, z.ok hr (.bl b)⟩
theorem nomark2 (b : Expr) (op : Cm) : behindInMarks (cmOf op) b = false := by
  cases op <;> exact nomark _ (by decide) (by decide)
theorem g_cmp {op : Cm} (hu : X.A.units + 64 < cLine) (ha : PE X a (gE X.K C W ea)) (hb : PE X b (gE X.K C W eb)) :
    PE X (.Compare a [cmOf op] [b] pos) (gE X.K C W fun ρ st => (ea ρ st).bind fun x st => (eb ρ st).bind fun y st => boolE (cmp op x y st) st) := by
  refine (pe_cmpR (opr_cm op hu) ha hb (nomark2 b op)).imp fun σ H Q q => gE.imp ?_ (gE.two q)
  intro x H1 q1
  refine gE.imp ?_ q1
  rintro y H2 ⟨μ, st, p, q, hr, r1, r2, z⟩
  obtain ⟨b, e, w⟩ := boolE_ok z hr
  exact ⟨μ, st, p, q, b, hr, r1, r2, e, w⟩
/-- a test by a value's reading -/
theorem gT.of {K : PySem.W.Frag} {σ : L2.St} {H : Hp} {ev : Env → Sto → Out PV} {Q : Bool → Hp → Prop} (h : gT K C W (fun ρ st => (ev ρ st).bind fun v st => Out.of (tru st v) st) σ H Q) :
    gE K C W ev σ H fun x H1 => ∃ μ st p k, Hr K H1 μ st ∧ RV K H1 μ p x ∧ tru st p = some k ∧ Q k H1 := by
  obtain ⟨μ, ρ, st, hr, he, h⟩ := h
  refine ⟨μ, ρ, st, hr, he, (Th.bind (rel := RV K) h).imp ?_⟩
  rintro x H1 ⟨μ1, p, st1, e1, hr1, r1, h1⟩
  cases e : tru st1 p with
  | none => rw [e] at h1; exact h1.elim
  | some k =>
    rw [e] at h1
    exact ⟨μ1, st1, p, k, hr1, r1, e, h1.ok hr1 rfl⟩
theorem tru_of {K : PySem.W.Frag} {H : Hp} {μ : Mu} {st : Sto} {p : PV} {x : V} {k : Bool} (h : Hr K H μ st) (r : RV K H μ p x) (e : tru st p = some k) : TruV K x H k := by
  cases r with
  | non => cases e; rfl
  | bl b => cases e; rfl
  | int i => cases e; rfl
  | str x => cases e
  | ty n => cases e
  | tup hT rs =>
    cases e
    refine .inr (.inl ⟨_, hT, ?_⟩)
    have := rs.length
    rename_i vs ps
    cases ps <;> cases vs <;> first | rfl | simp at this
  | lst hL rs =>
    cases e
    refine .inl ⟨_, hL.sq, ?_⟩
    have := rs.length
    rename_i vs ps
    cases ps <;> cases vs <;> first | rfl | simp at this
  | @loc n a m =>
    unfold tru at e
    dsimp only at e
    split at e
    · rename_i xs g
      cases e
      obtain ⟨vs, e1, rs⟩ := h.lst g m
      refine .inl ⟨vs, SqL.of e1, ?_⟩
      have := rs.length
      cases xs <;> cases vs <;> first | rfl | simp at this
    · cases e
theorem g_test (he : ∀ whole, isTrue a X.env whole = (do let v ← whole; standAt a.pos; holding [v] (truthy v))) (ha : PE X a (gE X.K C W ea)) : PT X a (gT X.K C W fun ρ st => (ea ρ st).bind fun v st => Out.of (tru st v) st) := by
  refine (pt_truth ha he).imp fun σ H Q q => gE.imp ?_ (gT.of q)
  rintro x H1 ⟨μ, st, p, k, hr, r, e, z⟩
  exact ⟨k, tru_of hr r e, z⟩
theorem g_cmpT {op : Cm} (hu : X.A.units + 64 < cLine) (ha : PE X a (gE X.K C W ea)) (hb : PE X b (gE X.K C W eb)) :
    PT X (.Compare a [cmOf op] [b] pos) (gT X.K C W fun ρ st => ((ea ρ st).bind fun x st => (eb ρ st).bind fun y st => boolE (cmp op x y st) st).bind fun v st => Out.of (tru st v) st) := by
  refine (pt_cmpR (opr_cm op hu) ha hb (nomark2 b op)).imp fun σ H Q q => ?_
  refine gE.imp ?_ (gE.two (gT.of q))
  intro x H1 q1
  refine gE.imp ?_ q1
  rintro y H2 ⟨μ, st, p, q, hr, r1, r2, z⟩
  obtain ⟨b, e, μ', st', p', k, hr', r', e', w⟩ := boolE_ok z hr
  cases r'
  cases e'
  exact ⟨μ, st, p, q, b, hr, r1, r2, e, b, rfl, w⟩

/-! ### chains -/
theorem g_chain {o1 o2 : Cm} (hu : X.A.units + 64 < cLine) (ha : PE X a (gE X.K C W ea)) (hb : PE X b (gE X.K C W eb)) (hc : PE X c (gE X.K C W ec)) :
    PE X (.Compare a [cmOf o1, cmOf o2] [b, c] pos) (gE X.K C W fun ρ st => (ea ρ st).bind fun x st => (eb ρ st).bind fun y st => match cmp o1 x y st with
      | some true => (ec ρ st).bind fun u st => boolE (cmp o2 y u st) st
      | some false => .ok (.bl false) st
      | none => .stuck) := by
  refine (pe_chain (opr_cm o1 hu) (opr_cm o2 hu) ha hb hc (show behindInMarks (cmOf o2) c = false from nomark2 c o2)).imp ?_
  rintro σ H Q ⟨μ, ρ, st, hr, he, z⟩
  refine ⟨μ, ρ, st, hr, he, (Th.bind (rel := RV X.K) z).imp ?_⟩
  rintro x H1 ⟨μ1, p, st1, e1, hr1, r1, z1⟩
  refine ⟨μ1, ρ, st1, hr1, he.ext e1, (Th.bind (rel := RV X.K) z1).imp ?_⟩
  rintro y H2 ⟨μ2, q, st2, e2, hr2, r2, z2⟩
  cases e : cmp o1 p q st2 with
  | none => rw [e] at z2; exact z2.elim
  | some k =>
    refine ⟨μ2, st2, p, q, k, hr2, r1.ext e2, r2, e, k, rfl, ?_⟩
    rw [e] at z2
    cases k with
    | false => exact z2.ok hr2 (.bl false)
    | true =>
      refine ⟨μ2, ρ, st2, hr2, (he.ext e1).ext e2, (Th.bind (rel := RV X.K) z2).imp ?_⟩
      rintro u H3 ⟨μ3, w, st3, e3, hr3, r3, z3⟩
      obtain ⟨b, eb, q3⟩ := boolE_ok z3 hr3
      exact ⟨μ3, st3, q, w, b, hr3, r2.ext e3, r3, eb, q3⟩
end
end Pi
end
section
set_option Elab.async false
set_option linter.all false
set_option maxRecDepth 100000
set_option maxHeartbeats 4000000
namespace Pi
open PySem PySem.Spec PyProof.Rows L2
section
variable {X : Cx} {C : Cls} {W : WX} {a b c : Expr} {ea eb ec : Env → Sto → Out PV} {pos : Pos} {D : Dat} {N : List Str} {sc : Scope} {R : Ops}
/-- a bool, then the rest -/
theorem gE.bool {K : PySem.W.Frag} {σ : L2.St} {H : Hp} {Q : VK} {er ef : Env → Sto → Out PV} (h : gE K C W (fun ρ st => (ea ρ st).bind fun v st => match v with
    | .bl true => er ρ st
    | .bl false => ef ρ st
    | _ => .stuck) σ H Q) : gE K C W ea σ H fun x H1 => ∃ k, x = .bl k ∧ if k = true then gE K C W er σ H1 Q else gE K C W ef σ H1 Q := by
  obtain ⟨μ, ρ, st, hr, he, h⟩ := h
  refine ⟨μ, ρ, st, hr, he, (Th.bind (rel := RV K) h).imp ?_⟩
  rintro x H1 ⟨μ1, p, st1, e1, hr1, r1, h1⟩
  cases r1 with
  | bl k =>
    cases k with
    | true => exact ⟨true, rfl, μ1, ρ, st1, hr1, he.ext e1, h1⟩
    | false => exact ⟨false, rfl, μ1, ρ, st1, hr1, he.ext e1, h1⟩
  | _ => exact h1.elim
theorem gE.cst {K : PySem.W.Frag} {σ : L2.St} {H : Hp} {Q : VK} {v : PV} {x : V} (r : ∀ {H μ}, RV K H μ v x) (h : gE K C W (fun _ st => .ok v st) σ H Q) : Q x H := by
  obtain ⟨μ, ρ, st, hr, he, h⟩ := h
  exact h.ok hr r
theorem chkEs_cons {e : E} {es : List E} {x : Expr} {xs : List Expr} (h : chkEs D N sc (e :: es) (x :: xs) = true) : notStar x = true ∧ chkE D N sc e x = true ∧ chkEs D N sc es xs = true := by
  simp only [chkEs, Bool.and_eq_true] at h
  exact ⟨h.1.1, h.1.2, h.2⟩
theorem chkEs_nil {xs : List Expr} (h : chkEs D N sc [] xs = true) : xs = [] := by
  cases xs with
  | nil => rfl
  | cons _ _ => simp [chkEs] at h
theorem chkEs_ex {e : E} {es : List E} {xs : List Expr} (h : chkEs D N sc (e :: es) xs = true) : ∃ y ys, xs = y :: ys := by
  cases xs with
  | nil => simp [chkEs] at h
  | cons y ys => exact ⟨y, ys, rfl⟩
/-- a value, its truth, then the rest -/
theorem gE.truth {K : PySem.W.Frag} {σ : L2.St} {H : Hp} {Q : VK} {er : Env → Sto → Out PV} (k0 : Bool) (h : gE K C W (fun ρ st => (ea ρ st).bind fun v st => match tru st v with
    | some k => if k = k0 then er ρ st else .ok v st
    | none => .stuck) σ H Q) : gE K C W ea σ H fun x H1 => ∃ k, TruV K x H1 k ∧ if k = k0 then gE K C W er σ H1 Q else Q x H1 := by
  obtain ⟨μ, ρ, st, hr, he, h⟩ := h
  refine ⟨μ, ρ, st, hr, he, (Th.bind (rel := RV K) h).imp ?_⟩
  rintro x H1 ⟨μ1, p, st1, e1, hr1, r1, h1⟩
  cases e : tru st1 p with
  | none => rw [e] at h1; exact h1.elim
  | some k =>
    rw [e] at h1
    refine ⟨k, tru_of hr1 r1 e, ?_⟩
    dsimp only at h1
    by_cases hk : k = k0
    · rw [if_pos hk] at h1 ⊢
      exact ⟨μ1, ρ, st1, hr1, he.ext e1, h1⟩
    · rw [if_neg hk] at h1 ⊢
      exact h1.ok hr1 r1
theorem and_cons {e f : E} {r : List E} : evAnd R (e :: f :: r) = fun ρ st => (R.e e ρ st).bind fun v st => match tru st v with
      | some k => if k = true then evAnd R (f :: r) ρ st else .ok v st
      | none => .stuck := by
  funext ρ st
  rw [evAnd]
  · congr 1
    funext v st
    cases tru st v with
    | none => rfl
    | some b => cases b <;> rfl
  · intro h; cases h
theorem or_cons {e f : E} {r : List E} : evOr R (e :: f :: r) = fun ρ st => (R.e e ρ st).bind fun v st => match tru st v with
      | some k => if k = false then evOr R (f :: r) ρ st else .ok v st
      | none => .stuck := by
  funext ρ st
  rw [evOr]
  · congr 1
    funext v st
    cases tru st v with
    | none => rfl
    | some b => cases b <;> rfl
  · intro h; cases h
theorem g_and (S : SoundE X C W D N sc R) : ∀ {es : List E} {xs : List Expr}, chkEs D N sc es xs = true → es ≠ [] → PE X (.BoolOp .And xs pos) (gE X.K C W (evAnd R es))
  | [], _, _, n => absurd rfl n
  | [e], xs, h, _ => by
    obtain ⟨x, ys, rfl⟩ := chkEs_ex h
    obtain ⟨h1, h2, h3⟩ := chkEs_cons h
    obtain rfl := chkEs_nil h3
    exact pe_one (S e x h2)
  | e :: f :: r, xs, h, _ => by
    obtain ⟨x, ys, rfl⟩ := chkEs_ex h
    obtain ⟨h1, h2, h4⟩ := chkEs_cons h
    obtain ⟨y, zs, rfl⟩ := chkEs_ex h4
    refine (pe_andT (S e x h2) (g_and S (es := f :: r) (xs := y :: zs) h4 (by simp))).imp ?_
    intro σ H Q q
    rw [and_cons] at q
    exact gE.truth (er := evAnd R (f :: r)) true q
theorem g_or (S : SoundE X C W D N sc R) : ∀ {es : List E} {xs : List Expr}, chkEs D N sc es xs = true → es ≠ [] → PE X (.BoolOp .Or xs pos) (gE X.K C W (evOr R es))
  | [], _, _, n => absurd rfl n
  | [e], xs, h, _ => by
    obtain ⟨x, ys, rfl⟩ := chkEs_ex h
    obtain ⟨h1, h2, h3⟩ := chkEs_cons h
    obtain rfl := chkEs_nil h3
    exact pe_one (S e x h2)
  | e :: f :: r, xs, h, _ => by
    obtain ⟨x, ys, rfl⟩ := chkEs_ex h
    obtain ⟨h1, h2, h4⟩ := chkEs_cons h
    obtain ⟨y, zs, rfl⟩ := chkEs_ex h4
    refine (pe_orT (S e x h2) (g_or S (es := f :: r) (xs := y :: zs) h4 (by simp))).imp ?_
    intro σ H Q q
    rw [or_cons] at q
    refine gE.imp ?_ (gE.truth (er := evOr R (f :: r)) false q)
    rintro x H1 ⟨k, t, z⟩
    refine ⟨k, t, ?_⟩
    cases k with
    | true => simpa using z
    | false => simpa using z
theorem g_not (ha : PT X a (gT X.K C W fun ρ st => (ea ρ st).bind fun v st => Out.of (tru st v) st)) (hv : PE X a (gE X.K C W ea)) : PE X (.UnaryOp .Not a pos) (gE X.K C W fun ρ st => (ea ρ st).bind fun v st => match tru st v with
    | some b => .ok (.bl (!b)) st
    | none => .stuck) := by
  refine (pe_notT hv).imp fun σ H Q q => gE.imp ?_ (gE.one q)
  rintro x H1 ⟨μ, st, p, hr, r, z⟩
  cases e : tru st p with
  | none => rw [e] at z; exact z.elim
  | some k => rw [e] at z; exact ⟨k, tru_of hr r e, z.ok hr (.bl _)⟩
theorem g_notT (ha : PT X a (gT X.K C W fun ρ st => (ea ρ st).bind fun v st => Out.of (tru st v) st)) : PT X (.UnaryOp .Not a pos) (gT X.K C W fun ρ st => ((ea ρ st).bind fun v st => match tru st v with
    | some b => .ok (.bl (!b)) st
    | none => .stuck).bind fun v st => Out.of (tru st v) st) := by
  refine (pt_not ha).imp ?_
  rintro σ H Q ⟨μ, ρ, st, hr, he, z⟩
  refine ⟨μ, ρ, st, hr, he, ?_⟩
  dsimp only at z ⊢
  cases e : ea ρ st with
  | stuck => rw [e] at z; exact z
  | exc c fs st1 => rw [e] at z; exact z
  | ok v st1 =>
    rw [e] at z
    simp only [Out.bind] at z ⊢
    cases e2 : tru st1 v with
    | none => rw [e2] at z; exact z
    | some k =>
      rw [e2] at z
      simp only [tru, Out.of] at z
      intro H' μ' b ex hr' rb
      cases rb
      exact z H' μ' _ ex hr' rfl
theorem g_ifx (hc : PT X c (gT X.K C W fun ρ st => (ec ρ st).bind fun v st => Out.of (tru st v) st)) (ha : PE X a (gE X.K C W ea)) (hb : PE X b (gE X.K C W eb)) :
    PE X (.IfExp c a b pos) (gE X.K C W fun ρ st => (ec ρ st).bind fun v st => match tru st v with
      | some true => ea ρ st
      | some false => eb ρ st
      | none => .stuck) := by
  refine (pe_ifExp hc ha hb).imp ?_
  rintro σ H Q ⟨μ, ρ, st, hr, he, z⟩
  refine ⟨μ, ρ, st, hr, he, ?_⟩
  dsimp only at z ⊢
  cases e : ec ρ st with
  | stuck => rw [e] at z; exact z
  | exc c fs st1 => rw [e] at z; exact z
  | ok v st1 =>
    rw [e] at z
    simp only [Out.bind] at z ⊢
    cases e2 : tru st1 v with
    | none => rw [e2] at z; exact z
    | some k =>
      rw [e2] at z
      simp only [Out.of]
      intro H' μ' b ex hr' rb
      cases rb
      cases k with
      | true => exact ⟨μ', ρ, st1, hr', he.ext ex, Th.ext ex z⟩
      | false => exact ⟨μ', ρ, st1, hr', he.ext ex, Th.ext ex z⟩
end
end Pi
end
section
set_option Elab.async false
set_option linter.all false
set_option maxRecDepth 100000
set_option maxHeartbeats 4000000
namespace Pi
open PySem PySem.Spec PyProof.Rows L2
theorem is_bool_gen {M : Model} {A : Around} {E : Value → Shared → Prop} {s : Shared} {Q : Value → Shared → Prop} {v : Value} {b : Bool} (hv : ∀ id, v ≠ .builtin id) (h : Q (.bool (v == .bool b)) s) : wpAny M A (compareOp .Is v (.bool b)) Q E s := by
  cases v <;> first | exact wpAny_pure h | exact absurd rfl (hv _)
theorem isnot_bool_gen {M : Model} {A : Around} {E : Value → Shared → Prop} {s : Shared} {Q : Value → Shared → Prop} {v : Value} {b : Bool} (hv : ∀ id, v ≠ .builtin id) (h : Q (.bool (!(v == .bool b))) s) : wpAny M A (compareOp .IsNot v (.bool b)) Q E s := by
  cases v <;> first | exact wpAny_pure h | exact absurd rfl (hv _)
theorem rel_nobi {x : V} {v : Value} (r : RelV x v) : ∀ id, v ≠ .builtin id := by
  intro id e
  subst e
  cases x <;> first | (cases r; done) | (obtain ⟨t, z⟩ := r; cases z)
section
variable {X : Cx} {C : Cls} {W : WX} {a b c : Expr} {ea eb ec : Env → Sto → Out PV} {pos : Pos} {D : Dat} {N : List Str} {sc : Scope} {R : Ops}
theorem op_isB : OpR X (compareOp .Is) (fun x y H Q => ∃ b : Bool, y = .bl b ∧ Q (.bl (decide (x = .bl b))) H) := by
  intro pins s σ H x y v u Q I rx ry h
  obtain ⟨b, rfl, q⟩ := h
  cases ry
  refine is_bool_gen (rel_nobi rx) (fin_bl I q ?_)
  cases x <;> first
    | (cases rx; cases b <;> rfl)
    | (obtain ⟨t, rfl⟩ := rx; cases b <;> rfl)
    | (rename_i k; cases rx; cases k <;> cases b <;> rfl)
theorem op_notB : OpR X (compareOp .IsNot) (fun x y H Q => ∃ b : Bool, y = .bl b ∧ Q (.bl (!decide (x = .bl b))) H) := by
  intro pins s σ H x y v u Q I rx ry h
  obtain ⟨b, rfl, q⟩ := h
  cases ry
  refine isnot_bool_gen (rel_nobi rx) (fin_bl I q ?_)
  cases x <;> first
    | (cases rx; cases b <;> rfl)
    | (obtain ⟨t, rfl⟩ := rx; cases b <;> rfl)
    | (rename_i k; cases rx; cases k <;> cases b <;> rfl)
/-- x is None, True, False -/
def isP (p q : PV) : Option Bool := match q with
  | .non => match p with
    | .non => some true
    | _ => some false
  | .bl b => match p with
    | .bl k => some (k == b)
    | _ => some false
  | _ => none
def isOp (n : Bool) : CmpOp := if n then .IsNot else .Is
def rIsP (K : PySem.W.Frag) (n : Bool) (q : PV) : R2 := fun x y H Q => ∃ μ p b, RV K H μ p x ∧ RV K H μ q y ∧ isP p q = some b ∧ Q (.bl (if n then !b else b)) H
theorem is_dec {K : PySem.W.Frag} {H : Hp} {μ : Mu} {p : PV} {x : V} (r : RV K H μ p x) : isP p .non = some (decide (x = .non)) ∧ ∀ b, isP p (.bl b) = some (decide (x = .bl b)) := by
  cases r <;> refine ⟨by simp [isP], fun b => ?_⟩ <;> simp [isP]
  rename_i k
  cases k <;> cases b <;> rfl
theorem opr_is (n : Bool) (q : PV) : OpR X (compareOp (isOp n)) (rIsP X.K n q) := by
  intro pins s σ H x y v u Q I rx ry h
  obtain ⟨μ, p, b, r1, r2, e, z⟩ := h
  cases r2 with
  | non =>
    rw [(is_dec r1).1] at e
    cases e
    cases n with
    | true => exact op_notN pins s σ H _ _ v u Q I rx ry ⟨rfl, z⟩
    | false => exact op_isN pins s σ H _ _ v u Q I rx ry ⟨rfl, z⟩
  | bl k =>
    rw [(is_dec r1).2] at e
    cases e
    cases n with
    | true => exact op_notB pins s σ H _ _ v u Q I rx ry ⟨k, rfl, z⟩
    | false => exact op_isB pins s σ H _ _ v u Q I rx ry ⟨k, rfl, z⟩
  | _ => cases e
theorem isMark (n : Bool) (b : Expr) : behindInMarks (isOp n) b = false := by cases n <;> exact nomark _ (by decide) (by decide)
theorem g_is {n : Bool} {v : PV} {k : Const} {j : Nat} {p2 : Pos} (ha : PE X a (gE X.K C W ea)) (hv : cstB v k = true) :
    PE X (.Compare a [isOp n] [.Constant k j p2] pos) (gE X.K C W fun ρ st => (ea ρ st).bind fun x st => match isP x v with
      | some b => .ok (.bl (if n then !b else b)) st
      | none => .stuck) := by
  refine (pe_cmpR (opr_is n v) ha (g_cst (C := C) (W := W) (pos := p2) (j := j) hv) (isMark n _)).imp ?_
  intro σ H Q q
  refine gE.imp ?_ (gE.one q)
  rintro x H1 ⟨μ, st, p, hr, r, z⟩
  cases e : isP p v with
  | none => rw [e] at z; exact z.elim
  | some b =>
    rw [e] at z
    refine ⟨μ, List.replicate σ.length none, st, hr, ⟨by simp, fun i p h => ?_⟩, fun H' μ' y ex hr' r' => ?_⟩
    · rw [List.getElem?_replicate] at h
      split at h <;> cases h
    · exact ⟨μ', p, b, r.ext ex, r', e, z H' μ' _ ex hr' (.bl _)⟩
/-- x in c, x not in c -/
def memOp (n : Bool) : CmpOp := if n then .NotIn else .In
def rMemP (K : PySem.W.Frag) (n : Bool) : R2 := fun x y H Q => ∃ μ st p q b, Hr K H μ st ∧ RV K H μ p x ∧ RV K H μ q y ∧ memD st p q = some b ∧ Q (.bl (if n then !b else b)) H
theorem room_mem {A : Around} {ds : List PyData} {d : PyData} (h : SeqAt.shaped d = true) (hu : A.units + 65 < cLine) : A.units + 1 + min (PyData.depthAll ds) d.depth < cLine := by
  have h1 := SeqAt.depth_of_shaped h
  have h2 : min (PyData.depthAll ds) d.depth ≤ d.depth := Nat.min_le_right _ _
  omega
theorem opr_mem (n : Bool) (hu : X.A.units + 65 < cLine) : OpR X (compareOp (memOp n)) (rMemP X.K n) := by
  intro pins s σ H x y v u Q I rx ry h
  obtain ⟨μ, st, p, q, b, hr, r1, r2, e, z⟩ := h
  unfold memD at e
  split at e
  · rename_i d ds e1 e2
    split at e
    · rename_i hs
      simp only [Bool.and_eq_true] at hs
      cases e
      obtain ⟨as, w1⟩ := Dp.reads I d x v (toD_ok hr _ _ _ _ e1 r1) rx
      obtain ⟨bs, w2⟩ := Dp.reads I (.list ds) y u (toD_ok hr _ _ _ _ e2 r2) ry
      cases n with
      | false => exact SeqAt.in_list_reads w2 w1 (SeqAt.canLay_of_shaped hs.2) (SeqAt.canLay_of_shaped hs.1) (room_mem hs.1 hu) ⟨.bl _, H, I, rfl, z⟩
      | true => exact SeqAt.notIn_list_reads w2 w1 (SeqAt.canLay_of_shaped hs.2) (SeqAt.canLay_of_shaped hs.1) (room_mem hs.1 hu) ⟨.bl _, H, I, rfl, z⟩
    · cases e
  · rename_i d ds e1 e2
    split at e
    · rename_i hs
      simp only [Bool.and_eq_true] at hs
      cases e
      obtain ⟨as, w1⟩ := Dp.reads I d x v (toD_ok hr _ _ _ _ e1 r1) rx
      obtain ⟨bs, w2⟩ := Dp.reads I (.tuple ds) y u (toD_ok hr _ _ _ _ e2 r2) ry
      cases n with
      | false => exact SeqAt.in_tuple_reads w2 w1 (SeqAt.canLay_of_shaped hs.2) (SeqAt.canLay_of_shaped hs.1) (room_mem hs.1 hu) ⟨.bl _, H, I, rfl, z⟩
      | true => exact SeqAt.notIn_tuple_reads w2 w1 (SeqAt.canLay_of_shaped hs.2) (SeqAt.canLay_of_shaped hs.1) (room_mem hs.1 hu) ⟨.bl _, H, I, rfl, z⟩
    · cases e
  · cases e
end
end Pi
end
section
set_option Elab.async false
set_option linter.all false
set_option maxRecDepth 100000
set_option maxHeartbeats 4000000
namespace Pi
open PySem PySem.Spec PyProof.Rows L2
section
variable {X : Cx} {C : Cls} {W : WX} {a b c : Expr} {ea eb ec : Env → Sto → Out PV} {pos p2 : Pos} {D : Dat} {N : List Str} {sc : Scope} {R : Ops}
theorem ix_plain {b : Expr} (h : ixB b = true) : PlainIx b := by
  cases b <;> first | (intro o i; rfl) | cases h
theorem g_idx (hi : ixB b = true) (ha : PE X a (gE X.K C W ea)) (hb : PE X b (gE X.K C W eb)) :
    PE X (.Subscript a b pos) (gE X.K C W fun ρ st => (ea ρ st).bind fun x st => (eb ρ st).bind fun y st => Out.of (idxV st x y) st) := by
  refine (pe_ix ix_seq ha hb (ix_plain hi)).imp ?_
  intro σ H Q q
  refine gE.imp ?_ (gE.two q)
  intro x H1 q1
  refine gE.imp ?_ q1
  rintro y H2 ⟨μ, st, p, q, hr, r1, r2, z⟩
  cases e : idxV st p q with
  | none => rw [e] at z; exact z.elim
  | some v =>
    rw [e] at z
    unfold idxV at e
    split at e
    · rename_i j
      split at e
      · rename_i xs e1
        split at e
        · rename_i k e2
          rw [nth_eq] at e
          cases r2
          obtain ⟨a, vs, rfl, h1, rs⟩ := items_of hr r1 e1
          obtain ⟨u, h2, r3⟩ := rs.get e
          have at' : atI vs j = some u := by
            unfold atI
            have : ixN vs.length j = some k := by rw [← rs.length]; exact e2
            rw [this]
            exact h2
          rcases h1 with h1 | h1
          · exact .inl ⟨a, vs, j, u, rfl, rfl, h1.sq, at', z.ok hr r3⟩
          · exact .inr (.inl ⟨a, vs, j, u, rfl, rfl, h1, at', z.ok hr r3⟩)
        · cases e
      · cases e
    · cases e
/-! ### slices -/
/-- an end of a slice -/
def evO (ev : Option (Env → Sto → Out PV)) (ρ : Env) (st : Sto) : Out (Option Int) := match ev with
  | none => .ok none st
  | some f => (f ρ st).bind fun v st => match v with
    | .int i => .ok (some i) st
    | _ => .stuck
def slcV (l : Bool) (st : Sto) (o : PV) (lo hi : Option Int) : Out PV := match o with
  | .tup xs => .ok (.tup (cutP xs lo hi)) st
  | o => match listOf st o with
    | some xs => mkL l (cutP xs lo hi) st
    | none => .stuck
theorem cut_rel {K : PySem.W.Frag} {H : Hp} {μ : Mu} {ps : List PV} {vs : List V} (r : RVs K H μ ps vs) (lo hi : Option Int) : RVs K H μ (cutP ps lo hi) (cutV vs lo hi) := by
  unfold cutP cutV
  rw [r.length]
  exact (r.drop _).take _
theorem cut_whole {xs : List PV} {lo hi : Option Int} (h : HT.sIx xs.length 0 lo = 0 ∧ HT.sIx xs.length xs.length hi = xs.length) : cutP xs lo hi = xs := by
  unfold cutP
  rw [h.1, h.2]
  simp
def rSlP (K : PySem.W.Frag) (C : Cls) (W : WX) (l : Bool) : V → Option Int → Option Int → Hp → VK → Prop := fun x lo hi H Q => ∃ σ μ st p, Hr K H μ st ∧ RV K H μ p x ∧ Th K C W (RV K) (slcV l st p lo hi) σ H μ Q
theorem sl_P (l : Bool) : SlR X (rSlP X.K C W l) := by
  intro pins s σ' H x v vl vu lo hi sl Q I rx hs pl pu h
  obtain ⟨σ, μ, st, p, hr, r, z⟩ := h
  have lists : ∀ {xs}, listOf st p = some xs → Th X.K C W (RV X.K) (mkL l (cutP xs lo hi) st) σ H μ Q → ∃ T id, typeLookup (.type T) "__getitem__" = pure (some (.builtin id)) ∧ s.TypeIs v T ∧ wpAny (model X.prog X.w) X.A (getItem v (.ref sl)) (EP X pins σ' Q) X.xe s := by
    intro xs e z
    obtain ⟨a, vs, rfl, h1, rs⟩ := list_of hr r e
    exact sl_list pins s σ' H _ v vl vu lo hi sl Q I rx hs pl pu ⟨a, vs, rfl, h1.sq, fun p np => mkL_ok z hr (cut_rel rs lo hi) np⟩
  cases r with
  | @tup a vs ps hT rs =>
    refine sl_tupA pins s σ' H _ v vl vu lo hi sl Q I rx hs pl pu ⟨a, vs, rfl, hT, fun w => ?_, fun w p np => ?_⟩
    · have e : cutP ps lo hi = ps := cut_whole (by rw [rs.length]; exact w)
      exact z.ok hr (by rw [e]; exact .tup hT rs)
    · exact tup_new z hr (cut_rel rs lo hi) np
  | lst hL rs => exact lists rfl z
  | @loc n a m =>
    have z' : Th X.K C W (RV X.K) (match listOf st (.loc n) with
      | some xs => mkL l (cutP xs lo hi) st
      | none => .stuck) σ H μ Q := z
    cases e : listOf st (.loc n) with
    | none => rw [e] at z'; exact z'.elim
    | some xs => rw [e] at z'; exact lists e z'
  | _ => exact z.elim
def gO (K : PySem.W.Frag) (C : Cls) (W : WX) (ev : Env → Sto → Out (Option Int)) : TO := fun σ H Q => ∃ μ ρ st, Hr K H μ st ∧ RE K H μ ρ σ ∧ Th K C W (fun _ _ a b => a = b) (ev ρ st) σ H μ Q
theorem po_P0 : PO X none (gO X.K C W (evO none)) := ⟨fun pins s σ H Q I ⟨μ, ρ, st, hr, he, z⟩ => po_none.run pins s σ H Q I (z.ok hr rfl)⟩
theorem po_P (h : PE X a (gE X.K C W ea)) : PO X (some a) (gO X.K C W (evO (some ea))) := by
  refine ⟨fun pins s σ H Q I q => (po_some h).run pins s σ H Q I ?_⟩
  obtain ⟨μ, ρ, st, hr, he, z⟩ := q
  refine ⟨μ, ρ, st, hr, he, (Th.bind (rel := RV X.K) z).imp ?_⟩
  rintro x H1 ⟨μ1, p, st1, e1, hr1, r1, z1⟩
  cases r1 <;> first | exact z1.elim | exact ⟨_, rfl, z1.ok hr1 rfl⟩
theorem g_slc {l : Bool} {lo hi : Option Expr} {el eh : Env → Sto → Out (Option Int)} (ha : PE X a (gE X.K C W ea)) (hl : PO X lo (gO X.K C W el)) (hh : PO X hi (gO X.K C W eh)) :
    PE X (.Subscript a (.Slice lo hi none p2) pos) (gE X.K C W fun ρ st => (ea ρ st).bind fun x st => (el ρ st).bind fun i st => (eh ρ st).bind fun j st => slcV l st x i j) := by
  refine (pe_slice (sl_P (C := C) (W := W) l) ha hl hh).imp ?_
  rintro σ H Q ⟨μ, ρ, st, hr, he, z⟩
  refine ⟨μ, ρ, st, hr, he, (Th.bind (rel := RV X.K) z).imp ?_⟩
  rintro x H1 ⟨μ1, p, st1, e1, hr1, r1, z1⟩
  refine ⟨μ1, ρ, st1, hr1, he.ext e1, (Th.bind (rel := fun _ _ a b => a = b) z1).imp ?_⟩
  rintro i H2 ⟨μ2, i', st2, e2, hr2, r2, z2⟩
  subst r2
  refine ⟨μ2, ρ, st2, hr2, (he.ext e1).ext e2, (Th.bind (rel := fun _ _ a b => a = b) z2).imp ?_⟩
  rintro j H3 ⟨μ3, j', st3, e3, hr3, r3, z3⟩
  subst r3
  exact ⟨σ, μ3, st3, p, hr3, (r1.ext e2).ext e3, z3⟩
end
end Pi
end
section
set_option Elab.async false
set_option linter.all false
set_option maxRecDepth 100000
set_option maxHeartbeats 4000000
namespace Pi
open PySem PySem.Spec PyProof.Rows L2
/-! ### built-in functions of one iterable -/
/-- the truths of flat items -/
def trus : List PV → Option (List Bool)
  | [] => some []
  | .bl b :: r => match trus r with
    | some bs => some (b :: bs)
    | none => none
  | .int i :: r => match trus r with
    | some bs => some ((i != 0) :: bs)
    | none => none
  | .non :: r => match trus r with
    | some bs => some (false :: bs)
    | none => none
  | _ :: _ => none
theorem trus_get : ∀ {ps : List PV} {bs : List Bool} {i : Nat} {p : PV}, trus ps = some bs → ps[i]? = some p → ∃ b, bs[i]? = some b ∧ ((p = .bl b) ∨ (∃ k, p = .int k ∧ b = (k != 0)) ∨ (p = .non ∧ b = false))
  | [], _, _, _, _, h => by simp at h
  | q :: r, bs, i, p, e, h => by
    have cont : ∀ {b0 : Bool}, ((q = .bl b0) ∨ (∃ k, q = .int k ∧ b0 = (k != 0)) ∨ (q = .non ∧ b0 = false)) → (∃ bs', trus r = some bs' ∧ bs = b0 :: bs') → ∃ b, bs[i]? = some b ∧ ((p = .bl b) ∨ (∃ k, p = .int k ∧ b = (k != 0)) ∨ (p = .non ∧ b = false)) := by
      rintro b0 hq ⟨bs', e', rfl⟩
      cases i with
      | zero => simp at h; subst h; exact ⟨b0, rfl, hq⟩
      | succ i =>
        obtain ⟨b, h1, h2⟩ := trus_get (i := i) (p := p) e' (by simpa using h)
        exact ⟨b, by simpa using h1, h2⟩
    cases q with
    | bl b0 =>
      simp only [trus] at e
      split at e
      · rename_i bs' e'; cases e; exact cont (.inl rfl) ⟨bs', e', rfl⟩
      · cases e
    | int k =>
      simp only [trus] at e
      split at e
      · rename_i bs' e'; cases e; exact cont (.inr (.inl ⟨k, rfl, rfl⟩)) ⟨bs', e', rfl⟩
      · cases e
    | non =>
      simp only [trus] at e
      split at e
      · rename_i bs' e'; cases e; exact cont (.inr (.inr ⟨rfl, rfl⟩)) ⟨bs', e', rfl⟩
      · cases e
    | _ => simp [trus] at e
theorem trus_length : ∀ {ps : List PV} {bs : List Bool}, trus ps = some bs → ps.length = bs.length
  | [], _, e => by simp [trus] at e; subst e; rfl
  | q :: r, bs, e => by
    have cont : ∀ {b0 : Bool}, (∃ bs', trus r = some bs' ∧ bs = b0 :: bs') → (q :: r).length = bs.length := by
      rintro b0 ⟨bs', e', rfl⟩
      simp [trus_length e']
    cases q with
    | bl b0 =>
      simp only [trus] at e
      split at e
      · rename_i bs' e'; cases e; exact cont ⟨bs', e', rfl⟩
      · cases e
    | int k =>
      simp only [trus] at e
      split at e
      · rename_i bs' e'; cases e; exact cont ⟨bs', e', rfl⟩
      · cases e
    | non =>
      simp only [trus] at e
      split at e
      · rename_i bs' e'; cases e; exact cont ⟨bs', e', rfl⟩
      · cases e
    | _ => simp [trus] at e
section
variable {X : Cx}
theorem truth_its {prog : Program} {w : World} {A : Around} {K : PySem.W.Frag} {H : Hp} {μ : Mu} {ps : List PV} {vs : List V} {its : List Value} {bs : List Bool} (rs : RVs K H μ ps vs) (rv : Vals vs its) (e : trus ps = some bs) :
    TruthOf prog w A (fun i v => its.toArray[i]? = some v) (fun i => bs.getD i false) := fun i v s Q E hv hq => by
  have hv' : its[i]? = some v := by simpa using hv
  have hi : i < ps.length := by
    rw [rs.length, rv.length]
    exact (List.getElem?_eq_some_iff.mp hv').1
  obtain ⟨u, h1, r1⟩ := rs.get (i := i) (p := ps[i]) (by simp [hi])
  obtain ⟨v', h2, r2⟩ := rv.get h1
  rw [hv'] at h2
  cases h2
  obtain ⟨b, hb, hp⟩ := trus_get e (i := i) (p := ps[i]) (by simp [hi])
  have hg : bs.getD i false = b := by rw [List.getD_eq_getElem?_getD, hb] <;> rfl
  have hq' : Q (bs.getD i false) s := hq
  rw [hg] at hq'
  rcases hp with hp | ⟨k, hp, rfl⟩ | ⟨hp, rfl⟩
  · rw [hp] at r1; cases r1; cases r2; exact wpAny_truthy_bool hq'
  · rw [hp] at r1; cases r1; obtain ⟨t, rfl⟩ := r2; exact PySem.P.truthy_int hq'
  · rw [hp] at r1; cases r1; cases r2; exact truthy_none hq'
def rAnyP (K : PySem.W.Frag) (all : Bool) : List V → Hp → VK → Prop := fun vs H Q => ∃ (a : Addr) (us : List V) (μ : Mu) (ps : List PV) (bs : List Bool), vs = [V.ref a] ∧ (Sx K H a us ∨ SqT K H a us) ∧ RVs K H μ ps us ∧ trus ps = some bs ∧ Q (.bl (if all then bs.all id else bs.any id)) H
theorem cr_anyP (hc : X.calm = true) : CallR X (.builtin "any") (rAnyP X.K false) := by
  intro pins s σ H vs us Q I r h
  obtain ⟨a, ws, μ, ps, bs, rfl, hs, rs, e, q⟩ := h
  rw [Vals.ref1 r]
  rcases hs with hs | hs
  · obtain ⟨its, rv, hl, _⟩ := I.list hs.sq
    refine call_any_walk (iter_any hl.isList fun s₂ e2 st hne => ?_)
    subst e2
    refine ⟨_, _, _, _, _, _, _, rfl, Walks.list (A := X.A.in1) (I.ok.hd hc) _ a hne its.toArray, st, truth_its rs rv e, fun h' tk hk => ?_⟩
    refine ⟨.bl _, H, I.kept fun b o eo => hk b o (fun hmem => ?_) (Heap.get?_push_of_some _ eo), ?_, q⟩
    · rcases List.mem_cons.mp hmem with e1 | hmem
      · exact absurd (e1 ▸ Heap.lt_size eo) (Nat.lt_irrefl _)
      · cases hmem
    · show Value.bool _ = Value.bool _
      rw [List.size_toArray, ← rv.length, ← rs.length, trus_length e]
      exact congrArg _ (any_range bs)
  · obtain ⟨its, rv, hl, _⟩ := I.tuple hs
    have hlt : a < s.heap.objs.size := hl.lt
    refine call_any_walk (wpAny_pyIter_tuple hl ?_)
    refine ⟨_, _, _, _, _, _, _, rfl, Walks.tuple (A := X.A.in1) (I.ok.hd hc) _ a (Nat.ne_of_lt hlt) its.toArray, ⟨⟨_, Heap.get?_push_size _ rfl, rfl, rfl⟩, hl.push _⟩, truth_its rs rv e, fun h' tk hk => ?_⟩
    refine ⟨.bl _, H, I.kept fun b o eo => hk b o (fun hmem => ?_) (Heap.get?_push_of_some _ eo), ?_, q⟩
    · rcases List.mem_cons.mp hmem with e1 | hmem
      · exact absurd (e1 ▸ Heap.lt_size eo) (Nat.lt_irrefl _)
      · cases hmem
    · show Value.bool _ = Value.bool _
      rw [List.size_toArray, ← rv.length, ← rs.length, trus_length e]
      exact congrArg _ (any_range bs)
theorem cr_allP (hc : X.calm = true) : CallR X (.builtin "all") (rAnyP X.K true) := by
  intro pins s σ H vs us Q I r h
  obtain ⟨a, ws, μ, ps, bs, rfl, hs, rs, e, q⟩ := h
  rw [Vals.ref1 r]
  rcases hs with hs | hs
  · obtain ⟨its, rv, hl, _⟩ := I.list hs.sq
    refine call_all_walk (iter_any hl.isList fun s₂ e2 st hne => ?_)
    subst e2
    refine ⟨_, _, _, _, _, _, _, rfl, Walks.list (A := X.A.in1) (I.ok.hd hc) _ a hne its.toArray, st, truth_its rs rv e, fun h' tk hk => ?_⟩
    refine ⟨.bl _, H, I.kept fun b o eo => hk b o (fun hmem => ?_) (Heap.get?_push_of_some _ eo), ?_, q⟩
    · rcases List.mem_cons.mp hmem with e1 | hmem
      · exact absurd (e1 ▸ Heap.lt_size eo) (Nat.lt_irrefl _)
      · cases hmem
    · show Value.bool _ = Value.bool _
      rw [List.size_toArray, ← rv.length, ← rs.length, trus_length e]
      exact congrArg _ (all_range bs)
  · obtain ⟨its, rv, hl, _⟩ := I.tuple hs
    have hlt : a < s.heap.objs.size := hl.lt
    refine call_all_walk (wpAny_pyIter_tuple hl ?_)
    refine ⟨_, _, _, _, _, _, _, rfl, Walks.tuple (A := X.A.in1) (I.ok.hd hc) _ a (Nat.ne_of_lt hlt) its.toArray, ⟨⟨_, Heap.get?_push_size _ rfl, rfl, rfl⟩, hl.push _⟩, truth_its rs rv e, fun h' tk hk => ?_⟩
    refine ⟨.bl _, H, I.kept fun b o eo => hk b o (fun hmem => ?_) (Heap.get?_push_of_some _ eo), ?_, q⟩
    · rcases List.mem_cons.mp hmem with e1 | hmem
      · exact absurd (e1 ▸ Heap.lt_size eo) (Nat.lt_irrefl _)
      · cases hmem
    · show Value.bool _ = Value.bool _
      rw [List.size_toArray, ← rv.length, ← rs.length, trus_length e]
      exact congrArg _ (all_range bs)
end
end Pi
end
section
set_option Elab.async false
set_option linter.all false
set_option maxRecDepth 100000
set_option maxHeartbeats 4000000
namespace Pi
open PySem PySem.Spec PyProof.Rows L2
/-- the greatest of some ints -/
def maxI : List Int → Option Int
  | [] => none
  | [i] => some i
  | i :: r => match maxI r with
    | some m => some (if i < m then m else i)
    | none => none
theorem maxI_spec : ∀ {is : List Int} {m : Int}, maxI is = some m → m ∈ is ∧ ∀ i ∈ is, i ≤ m
  | [], _, h => by simp [maxI] at h
  | [i], m, h => by simp [maxI] at h; subst h; simp
  | i :: j :: r, m, h => by
    simp only [maxI] at h
    split at h
    · rename_i k e
      obtain ⟨h1, h2⟩ := maxI_spec (is := j :: r) e
      have h := Option.some.inj h
      split at h
      · subst h
        exact ⟨List.mem_cons_of_mem _ h1, fun x hx => by rcases List.mem_cons.mp hx with rfl | hx; · omega
                                                         · exact h2 x hx⟩
      · subst h
        exact ⟨List.mem_cons_self, fun x hx => by rcases List.mem_cons.mp hx with rfl | hx; · omega
                                                  · have := h2 x hx; omega⟩
    · cases h
def gcdI (a b : Int) : Int := ((Nat.gcd a.natAbs b.natAbs : Nat) : Int)
/-- a call of a built-in function -/
def bi1 (l : Bool) (b : BI) (p : PV) (st : Sto) : Out PV :=
  match b with
  | .len => match itemsOf st p with
    | some xs => .ok (.int xs.length) st
    | none => .stuck
  | .tuple => match p with
    | .tup xs => .ok (.tup xs) st
    | p => match listOf st p with
      | some xs => .ok (.tup xs) st
      | none => .stuck
  | .list => match itemsOf st p with
    | some xs => mkL l xs st
    | none => .stuck
  | .sum => match listOf st p with
    | some xs => match intsOf xs with
      | some is => .ok (.int is.sum) st
      | none => .stuck
    | none => .stuck
  | .any => match itemsOf st p with
    | some xs => match trus xs with
      | some bs => .ok (.bl (bs.any id)) st
      | none => .stuck
    | none => .stuck
  | .all => match itemsOf st p with
    | some xs => match trus xs with
      | some bs => .ok (.bl (bs.all id)) st
      | none => .stuck
    | none => .stuck
  | .max => match listOf st p with
    | some xs => match intsOf xs with
      | some is => match maxI is with
        | some m => .ok (.int m) st
        | none => .stuck
      | none => .stuck
    | none => .stuck
  | .abs => match p with
    | .int i => .ok (.int (if i < 0 then -i else i)) st
    | _ => .stuck
  | .int => match p with
    | .int i => .ok (.int i) st
    | .bl k => .ok (.int (if k then 1 else 0)) st
    | _ => .stuck
  | _ => .stuck
def bi2 (b : BI) (p q : PV) (st : Sto) : Out PV :=
  match b, p, q with
  | .gcd, .int i, .int j => .ok (.int (gcdI i j)) st
  | .min, .int i, .int j => .ok (.int (if j < i then j else i)) st
  | _, _, _ => .stuck
def biV (l : Bool) (b : BI) (ps : List PV) (st : Sto) : Out PV :=
  match ps with
  | [p] => bi1 l b p st
  | [p, q] => bi2 b p q st
  | _ => .stuck
theorem intsOf_eq : ∀ {ps : List PV} {is : List Int}, intsOf ps = some is → ps = is.map PV.int
  | [], _, h => by simp [intsOf] at h; subst h; rfl
  | p :: r, is, h => by
    cases p with
    | int i =>
      simp only [intsOf] at h
      split at h
      · rename_i js e
        cases h
        rw [intsOf_eq e]; rfl
      · cases h
    | _ => simp [intsOf] at h
section
variable {X : Cx} {C : Cls} {W : WX}
def rBi (K : PySem.W.Frag) (C : Cls) (W : WX) (l : Bool) (b : BI) : List V → Hp → VK → Prop := fun vs H Q => ∃ σ μ st ps, Hr K H μ st ∧ RVs K H μ ps vs ∧ Th K C W (RV K) (biV l b ps st) σ H μ Q
theorem cr_one {f : Value} {l : Bool} {b : BI} (h2 : ∀ p q st, bi2 b p q st = .stuck)
    (h : ∀ pins s (σ' : L2.St) H x us Q σ μ st p, Inv X pins σ' H s → Vals [x] us → Hr X.K H μ st → RV X.K H μ p x → Th X.K C W (RV X.K) (bi1 l b p st) σ H μ Q → wpAny (model X.prog X.w) X.A (PySem.call f us) (EP X pins σ' Q) X.xe s) : CallR X f (rBi X.K C W l b) := by
  intro pins s σ' H vs us Q I r hh
  obtain ⟨σ, μ, st, ps, hr, rs, z⟩ := hh
  cases rs with
  | nil => exact z.elim
  | cons r1 rs =>
    cases rs with
    | nil => exact h pins s σ' H _ us Q σ μ st _ I r hr r1 z
    | cons r2 rs =>
      cases rs with
      | nil =>
        have z' : Th X.K C W (RV X.K) (bi2 b _ _ st) σ H μ Q := z
        rw [h2] at z'
        exact z'.elim
      | cons _ _ => exact z.elim
theorem cr_len (l : Bool) : CallR X (.builtin "len") (rBi X.K C W l .len) := cr_one (fun _ _ _ => rfl) fun pins s σ' H x us Q σ μ st p I r hr r1 z => by
  simp only [bi1] at z
  split at z
  · rename_i xs e
    obtain ⟨a, ws, rfl, h1, r2⟩ := items_of hr r1 e
    refine call_len_seq pins s σ' H _ us Q I r ⟨a, ws, rfl, h1.imp Sx.sq id, ?_⟩
    rw [← r2.length]
    exact z.ok hr (.int _)
  · exact z.elim
theorem cr_tuple (l : Bool) : CallR X (.type "tuple") (rBi X.K C W l .tuple) := cr_one (fun _ _ _ => rfl) fun pins s σ' H x us Q σ μ st p I r hr r1 z => by
  simp only [bi1] at z
  split at z
  · cases r1 with
    | tup hT rs => exact call_tuple_of pins s σ' H _ us Q I r ⟨_, _, rfl, .inr ⟨hT, z.ok hr (.tup hT rs)⟩⟩
  · split at z
    · rename_i xs e
      obtain ⟨a, ws, rfl, h1, r2⟩ := list_of hr r1 e
      exact call_tuple_of pins s σ' H _ us Q I r ⟨a, ws, rfl, .inl ⟨h1.sq, fun p np => tup_new z hr r2 np⟩⟩
    · exact z.elim
theorem cr_list (l : Bool) : CallR X (.type "list") (rBi X.K C W l .list) := cr_one (fun _ _ _ => rfl) fun pins s σ' H x us Q σ μ st p I r hr r1 z => by
  simp only [bi1] at z
  split at z
  · rename_i xs e
    obtain ⟨a, ws, rfl, h1, r2⟩ := items_of hr r1 e
    exact call_list_of pins s σ' H _ us Q I r ⟨a, ws, rfl, h1.imp Sx.sq id, fun p np => mkL_ok z hr r2 np⟩
  · exact z.elim
theorem cr_sumP (l : Bool) (hc : X.calm = true) : CallR X (.builtin "sum") (rBi X.K C W l .sum) := cr_one (fun _ _ _ => rfl) fun pins s σ' H x us Q σ μ st p I r hr r1 z => by
  simp only [bi1] at z
  split at z
  · rename_i xs e
    split at z
    · rename_i is e2
      obtain ⟨a, ws, rfl, h1, r2⟩ := list_of hr r1 e
      rw [intsOf_eq e2] at r2
      have e3 := RVs.ints r2
      subst e3
      exact cr_sum hc pins s σ' H _ us Q I r ⟨a, is, rfl, h1.sq, z.ok hr (.int _)⟩
    · exact z.elim
  · exact z.elim
theorem cr_maxP (l : Bool) (hc : X.calm = true) : CallR X (.builtin "max") (rBi X.K C W l .max) := cr_one (fun _ _ _ => rfl) fun pins s σ' H x us Q σ μ st p I r hr r1 z => by
  simp only [bi1] at z
  split at z
  · rename_i xs e
    split at z
    · rename_i is e2
      split at z
      · rename_i m e4
        obtain ⟨a, ws, rfl, h1, r2⟩ := list_of hr r1 e
        rw [intsOf_eq e2] at r2
        have e3 := RVs.ints r2
        subst e3
        obtain ⟨m1, m2⟩ := maxI_spec e4
        refine cr_max hc pins s σ' H _ us Q I r ⟨a, is, rfl, h1.sq, List.length_pos_of_mem m1, fun k k1 k2 => ?_⟩
        have : k = m := Int.le_antisymm (m2 k k1) (k2 m m1)
        rw [this]
        exact z.ok hr (.int _)
      · exact z.elim
    · exact z.elim
  · exact z.elim
theorem cr_anyB (l : Bool) (hc : X.calm = true) : CallR X (.builtin "any") (rBi X.K C W l .any) := cr_one (fun _ _ _ => rfl) fun pins s σ' H x us Q σ μ st p I r hr r1 z => by
  simp only [bi1] at z
  split at z
  · rename_i xs e
    split at z
    · rename_i bs e2
      obtain ⟨a, ws, rfl, h1, r2⟩ := items_of hr r1 e
      exact cr_anyP hc pins s σ' H _ us Q I r ⟨a, ws, μ, xs, bs, rfl, h1, r2, e2, z.ok hr (.bl _)⟩
    · exact z.elim
  · exact z.elim
theorem cr_allB (l : Bool) (hc : X.calm = true) : CallR X (.builtin "all") (rBi X.K C W l .all) := cr_one (fun _ _ _ => rfl) fun pins s σ' H x us Q σ μ st p I r hr r1 z => by
  simp only [bi1] at z
  split at z
  · rename_i xs e
    split at z
    · rename_i bs e2
      obtain ⟨a, ws, rfl, h1, r2⟩ := items_of hr r1 e
      exact cr_allP hc pins s σ' H _ us Q I r ⟨a, ws, μ, xs, bs, rfl, h1, r2, e2, z.ok hr (.bl _)⟩
    · exact z.elim
  · exact z.elim
theorem cr_absP (l : Bool) : CallR X (.builtin "abs") (rBi X.K C W l .abs) := cr_one (fun _ _ _ => rfl) fun pins s σ' H x us Q σ μ st p I r hr r1 z => by
  cases r1 with
  | int i => exact call_abs pins s σ' H _ us Q I r ⟨i, rfl, z.ok hr (.int _)⟩
  | _ => exact z.elim
theorem cr_intP (l : Bool) : CallR X (.type "int") (rBi X.K C W l .int) := cr_one (fun _ _ _ => rfl) fun pins s σ' H x us Q σ μ st p I r hr r1 z => by
  cases r1 with
  | int i => exact call_int1 pins s σ' H _ us Q I r (.inl ⟨i, rfl, z.ok hr (.int _)⟩)
  | bl k => exact call_int1 pins s σ' H _ us Q I r (.inr ⟨k, rfl, z.ok hr (.int _)⟩)
  | _ => exact z.elim
theorem cr_gcdP (l : Bool) : CallR X (.builtin "math.gcd") (rBi X.K C W l .gcd) := by
  intro pins s σ' H vs us Q I r hh
  obtain ⟨σ, μ, st, ps, hr, rs, z⟩ := hh
  cases rs with
  | nil => exact z.elim
  | cons r1 rs =>
    cases rs with
    | nil => exact z.elim
    | cons r2 rs =>
      cases rs with
      | nil =>
        cases r1 with
        | int i =>
          cases r2 with
          | int j => exact cr_gcd pins s σ' H _ us Q I r ⟨i, j, rfl, z.ok hr (.int _)⟩
          | _ => exact z.elim
        | _ => cases r2 <;> exact z.elim
      | cons _ _ => exact z.elim
theorem cr_minP (l : Bool) (hc : X.calm = true) : CallR X (.builtin "min") (rBi X.K C W l .min) := by
  intro pins s σ' H vs us Q I r hh
  obtain ⟨σ, μ, st, ps, hr, rs, z⟩ := hh
  cases rs with
  | nil => exact z.elim
  | cons r1 rs =>
    cases rs with
    | nil => exact z.elim
    | cons r2 rs =>
      cases rs with
      | nil =>
        cases r1 with
        | int i =>
          cases r2 with
          | int j => exact call_min2 hc pins s σ' H _ us Q I r ⟨i, j, rfl, z.ok hr (.int _)⟩
          | _ => exact z.elim
        | _ => cases r2 <;> exact z.elim
      | cons _ _ => exact z.elim
/-- f(..), f a built-in function or class -/
theorem g_biB {l : Bool} {b : BI} {n : Str} {id : String} {p pos : Pos} {e : Expr} {xs : List Expr} {ev : Env → Sto → Out (List PV)} (hc : CallR X (.builtin id) (rBi X.K C W l b)) (hg : Gl X n) (hm : X.mg n = none) (hv : bootBuiltins n = some (.builtin id))
    (ha : PA X (e :: xs) (gA X.K C W ev)) (hn : n ≠ "__name__") (hdb : (n == ("__debug__" : Str)) = false) (he : starEach (e :: xs) X.env = (false, eval e X.env) :: starEach xs X.env) (hpl : (backTo pos (starEach xs X.env)).any (·.1) = false) :
    PE X (.Call (.Name n p) (e :: xs) [] pos) (gE X.K C W fun ρ st => (ev ρ st).bind fun vs st => biV l b vs st) := by
  refine (pe_callB hc hg hm hv ha hn hdb he hpl).imp fun σ H Q q => gA.imp ?_ (gE.args q)
  rintro vs H1 ⟨μ, st, ps, hr, rs, z⟩
  exact ⟨σ, μ, st, ps, hr, rs, z⟩
theorem g_biT {l : Bool} {b : BI} {n : Str} {id : String} {p pos : Pos} {e : Expr} {xs : List Expr} {ev : Env → Sto → Out (List PV)} (hc : CallR X (.type id) (rBi X.K C W l b)) (hg : Gl X n) (hm : X.mg n = none) (hv : bootBuiltins n = some (.type id))
    (ha : PA X (e :: xs) (gA X.K C W ev)) (hn : n ≠ "__name__") (hdb : (n == ("__debug__" : Str)) = false) (he : starEach (e :: xs) X.env = (false, eval e X.env) :: starEach xs X.env) (hpl : (backTo pos (starEach xs X.env)).any (·.1) = false) :
    PE X (.Call (.Name n p) (e :: xs) [] pos) (gE X.K C W fun ρ st => (ev ρ st).bind fun vs st => biV l b vs st) := by
  refine (pe_callTy hc hg hm hv ha hn hdb he hpl).imp fun σ H Q q => gA.imp ?_ (gE.args q)
  rintro vs H1 ⟨μ, st, ps, hr, rs, z⟩
  exact ⟨σ, μ, st, ps, hr, rs, z⟩
theorem g_biF {l : Bool} {b : BI} {n : Str} {id : String} {p pos : Pos} {e : Expr} {xs : List Expr} {ev : Env → Sto → Out (List PV)} (hc : CallR X (.builtin id) (rBi X.K C W l b)) (hg : Gl X n) (hm : X.mg n = some (.builtin id))
    (ha : PA X (e :: xs) (gA X.K C W ev)) (hdb : (n == ("__debug__" : Str)) = false) (he : starEach (e :: xs) X.env = (false, eval e X.env) :: starEach xs X.env) (hpl : (backTo pos (starEach xs X.env)).any (·.1) = false) :
    PE X (.Call (.Name n p) (e :: xs) [] pos) (gE X.K C W fun ρ st => (ev ρ st).bind fun vs st => biV l b vs st) := by
  refine (pe_callBfun hc hg hm ha hdb he hpl).imp fun σ H Q q => gA.imp ?_ (gE.args q)
  rintro vs H1 ⟨μ, st, ps, hr, rs, z⟩
  exact ⟨σ, μ, st, ps, hr, rs, z⟩
end
end Pi
end
section
set_option Elab.async false
set_option linter.all false
set_option maxRecDepth 100000
set_option maxHeartbeats 4000000
namespace Pi
open PySem PySem.Spec PyProof.Rows L2
/-- what a def of the text promises: what the interpreter tells -/
def spI (K : PySem.W.Frag) (C : Cls) (cl : List PV → Sto → Out PV) (n : Nat) : Sp := fun vs H Q E => ∃ μ st ps, Hr K H μ st ∧ RVs K H μ ps vs ∧ ps.length = n ∧ (match cl ps st with
  | .ok v st' => KV1 K H μ v st' Q
  | .exc c fs st' => KX K C H μ c fs st' E
  | .stuck => False)
/-- a def as it stands behind the top, and its promise at level k -/
structure Def (P : Program) (w : World) (K : PySem.W.Frag) (mg : Str → Option Value) (C : Cls) (k : Nat) (cl : List PV → Sto → Out PV) (n : Nat) (x : Str) : Prop where
  ex : ∃ (f : Addr) (fd : FuncData) (ps : List Str), mg x = some (.ref f) ∧ PySem.W.keepIn K (.ref f) = true ∧ Binds K fd ps [] ∧ ps.length = n ∧ ∀ base, FnX P w K mg base k f fd ps (spI K C cl n)
  len : ∀ ps st, ps.length ≠ n → cl ps st = .stuck
section
variable {X : Cx} {C : Cls} {W : WX} {k n : Nat} {cl : List PV → Sto → Out PV} {x : Str} {p pos : Pos} {e : Expr} {xs : List Expr} {ev : Env → Sto → Out (List PV)}
theorem sp_of {K : PySem.W.Frag} {H : Hp} {μ : Mu} {st : Sto} {ps : List PV} {vs : List V} {σ : L2.St} {Q : VK} (hl : ∀ ps st, ps.length ≠ n → cl ps st = .stuck) (hr : Hr K H μ st) (rs : RVs K H μ ps vs) (z : Th K C W (RV K) (cl ps st) σ H μ Q) :
    spI K C cl n vs H Q (fun c d H' => W c d σ H') := by
  refine ⟨μ, st, ps, hr, rs, ?_, ?_⟩
  · by_cases h : ps.length = n
    · exact h
    · rw [hl ps st h] at z; exact z.elim
  · cases e : cl ps st with
    | ok v st' => rw [e] at z; exact z
    | exc c fs st' => rw [e] at z; exact z
    | stuck => rw [e] at z; exact z.elim
theorem g_call (D : Def X.prog X.w X.K X.mg C k cl n x) (hq : Quiet X.A) (hr : Room k X.A) (tk : Takes X W) (hg : Gl X x) (ha : PA X (e :: xs) (gA X.K C W ev)) (hdb : (x == ("__debug__" : Str)) = false)
    (he : starEach (e :: xs) X.env = (false, eval e X.env) :: starEach xs X.env) (hpl : (backTo pos (starEach xs X.env)).any (·.1) = false) :
    PE X (.Call (.Name x p) (e :: xs) [] pos) (gE X.K C W fun ρ st => (ev ρ st).bind fun vs st => cl vs st) := by
  obtain ⟨f, fd, ps, hm, hk, hb, hlen, F⟩ := D.ex
  refine (pe_callX hq (F X.base) hr hg hm hk hb tk ha hdb he hpl).imp fun σ H Q q => gA.imp ?_ (gE.args q)
  rintro vs H1 ⟨μ, st, ps, hr, rs, z⟩
  exact sp_of D.len hr rs z
theorem g_call0 (D : Def X.prog X.w X.K X.mg C k cl n x) (hq : Quiet X.A) (hr : Room k X.A) (tk : Takes X W) (hg : Gl X x) (hdb : (x == ("__debug__" : Str)) = false) :
    PE X (.Call (.Name x p) [] [] pos) (gE X.K C W fun ρ st => cl [] st) := by
  obtain ⟨f, fd, ps, hm, hk, hb, hlen, F⟩ := D.ex
  refine (pe_callX0 hq (F X.base) hr hg hm hk hb tk hdb).imp ?_
  rintro σ H Q ⟨μ, ρ, st, hr, he, z⟩
  exact sp_of D.len hr .nil z
end

/-! ### statements -/
section
variable {K : PySem.W.Frag} {C : Cls} {W : WX} {σ : L2.St} {H H1 : Hp} {μ μ1 : Mu}
/-- what is wanted behind a statement -/
def ThS (K : PySem.W.Frag) (C : Cls) (W : WX) (f : Fl) (n : Nat) (H : Hp) (μ : Mu) (D : Ends) : Prop :=
  match f with
  | .nx ρ st => ∀ H' μ' σ', Ext K H μ H' μ' → Hr K H' μ' st → RE K H' μ' ρ σ' → σ'.length = n → D.nx σ' H'
  | .brk ρ st => ∀ H' μ' σ', Ext K H μ H' μ' → Hr K H' μ' st → RE K H' μ' ρ σ' → σ'.length = n → D.bk σ' H'
  | .cont ρ st => ∀ H' μ' σ', Ext K H μ H' μ' → Hr K H' μ' st → RE K H' μ' ρ σ' → σ'.length = n → D.ct σ' H'
  | .ret v st => ∀ H' μ' x, Ext K H μ H' μ' → Hr K H' μ' st → RV K H' μ' v x → D.rt x H'
  | .exc c fs ρ st => ∀ H' μ' σ' d xs, Ext K H μ H' μ' → Hr K H' μ' st → RE K H' μ' ρ σ' → σ'.length = n → RVs K H' μ' fs xs → H' d = some (.xd ((C c).2.zip xs)) → W (.ref (C c).1) (some d) σ' H'
  | .stuck => False
theorem ThS.ext {f : Fl} {n : Nat} {D : Ends} (x : Ext K H μ H1 μ1) (h : ThS K C W f n H μ D) : ThS K C W f n H1 μ1 D := by
  cases f with
  | nx ρ st => exact fun H' μ' σ' e => h H' μ' σ' (x.trans e)
  | brk ρ st => exact fun H' μ' σ' e => h H' μ' σ' (x.trans e)
  | cont ρ st => exact fun H' μ' σ' e => h H' μ' σ' (x.trans e)
  | ret v st => exact fun H' μ' y e => h H' μ' y (x.trans e)
  | exc c fs ρ st => exact fun H' μ' σ' d xs e => h H' μ' σ' d xs (x.trans e)
  | stuck => exact h
def gS (K : PySem.W.Frag) (C : Cls) (W : WX) (ex : Env → Sto → Fl) : TS := fun D σ H => ∃ μ ρ st, Hr K H μ st ∧ RE K H μ ρ σ ∧ ThS K C W (ex ρ st) σ.length H μ D
/-- an expression, then a statement's rest -/
theorem fl_of {α β : Type} {rel : Hp → Mu → α → β → Prop} {o : Out α} {ρ : Env} {f : α → Sto → Fl} {D : Ends} {n : Nat} (he : RE K H μ ρ σ) (hn : σ.length = n) (h : ThS K C W (o.fl ρ f) n H μ D) :
    Th K C W rel o σ H μ (fun b H1 => ∃ μ1 a st1, Ext K H μ H1 μ1 ∧ Hr K H1 μ1 st1 ∧ rel H1 μ1 a b ∧ ThS K C W (f a st1) n H1 μ1 D) := by
  cases o with
  | ok a st => exact fun H' μ' b e r z => ⟨μ', a, st, e, r, z, ThS.ext e h⟩
  | exc c fs st => exact fun H' μ' d xs e r z q => h H' μ' σ d xs e r (he.ext e) hn z q
  | stuck => exact h
end
section
variable {X : Cx} {C : Cls} {W : WX} {a b c e : Expr} {ea eb ec : Env → Sto → Out PV} {pos p2 : Pos} {D : Dat} {N : List Str} {sc : Scope} {R : Ops}
theorem s_expr (he : PE X e (gE X.K C W ea)) (hs : swapsWith e none pos.line X.env = pure false) : PS X (.Expr e pos) (gS X.K C W fun ρ st => (ea ρ st).fl ρ fun _ st => .nx ρ st) := by
  refine (ps_expr he hs).imp ?_
  rintro D σ H ⟨μ, ρ, st, hr, hE, z⟩
  refine ⟨μ, ρ, st, hr, hE, (fl_of (rel := RV X.K) hE rfl z).imp ?_⟩
  rintro x H1 ⟨μ1, p, st1, e1, hr1, r1, z1⟩
  exact z1 H1 μ1 σ .refl hr1 (hE.ext e1) rfl
theorem s_ret (he : PE X e (gE X.K C W ea)) : PS X (.Return (some e) pos) (gS X.K C W fun ρ st => (ea ρ st).fl ρ fun v st => .ret v st) := by
  refine (ps_ret he).imp ?_
  rintro D σ H ⟨μ, ρ, st, hr, hE, z⟩
  refine ⟨μ, ρ, st, hr, hE, (fl_of (rel := RV X.K) hE rfl z).imp ?_⟩
  rintro x H1 ⟨μ1, p, st1, e1, hr1, r1, z1⟩
  exact z1 H1 μ1 x .refl hr1 r1
theorem s_retn : PS X (.Return none pos) (gS X.K C W fun ρ st => .ret .non st) := by
  refine ps_retN.imp ?_
  rintro D σ H ⟨μ, ρ, st, hr, hE, z⟩
  exact z H μ .non .refl hr .non
theorem s_pass : PS X (.Pass pos) (gS X.K C W fun ρ st => .nx ρ st) := by
  refine ps_pass.imp ?_
  rintro D σ H ⟨μ, ρ, st, hr, hE, z⟩
  exact z H μ σ .refl hr hE rfl
theorem s_brk : PS X (.Break pos) (gS X.K C W fun ρ st => .brk ρ st) := by
  refine ps_break.imp ?_
  rintro D σ H ⟨μ, ρ, st, hr, hE, z⟩
  exact z H μ σ .refl hr hE rfl
theorem s_cont : PS X (.Continue pos) (gS X.K C W fun ρ st => .cont ρ st) := by
  refine ps_continue.imp ?_
  rintro D σ H ⟨μ, ρ, st, hr, hE, z⟩
  exact z H μ σ .refl hr hE rfl
theorem RE.set {K : PySem.W.Frag} {H : Hp} {μ : Mu} {ρ : Env} {σ : L2.St} {i : Nat} {p : PV} {x : V} (h : RE K H μ ρ σ) (r : RV K H μ p x) : RE K H μ (setN ρ i (some p)) (σ.set i (some x)) := by
  rw [setN_eq]
  refine ⟨by simp [h.1], fun j q e => ?_⟩
  by_cases hj : i = j
  · subst hj
    by_cases hl : i < ρ.length
    · rw [List.getElem?_set_self hl] at e
      cases e
      exact ⟨x, by rw [List.getElem?_set_self (by rw [← h.1]; exact hl)], r⟩
    · rw [List.getElem?_eq_none (by simpa using hl)] at e; cases e
  · rw [List.getElem?_set_ne hj] at e
    rw [List.getElem?_set_ne hj]
    exact h.2 j q e
theorem s_asg {i : Nat} {n : Str} (hN : X.N.Nodup) (hi : X.N[i]? = some n) (hx : Loc X.env.scope n) (hf : X.fn n = true ∨ X.env.scope.names.lookup n = some .local) (he : PE X e (gE X.K C W ea))
    (hs : swapsWith e (some (.Name n p2)) pos.line X.env = pure false) : PS X (.Assign [.Name n p2] e pos) (gS X.K C W fun ρ st => (ea ρ st).fl ρ fun v st => .nx (setN ρ i (some v)) st) := by
  refine (ps_set hN hi hx he hs hf).imp ?_
  rintro D σ H ⟨μ, ρ, st, hr, hE, z⟩
  refine ⟨μ, ρ, st, hr, hE, (fl_of (rel := RV X.K) hE rfl z).imp ?_⟩
  rintro x H1 ⟨μ1, p, st1, e1, hr1, r1, z1⟩
  exact z1 H1 μ1 (σ.set i (some x)) .refl hr1 ((hE.ext e1).set r1) (by simp)
/-! ### blocks -/
abbrev SoundS (X : Cx) (C : Cls) (W : WX) (chk : S → Stmt → Bool) (R : Ops) : Prop := ∀ s x, chk s x = true → PS X x (gS X.K C W (R.s s))
def chkL (chk : S → Stmt → Bool) : List S → List Stmt → Bool
  | [], xs => match xs with
    | [] => true
    | _ => false
  | s :: ss, xs => match xs with
    | x :: xs => chk s x && chkL chk ss xs
    | _ => false
theorem s_block {chk : S → Stmt → Bool} (S0 : SoundS X C W chk R) : ∀ {ss : List S} {xs : List Stmt}, chkL chk ss xs = true → PSs X xs (gS X.K C W (exSs R ss))
  | [], xs, h => by
    cases xs with
    | cons _ _ => simp [chkL] at h
    | nil =>
      refine pss_nil.imp ?_
      rintro D σ H ⟨μ, ρ, st, hr, hE, z⟩
      exact z H μ σ .refl hr hE rfl
  | s :: ss, xs, h => by
    cases xs with
    | nil => simp [chkL] at h
    | cons x xs =>
      simp only [chkL, Bool.and_eq_true] at h
      refine (pss_cons (S0 s x h.1) (s_block S0 h.2)).imp ?_
      rintro D σ H ⟨μ, ρ, st, hr, hE, z⟩
      refine ⟨μ, ρ, st, hr, hE, ?_⟩
      unfold exSs at z
      cases e : R.s s ρ st with
      | nx ρ1 st1 =>
        rw [e] at z
        intro H1 μ1 σ1 ex hr1 hE1 hl
        refine ⟨μ1, ρ1, st1, hr1, hE1, ?_⟩
        rw [hl]
        exact ThS.ext ex z
      | ret v st1 => rw [e] at z; exact z
      | brk ρ1 st1 => rw [e] at z; exact z
      | cont ρ1 st1 => rw [e] at z; exact z
      | exc c fs ρ1 st1 => rw [e] at z; exact z
      | stuck => rw [e] at z; exact z.elim
theorem s_if {A B : Env → Sto → Fl} {xs ys : List Stmt} (hc : PT X c (gT X.K C W fun ρ st => (ec ρ st).bind fun v st => Out.of (tru st v) st)) (ha : PSs X xs (gS X.K C W A)) (hb : PSs X ys (gS X.K C W B)) :
    PS X (.If c xs ys pos) (gS X.K C W fun ρ st => ((ec ρ st).bind fun v st => Out.of (tru st v) st).fl ρ fun k st => match k with
      | true => A ρ st
      | false => B ρ st) := by
  refine (ps_if hc ha hb).imp ?_
  rintro D σ H ⟨μ, ρ, st, hr, hE, z⟩
  refine ⟨μ, ρ, st, hr, hE, (fl_of (rel := relB) hE rfl z).imp ?_⟩
  rintro k H1 ⟨μ1, k', st1, e1, hr1, r1, z1⟩
  obtain rfl : k' = k := r1
  cases k' with
  | true => exact ⟨μ1, ρ, st1, hr1, hE.ext e1, z1⟩
  | false => exact ⟨μ1, ρ, st1, hr1, hE.ext e1, z1⟩
end
end Pi
end
section
set_option Elab.async false
set_option linter.all false
set_option maxRecDepth 100000
set_option maxHeartbeats 4000000
/-! for i, x in enumerate(a tuple) -/
namespace Own
open PySem PySem.Spec
open Sem (wp)
theorem meets_enumT (l : Addr) (items : Array Value) :
    Meets (Builtin.«enumerate.__new__» ⟨[.type "enumerate", .ref l], []⟩) (fun _ R s => s.heap.IsTuple l items ∧
      R (.ok (.ret (.ref (s.heap.push { cls := .type "tuple_iterator", data := .fields #[.ref l, .int 0 0] }).objs.size)))
        { s with heap := (s.heap.push { cls := .type "tuple_iterator", data := .fields #[.ref l, .int 0 0] }).push { cls := .type "enumerate", data := .fields #[.none, .bool false, .ref s.heap.objs.size, rawInt 0, .none, .none] } }) :=
  .of_wp fun prog w A R s h => by
    obtain ⟨hp, g, d, tk, os⟩ := s
    obtain ⟨hL, h⟩ := h
    have hsub := sub_enumerate
    wp_walk
    refine wpAny_stack_any fun st => wpAny_pure ?_
    split
    · rename_i c _ _ _ _ _
      cases (c == Value.type "enumerate") <;>
      · wp_walk using wpAny_pyIter_tuple hL
        exact ⟨_, rfl, h⟩
    · wp_walk using wpAny_pyIter_tuple hL
      exact ⟨_, rfl, h⟩
section
variable {prog : Program} {w : World} {A : Around} {E : Value → Shared → Prop} {s : Shared}
theorem call_enumT {l : Addr} {items : Array Value} {Q : Value → Shared → Prop} (hL : s.heap.IsTuple l items)
    (h : ∀ h', IsEnum h' (s.heap.objs.size + 1) s.heap.objs.size 0 .none → h'.IsTupleIter s.heap.objs.size l 0 → (∀ b o, s.heap.get? b = some o → h'.get? b = some o) → Q (.ref (s.heap.objs.size + 1)) { s with heap := h' }) :
    wpAny (model prog w) A (call (.type "enumerate") [.ref l]) Q E s := by
  refine callType_new F.called_enumerate (by decide) (F.typeCall_enumerate_1 _) (F.newCall_enumerate_1 _) (fun obj => F.args_object_init_2 obj _) F.entry_enumerate_new (meets_enumT l items) ⟨hL, ?_⟩
  have hz : (s.heap.push { cls := .type "tuple_iterator", data := .fields #[.ref l, .int 0 0] }).objs.size = s.heap.objs.size + 1 := Heap.size_push ..
  show _ ∧ _
  rw [hz]
  have he : IsEnum ((s.heap.push { cls := .type "tuple_iterator", data := .fields #[.ref l, .int 0 0] }).push
      { cls := .type "enumerate", data := .fields #[.none, .bool false, .ref s.heap.objs.size, rawInt 0, .none, .none] }) (s.heap.objs.size + 1) s.heap.objs.size 0 .none := by
    have z := Heap.get?_push_size (s.heap.push { cls := .type "tuple_iterator", data := .fields #[.ref l, .int 0 0] })
      (o := { cls := .type "enumerate", data := .fields #[.none, .bool false, .ref s.heap.objs.size, rawInt 0, .none, .none] }) rfl
    rw [hz] at z
    exact z
  exact ⟨⟨_, he, rfl⟩, h _ he ⟨_, Heap.get?_push_of_some _ (Heap.get?_push_size _ rfl), rfl, rfl⟩ fun b o x => Heap.get?_push_of_some _ (Heap.get?_push_of_some _ x)⟩
end
end Own
namespace Own
open PySem PySem.Spec PyProof.Rows L2
/-- the tuple at a as it stands at each turn, each item in a new pair -/
def IteT (K : PySem.W.Frag) (a : Addr) : It :=
  ⟨fun i H => ∃ (xs : List V) (x : V), SqT K H a xs ∧ xs[i]? = some x, fun i H v H' => ∃ T x, v = .ref T ∧ H T = none ∧ H' = upd H T (.tup [.int (i : Nat), x]) ∧ ∀ xs, SqT K H a xs → xs[i]? = some x, fun i H => ∃ xs : List V, SqT K H a xs ∧ xs.length = i⟩
theorem turn_enumT {P : Program} {w : World} {K : PySem.W.Frag} {elts : List Expr} {kk : Nat} {tpos : Pos} (a e it : Addr) :
    Turn P w K (.Tuple elts kk tpos) (IteT K a) [e, it] e (fun i h => (∃ old, IsEnum h e it ((i : Nat) : Int) old) ∧ h.IsTupleIter it a i ∧ e ≠ it ∧ a ≠ it ∧ a ≠ e) where
  mem := by simp
  obj := fun i h st b hb => by
    obtain ⟨⟨old, he⟩, ⟨o, ho, _, hd⟩, _⟩ := st
    rcases (by simpa using hb : b = e ∨ b = it) with z | z
    · rw [z]; exact ⟨_, he, fun v q => nomatch q⟩
    · rw [z]; exact ⟨o, ho, fun v q => by rw [hd] at q; cases q⟩
  keep := fun i h h' st k => let ⟨⟨old, he⟩, hi, r⟩ := st; ⟨⟨old, k e (by simp) _ he⟩, hi.at fun o q => k it (by simp) o q, r⟩
  item := by
    intro X hP hw hK hc i pins s σ H E I hf st hg
    subst hP hw hK
    obtain ⟨⟨old, he⟩, hit, hne, nai, nae⟩ := st
    obtain ⟨xs, x, hq, hx⟩ := hg
    obtain ⟨its, rv, p, hz⟩ := I.tuple hq
    obtain ⟨u, hu, ru⟩ := rv.get hx
    have hil : i < its.toArray.size := by
      have z := (List.getElem?_eq_some_iff.mp hu).1
      simpa using z
    have hel : e < s.heap.objs.size := Heap.lt_size he
    have hitl : it < s.heap.objs.size := by obtain ⟨_, q, _⟩ := hit; exact Heap.lt_size q
    have D : Draws X.prog X.w X.A.in1 it [it, a] its.toArray.size (fun i v => its.toArray[i]? = some v) (fun i h => h.IsTupleIter it a i ∧ h.IsTuple a its.toArray) := Draws.tuple (A := X.A.in1) (show X.A.in1.handled = none from I.ok.hd hc) it a nai _
    refine wpAny_pyNext_enum_itemD D he ⟨hit, show s.heap.IsTuple a its.toArray from p⟩ hil hne (by simp [hne, nae.symm]) fun v h' tk hv ho hst hT hsz hk => ?_
    have hvu : v = u := by
      have z : its.toArray[i]? = some u := by simpa using hu
      rw [z] at hv
      exact (Option.some.inj hv).symm
    subst hvu
    refine ⟨_, rfl, wpAny_letOwnedTupleGo_enum (s := { s with heap := h', toks := tk + 1 }) ho fun h'' he' sb => ?_⟩
    have hT2 : h''.get? s.heap.objs.size = some { cls := .type "tuple", data := .seq #[.int i tk, v] } := (sb.2 _ (Nat.ne_of_gt hel)).trans hT
    have new : ObjOk X.prog X.w (upd H s.heap.objs.size (.tup [.int (i : Nat), x])) h'' s.heap.objs.size (.tup [.int (i : Nat), x]) :=
      ⟨by show 2 ≤ sizeLine; decide, [.int i tk, v], .cons ⟨_, rfl⟩ (.cons ru .nil), ⟨_, hT2, rfl, _, rfl⟩⟩
    have I1 : Inv X pins σ (upd H s.heap.objs.size (.tup [.int (i : Nat), x])) { s with heap := h'', toks := tk + 1 } :=
      I.turnedNew (ch := [e, it]) (fun b ob hb q => (sb.2 b (fun z => hb (by simp [z]))).trans (hk b ob (fun z => hb (by simp [z])) (fun z => hb (by simp [z])) q)) hf (Nat.le_refl _) new
    refine ⟨.ref s.heap.objs.size, _, I1, rfl, ⟨_, x, rfl, I.hok.fresh (Nat.le_refl _), rfl, fun ys hy => by rw [I.tuple_inj hy hq]; exact hx⟩, ⟨⟨v, ?_⟩, hst.1.at fun o q => (sb.2 it (Ne.symm hne)).trans q, hne, nai, nae⟩, fun b hb => ?_⟩
    · have e1 : ((i + 1 : Nat) : Int) = (i : Int) + 1 := by omega
      rw [e1]
      exact he'
    · have hb' : b < s.heap.objs.size := by
        rcases (by simpa using hb : b = e ∨ b = it) with z | z
        · rw [z]; exact hel
        · rw [z]; exact hitl
      rw [upd_ne (Nat.ne_of_lt hb')]
      exact (hf b hb).1
  done := by
    intro X hP hw hK hc i pins s σ H E I hf st hg
    subst hP hw hK
    obtain ⟨⟨old, he⟩, hit, hne, nai, nae⟩ := st
    obtain ⟨xs, hq, hx⟩ := hg
    obtain ⟨its, rv, p, hz⟩ := I.tuple hq
    obtain ⟨f0, f1, f2, f3, f4, f5⟩ := hf it (by simp)
    have hl := rv.length
    have hi : its.toArray.size = i := by
      rw [List.size_toArray]
      omega
    have D : Draws X.prog X.w X.A.in1 it [it, a] its.toArray.size (fun i v => its.toArray[i]? = some v) (fun i h => h.IsTupleIter it a i ∧ h.IsTuple a its.toArray) := Draws.tuple (A := X.A.in1) (show X.A.in1.handled = none from I.ok.hd hc) it a nai _
    exact wpAny_pyNext_enum_endD D he ⟨by rw [hi]; exact hit, show s.heap.IsTuple a its.toArray from p⟩ fun h' eb => ⟨rfl, I.turned (t' := s.toks) (fun b o hb q => eb b o hb q) f0 f1 f3 f4 f5⟩
  self := fun A i s Q E st h => let ⟨⟨_, he⟩, _⟩ := st; wpAny_pyIter_enum he h
def iEnumT (K : PySem.W.Frag) (ta : TA) : TI := fun σ H R => ta σ H fun vs H1 => ∃ a xs, vs = [.ref a] ∧ SqT K H1 a xs ∧ R (IteT K a) H1
theorem pi_enumT {X : Cx} {e : Expr} {ta : TA} {p pos tpos : Pos} {elts : List Expr} {kk : Nat} (hg : Gl X "enumerate") (hm : X.mg "enumerate" = none) (ha : PA X [e] ta) (hs : starEach [e] X.env = [(false, eval e X.env)] := by rfl) :
    PI X (.Tuple elts kk tpos) (.Call (.Name "enumerate" p) [e] [] pos) (iEnumT X.K ta) := by
  constructor
  intro pins s σ H R I h
  refine Call_ (ld_blt I hg hm boot_enumerate (PyProof.Rows.callWith_type1 (thn (ha.run pos pins s σ H _ I h) fun us s1 ⟨vs, H1, I1, r1, a, xs, ex, hq, q⟩ => ?_) hs rfl))
  subst ex
  cases r1 with
  | cons r rr =>
    cases rr
    cases r
    obtain ⟨its, rv, p', hz⟩ := I1.tuple hq
    have al : a < s1.heap.objs.size := by
      obtain ⟨o, ho, _⟩ := id p'
      exact Heap.lt_size ho
    refine call_enumT (show s1.heap.IsTuple a its.toArray from p') fun h' he hit hk => wpAny_pyIter_enum he ?_
    have I2 : Inv X pins σ H1 { s1 with heap := h' } := I1.kept (t' := s1.toks) hk
    refine ⟨s1.heap.objs.size + 1, [s1.heap.objs.size + 1, s1.heap.objs.size], _, _, H1, rfl, I2, turn_enumT a (s1.heap.objs.size + 1) s1.heap.objs.size, ⟨⟨.none, he⟩, hit, Nat.succ_ne_self _, Nat.ne_of_lt al, Nat.ne_of_lt (Nat.lt_succ_of_lt al)⟩, fun b hb => ?_, q⟩
    have hle : s1.heap.objs.size ≤ b := by
      rcases (by simpa using hb : b = s1.heap.objs.size + 1 ∨ b = s1.heap.objs.size) with z | z
      · rw [z]; exact Nat.le_succ _
      · rw [z]; exact Nat.le_refl _
    exact I1.fpOk hle (I1.hok.fresh hle)
theorem walk_enumT {K : PySem.W.Frag} {a : Addr} {xs : List V} : Walk (IteT K a) xs.length (fun H => SqT K H a xs) (YPair (fun i => some (.int (i : Nat))) (fun i => xs[i]?)) := by
  refine ⟨fun i _ hi q => ⟨xs, xs[i], q, by simp [hi]⟩, fun _ q => ⟨xs, q, rfl⟩, fun i H v H' _ q y => ?_⟩
  obtain ⟨T, x, h1, h2, h3, h4⟩ := y
  exact ⟨T, .int (i : Nat), x, h1, h2, h3, rfl, h4 xs q⟩
end Own
end
section
set_option Elab.async false
set_option linter.all false
set_option maxRecDepth 100000
set_option maxHeartbeats 4000000
namespace Pi
open PySem PySem.Spec PyProof.Rows L2
/-! ### targets -/
section
variable {X : Cx} {N : List Str} {sc fs : Scope}
def gG (K : PySem.W.Frag) (t : TV) : TG := fun v σ H Q => ∃ μ ρ p ρ', RE K H μ ρ σ ∧ RV K H μ p v ∧ bindT t p ρ = some ρ' ∧ ∀ σ', RE K H μ ρ' σ' → σ'.length = σ.length → (∀ i, i ∉ slotsT t → σ'[i]? = σ[i]?) → Q σ' H
def gGs (K : PySem.W.Frag) (ts : List TV) : TGs := fun vs σ H Q => ∃ μ ρ ps ρ', RE K H μ ρ σ ∧ RVs K H μ ps vs ∧ bindTs ts ps ρ = some ρ' ∧ ∀ σ', RE K H μ ρ' σ' → σ'.length = σ.length → (∀ i, i ∉ slotsTs ts → σ'[i]? = σ[i]?) → Q σ' H
structure GT (X : Cx) (N : List Str) (sc fs : Scope) : Prop where
  nm : X.N = N
  nd : X.N.Nodup
  scp : X.env.scope = sc
  fn : ∀ x, fs.names.lookup x = some .cell → X.fn x = true
  calm : X.calm = true
theorem loc_of (G : GT X N sc fs) {n : Str} (h : locB sc fs n = true) : Loc X.env.scope n ∧ (X.fn n = true ∨ X.env.scope.names.lookup n = some .local) := by
  unfold locB at h
  simp only [Bool.or_eq_true, Bool.and_eq_true, decide_eq_true_eq] at h
  rw [G.scp]
  rcases h with h | ⟨h1, h2⟩
  · exact ⟨.inl h, .inr h⟩
  · exact ⟨.inr h1, .inl (G.fn n h2)⟩
theorem asg_each {t : TV} {e : Expr} {es : List Expr} {env : PySem.Env} (h : chkT N sc fs t e = true) : assignEach (e :: es) env = (false, assign e env) :: assignEach es env := by
  cases t <;> cases e <;> first | rfl | (simp [chkT] at h)
theorem asg_len {env : PySem.Env} : ∀ {ts : List TV} {es : List Expr}, chkTs N sc fs ts es = true → (assignEach es env).length = ts.length ∧ (assignEach es env).findIdx? (·.1) = none
  | [], es, h => by
    cases es with
    | nil => exact ⟨rfl, rfl⟩
    | cons _ _ => simp [chkTs] at h
  | t :: ts, es, h => by
    cases es with
    | nil => simp [chkTs] at h
    | cons e es =>
      simp only [chkTs, Bool.and_eq_true] at h
      obtain ⟨h1, h2⟩ := asg_len (env := env) h.2
      rw [asg_each h.1]
      refine ⟨by simp [h1], ?_⟩
      simp [List.findIdx?_cons, h2]
theorem bindTs_len : ∀ {ts : List TV} {ps : List PV} {ρ ρ' : Env}, bindTs ts ps ρ = some ρ' → ps.length = ts.length
  | [], [], _, _, _ => rfl
  | [], _ :: _, _, _, h => by simp [bindTs] at h
  | _ :: _, [], _, _, h => by simp [bindTs] at h
  | t :: ts, p :: ps, ρ, ρ', h => by
    simp only [bindTs] at h
    split at h
    · simp [bindTs_len h]
    · cases h
mutual
theorem g_tg (G : GT X N sc fs) : ∀ {t : TV} {e : Expr}, chkT N sc fs t e = true → PG X e (gG X.K t)
  | .var i, e, h => by
    cases e <;> try (simp [chkT] at h; done)
    rename_i n pos
    simp only [chkT, Bool.and_eq_true, decide_eq_true_eq] at h
    obtain ⟨l1, l2⟩ := loc_of G h.2
    refine ⟨fun pins s σ H v u Q I r q => ?_⟩
    obtain ⟨μ, ρ, p, ρ', he, rv, eb, q⟩ := q
    refine (pg_name (i := i) G.nd (by rw [G.nm]; exact h.1) l1 l2).run pins s σ H v u Q I r ?_
    simp only [bindT] at eb
    cases eb
    exact q _ (he.set rv) (by simp) (fun j hj => by rw [List.getElem?_set_ne (fun z => hj (by simp [slotsT, z]))])
  | .tup ts, e, h => by
    cases e <;> try (simp [chkT] at h; done)
    rename_i es k pos
    simp only [chkT] at h
    obtain ⟨a1, a2⟩ := asg_len (env := X.env) h
    refine ⟨fun pins s σ H v u Q I r q => ?_⟩
    obtain ⟨μ, ρ, p, ρ', he, rv, eb, q⟩ := q
    refine (pg_tup G.calm (g_tgs G h) a1 a2).run pins s σ H v u Q I r ?_
    cases rv with
    | tup hT rs =>
      simp only [bindT] at eb
      exact ⟨_, _, rfl, hT, by rw [← rs.length, bindTs_len eb], μ, ρ, _, ρ', he, rs, eb, fun σ' a b c => q σ' a b c⟩
    | _ => simp [bindT] at eb
theorem g_tgs (G : GT X N sc fs) : ∀ {ts : List TV} {es : List Expr}, chkTs N sc fs ts es = true → PGs X es (gGs X.K ts)
  | [], es, h => by
    cases es with
    | cons _ _ => simp [chkTs] at h
    | nil =>
      refine ⟨fun pins s σ H vs us Q I r q => ?_⟩
      obtain ⟨μ, ρ, ps, ρ', he, rv, eb, q⟩ := q
      refine pgs_nil.run pins s σ H vs us Q I r ?_
      cases rv with
      | nil => simp only [bindTs] at eb; cases eb; exact ⟨rfl, q _ he rfl fun _ _ => rfl⟩
      | cons _ _ => simp [bindTs] at eb
  | t :: ts, es, h => by
    cases es with
    | nil => simp [chkTs] at h
    | cons e es =>
      simp only [chkTs, Bool.and_eq_true] at h
      refine ⟨fun pins s σ H vs us Q I r q => ?_⟩
      obtain ⟨μ, ρ, ps, ρ', he, rv, eb, q⟩ := q
      refine (pgs_cons (g_tg G h.1) (g_tgs G h.2) (by rw [asg_each h.1]; rfl)).run pins s σ H vs us Q I r ?_
      cases rv with
      | nil => simp [bindTs] at eb
      | cons r1 rs =>
        simp only [bindTs] at eb
        split at eb
        · rename_i ρ1 e1
          refine ⟨_, _, rfl, μ, ρ, _, ρ1, he, r1, e1, fun σ1 he1 hl hs1 => ?_⟩
          exact ⟨μ, ρ1, _, ρ', he1, rs, eb, fun σ2 he2 hl2 hs2 => q σ2 he2 (hl2.trans hl) fun i hi => by
            simp only [slotsTs, List.mem_append, not_or] at hi
            rw [hs2 i hi.2, hs1 i hi.1]⟩
        · cases eb
end
end
/-! ### what is walked -/
/-- the items that the iterator gives are those of the source -/
def Src.lim (src : Src) (i : Nat) : Prop := match src with
  | .vals xs => i ≤ xs.length
  | .dyn _ _ => True
/-- what holds of later heaps, but of lists that are being made -/
structure Exw (K : PySem.W.Frag) (H : Hp) (μ : Mu) (H' : Hp) (μ' : Mu) : Prop extends Wk K H μ H' μ' where
  frz : ∀ a o u, H a = some (.frz o u) → H' a = some (.frz o u)
theorem Ext.w {K : PySem.W.Frag} {H H1 : Hp} {μ μ1 : Mu} (x : Ext K H μ H1 μ1) : Exw K H μ H1 μ1 := ⟨x.toWk, x.frz⟩
instance {K : PySem.W.Frag} {H H1 : Hp} {μ μ1 : Mu} : Coe (Ext K H μ H1 μ1) (Exw K H μ H1 μ1) := ⟨Ext.w⟩
theorem Exw.trans {K : PySem.W.Frag} {H H1 H2 : Hp} {μ μ1 μ2 : Mu} (x : Exw K H μ H1 μ1) (y : Exw K H1 μ1 H2 μ2) : Exw K H μ H2 μ2 :=
  ⟨⟨fun n a h => y.mu n a (x.mu n a h), fun a xs h => y.tup a xs (x.tup a xs h), fun a xs h => y.lst a xs (x.lst a xs h)⟩, fun a o u h => y.frz a o u (x.frz a o u h)⟩
theorem RE.wk {K : PySem.W.Frag} {H H1 : Hp} {μ μ1 : Mu} {ρ : List (Option PV)} {σ : L2.St} (h : RE K H μ ρ σ) (x : Wk K H μ H1 μ1) : RE K H1 μ1 ρ σ :=
  ⟨h.1, fun i p e => let ⟨v, a, b⟩ := h.2 i p e; ⟨v, a, b.wk x⟩⟩
def RJ (K : PySem.W.Frag) (src : Src) (H : Hp) (μ : Mu) (J : It) : Prop := ∀ H' μ' st, Exw K H μ H' μ' → Hr K H' μ' st → ∀ i, src.lim i → match src.at st i with
  | none => True
  | some none => J.stop i H'
  | some (some p) => J.go i H' ∧ ∀ x H2, J.yld i H' x H2 → ∃ μ2, Ext K H' μ' H2 μ2 ∧ Hr K H2 μ2 st ∧ RV K H2 μ2 p x
theorem RJ.ext {K : PySem.W.Frag} {src : Src} {H H1 : Hp} {μ μ1 : Mu} {J : It} (x : Ext K H μ H1 μ1) (h : RJ K src H μ J) : RJ K src H1 μ1 J := fun H' μ' st e => h H' μ' st (x.w.trans e)
def gI (K : PySem.W.Frag) (C : Cls) (W : WX) (ev : Env → Sto → Out Src) : TI := fun σ H Rc => ∃ μ ρ st, Hr K H μ st ∧ RE K H μ ρ σ ∧ Th K C W (fun H' μ' src J => RJ K src H' μ' J) (ev ρ st) σ H μ Rc
end Pi
end
section
set_option Elab.async false
set_option linter.all false
set_option maxRecDepth 100000
set_option maxHeartbeats 4000000
namespace Pi
open PySem PySem.Spec PyProof.Rows L2
section
variable {X : Cx} {tg : Expr}
/-! ### iterators, whatever they go over -/
def iSeq (K : PySem.W.Frag) (tl : TE) : TI := fun σ H R => tl σ H fun x H1 => ∃ a, x = .ref a ∧ (((∃ xs, SqL K H1 a xs) ∧ R (Itl K a) H1) ∨ ((∃ xs, SqT K H1 a xs) ∧ R (Itt K a) H1))
theorem pi_seq {l : Expr} {tl : TE} (hl : PE X l tl) : PI X tg l (iSeq X.K tl) := by
  refine ⟨fun pins s σ H R I h => ?_⟩
  refine thn (hl.run pins s σ H _ I h) fun v s1 ⟨x, H1, I1, r1, q1⟩ => ?_
  obtain ⟨a, e, q⟩ := q1
  subst e
  cases r1
  rcases q with ⟨⟨xs, hq⟩, q⟩ | ⟨⟨xs, hq⟩, q⟩
  · obtain ⟨its, rv, p, hz⟩ := I1.list hq
    refine wpAny_pyIter_list p.isList ?_
    refine ⟨s1.heap.objs.size, [s1.heap.objs.size], _, _, H1, rfl, I1.kept (t' := s1.toks) fun b o e => Heap.get?_push_of_some _ e, turn_list a _, ⟨_, Heap.get?_push_size _ rfl, rfl, rfl⟩, fun b hb => ?_, q⟩
    have e : b = s1.heap.objs.size := by simpa using hb
    subst e
    exact I1.fpOk (Nat.le_refl _) (I1.hok.fresh (Nat.le_refl _))
  · obtain ⟨its, rv, p, hz⟩ := I1.tuple hq
    refine wpAny_pyIter_tuple (show s1.heap.IsTuple a its.toArray from p) ?_
    refine ⟨s1.heap.objs.size, [s1.heap.objs.size], _, _, H1, rfl, I1.kept (t' := s1.toks) fun b o e => Heap.get?_push_of_some _ e, turn_tuple a _, ⟨_, Heap.get?_push_size _ rfl, rfl, rfl⟩, fun b hb => ?_, q⟩
    have e : b = s1.heap.objs.size := by simpa using hb
    subst e
    exact I1.fpOk (Nat.le_refl _) (I1.hok.fresh (Nat.le_refl _))
def iEnumA (K : PySem.W.Frag) (ta : TA) : TI := fun σ H R => ta σ H fun vs H1 => ∃ a, vs = [.ref a] ∧ (((∃ xs, SqL K H1 a xs) ∧ R (Ite K a) H1) ∨ ((∃ xs, SqT K H1 a xs) ∧ R (Own.IteT K a) H1))
theorem pi_enumA {e : Expr} {ta : TA} {p pos tpos : Pos} {elts : List Expr} {kk : Nat} (hg : Gl X "enumerate") (hm : X.mg "enumerate" = none) (ha : PA X [e] ta) (hs : starEach [e] X.env = [(false, eval e X.env)]) :
    PI X (.Tuple elts kk tpos) (.Call (.Name "enumerate" p) [e] [] pos) (iEnumA X.K ta) := by
  refine ⟨fun pins s σ H R I h => ?_⟩
  refine Call_ (ld_blt I hg hm boot_enumerate (PyProof.Rows.callWith_type1 (thn (ha.run pos pins s σ H _ I h) fun us s1 ⟨vs, H1, I1, r1, q1⟩ => ?_) hs rfl))
  obtain ⟨a, ex, q⟩ := q1
  subst ex
  cases r1 with
  | cons r rr =>
    cases rr
    cases r
    rcases q with ⟨⟨xs, hq⟩, q⟩ | ⟨⟨xs, hq⟩, q⟩
    · obtain ⟨its, rv, p', hz⟩ := I1.list hq
      refine call_enumerate_list p'.isList fun h' he hit hsz hk => wpAny_pyIter_enum he ?_
      have I2 : L2.Inv X pins σ H1 { s1 with heap := h' } := I1.kept (t' := s1.toks) hk
      refine ⟨s1.heap.objs.size + 1, [s1.heap.objs.size + 1, s1.heap.objs.size], _, _, H1, rfl, I2, turn_enum a (s1.heap.objs.size + 1) s1.heap.objs.size, ⟨⟨.none, he⟩, hit, Nat.succ_ne_self _⟩, fun b hb => ?_, q⟩
      have e' : b = s1.heap.objs.size + 1 ∨ b = s1.heap.objs.size := by simpa using hb
      have hle : s1.heap.objs.size ≤ b := by
        rcases e' with z | z
        · rw [z]; exact Nat.le_add_right _ _
        · rw [z]; exact Nat.le_refl _
      exact I1.fpOk hle (I1.hok.fresh hle)
    · obtain ⟨its, rv, p', hz⟩ := I1.tuple hq
      have al : a < s1.heap.objs.size := by
        obtain ⟨o, ho, _⟩ := id p'
        exact Heap.lt_size ho
      refine Own.call_enumT (show s1.heap.IsTuple a its.toArray from p') fun h' he hit hk => wpAny_pyIter_enum he ?_
      have I2 : L2.Inv X pins σ H1 { s1 with heap := h' } := I1.kept (t' := s1.toks) hk
      refine ⟨s1.heap.objs.size + 1, [s1.heap.objs.size + 1, s1.heap.objs.size], _, _, H1, rfl, I2, Own.turn_enumT a (s1.heap.objs.size + 1) s1.heap.objs.size, ⟨⟨.none, he⟩, hit, Nat.succ_ne_self _, Nat.ne_of_lt al, Nat.ne_of_lt (Nat.lt_succ_of_lt al)⟩, fun b hb => ?_, q⟩
      have hle : s1.heap.objs.size ≤ b := by
        rcases (by simpa using hb : b = s1.heap.objs.size + 1 ∨ b = s1.heap.objs.size) with z | z
        · rw [z]; exact Nat.le_succ _
        · rw [z]; exact Nat.le_refl _
      exact I1.fpOk hle (I1.hok.fresh hle)
end
/-! ### what they give -/
section
variable {K : PySem.W.Frag} {H : Hp} {μ : Mu} {a : Addr} {vs : List V} {ps : List PV}
theorem nth_some {ps : List PV} {vs : List V} {i : Nat} {p : PV} (rs : RVs K H μ ps vs) (e : nth ps i = some p) : ∃ v, vs[i]? = some v ∧ RV K H μ p v := rs.get (by rw [← nth_eq]; exact e)
theorem nth_none {ps : List PV} {vs : List V} {i : Nat} (rs : RVs K H μ ps vs) (e : nth ps i = none) : vs.length ≤ i := by
  rw [nth_eq] at e
  rw [← rs.length]
  exact List.getElem?_eq_none_iff.mp e
theorem rj_tup (hT : SqT K H a vs) (rs : RVs K H μ ps vs) : RJ K (.vals ps) H μ (Itt K a) := by
  intro H' μ' st e hr i hl
  have hT' := e.tup a vs hT
  have rs' := rs.wk e.toWk
  show match some (nth ps i) with | none => True | some none => _ | some (some p) => _
  cases z : nth ps i with
  | none => exact ⟨vs, hT', nth_none rs' z⟩
  | some p =>
    obtain ⟨v, h1, h2⟩ := nth_some rs' z
    refine ⟨⟨vs, v, hT', h1⟩, fun x H2 ⟨e1, e2⟩ => ?_⟩
    subst e1
    have := e2 vs hT'
    rw [h1] at this
    cases this
    exact ⟨μ', .refl, hr, h2⟩
theorem rj_lst (hL : RdL K H μ a vs) (rs : RVs K H μ ps vs) : RJ K (.vals ps) H μ (Itl K a) := by
  intro H' μ' st e hr i hl
  have hT' := (e.lst a vs hL).sq
  have rs' := rs.wk e.toWk
  show match some (nth ps i) with | none => True | some none => _ | some (some p) => _
  cases z : nth ps i with
  | none => exact ⟨vs, hT', nth_none rs' z⟩
  | some p =>
    obtain ⟨v, h1, h2⟩ := nth_some rs' z
    refine ⟨⟨vs, v, hT', h1⟩, fun x H2 ⟨e1, e2⟩ => ?_⟩
    subst e1
    have := e2 vs hT'
    rw [h1] at this
    cases this
    exact ⟨μ', .refl, hr, h2⟩
theorem rj_loc {n : Nat} (m : μ n = some a) : RJ K (.dyn .it [.loc n]) H μ (Itl K a) := by
  intro H' μ' st e hr i hl
  simp only [Src.at]
  cases g : itemsOf st (.loc n) with
  | none => trivial
  | some xs =>
    obtain ⟨a', vs, ea, h1, rs⟩ := list_of hr (.loc (e.mu n a m)) (show listOf st (.loc n) = some xs from g)
    cases ea
    dsimp only
    cases z : nth xs i with
    | none => exact ⟨vs, h1.sq, nth_none rs z⟩
    | some p =>
      obtain ⟨v, h2, h3⟩ := nth_some rs z
      refine ⟨⟨vs, v, h1.sq, h2⟩, fun x H2 ⟨e1, e2⟩ => ?_⟩
      subst e1
      have := e2 vs h1.sq
      rw [h2] at this
      cases this
      exact ⟨μ', .refl, hr, h3⟩
/-- a new pair of an int and an item -/
theorem pair_int {st : Sto} {H2 : Hp} {T : Addr} {i : Nat} {p : PV} {v : V} (hr : Hr K H μ st) (r : RV K H μ p v) (np : H T = none) (e : H2 = upd H T (.tup [.int (i : Nat), v])) :
    ∃ μ2, Ext K H μ H2 μ2 ∧ Hr K H2 μ2 st ∧ RV K H2 μ2 (.tup [.int (i : Nat), p]) (.ref T) := by
  subst e
  exact ⟨μ, Ext.made np, hr.made np, RV.tupMade (st := st) np (.cons (.int _) (.cons r .nil))⟩
theorem nth_enum : ∀ (k : Nat) (ps : List PV) (i : Nat), nth (enumL k ps) i = (nth ps i).map fun p => .tup [.int ((k + i : Nat) : Int), p]
  | k, [], i => by simp [enumL, nth]
  | k, p :: ps, 0 => by simp [enumL, nth]
  | k, p :: ps, i + 1 => by
    simp only [enumL, nth, nth_enum (k + 1) ps i]
    have : k + 1 + i = k + (i + 1) := by omega
    rw [this]
theorem enumL_length : ∀ (k : Nat) (ps : List PV), (enumL k ps).length = ps.length
  | _, [] => rfl
  | k, p :: ps => by simp [enumL, enumL_length (k + 1) ps]
theorem rj_enumT (hT : SqT K H a vs) (rs : RVs K H μ ps vs) : RJ K (.vals (enumL 0 ps)) H μ (Own.IteT K a) := by
  intro H' μ' st e hr i hl
  have hT' := e.tup a vs hT
  have rs' := rs.wk e.toWk
  show match some (nth (enumL 0 ps) i) with | none => True | some none => _ | some (some p) => _
  rw [nth_enum]
  cases z : nth ps i with
  | none =>
    have h1 := nth_none rs' z
    have h2 : i ≤ (enumL 0 ps).length := hl
    rw [enumL_length, rs'.length] at h2
    exact ⟨vs, hT', Nat.le_antisymm h1 h2⟩
  | some p =>
    obtain ⟨v, h1, h2⟩ := nth_some rs' z
    refine ⟨⟨vs, v, hT', h1⟩, fun x H2 ⟨T, y, ex, np, eH, e2⟩ => ?_⟩
    subst ex
    have := e2 vs hT'
    rw [h1] at this
    cases this
    have z := pair_int hr h2 np eH
    simpa using z
theorem rj_enumL (hL : RdL K H μ a vs) (rs : RVs K H μ ps vs) : RJ K (.vals (enumL 0 ps)) H μ (Ite K a) := by
  intro H' μ' st e hr i hl
  have hT' := (e.lst a vs hL).sq
  have rs' := rs.wk e.toWk
  show match some (nth (enumL 0 ps) i) with | none => True | some none => _ | some (some p) => _
  rw [nth_enum]
  cases z : nth ps i with
  | none => exact ⟨vs, hT', nth_none rs' z⟩
  | some p =>
    obtain ⟨v, h1, h2⟩ := nth_some rs' z
    refine ⟨⟨vs, v, hT', h1⟩, fun x H2 ⟨T, y, ex, np, eH, e2⟩ => ?_⟩
    subst ex
    have := e2 vs hT'
    rw [h1] at this
    cases this
    have z := pair_int hr h2 np eH
    simpa using z
theorem rj_enumD {n : Nat} (m : μ n = some a) : RJ K (.dyn .enum [.loc n]) H μ (Ite K a) := by
  intro H' μ' st e hr i hl
  simp only [Src.at]
  cases g : itemsOf st (.loc n) with
  | none => trivial
  | some xs =>
    obtain ⟨a', vs, ea, h1, rs⟩ := list_of hr (.loc (e.mu n a m)) (show listOf st (.loc n) = some xs from g)
    cases ea
    dsimp only
    cases z : nth xs i with
    | none => exact ⟨vs, h1.sq, nth_none rs z⟩
    | some p =>
      obtain ⟨v, h2, h3⟩ := nth_some rs z
      refine ⟨⟨vs, v, h1.sq, h2⟩, fun x H2 ⟨T, y, ex, np, eH, e2⟩ => ?_⟩
      subst ex
      have := e2 vs h1.sq
      rw [h2] at this
      cases this
      exact pair_int hr h3 np eH
theorem nth_range : ∀ (lo : Int) (n i : Nat), nth (rangeL lo n) i = if i < n then some (.int (lo + i)) else none
  | lo, 0, i => by simp [rangeL, nth]
  | lo, n + 1, 0 => by simp [rangeL, nth]
  | lo, n + 1, i + 1 => by
    simp only [rangeL, nth, nth_range (lo + 1) n i]
    by_cases h : i < n
    · rw [if_pos h, if_pos (by omega)]
      have : lo + 1 + (i : Int) = lo + ((i + 1 : Nat) : Int) := by omega
      rw [this]
    · rw [if_neg h, if_neg (by omega)]
theorem rj_range {lo : Int} {n : Nat} : RJ K (.vals (rangeL lo n)) H μ (Itr lo n) := by
  intro H' μ' st e hr i hl
  show match some (nth (rangeL lo n) i) with | none => True | some none => _ | some (some p) => _
  rw [nth_range]
  by_cases h : i < n
  · rw [if_pos h]
    refine ⟨h, fun x H2 ⟨e1, e2⟩ => ?_⟩
    subst e1 e2
    exact ⟨μ', .refl, hr, .int _⟩
  · rw [if_neg h]
    exact Nat.le_of_not_lt h
theorem nth_rev (ps : List PV) (i : Nat) : nth ps.reverse i = if i < ps.length then ps[ps.length - 1 - i]? else none := by
  rw [nth_eq]
  by_cases h : i < ps.length
  · rw [if_pos h, List.getElem?_reverse h]
  · rw [if_neg h]
    exact List.getElem?_eq_none (by simpa using h)
theorem rj_revT (hT : SqT K H a vs) (rs : RVs K H μ ps vs) : RJ K (.vals ps.reverse) H μ (RT.ItvT K a vs.length) := by
  intro H' μ' st e hr i hl
  have hT' := e.tup a vs hT
  have rs' := rs.wk e.toWk
  show match some (nth ps.reverse i) with | none => True | some none => _ | some (some p) => _
  rw [nth_rev]
  by_cases h : i < ps.length
  · rw [if_pos h]
    cases z : ps[ps.length - 1 - i]? with
    | none => exact absurd (List.getElem?_eq_none_iff.mp z) (by omega)
    | some p =>
      obtain ⟨v, h1, h2⟩ := rs'.get z
      rw [rs'.length] at h1 h
      refine ⟨⟨h, vs, v, hT', h1⟩, fun x H2 ⟨e1, e2⟩ => ?_⟩
      subst e1
      have := e2 vs hT'
      rw [h1] at this
      cases this
      exact ⟨μ', .refl, hr, h2⟩
  · rw [if_neg h]
    have := rs'.length
    exact (by omega : vs.length ≤ i)
theorem rj_revL (hL : RdL K H μ a vs) (rs : RVs K H μ ps vs) : RJ K (.vals ps.reverse) H μ (Itv K a vs.length) := by
  intro H' μ' st e hr i hl
  have hT' := (e.lst a vs hL).sq
  have rs' := rs.wk e.toWk
  show match some (nth ps.reverse i) with | none => True | some none => _ | some (some p) => _
  rw [nth_rev]
  by_cases h : i < ps.length
  · rw [if_pos h]
    cases z : ps[ps.length - 1 - i]? with
    | none => exact absurd (List.getElem?_eq_none_iff.mp z) (by omega)
    | some p =>
      obtain ⟨v, h1, h2⟩ := rs'.get z
      rw [rs'.length] at h1 h
      refine ⟨⟨h, vs, v, hT', h1⟩, fun x H2 ⟨e1, e2⟩ => ?_⟩
      subst e1
      have := e2 vs hT'
      rw [h1] at this
      cases this
      exact ⟨μ', .refl, hr, h2⟩
  · rw [if_neg h]
    have := rs'.length
    exact (by omega : vs.length ≤ i)
theorem rj_revD {n : Nat} {k : Nat} (m : μ n = some a) : RJ K (.dyn .rev [.loc n, .int (k : Nat)]) H μ (Itv K a k) := by
  intro H' μ' st e hr i hl
  simp only [Src.at]
  cases g : itemsOf st (.loc n) with
  | none => trivial
  | some xs =>
    obtain ⟨a', vs, ea, h1, rs⟩ := list_of hr (.loc (e.mu n a m)) (show listOf st (.loc n) = some xs from g)
    cases ea
    dsimp only
    rw [Int.toNat_natCast]
    cases hb : Nat.blt i k with
    | false =>
      have : ¬ i < k := fun z => by rw [Nat.blt_eq.mpr z] at hb; cases hb
      exact (by omega : k ≤ i)
    | true =>
      have hik := Nat.blt_eq.mp hb
      dsimp only [cond]
      cases z : nth xs (k - 1 - i) with
      | none => trivial
      | some p =>
        obtain ⟨v, h2, h3⟩ := nth_some rs z
        refine ⟨⟨hik, vs, v, h1.sq, h2⟩, fun x H2 ⟨e1, e2⟩ => ?_⟩
        subst e1
        have := e2 vs h1.sq
        rw [h2] at this
        cases this
        exact ⟨μ', .refl, hr, h3⟩
end
/-! ### the sources of the text -/
section
variable {X : Cx} {C : Cls} {W : WX} {a : Expr} {xs : List Expr} {ea : Env → Sto → Out PV} {ev : Env → Sto → Out (List PV)} {p pos tpos : Pos} {tg : Expr}
theorem gI.one {K : PySem.W.Frag} {σ : L2.St} {H : Hp} {k : SK} {Rc : It → Hp → Prop} (h : gI K C W (fun ρ st => (ea ρ st).bind fun v st => Out.of (srcOf k [v] st) st) σ H Rc) :
    gE K C W ea σ H fun x H1 => ∃ μ st q src, Hr K H1 μ st ∧ RV K H1 μ q x ∧ srcOf k [q] st = some src ∧ ∀ J, RJ K src H1 μ J → Rc J H1 := by
  obtain ⟨μ, ρ, st, hr, he, h⟩ := h
  refine ⟨μ, ρ, st, hr, he, (Th.bind (rel := RV K) h).imp ?_⟩
  rintro x H1 ⟨μ1, q, st1, e1, hr1, r1, h1⟩
  cases e : srcOf k [q] st1 with
  | none => rw [e] at h1; exact h1.elim
  | some src =>
    rw [e] at h1
    exact ⟨μ1, st1, q, src, hr1, r1, e, fun J j => h1.ok hr1 j⟩
theorem g_it (ha : PE X a (gE X.K C W ea)) : PI X tg a (gI X.K C W fun ρ st => (ea ρ st).bind fun v st => Out.of (srcOf .it [v] st) st) := by
  refine ⟨fun pins s σ H Rc I q => (pi_seq ha).run pins s σ H Rc I (gE.imp ?_ (gI.one q))⟩
  rintro x H1 ⟨μ, st, q, src, hr, r, e, z⟩
  cases r with
  | tup hT rs => cases e; exact ⟨_, rfl, .inr ⟨⟨_, hT⟩, z _ (rj_tup hT rs)⟩⟩
  | lst hL rs => cases e; exact ⟨_, rfl, .inl ⟨⟨_, hL.sq⟩, z _ (rj_lst hL rs)⟩⟩
  | @loc n b m =>
    simp only [srcOf] at e
    split at e
    · rename_i ys g
      cases e
      obtain ⟨a', vs, ea', h1, rs⟩ := list_of hr (.loc m) g
      cases ea'
      exact ⟨_, rfl, .inl ⟨⟨vs, h1.sq⟩, z _ (rj_loc m)⟩⟩
    · cases e
  | _ => cases e
theorem g_enum (hg : Gl X "enumerate") (hm : X.mg "enumerate" = none) (ha : PE X a (gE X.K C W ea)) (hs : starEach [a] X.env = [(false, eval a X.env)]) {elts : List Expr} {kk : Nat} :
    PI X (.Tuple elts kk tpos) (.Call (.Name "enumerate" p) [a] [] pos) (gI X.K C W fun ρ st => (ea ρ st).bind fun v st => Out.of (srcOf .enum [v] st) st) := by
  refine ⟨fun pins s σ H Rc I q => (pi_enumA hg hm (pa_cons ha pa_nil hs) hs).run pins s σ H Rc I (gE.imp ?_ (gI.one q))⟩
  rintro x H1 ⟨μ, st, q, src, hr, r, e, z⟩
  cases r with
  | tup hT rs => cases e; exact ⟨_, rfl, .inr ⟨⟨_, hT⟩, z _ (rj_enumT hT rs)⟩⟩
  | lst hL rs => cases e; exact ⟨_, rfl, .inl ⟨⟨_, hL.sq⟩, z _ (rj_enumL hL rs)⟩⟩
  | @loc n b m =>
    simp only [srcOf] at e
    split at e
    · rename_i ys g
      cases e
      obtain ⟨a', vs, ea', h1, rs⟩ := list_of hr (.loc m) g
      cases ea'
      exact ⟨_, rfl, .inl ⟨⟨vs, h1.sq⟩, z _ (rj_enumD m)⟩⟩
    · cases e
  | _ => cases e
theorem g_rev (hg : Gl X "reversed") (hm : X.mg "reversed" = none) (ha : PE X a (gE X.K C W ea)) (hs : starEach [a] X.env = [(false, eval a X.env)]) :
    PI X tg (.Call (.Name "reversed" p) [a] [] pos) (gI X.K C W fun ρ st => (ea ρ st).bind fun v st => Out.of (srcOf .rev [v] st) st) := by
  refine ⟨fun pins s σ H Rc I q => (RT.pi_revA hg hm ha hs).run pins s σ H Rc I (gE.imp ?_ (gI.one q))⟩
  rintro x H1 ⟨μ, st, q, src, hr, r, e, z⟩
  cases r with
  | tup hT rs => cases e; exact ⟨_, _, rfl, .inr ⟨hT, z _ (rj_revT hT rs)⟩⟩
  | lst hL rs => cases e; exact ⟨_, _, rfl, .inl ⟨hL.sq, z _ (rj_revL hL rs)⟩⟩
  | @loc n b m =>
    simp only [srcOf] at e
    split at e
    · rename_i ys g
      cases e
      obtain ⟨a', vs, ea', h1, rs⟩ := list_of hr (.loc m) g
      cases ea'
      refine ⟨_, vs, rfl, .inl ⟨h1.sq, z _ ?_⟩⟩
      rw [← rs.length]
      exact rj_revD m
    · cases e
  | _ => cases e
theorem wide_lt {i : Int} (h : wide62 i = true) : -(2 ^ 62) ≤ i ∧ i < 2 ^ 62 := by
  have := Nat.blt_eq.mp h
  omega
theorem g_range1 (hg : Gl X "range") (hm : X.mg "range" = none) (ha : PE X a (gE X.K C W ea)) (hs : starEach [a] X.env = [(false, eval a X.env)]) :
    PI X tg (.Call (.Name "range" p) [a] [] pos) (gI X.K C W fun ρ st => (ea ρ st).bind fun v st => Out.of (srcOf .range [v] st) st) := by
  refine ⟨fun pins s σ H Rc I q => (pi_range1 hg hm (pa_cons ha pa_nil hs) hs).run pins s σ H Rc I (gE.imp ?_ (gI.one q))⟩
  rintro x H1 ⟨μ, st, q, src, hr, r, e, z⟩
  cases r with
  | int j =>
    simp only [srcOf] at e
    split at e
    · rename_i hw
      cases e
      obtain ⟨w1, w2⟩ := wide_lt hw
      exact ⟨j, rfl, w1, w2, z _ rj_range⟩
    · cases e
  | _ => cases e
theorem gI.two {K : PySem.W.Frag} {σ : L2.St} {H : Hp} {k : SK} {Rc : It → Hp → Prop} {eb : Env → Sto → Out PV} (h : gI K C W (fun ρ st => (ea ρ st).bind fun v st => (eb ρ st).bind fun u st => Out.of (srcOf k [v, u] st) st) σ H Rc) :
    gE K C W ea σ H fun x H1 => gE K C W eb σ H1 fun y H2 => ∃ μ st q q2 src, Hr K H2 μ st ∧ RV K H2 μ q x ∧ RV K H2 μ q2 y ∧ srcOf k [q, q2] st = some src ∧ ∀ J, RJ K src H2 μ J → Rc J H2 := by
  obtain ⟨μ, ρ, st, hr, he, h⟩ := h
  refine ⟨μ, ρ, st, hr, he, (Th.bind (rel := RV K) h).imp ?_⟩
  rintro x H1 ⟨μ1, q, st1, e1, hr1, r1, h1⟩
  refine ⟨μ1, ρ, st1, hr1, he.ext e1, (Th.bind (rel := RV K) h1).imp ?_⟩
  rintro y H2 ⟨μ2, q2, st2, e2, hr2, r2, h2⟩
  cases e : srcOf k [q, q2] st2 with
  | none => rw [e] at h2; exact h2.elim
  | some src =>
    rw [e] at h2
    exact ⟨μ2, st2, q, q2, src, hr2, r1.ext e2, r2, e, fun J j => h2.ok hr2 j⟩
theorem g_range2 {b : Expr} {eb : Env → Sto → Out PV} (hg : Gl X "range") (hm : X.mg "range" = none) (ha : PE X a (gE X.K C W ea)) (hb : PE X b (gE X.K C W eb)) (hs : starEach [a, b] X.env = [(false, eval a X.env), (false, eval b X.env)]) (hs2 : starEach [b] X.env = [(false, eval b X.env)]) :
    PI X tg (.Call (.Name "range" p) [a, b] [] pos) (gI X.K C W fun ρ st => (ea ρ st).bind fun v st => (eb ρ st).bind fun u st => Out.of (srcOf .range [v, u] st) st) := by
  refine ⟨fun pins s σ H Rc I q => (pi_range2 hg hm (pa_cons ha (pa_cons hb pa_nil hs2) (by rw [hs, hs2])) hs hs2).run pins s σ H Rc I (gE.imp ?_ (gI.two q))⟩
  intro x H1 q1
  refine gE.imp ?_ q1
  rintro y H2 ⟨μ, st, q, q2, src, hr, r, r2, e, z⟩
  cases r with
  | int i =>
    cases r2 with
    | int j =>
      simp only [srcOf] at e
      split at e
      · rename_i hw
        simp only [Bool.and_eq_true] at hw
        cases e
        obtain ⟨w1, w2⟩ := wide_lt hw.1
        obtain ⟨w3, w4⟩ := wide_lt hw.2
        exact ⟨i, j, rfl, ⟨w1, w2, w3, w4⟩, z _ rj_range⟩
      · cases e
    | _ => cases e
  | _ => cases r2 <;> cases e
end
end Pi
end
section
set_option Elab.async false
set_option linter.all false
set_option maxRecDepth 100000
set_option maxHeartbeats 4000000
namespace Pi
open PySem PySem.Spec PyProof.Rows L2
section
variable {X : Cx} {C : Cls} {W : WX} {R : Ops} {t : TV} {body : List S}
/-- a turn of a loop: k, what follows -/
def turnF (R : Ops) (t : TV) (body : List S) (x : PV) (ρ : Env) (st : Sto) (k : Env → Sto → Fl) : Fl :=
  match bindT t x ρ with
  | none => .stuck
  | some ρ' => match exSs R body ρ' st with
    | .nx ρ st => k ρ st
    | .cont ρ st => k ρ st
    | .brk ρ st => .nx ρ st
    | f => f
/-- what the next turn begins with -/
def NextW (K : PySem.W.Frag) (C : Cls) (W : WX) (k : Env → Sto → Fl) (n : Nat) (H : Hp) (μ : Mu) (D : Ends) : L2.St → Hp → Prop := fun σ' H' => ∃ μ' ρ' st', Ext K H μ H' μ' ∧ Hr K H' μ' st' ∧ RE K H' μ' ρ' σ' ∧ σ'.length = n ∧ ThS K C W (k ρ' st') n H' μ' D
theorem turn_ok {K : PySem.W.Frag} {k : Env → Sto → Fl} {n : Nat} {H : Hp} {μ : Mu} {D : Ends} {x : PV} {y : V} {ρ : Env} {st : Sto} {σ : L2.St} (hr : Hr K H μ st) (he : RE K H μ ρ σ) (hn : σ.length = n) (r : RV K H μ x y)
    (h : ThS K C W (turnF R t body x ρ st k) n H μ D) : gG K t y σ H fun σ2 H2 => gS K C W (exSs R body) { D with nx := NextW K C W k n H μ D, ct := NextW K C W k n H μ D, bk := D.nx } σ2 H2 := by
  unfold turnF at h
  cases eb : bindT t x ρ with
  | none => rw [eb] at h; exact h.elim
  | some ρ' =>
    rw [eb] at h
    refine ⟨μ, ρ, x, ρ', he, r, eb, fun σ' he' hl _ => ⟨μ, ρ', st, hr, he', ?_⟩⟩
    rw [hl, hn]
    dsimp only at h
    cases e : exSs R body ρ' st with
    | nx ρ1 st1 =>
      rw [e] at h
      intro H1 μ1 σ1 ex hr1 he1 hl1
      exact ⟨μ1, ρ1, st1, ex, hr1, he1, hl1, ThS.ext ex h⟩
    | cont ρ1 st1 =>
      rw [e] at h
      intro H1 μ1 σ1 ex hr1 he1 hl1
      exact ⟨μ1, ρ1, st1, ex, hr1, he1, hl1, ThS.ext ex h⟩
    | brk ρ1 st1 => rw [e] at h; exact h
    | ret v st1 => rw [e] at h; exact h
    | exc c fs ρ1 st1 => rw [e] at h; exact h
    | stuck => rw [e] at h; exact h.elim
theorem loopVals_cons {x : PV} {xs : List PV} {ρ : Env} {st : Sto} : loopVals R t body (x :: xs) ρ st = turnF R t body x ρ st (loopVals R t body xs) := by
  first
    | rfl
    | (rw [loopVals, turnF]; done)
    | (rw [loopVals, turnF]
       cases bindT t x ρ with
       | none => rfl
       | some ρ' => dsimp only; cases exSs R body ρ' st <;> rfl)
theorem loopDyn_succ {src : Src} {n i : Nat} {ρ : Env} {st : Sto} : loopDyn R t body src (n + 1) i ρ st = (match src.at st i with
    | none => .stuck
    | some none => .nx ρ st
    | some (some x) => turnF R t body x ρ st (loopDyn R t body src n (i + 1))) := by
  rw [loopDyn]
  cases src.at st i with
  | none => rfl
  | some o =>
    cases o with
    | none => rfl
    | some x =>
      dsimp only
      first
        | (rw [turnF]; done)
        | (rw [turnF]
           cases bindT t x ρ with
           | none => rfl
           | some ρ' => dsimp only; cases exSs R body ρ' st <;> rfl)
/-- what is left of a loop at turn i -/
def restF (R : Ops) (t : TV) (body : List S) (src : Src) (m i : Nat) : Env → Sto → Fl := match src with
  | .vals xs => loopVals R t body (xs.drop i)
  | .dyn k ps => loopDyn R t body (.dyn k ps) m i
def Src.meas (src : Src) (m i : Nat) : Prop := match src with
  | .vals xs => m = xs.length - i ∧ i ≤ xs.length
  | .dyn _ _ => True
theorem rest_step {src : Src} {m i : Nat} {ρ : Env} {st : Sto} {K : PySem.W.Frag} {n : Nat} {H : Hp} {μ : Mu} {D : Ends} (hm : src.meas m i) (h : ThS K C W (restF R t body src m i ρ st) n H μ D) :
    src.lim i ∧ ((src.at st i = some none ∧ ThS K C W (.nx ρ st) n H μ D) ∨ ∃ x m', src.at st i = some (some x) ∧ m' < m ∧ src.meas m' (i + 1) ∧ ThS K C W (turnF R t body x ρ st (restF R t body src m' (i + 1))) n H μ D) := by
  cases src with
  | vals xs =>
    obtain ⟨hm, hi⟩ := hm
    refine ⟨hi, ?_⟩
    simp only [restF] at h
    cases e : xs.drop i with
    | nil =>
      rw [e] at h
      have hl : xs.length ≤ i := by
        have := congrArg List.length e
        simp at this
        omega
      refine .inl ⟨?_, h⟩
      simp only [Src.at]
      rw [nth_eq, List.getElem?_eq_none hl]
    | cons x r =>
      rw [e, loopVals_cons] at h
      have hl : i < xs.length := by
        have := congrArg List.length e
        simp at this
        omega
      have hx : xs[i]? = some x := by
        have : (xs.drop i)[0]? = some x := by rw [e]; rfl
        simpa using this
      have hr : r = xs.drop (i + 1) := by
        have := congrArg List.tail e
        simpa using this.symm
      refine .inr ⟨x, m - 1, ?_, by omega, ⟨by omega, hl⟩, ?_⟩
      · simp only [Src.at]
        rw [nth_eq, hx]
      · simp only [restF]
        rw [← hr]
        exact h
  | dyn k ps =>
    refine ⟨trivial, ?_⟩
    simp only [restF] at h
    cases m with
    | zero => exact (show False from h).elim
    | succ m =>
      rw [loopDyn_succ] at h
      cases e : Src.at (.dyn k ps) st i with
      | none => rw [e] at h; exact h.elim
      | some o =>
        cases o with
        | none => rw [e] at h; exact .inl ⟨rfl, h⟩
        | some x => rw [e] at h; exact .inr ⟨x, m, rfl, Nat.lt_succ_self _, trivial, h⟩
theorem loopAll_rest {src : Src} {ρ : Env} {st : Sto} : ∃ m, src.meas m 0 ∧ loopAll R t body src ρ st = restF R t body src m 0 ρ st := by
  cases src with
  | vals xs => exact ⟨xs.length, ⟨by simp, Nat.zero_le _⟩, rfl⟩
  | dyn k ps => exact ⟨R.fuel, trivial, rfl⟩
theorem s_for {tg iter : Expr} {xs : List Stmt} {pos : Pos} {es : Env → Sto → Out Src} (hp : PassesOwn (model X.prog X.w) X.A X.env X.xe) (hc : X.calm = true) (hi : PI X tg iter (gI X.K C W es)) (hg : PG X tg (gG X.K t)) (hb : PSs X xs (gS X.K C W (exSs R body)))
    (hs : ∀ x, foldedSetIterable iter X.env x = pure x) : PS X (.For tg iter xs [] pos) (gS X.K C W fun ρ st => (es ρ st).fl ρ fun src st => loopAll R t body src ρ st) := by
  refine (ps_for hp hc hi hg hb hs).imp ?_
  rintro D σ H ⟨μ, ρ, st, hr, hE, z⟩
  refine ⟨μ, ρ, st, hr, hE, (fl_of (rel := fun H' μ' src J => RJ X.K src H' μ' J) hE rfl z).imp ?_⟩
  rintro J H1 ⟨μ1, src, st1, e1, hr1, rj, z1⟩
  obtain ⟨m0, hm0, e0⟩ := loopAll_rest (R := R) (t := t) (body := body) (src := src) (ρ := ρ) (st := st1)
  rw [e0] at z1
  refine ⟨fun i m σ' H' => ∃ μ' ρ' st', Ext X.K H1 μ1 H' μ' ∧ Hr X.K H' μ' st' ∧ RE X.K H' μ' ρ' σ' ∧ σ'.length = σ.length ∧ src.meas m i ∧ ThS X.K C W (restF R t body src m i ρ' st') σ.length H' μ' D,
    ⟨m0, μ1, ρ, st1, .refl, hr1, hE.ext e1, rfl, hm0, z1⟩, ?_⟩
  rintro i m σ' H' ⟨μ', ρ', st', ex, hr', hE', hl', hm, z'⟩
  obtain ⟨lim, h⟩ := rest_step hm z'
  have j := rj H' μ' st' ex hr' i lim
  rcases h with ⟨ea, z2⟩ | ⟨x, m', ea, lt, hm', z2⟩
  · rw [ea] at j
    exact .inl ⟨j, z2 H' μ' σ' .refl hr' hE' hl'⟩
  · rw [ea] at j
    refine .inr ⟨j.1, fun σ2 H2 => ∃ μ2 ρ2 st2, Ext X.K H1 μ1 H2 μ2 ∧ Hr X.K H2 μ2 st2 ∧ RE X.K H2 μ2 ρ2 σ2 ∧ σ2.length = σ.length ∧ ThS X.K C W (restF R t body src m' (i + 1) ρ2 st2) σ.length H2 μ2 D, ?_, ?_⟩
    · rintro σ2 H2 ⟨μ2, ρ2, st2, a1, a2, a3, a4, a5⟩
      exact ⟨m', lt, μ2, ρ2, st2, a1, a2, a3, a4, hm', a5⟩
    · intro y H2 hy
      obtain ⟨μ2, ex2, hr2, r2⟩ := j.2 y H2 hy
      obtain ⟨μ3, ρ3, p3, ρ4, b1, b2, b3, b4⟩ := turn_ok hr2 (hE'.ext ex2) hl' r2 (ThS.ext ex2 z2)
      refine ⟨μ3, ρ3, p3, ρ4, b1, b2, b3, fun σ5 h5 l5 s5 => ?_⟩
      obtain ⟨μ5, ρ5, st5, c1, c2, c3⟩ := b4 σ5 h5 l5 s5
      refine ⟨μ5, ρ5, st5, c1, c2, ?_⟩
      have up : ∀ σ6 H6, NextW X.K C W (restF R t body src m' (i + 1)) σ.length H2 μ2 D σ6 H6 → ∃ μ2 ρ2 st2, Ext X.K H1 μ1 H6 μ2 ∧ Hr X.K H6 μ2 st2 ∧ RE X.K H6 μ2 ρ2 σ6 ∧ σ6.length = σ.length ∧ ThS X.K C W (restF R t body src m' (i + 1) ρ2 st2) σ.length H6 μ2 D := by
        rintro σ6 H6 ⟨μ6, ρ6, st6, d1, d2, d3, d4, d5⟩
        exact ⟨μ6, ρ6, st6, (ex.trans ex2).trans d1, d2, d3, d4, d5⟩
      cases e : exSs R body ρ5 st5 with
      | nx ρ6 st6 => rw [e] at c3; exact fun H6 μ6 σ6 q1 q2 q3 q4 => up _ _ (c3 H6 μ6 σ6 q1 q2 q3 q4)
      | cont ρ6 st6 => rw [e] at c3; exact fun H6 μ6 σ6 q1 q2 q3 q4 => up _ _ (c3 H6 μ6 σ6 q1 q2 q3 q4)
      | brk ρ6 st6 => rw [e] at c3; exact c3
      | ret v st6 => rw [e] at c3; exact c3
      | exc c fs ρ6 st6 => rw [e] at c3; exact c3
      | stuck => rw [e] at c3; exact c3.elim
end
end Pi
end
section
set_option Elab.async false
set_option linter.all false
set_option maxRecDepth 100000
set_option maxHeartbeats 4000000
namespace Pi
open PySem PySem.Spec PyProof.Rows L2
section
variable {X : Cx} {C : Cls} {W : WX} {R : Ops} {t : TV} {body : List S}
theorem whl_succ {c : E} {n : Nat} {ρ : Env} {st : Sto} : whlG R c body (n + 1) ρ st = (evT R c ρ st).fl ρ fun b st => match b with
    | false => .nx ρ st
    | true => match exSs R body ρ st with
      | .nx ρ st => whlG R c body n ρ st
      | .cont ρ st => whlG R c body n ρ st
      | .brk ρ st => .nx ρ st
      | f => f := rfl
theorem s_whl {c : Expr} {e : E} {xs : List Stmt} {pos : Pos} (hp : PassesOwn (model X.prog X.w) X.A X.env X.xe) (hc : PT X c (gT X.K C W (evT R e))) (hb : PSs X xs (gS X.K C W (exSs R body))) :
    PS X (.While c xs [] pos) (gS X.K C W fun ρ st => whlG R e body R.fuel ρ st) := by
  refine (ps_while hp hc hb).imp ?_
  rintro D σ H ⟨μ, ρ, st, hr, hE, z⟩
  refine ⟨fun m σ' H' => ∃ μ' ρ' st', Hr X.K H' μ' st' ∧ RE X.K H' μ' ρ' σ' ∧ σ'.length = σ.length ∧ ThS X.K C W (whlG R e body m ρ' st') σ.length H' μ' D, ⟨R.fuel, μ, ρ, st, hr, hE, rfl, z⟩, ?_⟩
  rintro m σ' H' ⟨μ', ρ', st', hr', hE', hl', z'⟩
  cases m with
  | zero => exact (show False from z').elim
  | succ m =>
    rw [whl_succ] at z'
    refine ⟨μ', ρ', st', hr', hE', (fl_of (rel := relB) hE' hl' z').imp ?_⟩
    rintro b H1 ⟨μ1, b', st1, e1, hr1, rb, z1⟩
    obtain rfl : b' = b := rb
    cases b' with
    | false => exact z1 H1 μ1 σ' .refl hr1 (hE'.ext e1) hl'
    | true =>
      refine ⟨fun σ2 H2 => ∃ μ2 ρ2 st2, Hr X.K H2 μ2 st2 ∧ RE X.K H2 μ2 ρ2 σ2 ∧ σ2.length = σ.length ∧ ThS X.K C W (whlG R e body m ρ2 st2) σ.length H2 μ2 D, fun σ2 H2 h => ⟨m, Nat.lt_succ_self _, h⟩, ?_⟩
      refine ⟨μ1, ρ', st1, hr1, hE'.ext e1, ?_⟩
      rw [hl']
      dsimp only at z1
      cases e : exSs R body ρ' st1 with
      | nx ρ6 st6 =>
        rw [e] at z1
        exact fun H6 μ6 σ6 q1 q2 q3 q4 => ⟨μ6, ρ6, st6, q2, q3, q4, ThS.ext q1 z1⟩
      | cont ρ6 st6 =>
        rw [e] at z1
        exact fun H6 μ6 σ6 q1 q2 q3 q4 => ⟨μ6, ρ6, st6, q2, q3, q4, ThS.ext q1 z1⟩
      | brk ρ6 st6 => rw [e] at z1; exact z1
      | ret v st6 => rw [e] at z1; exact z1
      | exc c fs ρ6 st6 => rw [e] at z1; exact z1
      | stuck => rw [e] at z1; exact z1.elim
/-! ### several targets -/
/-- x, y = a tuple -/
theorem s_asgT {ts : List TV} {es : List Expr} {k : Nat} {N : List Str} {sc fs : Scope} {ea : Env → Sto → Out PV} {e : Expr} {p2 pos : Pos} (G : GT X N sc fs) (h : chkT N sc fs (.tup ts) (.Tuple es k p2) = true) (he : PE X e (gE X.K C W ea))
    (hs : swapsWithSole [.Tuple es k p2] e pos.line X.env = pure false) (hw : swappedStores [.Tuple es k p2] e X.env = pure none) : PS X (.Assign [.Tuple es k p2] e pos) (gS X.K C W fun ρ st => (ea ρ st).fl ρ fun v st => match bindT (.tup ts) v ρ with
      | some ρ' => .nx ρ' st
      | none => .stuck) := by
  refine (ps_asg he (g_tg G h) hs hw (by rfl)).imp ?_
  rintro D σ H ⟨μ, ρ, st, hr, hE, z⟩
  refine ⟨μ, ρ, st, hr, hE, (fl_of (rel := RV X.K) hE rfl z).imp ?_⟩
  rintro x H1 ⟨μ1, p, st1, e1, hr1, r1, z1⟩
  cases eb : bindT (.tup ts) p ρ with
  | none => rw [eb] at z1; exact z1.elim
  | some ρ' =>
    rw [eb] at z1
    exact ⟨μ1, ρ, p, ρ', hE.ext e1, r1, eb, fun σ' he' hl _ => z1 H1 μ1 σ' .refl hr1 he' hl⟩
end
end Pi
end
section
set_option Elab.async false
set_option linter.all false
set_option maxRecDepth 100000
set_option maxHeartbeats 4000000
namespace Pi
open PySem PySem.Spec PyProof.Rows L2
/-! ### a list that is being made -/
section
variable {K : PySem.W.Frag} {H H1 H4 : Hp} {μ μ1 μ4 : Mu} {st : Sto} {D : Addr} {vs vs' : List V} {ps : List PV}
def muPrv (μ : Mu) (D : Addr) : Mu := ⟨μ.f, fun a => a = D ∨ μ.p a⟩
def muUn (μ : Mu) (D : Addr) : Mu := ⟨μ.f, fun a => a ≠ D ∧ μ.p a⟩
theorem Ext.priv {u : HO} (h : Hr K H μ st) (nD : H D = none) : Ext K H μ (upd H D u) (muPrv μ D) := by
  have e := Ext.made (K := K) (μ := μ) (o := u) nD
  refine ⟨⟨fun n a q => q, e.tup, fun a xs q => ?_⟩, fun a q => ⟨.inr q, (e.prv a q).2⟩, e.frz⟩
  rcases q with ⟨q1, q2, q3⟩ | q
  · have ne : a ≠ D := fun z => by
      subst z
      rcases q1 with q1 | ⟨_, q1⟩ <;> (rw [nD] at q1; cases q1)
    refine .inl ⟨?_, q2, fun z => z.elim ne q3⟩
    rcases q1 with q1 | ⟨o, q1⟩
    · exact .inl (by rw [upd_ne ne]; exact q1)
    · exact .inr ⟨o, by rw [upd_ne ne]; exact q1⟩
  · exact .inr q
theorem Hr.priv {u : HO} (h : Hr K H μ st) (nD : H D = none) (c : Chg u) : Hr K (upd H D u) (muPrv μ D) st := by
  have h' := h.made (o := u) nD
  refine ⟨h'.inj, h'.trk, h'.low, h'.des, fun n a e z => ?_, fun a z => ?_, fun n o e => ?_⟩
  · rcases z with z | z
    · subst z; exact h.free nD n e
    · exact h.prv n a e z
  · rcases z with z | z
    · subst z; exact ⟨u, upd_same, c⟩
    · exact h'.prT a z
  · obtain ⟨a, e1, e2⟩ := h.obj n o e
    refine ⟨a, e1, RO.wk (Ext.priv h nD).toWk (upd_ne fun z => ?_) e2⟩
    subst z
    exact h.trk n a e1 nD
/-- it grows -/
theorem Wk.grow {u u' : HO} (p : μ.p D) (eD : H D = some u) (c : Chg u) : Wk K H μ (upd H D u') μ := by
  refine ⟨fun _ _ h => h, fun a xs q => ?_, fun a xs q => ?_⟩
  · rcases q with q | q
    · refine .inl ?_
      have nD : a ≠ D := fun z => by
        subst z
        rcases q with h | ⟨o, h⟩ <;> (rw [eD] at h)
        · exact c.tup _ (Option.some.inj h)
        · exact c.frz (Option.some.inj h)
      rcases q with h | ⟨o, h⟩
      · exact .inl (by rw [upd_ne nD]; exact h)
      · exact .inr ⟨o, by rw [upd_ne nD]; exact h⟩
    · exact .inr q
  · rcases q with ⟨q1, q2, q3⟩ | q
    · have nD : a ≠ D := fun z => q3 (z ▸ p)
      refine .inl ⟨?_, q2, q3⟩
      rcases q1 with h | ⟨o, h⟩
      · exact .inl (by rw [upd_ne nD]; exact h)
      · exact .inr ⟨o, by rw [upd_ne nD]; exact h⟩
    · exact .inr q
theorem Hr.grow {u u' : HO} (h : Hr K H μ st) (p : μ.p D) (eD : H D = some u) (c : Chg u) (c' : Chg u') : Hr K (upd H D u') μ st := by
  have ne : ∀ {n a}, μ n = some a → a ≠ D := fun {n a} e z => h.prv n a e (z ▸ p)
  refine ⟨h.inj, fun n a e => ?_, h.low, h.des, h.prv, fun a z => ?_, fun n o e => ?_⟩
  · rw [upd_ne (ne e)]; exact h.trk n a e
  · by_cases q : a = D
    · subst q; exact ⟨u', upd_same, c'⟩
    · rw [upd_ne q]; exact h.prT a z
  · obtain ⟨a, e1, e2⟩ := h.obj n o e
    exact ⟨a, e1, RO.wk (Wk.grow p eD c) (upd_ne (ne e1)) e2⟩
theorem Ext.grow {u u' : HO} (x : Ext K H1 μ1 H μ) (n1 : H1 D = none) (p : μ.p D) (eD : H D = some u) (c : Chg u) (h1 : Hr K H1 μ1 st) : Ext K H1 μ1 (upd H D u') μ := by
  have g := Wk.grow (K := K) (u' := u') p eD c
  refine ⟨⟨fun n a e => g.mu n a (x.mu n a e), fun a xs e => g.tup a xs (x.tup a xs e), fun a xs e => g.lst a xs (x.lst a xs e)⟩, fun a e => ⟨(x.prv a e).1, fun o q => ?_⟩, fun a o w q => ?_⟩
  · rw [upd_ne (ne_of_none q n1)]
    exact (x.prv a e).2 o q
  · rw [upd_ne (ne_of_none q n1)]
    exact x.frz a o w q
/-- it is done: a list that is only read -/
theorem Wk.un : Wk K H μ H (muUn μ D) := ⟨fun _ _ h => h, fun _ _ h => h, fun a xs q => q.imp (fun ⟨a, b, c⟩ => ⟨a, b, fun z => c z.2⟩) id⟩
theorem Ext.un (x : Ext K H1 μ1 H μ) (n1 : H1 D = none) (h1 : Hr K H1 μ1 st) : Ext K H1 μ1 H (muUn μ D) :=
  ⟨⟨x.mu, x.tup, fun a xs e => (Wk.un (K := K)).lst a xs (x.lst a xs e)⟩, fun a e => ⟨⟨fun z => by subst z; exact h1.freeP n1 e, (x.prv a e).1⟩, (x.prv a e).2⟩, x.frz⟩
theorem Hr.un (h : Hr K H μ st) : Hr K H (muUn μ D) st :=
  ⟨h.inj, h.trk, h.low, h.des, fun n a e z => h.prv n a e z.2, fun a z => h.prT a z.2, fun n o e => by
    obtain ⟨a, e1, e2⟩ := h.obj n o e
    exact ⟨a, e1, RO.wk Wk.un rfl e2⟩⟩
/-- it becomes a loc -/
theorem Wk.take (h : Hr K H μ st) (p : μ.p D) : Wk K H μ H (muNew (muUn μ D) st.next D) := by
  refine ⟨fun n a e => ?_, fun _ _ h => h, fun a xs q => ?_⟩
  · rw [muNew_ne (Nat.ne_of_lt (h.low n a e))]; exact e
  · rcases q with ⟨q1, q2, q3⟩ | q
    · have nD : a ≠ D := fun z => q3 (z ▸ p)
      refine .inl ⟨q1, fun n z => ?_, fun z => q3 z.2⟩
      by_cases w : n = st.next
      · subst w; rw [muNew_same] at z; cases z; exact nD rfl
      · rw [muNew_ne w] at z; exact q2 n z
    · exact .inr q
theorem Ext.take (x : Ext K H1 μ1 H μ) (h : Hr K H μ st) (p : μ.p D) (n1 : H1 D = none) {st1 : Sto} (h1 : Hr K H1 μ1 st1) : Ext K H1 μ1 H (muNew (muUn μ D) st.next D) := by
  have g := Wk.take h p
  exact ⟨⟨fun n a e => g.mu n a (x.mu n a e), fun a xs e => g.tup a xs (x.tup a xs e), fun a xs e => g.lst a xs (x.lst a xs e)⟩, fun a e => ⟨⟨fun z => by subst z; exact h1.freeP n1 e, (x.prv a e).1⟩, (x.prv a e).2⟩, x.frz⟩
theorem Hr.take {so : SO} (h : Hr K H μ st) (p : μ.p D) (r : RO K H μ D so) : Hr K H (muNew (muUn μ D) st.next D) (st.new so) := by
  obtain ⟨u0, eD⟩ := r.some
  have g := Wk.take h p
  have inv : ∀ {n a}, muNew (muUn μ D) st.next D n = some a → (n = st.next ∧ a = D) ∨ (n ≠ st.next ∧ μ n = some a) := fun {n a} q => by
    by_cases z : n = st.next
    · subst z; rw [muNew_same] at q; cases q; exact .inl ⟨rfl, rfl⟩
    · rw [muNew_ne z] at q; exact .inr ⟨z, q⟩
  have nD : ∀ n, μ n ≠ some D := fun n e => h.prv n D e p
  refine ⟨fun n m a q1 q2 => ?_, fun n a q => ?_, fun n a q => ?_, ?_, fun n a q z => ?_, fun a q => h.prT a q.2, fun n o q => ?_⟩
  · rcases inv q1 with ⟨rfl, rfl⟩ | ⟨n1, w1⟩ <;> rcases inv q2 with ⟨rfl, z⟩ | ⟨n2, w2⟩
    · rfl
    · exact absurd w2 (nD m)
    · exact absurd (z ▸ w1) (nD n)
    · exact h.inj n m a w1 w2
  · rcases inv q with ⟨rfl, rfl⟩ | ⟨_, q⟩
    · rw [eD]; simp
    · exact h.trk n a q
  · rcases inv q with ⟨rfl, rfl⟩ | ⟨_, q⟩
    · exact Nat.lt_succ_self _
    · exact Nat.lt_succ_of_lt (h.low n a q)
  · refine List.pairwise_cons.mpr ⟨fun b hb => ?_, h.des⟩
    obtain ⟨a, e1, _⟩ := h.obj b.1 b.2 (getO_of_mem h.des hb)
    exact h.low _ _ e1
  · rcases inv q with ⟨rfl, rfl⟩ | ⟨_, q⟩
    · exact z.1 rfl
    · exact h.prv n a q z.2
  · unfold Sto.get Sto.new at q
    simp only [getO] at q
    cases z : Nat.beq st.next n with
    | true =>
      have e' := Nat.eq_of_beq_eq_true z
      subst e'
      rw [z] at q
      cases q
      exact ⟨D, muNew_same, RO.wk g rfl r⟩
    | false =>
      rw [z, cond_false] at q
      obtain ⟨a, e1, e2⟩ := h.obj n o q
      exact ⟨a, g.mu n a e1, RO.wk g rfl e2⟩
/-- the list that was made, of either kind -/
theorem made_ok {l : Bool} {C : Cls} {W : WX} {σ : L2.St} {Q : VK} {st1 : Sto} (z : Th K C W (RV K) (mkL l ps st) σ H1 μ1 Q) (h1 : Hr K H1 μ1 st1) (n1 : H1 D = none) (x : Ext K H1 μ1 H μ) (h : Hr K H μ st) (p : μ.p D) (eD : H D = some (.lst vs)) (r : RVs K H μ ps vs) : Q (.ref D) H := by
  cases l with
  | true => exact z H (muNew (muUn μ D) st.next D) (.ref D) (x.take h p n1 h1) (h.take (so := .lst ps) p ⟨vs, eD, r⟩) (.loc muNew_same)
  | false => exact z H (muUn μ D) (.ref D) (x.un n1 h1) h.un (.lst (.inl ⟨.inl eD, fun n e => h.prv n D e p, fun w => w.1 rfl⟩) (RVs.wk Wk.un r))
end
/-! ### comprehensions -/
section
variable {X : Cx} {C : Cls} {W : WX} {R : Ops} {t : TV} {ifs : List E} {elt : E} {own : List Nat}
abbrev W0 : WX := fun _ _ _ _ => False
theorem RE.wipe {K : PySem.W.Frag} {H : Hp} {μ : Mu} {ρ : Env} {σ : L2.St} (h : RE K H μ ρ σ) : ∀ vs : List Nat, RE K H μ (wipeE ρ vs) (L2.wipe σ vs)
  | [] => h
  | v :: vs => by
    have ih := h.wipe vs
    unfold wipeE L2.wipe
    rw [setN_eq]
    refine ⟨by simp [ih.1], fun i p e => ?_⟩
    by_cases hi : v = i
    · subst hi
      by_cases hl : v < (wipeE ρ vs).length
      · rw [List.getElem?_set_self hl] at e; cases e
      · rw [List.getElem?_eq_none (by simpa using hl)] at e; cases e
    · rw [List.getElem?_set_ne hi] at e
      rw [List.getElem?_set_ne hi]
      exact ih.2 i p e
theorem wipe_in {σ : L2.St} : ∀ {vs : List Nat} {i : Nat}, i ∈ vs → (L2.wipe σ vs)[i]? = if i < σ.length then some none else none
  | v :: vs, i, h => by
    unfold L2.wipe
    by_cases hi : v = i
    · subst hi
      by_cases hl : v < σ.length
      · rw [List.getElem?_set_self (by rw [wipe_length]; exact hl), if_pos hl]
      · rw [if_neg hl, List.getElem?_eq_none (by simp [wipe_length]; omega)]
    · rw [List.getElem?_set_ne hi]
      exact wipe_in ((List.mem_cons.mp h).resolve_left fun z => hi z.symm)
theorem wipe_same {σ σ2 : L2.St} {vs : List Nat} (hl : σ2.length = (L2.wipe σ vs).length) (h : ∀ i, i ∉ vs → σ2[i]? = (L2.wipe σ vs)[i]?) : L2.wipe σ2 vs = L2.wipe σ vs := by
  apply List.ext_getElem?
  intro i
  by_cases hi : i ∈ vs
  · rw [wipe_in hi, wipe_in hi, hl, wipe_length]
  · rw [L2.wipe_out hi, h i hi]
/-- what is left of a comprehension at turn i -/
def crest (R : Ops) (t : TV) (own : List Nat) (ifs : List E) (elt : E) (ρ : Env) (src : Src) (m i : Nat) (acc : List PV) (st : Sto) : Out (List PV) := match src with
  | .vals xs => compVals R t own ifs elt ρ (xs.drop i) acc st
  | .dyn k ps => compDyn R t own ifs elt ρ (.dyn k ps) m i acc st
/-- the measure, and that the list stays short -/
def Src.cm (src : Src) (R : Ops) (m i : Nat) : Prop := match src with
  | .vals xs => m = xs.length - i ∧ i ≤ xs.length ∧ xs.length ≤ sizeLine
  | .dyn _ _ => m + i = R.fuel ∧ R.fuel ≤ sizeLine
theorem crest_step {src : Src} {m i : Nat} {ρ : Env} {acc : List PV} {st : Sto} {l : Bool} {K : PySem.W.Frag} {σ : L2.St} {H : Hp} {μ : Mu} {Q : VK} (hm : src.cm R m i)
    (h : Th K C W (RV K) ((crest R t own ifs elt ρ src m i acc st).bind fun acc st => mkL l acc.reverse st) σ H μ Q) :
    src.lim i ∧ ((src.at st i = some none ∧ Th K C W (RV K) (mkL l acc.reverse st) σ H μ Q) ∨ ∃ x m', src.at st i = some (some x) ∧ m' < m ∧ i < sizeLine ∧ src.cm R m' (i + 1) ∧
      Th K C W (RV K) (((compTurn R t own ifs elt x ρ acc st).bind fun acc st => crest R t own ifs elt ρ src m' (i + 1) acc st).bind fun acc st => mkL l acc.reverse st) σ H μ Q) := by
  cases src with
  | vals xs =>
    obtain ⟨hm, hi, hz⟩ := hm
    refine ⟨hi, ?_⟩
    simp only [crest] at h
    cases e : xs.drop i with
    | nil =>
      rw [e] at h
      have hl : xs.length ≤ i := by
        have := congrArg List.length e
        simp at this
        omega
      refine .inl ⟨?_, h⟩
      simp only [Src.at]
      rw [nth_eq, List.getElem?_eq_none hl]
    | cons x r =>
      rw [e] at h
      have hl : i < xs.length := by
        have := congrArg List.length e
        simp at this
        omega
      have hx : xs[i]? = some x := by
        have : (xs.drop i)[0]? = some x := by rw [e]; rfl
        simpa using this
      have hr : r = xs.drop (i + 1) := by
        have := congrArg List.tail e
        simpa using this.symm
      refine .inr ⟨x, m - 1, ?_, by omega, by omega, ⟨by omega, hl, hz⟩, ?_⟩
      · simp only [Src.at]
        rw [nth_eq, hx]
      · simp only [crest]
        rw [← hr]
        exact h
  | dyn k ps =>
    obtain ⟨hm, hz⟩ := hm
    refine ⟨trivial, ?_⟩
    simp only [crest] at h
    cases m with
    | zero => exact (show False from h).elim
    | succ m =>
      rw [compDyn] at h
      cases e : Src.at (.dyn k ps) st i with
      | none => rw [e] at h; exact h.elim
      | some o =>
        cases o with
        | none => rw [e] at h; exact .inl ⟨rfl, h⟩
        | some x => rw [e] at h; exact .inr ⟨x, m, rfl, Nat.lt_succ_self _, by omega, ⟨by omega, hz⟩, h⟩
theorem call_rest {src : Src} {ρ : Env} {st : Sto} {l : Bool} {K : PySem.W.Frag} {σ : L2.St} {H : Hp} {μ : Mu} {Q : VK} (h : Th K C W (RV K) ((compAll R t own ifs elt ρ src st).bind fun acc st => mkL l acc.reverse st) σ H μ Q) :
    ∃ m, src.cm R m 0 ∧ Th K C W (RV K) ((crest R t own ifs elt ρ src m 0 [] st).bind fun acc st => mkL l acc.reverse st) σ H μ Q := by
  cases src with
  | vals xs =>
    simp only [compAll] at h
    split at h
    · rename_i hz
      exact ⟨xs.length, ⟨by simp, Nat.zero_le _, fit_le hz⟩, h⟩
    · exact h.elim
  | dyn k ps =>
    simp only [compAll] at h
    split at h
    · rename_i hz
      exact ⟨R.fuel, ⟨rfl, fit_le hz⟩, h⟩
    · exact h.elim
end
end Pi
end
section
set_option Elab.async false
set_option linter.all false
set_option maxRecDepth 100000
set_option maxHeartbeats 4000000
namespace Pi
open PySem PySem.Spec PyProof.Rows L2
section
variable {X : Cx} {C : Cls} {W : WX} {R : Ops} {t : TV} {ifs : List E} {elt : E}
theorem noExc_bind {α β : Type} {o : Out α} {f : α → Sto → Out β} {γ : Type} {rel : Hp → Mu → β → γ → Prop} {K : PySem.W.Frag} {σ : L2.St} {H : Hp} {μ : Mu} {Q : γ → Hp → Prop} (h : Th K C W rel ((noExc o).bind f) σ H μ Q) : ∃ a st, o = .ok a st ∧ Th K C W rel (f a st) σ H μ Q := by
  cases o with
  | ok a st => exact ⟨a, st, rfl, h⟩
  | exc c fs st => exact h.elim
  | stuck => exact h.elim
/-- the reading of a comprehension -/
theorem lc_core {es : Env → Sto → Out Src} {l : Bool} {σ : L2.St} {H : Hp} {Q : VK}
    (h : ∃ μ ρ st, Hr X.K H μ st ∧ RE X.K H μ ρ σ ∧ Th X.K C W (RV X.K) ((es ρ st).bind fun src st => (compAll R t (slotsT t) ifs elt ρ src st).bind fun acc st => mkL l acc.reverse st) σ H μ Q) :
    tLc (gI X.K C W es) (gG X.K t) (gT X.K C W0 (evTs R ifs)) (gE X.K C W0 (R.e elt)) (slotsT t) σ H Q := by
  obtain ⟨μ, ρ, st, hr, hE, z⟩ := h
  refine ⟨μ, ρ, st, hr, hE, (Th.bind (rel := fun H' μ' src J => RJ X.K src H' μ' J) z).imp ?_⟩
  rintro J H1 ⟨μ1, src, st1, e1, hr1, rj, z1⟩ D nD
  obtain ⟨m0, hm0, z2⟩ := call_rest z1
  have hE1 := hE.ext e1
  refine ⟨fun i m H' => ∃ μ' acc vs st', Ext X.K H1 μ1 H' μ' ∧ Hr X.K H' μ' st' ∧ μ'.p D ∧ H' D = some (.lst vs) ∧ RVs X.K H' μ' acc.reverse vs ∧ acc.length ≤ i ∧ src.cm R m i ∧
      Th X.K C W (RV X.K) ((crest R t (slotsT t) ifs elt ρ src m i acc st').bind fun acc st => mkL l acc.reverse st) σ H1 μ1 Q,
    ⟨m0, muPrv μ1 D, [], [], st1, Ext.priv hr1 nD, hr1.priv nD trivial, .inl rfl, upd_same, .nil, Nat.le_refl _, hm0, z2⟩, ?_⟩
  rintro i m H' ⟨μ', acc, vs, st', ex, hr', pD, eD, rs, hl, hm, z3⟩
  obtain ⟨lim, hs⟩ := crest_step hm z3
  have j := rj H' μ' st' ex hr' i lim
  rcases hs with ⟨ea, z4⟩ | ⟨x, m', ea, lt, hz, hm', z4⟩
  · rw [ea] at j
    exact .inl ⟨j, made_ok z4 hr1 nD ex hr' pD eD rs⟩
  · rw [ea] at j
    refine .inr ⟨j.1, fun H2 => ∃ μ2 acc2 vs2 st2, Ext X.K H1 μ1 H2 μ2 ∧ Hr X.K H2 μ2 st2 ∧ μ2.p D ∧ H2 D = some (.lst vs2) ∧ RVs X.K H2 μ2 acc2.reverse vs2 ∧ acc2.length ≤ i + 1 ∧ src.cm R m' (i + 1) ∧
      Th X.K C W (RV X.K) ((crest R t (slotsT t) ifs elt ρ src m' (i + 1) acc2 st2).bind fun acc st => mkL l acc.reverse st) σ H1 μ1 Q, fun H2 h2 => ⟨m', lt, h2⟩, ?_⟩
    intro y H2 hy
    obtain ⟨μ2, ex2, hr2, r2⟩ := j.2 y H2 hy
    have p2 := ex2.prv D pD
    have eD2 := p2.2 _ eD
    have rs2 := rs.ext ex2
    have ex12 := ex.trans ex2
    unfold compTurn at z4
    cases eb : bindT t x (wipeE ρ (slotsT t)) with
    | none => rw [eb] at z4; exact z4.elim
    | some ρ' =>
      rw [eb] at z4
      dsimp only at z4
      have z5 : Th X.K C W (RV X.K) ((noExc (evTs R ifs ρ' st')).bind fun b st => ((match b with
          | false => Out.ok acc st
          | true => (noExc (R.e elt ρ' st)).bind fun y st => Out.ok (y :: acc) st).bind fun acc st => (crest R t (slotsT t) ifs elt ρ src m' (i + 1) acc st).bind fun acc st => mkL l acc.reverse st)) σ H1 μ1 Q := by
        cases e : evTs R ifs ρ' st' with
        | ok b st2 =>
          rw [e] at z4
          simp only [noExc, Out.bind] at z4 ⊢
          cases b with
          | false => exact z4
          | true =>
            cases e2 : R.e elt ρ' st2 with
            | ok v st3 => rw [e2] at z4; exact z4
            | exc c fs st3 => rw [e2] at z4; exact z4
            | stuck => rw [e2] at z4; exact z4
        | exc c fs st2 => rw [e] at z4; exact z4
        | stuck => rw [e] at z4; exact z4
      obtain ⟨b, st2, et, z6⟩ := noExc_bind z5
      refine ⟨μ2, wipeE ρ (slotsT t), x, ρ', (hE1.ext ex12).wipe _, r2, eb, fun σ2 he2 hl2 hs2 => ⟨wipe_same (by rw [hl2]) hs2, μ2, ρ', st', hr2, he2, ?_⟩⟩
      rw [et]
      intro H3 μ3 b' ex3 hr3 rb
      obtain rfl : b = b' := rb
      have p3 := ex3.prv D p2.1
      have eD3 := p3.2 _ eD2
      have rs3 := rs2.ext ex3
      have ex13 := ex12.trans ex3
      cases b with
      | false =>
        rw [if_neg (by simp)]
        exact ⟨μ3, acc, vs, st2, ex13, hr3, p3.1, eD3, rs3, Nat.le_succ_of_le hl, hm', z6⟩
      | true =>
        rw [if_pos rfl]
        have z7 : Th X.K C W (RV X.K) ((noExc (R.e elt ρ' st2)).bind fun y st => ((Out.ok (y :: acc) st : Out (List PV)).bind fun acc st => (crest R t (slotsT t) ifs elt ρ src m' (i + 1) acc st).bind fun acc st => mkL l acc.reverse st)) σ H1 μ1 Q := by
          dsimp only at z6
          cases e2 : R.e elt ρ' st2 with
          | ok v st3 => rw [e2] at z6; exact z6
          | exc c fs st3 => rw [e2] at z6; exact z6
          | stuck => rw [e2] at z6; exact z6
        obtain ⟨v, st3, ee, z8⟩ := noExc_bind z7
        refine ⟨μ3, ρ', st2, hr3, he2.ext ex3, ?_⟩
        rw [ee]
        intro H4 μ4 y4 ex4 hr4 r4
        have p4 := ex4.prv D p3.1
        have eD4 := p4.2 _ eD3
        have rs4 := rs3.ext ex4
        have ex14 := ex13.trans ex4
        have hlen : vs.length ≤ i := by
          rw [← rs.length, List.length_reverse]; exact hl
        refine ⟨vs, eD4, by omega, μ4, v :: acc, vs ++ [y4], st3, ex14.grow nD p4.1 eD4 trivial hr1, hr4.grow p4.1 eD4 trivial trivial, p4.1, upd_same, ?_, by simp; exact hl, hm', z8⟩
        rw [List.reverse_cons]
        exact RVs.wk (Wk.grow p4.1 eD4 trivial) (rs4.append (.cons r4 .nil))
/-- a comprehension as a value -/
theorem g_comp {tg iter x : Expr} {xs : List Expr} {scope : Scope} {own : List (Str × Nat)} {pos : Pos} {es : Env → Sto → Out Src} {l : Bool} (hc : X.calm = true) (hN : X.N.Nodup) (hi : PI X tg iter (gI X.K C W es)) (ok : BlkOk X.N X.env.scope scope own) (ho : own.map (·.2) = slotsT t)
    (hg : ∀ (s : Shared) (H : Hp) (A : Addr) (cl : List (Str × Addr)) (fp : List Addr), PG (X.blk s H scope (compEnvC scope cl A X.env) fp) tg (gG X.K t))
    (ht : ∀ (s : Shared) (H : Hp) (A : Addr) (cl : List (Str × Addr)) (fp : List Addr), PTs (X.blk s H scope (compEnvC scope cl A X.env) fp) xs (gT X.K C W0 (evTs R ifs)))
    (he : ∀ (s : Shared) (H : Hp) (A : Addr) (cl : List (Str × Addr)) (fp : List Addr), PE (X.blk s H scope (compEnvC scope cl A X.env) fp) x (gE X.K C W0 (R.e elt))) (hs : ∀ y, foldedSetIterable iter X.env y = pure y) :
    PE X (.ListComp x [⟨tg, iter, xs, 0⟩] scope pos) (gE X.K C W fun ρ st => (es ρ st).bind fun src st => (compAll R t (slotsT t) ifs elt ρ src st).bind fun acc st => mkL l acc.reverse st) := by
  refine (pe_lc hc hN hi ok hg ht he hs).imp fun σ H Q q => ?_
  rw [ho]
  exact lc_core q
/-- y = [..] on one line -/
theorem s_setLc {i : Nat} {y : Str} {py : Pos} {tg iter x : Expr} {xs : List Expr} {scope : Scope} {own : List (Str × Nat)} {pos spos : Pos} {es : Env → Sto → Out Src} {l : Bool} (hc : X.calm = true) (hN : X.N.Nodup) (hy : X.N[i]? = some y) (hyl : X.env.scope.names.lookup y = some .local)
    (hsw : swapsWith (.ListComp x [⟨tg, iter, xs, 0⟩] scope pos) (some (.Name y py)) spos.line X.env = pure true) (hi : PI X tg iter (gI X.K C W es)) (ok : BlkOk X.N X.env.scope scope own) (ho : own.map (·.2) = slotsT t)
    (hg : ∀ (s : Shared) (H : Hp) (A : Addr) (cl : List (Str × Addr)) (fp : List Addr), PG (X.blk s H scope (compEnvC scope cl A X.env) fp) tg (gG X.K t))
    (ht : ∀ (s : Shared) (H : Hp) (A : Addr) (cl : List (Str × Addr)) (fp : List Addr), PTs (X.blk s H scope (compEnvC scope cl A X.env) fp) xs (gT X.K C W0 (evTs R ifs)))
    (he : ∀ (s : Shared) (H : Hp) (A : Addr) (cl : List (Str × Addr)) (fp : List Addr), PE (X.blk s H scope (compEnvC scope cl A X.env) fp) x (gE X.K C W0 (R.e elt))) (hs : ∀ y, foldedSetIterable iter X.env y = pure y) :
    PS X (.Assign [.Name y py] (.ListComp x [⟨tg, iter, xs, 0⟩] scope pos) spos) (gS X.K C W fun ρ st => ((es ρ st).bind fun src st => (compAll R t (slotsT t) ifs elt ρ src st).bind fun acc st => mkL l acc.reverse st).fl ρ fun v st => .nx (setN ρ i (some v)) st) := by
  refine (ps_setLc hc hN hy hyl hsw hi ok hg ht he hs).imp ?_
  rintro D σ H ⟨μ, ρ, st, hr, hE, z⟩
  rw [ho]
  refine lc_core (C := C) (W := W) ⟨μ, ρ, st, hr, hE, (fl_of (rel := RV X.K) hE rfl z).imp ?_⟩
  rintro v H1 ⟨μ1, p, st1, e1, hr1, r1, z1⟩
  exact z1 H1 μ1 (σ.set i (some v)) .refl hr1 ((hE.ext e1).set r1) (by simp)
/-- a comprehension's tests -/
theorem g_tests0 : PTs X [] (gT X.K C W (evTs R [])) := pts_nil.imp fun σ H Q ⟨μ, ρ, st, hr, he, z⟩ => z.ok hr rfl
theorem g_tests1 {c : Expr} {e : E} (h : PT X c (gT X.K C W (evT R e))) : PTs X [c] (gT X.K C W (evTs R [e])) := by
  refine (pts_one h).imp ?_
  rintro σ H Q ⟨μ, ρ, st, hr, he, z⟩
  refine ⟨μ, ρ, st, hr, he, ?_⟩
  unfold evTs at z
  refine (Th.bind (rel := relB) z).imp ?_
  rintro b H1 ⟨μ1, b', st1, e1, hr1, rb, z1⟩
  obtain rfl : b' = b := rb
  cases b' with
  | true => exact z1.ok hr1 rfl
  | false => exact z1.ok hr1 rfl
end
end Pi
end
section
set_option Elab.async false
set_option linter.all false
set_option maxRecDepth 100000
set_option maxHeartbeats 4000000
namespace Pi
open PySem PySem.Spec PyProof.Rows L2
/-! ### keys: ints, texts, tuples of keys -/
def allL {α : Type} (f : α → Bool) : List α → Bool
  | [] => true
  | x :: r => bif f x then allL f r else false
/-- the key of a cell -/
def ckOf : PV → Option CK
  | .tup [.int i, .tup xs] => match intsOf xs with
    | some is => some (i, is)
    | none => none
  | _ => none
/-! cells in order -/
def eqIL : List Int → List Int → Bool
  | [], [] => true
  | x :: xs, y :: ys => bif x == y then eqIL xs ys else false
  | _, _ => false
def ckEq (a b : CK) : Bool := bif a.1 == b.1 then eqIL a.2 b.2 else false
def ltIL : List Int → List Int → Bool
  | [], [] => false
  | [], _ :: _ => true
  | _ :: _, [] => false
  | x :: xs, y :: ys => bif x == y then ltIL xs ys else decide (x < y)
def ckLt (a b : CK) : Bool := bif a.1 == b.1 then ltIL a.2 b.2 else decide (a.1 < b.1)
def insC (k : CK) : List CK → List CK
  | [] => [k]
  | j :: r => bif ckEq k j then j :: r else bif ckLt k j then k :: j :: r else j :: insC k r
def srtC : List CK → List CK
  | [] => []
  | k :: r => insC k (srtC r)
def nkLs (f : PV → Option NestedKey) : List PV → Option (List NestedKey)
  | [] => some []
  | x :: xs => match f x, nkLs f xs with
    | some k, some ks => some (k :: ks)
    | _, _ => none
/-- a key: ints, tuples of such, n deep -/
def nkOf : Nat → PV → Option NestedKey
  | 0, _ => none
  | n + 1, p => match p with
    | .int i => some (.num i)
    | .tup xs => (nkLs (nkOf n) xs).map .tup
    | _ => none
def tupKey (p : PV) : Option NestedKey := match p with
  | .tup xs => nkOf 4 (.tup xs)
  | _ => none
def cksOf : List PV → Option (List CK)
  | [] => some []
  | p :: r => match ckOf p, cksOf r with
    | some k, some ks => some (k :: ks)
    | _, _ => none
def insI (k : Int) : List Int → List Int
  | [] => [k]
  | j :: r => bif k == j then j :: r else bif decide (k < j) then k :: j :: r else j :: insI k r
def srtI : List Int → List Int
  | [] => []
  | k :: r => insI k (srtI r)
def isInt : PV → Bool
  | .int _ => true
  | _ => false
def eqLs (f : PV → PV → Bool) : List PV → List PV → Bool
  | [], [] => true
  | x :: xs, y :: ys => bif f x y then eqLs f xs ys else false
  | _, _ => false
def eqK : Nat → PV → PV → Bool
  | 0, _, _ => false
  | n + 1, p, q => match p, q with
    | .int i, .int j => i == j
    | .tup xs, .tup ys => eqLs (eqK n) xs ys
    | .str a, .str b => decide (a = b)
    | _, _ => false
def ltLs (e f : PV → PV → Bool) : List PV → List PV → Bool
  | [], [] => false
  | [], _ :: _ => true
  | _ :: _, [] => false
  | x :: xs, y :: ys => bif e x y then ltLs e f xs ys else f x y
def ltK : Nat → PV → PV → Bool
  | 0, _, _ => false
  | n + 1, p, q => match p, q with
    | .int i, .int j => decide (i < j)
    | .tup xs, .tup ys => ltLs (eqK n) (ltK n) xs ys
    | _, _ => false
def kD : Nat := 8
def findK (k : PV) : List (PV × PV) → Option PV
  | [] => none
  | (j, v) :: r => bif eqK kD j k then some v else findK k r
def mapKs (k v : PV) : List (PV × PV) → List (PV × PV)
  | [] => []
  | (j, u) :: r => (bif eqK kD j k then (j, v) else (j, u)) :: mapKs k v r
def putKs (k v : PV) (kvs : List (PV × PV)) : List (PV × PV) := bif (findK k kvs).isSome then mapKs k v kvs else kvs ++ [(k, v)]
/-- of one shape: ints, or tuples of such of the same lengths where they are compared -/
def insK (x : PV) : List PV → List PV
  | [] => [x]
  | y :: r => bif ltK kD x y then x :: y :: r else y :: insK x r
def memK (x : PV) : List PV → Bool
  | [] => false
  | y :: r => bif eqK kD y x then true else memK x r
def dedup : List PV → List PV → List PV
  | [], acc => acc
  | x :: r, acc => bif memK x acc then dedup r acc else dedup r (acc ++ [x])
def sortL : List PV → List PV
  | [] => []
  | x :: r => insK x (sortL r)
def dctAt (st : Sto) : PV → Option (Bool × List (PV × PV))
  | .loc n => match st.get n with
    | some (.dct b kvs) => some (b, kvs)
    | _ => none
  | _ => none
def delO (n : Nat) : List (Nat × SO) → List (Nat × SO)
  | [] => []
  | (m, o) :: r => bif Nat.beq m n then r else (m, o) :: delO n r
/-- the store without an object -/
def Sto.del (st : Sto) (n : Nat) : Sto := ⟨st.next, delO n st.objs⟩
/-- the kind of a dict's keys: ints; or tuples -/
def keyOk (deep : Bool) (k : PV) : Bool := match deep, k with
  | false, .int _ => true
  | false, .str _ => true
  | true, k => (tupKey k).isSome
  | _, _ => false
/-! ### the interpreter -/
def memV (st : Sto) (x c : PV) : Option Bool := match dctAt st c with
  | some (false, kvs) => bif keyOk false x then some (findK x kvs).isSome else none
  | some (true, _) => none
  | none => memD st x c
def idxA (st : Sto) (o i : PV) : Option PV := match dctAt st o with
  | some (false, kvs) => bif keyOk false i then findK i kvs else none
  | some (true, _) => none
  | none => idxV st o i
/-- an item is stored -/
def subV (o i v : PV) (st : Sto) : Option Sto := match o with
  | .loc n => match st.get n with
    | some (.lst xs) => match i with
      | .int j => match ixOf xs.length j with
        | some k => some (st.put n (.lst (setN xs k v)))
        | none => none
      | _ => none
    | some (.dct false kvs) => bif keyOk false i && fitLen (kvs.length + 1) then some (st.put n (.dct false (putKs i v kvs))) else none
    | _ => none
  | _ => none
def lastP : List PV → Option PV
  | [] => none
  | [x] => some x
  | _ :: r => lastP r
def initP : List PV → List PV
  | [] => []
  | [_] => []
  | x :: r => x :: initP r
def ixEq (st : Sto) (x : PV) : List PV → Nat → Option Nat
  | [], _ => none
  | y :: r, n => match eqPV st y x with
    | some true => some n
    | some false => ixEq st x r (n + 1)
    | none => none
/-- a receiver of a method -/
def recv (st : Sto) (m : MM) : PV → Bool
  | .loc n => match st.get n with
    | some (.lst _) => match m with
      | .append => true
      | .extend => true
      | .pop => true
      | .reverse => true
      | .index => true
      | _ => false
    | some (.dct _ _) => match m with
      | .setdefault => true
      | _ => false
    | none => false
  | _ => false
def methV (m : MM) (o : PV) (vs : List PV) (st : Sto) : Out PV := match o with
  | .loc n => match st.get n with
    | some (.lst xs) => match m, vs with
      | .append, [v] => bif fitLen (xs.length + 1) then .ok .non (st.put n (.lst (xs ++ [v]))) else .stuck
      | .extend, [v] => match listOf st v with
        | some ys => bif fitLen (xs.length + ys.length) then .ok .non (st.put n (.lst (xs ++ ys))) else .stuck
        | none => .stuck
      | .pop, [] => match lastP xs with
        | some v => .ok v (st.put n (.lst (initP xs)))
        | none => .stuck
      | _, _ => .stuck
    | some (.dct b kvs) => match m, vs with
      | .setdefault, [k, v] => bif keyOk b k && fitLen (kvs.length + 1) then (match findK k kvs with
        | some u => .ok u st
        | none => .ok v (st.put n (.dct b (kvs ++ [(k, v)])))) else .stuck
      | _, _ => .stuck
    | none => .stuck
  | _ => .stuck
/-- the columns of some rows, as many as the shortest has -/
def colL (i : Nat) : List (List PV) → List PV
  | [] => []
  | xs :: r => (match nth xs i with
    | some x => x
    | none => .non) :: colL i r
def colsL (xss : List (List PV)) : Nat → Nat → List PV
  | 0, _ => []
  | n + 1, i => .tup (colL i xss) :: colsL xss n (i + 1)
def itemsAll (st : Sto) : List PV → Option (List (List PV))
  | [] => some []
  | p :: r => match itemsOf st p, itemsAll st r with
    | some xs, some xss => some (xs :: xss)
    | _, _ => none
def lenMin : List (List PV) → Nat
  | [] => 0
  | [xs] => xs.length
  | xs :: r => Nat.min xs.length (lenMin r)
def disp : List (PV × PV) → List (PV × PV) → Option (List (PV × PV))
  | [], acc => some acc
  | (k, v) :: r, acc => bif keyOk false k then disp r (putKs k v acc) else none
/-- what a value is shown as -/
def reprV (st : Sto) (v : PV) : Option Str := match toD st 60 v with
  | some d => if d.showable && Nat.ble d.depth 60 && fitLen d.shown.length then some d.shown else none
  | none => none
def noLoc : Nat → PV → Bool
  | 0, _ => false
  | n + 1, p => match p with
    | .loc _ => false
    | .tup xs => allL (noLoc n) xs
    | .lst xs => allL (noLoc n) xs
    | _ => true
def posI (k : Int) : List Int → Nat → Option Nat
  | [], _ => none
  | x :: r, n => bif x == k then some n else posI k r (n + 1)
def indexV (st : Sto) (x y : PV) : Option PV := match listOf st x, y with
  | some xs, .int k => match intsOf xs with
    | some is => (posI k is 0).map fun j => .int (j : Nat)
    | none => none
  | _, _ => none
/-- pairs of ints -/
def pairsOf : List PV → Option (List (Int × Int))
  | [] => some []
  | .tup [.int i, .int j] :: r => match pairsOf r with
    | some ps => some ((i, j) :: ps)
    | none => none
  | _ :: _ => none
def pairP (p : Int × Int) : PV := .tup [.int p.1, .int p.2]
def ltPr (p q : Int × Int) : Bool := decide (p.1 < q.1) || (p.1 == q.1 && decide (p.2 < q.2))
def insPr (p : Int × Int) : List (Int × Int) → List (Int × Int)
  | [] => [p]
  | q :: r => bif ltPr q p then q :: insPr p r else p :: q :: r
def srtPr : List (Int × Int) → List (Int × Int)
  | [] => []
  | p :: r => insPr p (srtPr r)
def sortedV (l : Bool) (v : PV) (st : Sto) : Out PV := match listOf st v with
  | some xs => match pairsOf xs with
    | some ps => mkL l ((srtPr ps).map pairP) st
    | none => .stuck
  | none => .stuck
def biG (l : Bool) (b : BI) (vs : List PV) (st : Sto) : Out PV := match b, vs with
  | .repr, [v] => match reprV st v with
    | some x => .ok (.str x) st
    | none => .stuck
  | .sorted, [v] => sortedV l v st
  | _, _ => biV l b vs st
def augI (op : Op2) (x y : PV) : Option Int := match op, x, y with
  | .add, .int i, .int j => some (i + j)
  | .sub, .int i, .int j => some (i - j)
  | _, _, _ => none
section
variable (R : Ops)
def evVals (a : E) (ρ : Env) (st : Sto) : Out Src := (R.e a ρ st).bind fun v st => match v with
  | .loc n => match st.get n with
    | some (.dct _ kvs) => .ok (.vals (kvs.map fun kv => kv.2)) (st.del n)
    | _ => .stuck
  | _ => .stuck
def evSrc (k : SK) (es : List E) (ρ : Env) (st : Sto) : Out Src := match k with
  | .vals => match es with
    | [a] => evVals R a ρ st
    | _ => .stuck
  | k => match es with
  | [a] => (R.e a ρ st).bind fun v st => Out.of (srcOf k [v] st) st
  | [a, b] => (R.e a ρ st).bind fun v st => (R.e b ρ st).bind fun u st => Out.of (srcOf k [v, u] st) st
  | _ => .stuck
def evPairs : List E → List E → Env → Sto → Out (List (PV × PV))
  | [], [], _, st => .ok [] st
  | k :: ks, v :: vs, ρ, st => (R.e k ρ st).bind fun x st => (R.e v ρ st).bind fun y st => (evPairs ks vs ρ st).bind fun r st => .ok ((x, y) :: r) st
  | _, _, _, _ => .stuck
def dcTurn (t : TV) (own : List Nat) (ifs : List E) (ke ve : E) (x : PV) (ρ : Env) (acc : List (PV × PV)) (st : Sto) : Out (List (PV × PV)) :=
  match bindT t x (wipeE ρ own) with
  | none => .stuck
  | some ρ' => (noExc (evTs R ifs ρ' st)).bind fun b st => match b with
    | false => .ok acc st
    | true => (noExc (R.e ke ρ' st)).bind fun k st => (noExc (R.e ve ρ' st)).bind fun v st => bif keyOk false k then .ok (putKs k v acc) st else .stuck
def dcVals (t : TV) (own : List Nat) (ifs : List E) (ke ve : E) (ρ : Env) : List PV → List (PV × PV) → Sto → Out (List (PV × PV))
  | [], acc, st => .ok acc st
  | x :: xs, acc, st => (dcTurn R t own ifs ke ve x ρ acc st).bind fun acc st => dcVals t own ifs ke ve ρ xs acc st
def dcAll (t : TV) (own : List Nat) (ifs : List E) (ke ve : E) (ρ : Env) (src : Src) (st : Sto) : Out (List (PV × PV)) := match src with
  | .vals xs => if fitLen xs.length then dcVals R t own ifs ke ve ρ xs [] st else .stuck
  | _ => .stuck
/-- a set of ints, ascending: an element more -/
def scTurn (t : TV) (ifs : List E) (elt : E) (x : PV) (ρ : Env) (acc : List Int) (st : Sto) : Out (List Int) :=
  match bindT t x (wipeE ρ (slotsT t)) with
  | none => .stuck
  | some ρ' => (noExc (evTs R ifs ρ' st)).bind fun b st => match b with
    | false => .ok acc st
    | true => (noExc (R.e elt ρ' st)).bind fun y st => match y with
      | .int k => bif Nat.ble acc.length 60 then .ok (insI k acc) st else .stuck
      | _ => .stuck
def scVals (t : TV) (ifs : List E) (elt : E) (ρ : Env) : List PV → List Int → Sto → Out (List Int)
  | [], acc, st => .ok acc st
  | x :: xs, acc, st => (scTurn R t ifs elt x ρ acc st).bind fun acc st => scVals t ifs elt ρ xs acc st
/-- a set comprehension of two loops -/
def sc2 (own : List Nat) (t1 : TV) (e2 : E) (t2 : TV) (ifs : List E) (elt : E) (ρ : Env) : List PV → List Int → Sto → Out (List Int)
  | [], acc, st => .ok acc st
  | x :: xs, acc, st => match bindT t1 x (wipeE ρ own) with
    | none => .stuck
    | some ρ' => (noExc (evSrc R .it [e2] ρ' st)).bind fun src st => match src with
      | .vals ys => bif fitLen ys.length then (scVals R t2 ifs elt ρ' ys acc st).bind fun acc st => sc2 own t1 e2 t2 ifs elt ρ xs acc st else .stuck
      | _ => .stuck
def sc2All (l : Bool) (t1 : TV) (e1 : E) (t2 : TV) (e2 : E) (ifs : List E) (elt : E) (ρ : Env) (st : Sto) : Out PV := (evSrc R .it [e1] ρ st).bind fun src st => match src with
  | .vals xs => bif fitLen xs.length then (sc2 R (slotsT (.tup [t1, t2])) t1 e2 t2 ifs elt ρ xs [] st).bind fun acc st => mkL l (acc.map PV.int) st else .stuck
  | _ => .stuck
/-- a list comprehension of two loops -/
def lc2 (own : List Nat) (t1 : TV) (e2 : E) (t2 : TV) (ifs : List E) (elt : E) (ρ : Env) : List PV → List PV → Sto → Out (List PV)
  | [], acc, st => .ok acc st
  | x :: xs, acc, st => match bindT t1 x (wipeE ρ own) with
    | none => .stuck
    | some ρ' => (noExc (evSrc R .it [e2] ρ' st)).bind fun src st => match src with
      | .vals ys => bif fitLen (acc.length + ys.length) then (compVals R t2 (slotsT t2) ifs elt ρ' ys acc st).bind fun acc st => lc2 own t1 e2 t2 ifs elt ρ xs acc st else .stuck
      | _ => .stuck
def lc2All (l : Bool) (t1 : TV) (e1 : E) (t2 : TV) (e2 : E) (ifs : List E) (elt : E) (ρ : Env) (st : Sto) : Out PV := (evSrc R .it [e1] ρ st).bind fun src st => match src with
  | .vals xs => bif fitLen xs.length then (lc2 R (slotsT (.tup [t1, t2])) t1 e2 t2 ifs elt ρ xs [] st).bind fun acc st => mkL l acc.reverse st else .stuck
  | _ => .stuck
def stepE : E → Env → Sto → Out PV
  | .var i, ρ, st => Out.of ((nth ρ i).bind id) st
  | .cst v, _, st => .ok v st
  | .glob v, _, st => .ok v st
  | .tup es, ρ, st => (evEs R es ρ st).bind fun vs st => if fitLen vs.length then .ok (.tup vs) st else .stuck
  | .lst l es, ρ, st => (evEs R es ρ st).bind fun vs st => if fitLen vs.length then mkL l vs st else .stuck
  | .bin l op a b, ρ, st => (R.e a ρ st).bind fun x st => (R.e b ρ st).bind fun y st => bin l op x y st
  | .neg a, ρ, st => (R.e a ρ st).bind fun x st => match x with
    | .int i => .ok (.int (-i)) st
    | _ => .stuck
  | .cmp op a b, ρ, st => (R.e a ρ st).bind fun x st => (R.e b ρ st).bind fun y st => boolE (cmp op x y st) st
  | .chain o1 o2 a b c, ρ, st => (R.e a ρ st).bind fun x st => (R.e b ρ st).bind fun y st => match cmp o1 x y st with
    | some true => (R.e c ρ st).bind fun u st => boolE (cmp o2 y u st) st
    | some false => .ok (.bl false) st
    | none => .stuck
  | .is n a v, ρ, st => (R.e a ρ st).bind fun x st => match isP x v with
    | some b => .ok (.bl (if n then !b else b)) st
    | none => .stuck
  | .mem n a b, ρ, st => (R.e a ρ st).bind fun x st => (R.e b ρ st).bind fun y st => match memV st x y with
    | some b => .ok (.bl (if n then !b else b)) st
    | none => .stuck
  | .and es, ρ, st => evAnd R es ρ st
  | .or es, ρ, st => evOr R es ρ st
  | .not a, ρ, st => (R.e a ρ st).bind fun v st => match tru st v with
    | some b => .ok (.bl (!b)) st
    | none => .stuck
  | .ifx c a b, ρ, st => (R.e c ρ st).bind fun v st => match tru st v with
    | some true => R.e a ρ st
    | some false => R.e b ρ st
    | none => .stuck
  | .call f es, ρ, st => (evEs R es ρ st).bind fun vs st => R.call f vs st
  | .bi l b es, ρ, st => (evEs R es ρ st).bind fun vs st => biG l b vs st
  | .isi a t, ρ, st => (R.e a ρ st).bind fun x st => boolE (isTy st x t) st
  | .meth m o es, ρ, st => (R.e o ρ st).bind fun x st => match recv st m x with
    | true => (evEs R es ρ st).bind fun vs st => methV m x vs st
    | false => .stuck
  | .idx o i, ρ, st => (R.e o ρ st).bind fun x st => (R.e i ρ st).bind fun y st => Out.of (idxA st x y) st
  | .slc l o lo hi, ρ, st => (R.e o ρ st).bind fun x st => (evO (lo.map R.e) ρ st).bind fun i st => (evO (hi.map R.e) ρ st).bind fun j st => slcV l st x i j
  | .comp l t k es ifs elt, ρ, st => (evSrc R k es ρ st).bind fun src st => (compAll R t (slotsT t) ifs elt ρ src st).bind fun acc st => mkL l acc.reverse st
  | .dcomp t k es ifs ke ve, ρ, st => (evSrc R k es ρ st).bind fun src st => (dcAll R t (slotsT t) ifs ke ve ρ src st).bind fun acc st => .ok (.loc st.next) (st.new (.dct false acc))
  | .dct true ks vs, ρ, st => match ks with
    | [] => .ok (.loc st.next) (st.new (.dct true []))
    | _ => .stuck
  | .dct false ks vs, ρ, st => (evPairs R ks vs ρ st).bind fun ps st => bif Nat.ble ps.length 15 then (match disp ps [] with
    | some kvs => .ok (.loc st.next) (st.new (.dct false kvs))
    | none => .stuck) else .stuck
  | .zipstar l e, ρ, st => (R.e e ρ st).bind fun x st => match itemsOf st x with
    | some ps => match itemsAll st ps with
      | some xss => bif Nat.ble 1 xss.length && Nat.ble xss.length 3 then mkL l (colsL xss (lenMin xss) 0) st else .stuck
      | none => .stuck
    | none => .stuck
  | .lzip l a b, ρ, st => (R.e a ρ st).bind fun x st => (R.e b ρ st).bind fun y st => match itemsOf st x, itemsOf st y with
    | some xs, some ys => mkL l (pairsL xs ys) st
    | _, _ => .stuck
  | .lrange l a, ρ, st => (R.e a ρ st).bind fun x st => match x with
    | .int j => if wide62 j && fitLen j.toNat then mkL l (rangeL 0 j.toNat) st else .stuck
    | _ => .stuck
  | .lvals l a, ρ, st => (R.e a ρ st).bind fun x st => match dctAt st x with
    | some (_, kvs) => mkL l (kvs.map fun kv => kv.2) st
    | none => .stuck
  | .srtset l a, ρ, st => (R.e a ρ st).bind fun x st => match listOf st x with
    | some xs => match cksOf xs with
      | some ks => bif Nat.ble ks.length 4 then mkL l ((srtC ks).map ckP) st else .stuck
      | none => match intsOf xs with
        | some is => bif Nat.ble is.length 60 then mkL l ((srtI is).map PV.int) st else .stuck
        | none => .stuck
    | none => .stuck
  | .srtcomp l t1 e1 t2 e2 ifs elt, ρ, st => sc2All R l t1 e1 t2 e2 ifs elt ρ st
  | .lidx o a, ρ, st => (R.e o ρ st).bind fun x st => match listOf st x with
    | some _ => (R.e a ρ st).bind fun y st => Out.of (indexV st x y) st
    | none => .stuck
  | .two a, ρ, st => (R.e a ρ st).bind fun x st => match x with
    | .tup [p, _, r] => .ok (.tup [p, r]) st
    | _ => .stuck
  | .comp2 l t1 e1 t2 e2 ifs elt, ρ, st => lc2All R l t1 e1 t2 e2 ifs elt ρ st
  | _, _, _ => .stuck
def tgSubs : List (E × E) → List PV → Env → Sto → Out Unit
  | [], [], _, st => .ok () st
  | (o, i) :: r, v :: vs, ρ, st => (R.e o ρ st).bind fun x st => (R.e i ρ st).bind fun y st => match subV x y v st with
    | some st => tgSubs r vs ρ st
    | none => .stuck
  | _, _, _, _ => .stuck
/-- try: .. except c as j: i = [j's one field] -/
def tryO (c i j : Nat) (o : Fl) : Fl := match o with
  | .exc c' [v] ρ st => bif Nat.beq c' c && Nat.blt j ρ.length then .nx (setN (setN ρ i (some (.lst [v]))) j none) st else .stuck
  | .exc _ _ _ _ => .stuck
  | f => f
def stepS : S → Env → Sto → Fl
  | .asg i e, ρ, st => (R.e e ρ st).fl ρ fun v st => .nx (setN ρ i (some v)) st
  | .asgT ts e, ρ, st => (R.e e ρ st).fl ρ fun v st => match bindT (.tup ts) v ρ with
    | some ρ' => .nx ρ' st
    | none => .stuck
  | .par is es, ρ, st => (evEs R es ρ st).fl ρ fun vs st => match bindTs (is.map .var) vs ρ with
    | some ρ' => .nx ρ' st
    | none => .stuck
  | .aug i op e, ρ, st => match (nth ρ i).bind id with
    | some x => (R.e e ρ st).fl ρ fun y st => match augI op x y with
      | some k => .nx (setN ρ i (some (.int k))) st
      | none => .stuck
    | none => .stuck
  | .sub o i e, ρ, st => (R.e e ρ st).fl ρ fun v st => (R.e o ρ st).fl ρ fun x st => (R.e i ρ st).fl ρ fun y st => match subV x y v st with
    | some st => .nx ρ st
    | none => .stuck
  | .asubs ts e, ρ, st => (R.e e ρ st).fl ρ fun v st => match v with
    | .tup vs => bif Nat.beq vs.length ts.length then (tgSubs R ts vs ρ st).fl ρ fun _ st => .nx ρ st else .stuck
    | _ => .stuck
  | .expr e, ρ, st => (R.e e ρ st).fl ρ fun _ st => .nx ρ st
  | .ite c a b, ρ, st => (evT R c ρ st).fl ρ fun k st => match k with
    | true => exSs R a ρ st
    | false => exSs R b ρ st
  | .loop t k es body, ρ, st => (evSrc R k es ρ st).fl ρ fun src st => loopAll R t body src ρ st
  | .whl c body, ρ, st => whlG R c body R.fuel ρ st
  | .ret e, ρ, st => (R.e e ρ st).fl ρ fun v st => .ret v st
  | .retn, _, st => .ret .non st
  | .brk, ρ, st => .brk ρ st
  | .cont, ρ, st => .cont ρ st
  | .pass, ρ, st => .nx ρ st
  | .raise c es, ρ, st => (evEs R es ρ st).fl ρ fun vs st => match vs with
    | [v] => .exc c [v] ρ st
    | _ => .stuck
  | .tryc body cs nm hd, ρ, st => match cs, nm, hd with
    | [c], some j, [.asg i _] => tryO c i j (exSs R body ρ st)
    | _, _, _ => .stuck
  | _, _, _ => .stuck
end
def opsF (F : Nat) (cl : Nat → List PV → Sto → Out PV) : Nat → Ops
  | 0 => ⟨fun _ _ _ => .stuck, fun _ _ _ => .stuck, cl, F⟩
  | n + 1 => ⟨stepE (opsF F cl n), stepS (opsF F cl n), cl, F⟩
/-- a def: how many arguments, how many slots, its body -/
structure Fn where
  ar : Nat
  sl : Nat
  body : List S
  /-- what it makes may stay: it writes to what it is given -/
  kp : Bool
def nones : Nat → Env
  | 0 => []
  | n + 1 => none :: nones n
def envOf : List PV → Nat → Env
  | [], n => nones n
  | v :: vs, n => some v :: envOf vs (n - 1)
/-- behind a call -/
def after (kp : Bool) (st : Sto) (f : Fl) : Out PV := match f with
  | .ret v st' => .ok v (bif !kp && noLoc 20 v then st'.cut st.next else st')
  | .nx _ st' => .ok .non (bif kp then st' else st'.cut st.next)
  | .exc c fs _ st' => .exc c fs st'
  | _ => .stuck
def callAt (F n : Nat) (fns : List Fn) : Nat → Nat → List PV → Sto → Out PV
  | 0, _, _, _ => .stuck
  | d + 1, f, vs, st => match nth fns f with
    | none => .stuck
    | some fi => bif Nat.beq vs.length fi.ar then after fi.kp st (exSs (opsF F (callAt F n fns d) n) fi.body (envOf vs fi.sl) st) else .stuck
def isOk (o : Out PV) : Bool := match o with
  | .ok (.bl b) _ => b
  | _ => false
end Pi
end
section
set_option Elab.async false
set_option linter.all false
set_option maxRecDepth 100000
set_option maxHeartbeats 4000000
namespace Pi
open PySem PySem.Spec PyProof.Rows L2
/-! ### isinstance -/
def tyS : TyK → String
  | .int => "int" | .bool => "bool" | .tuple => "tuple" | .list => "list" | .str => "str" | .dict => "dict"
def tyOf (st : Sto) : PV → Option String
  | .non => some "NoneType"
  | .bl _ => some "bool"
  | .int _ => some "int"
  | .str _ => some "str"
  | .ty _ => none
  | .tup _ => some "tuple"
  | .lst _ => some "list"
  | .loc n => match st.get n with
    | some (.lst _) => some "list"
    | _ => none
theorem ty_of {K : PySem.W.Frag} {H : Hp} {μ : Mu} {st : Sto} {p : PV} {x : V} {t : String} (h : Hr K H μ st) (r : RV K H μ p x) (e : tyOf st p = some t) : TyX K H x (.type t) := by
  cases r with
  | non => cases e; exact .base .non
  | bl b => cases e; exact .base (.bl b)
  | int i => cases e; exact .base (.int i)
  | str x => cases e; exact .base (.str x)
  | ty n => cases e
  | tup hT rs =>
    cases e
    rcases hT with (h | ⟨o, h⟩) | ⟨o, its, n, h, c, _⟩
    · exact .base (.tup h)
    · exact .fTuple h
    · exact .kTuple h c
  | lst hL rs =>
    cases e
    rcases hL with ⟨(h | ⟨o, h⟩), _⟩ | ⟨its, n, h, _⟩
    · exact .base (.lst h)
    · exact .base (.frz h)
    · exact .kList h rfl
  | @loc n a m =>
    unfold tyOf at e
    dsimp only at e
    split at e
    · rename_i xs g
      cases e
      obtain ⟨vs, e1, rs⟩ := h.lst g m
      exact .base (.lst e1)
    · cases e
theorem isTy_of {st : Sto} {p : PV} {t : TyK} {b : Bool} (e : isTy st p t = some b) : ∃ T, tyOf st p = some T ∧ ∀ K : PySem.W.Frag, PySem.W.kitOne K (.type T) (.type (tyS t)) = some b := by
  cases p with
  | loc n =>
    unfold isTy at e
    unfold tyOf
    dsimp only at e ⊢
    split at e
    · rename_i xs g
      first | rw [g] | skip
      refine ⟨_, rfl, fun K => kit_ty ?_⟩
      cases t <;> cases e <;> decide +kernel
    · cases e
  | ty n => cases t <;> cases e
  | _ => cases t <;> cases e <;> exact ⟨_, rfl, fun K => kit_ty (by simp only [tyS]; decide +kernel)⟩
section
variable {X : Cx} {C : Cls} {W : WX} {a b c : Expr} {ea eb ec : Env → Sto → Out PV} {pos p p2 : Pos} {D : Dat} {N : List Str} {sc : Scope} {R : Ops}
theorem g_isi {t : TyK} {x2 : Str} (hg : Gl X "isinstance") (hm : X.mg "isinstance" = none) (hv : bootBuiltins ("isinstance" : Str) = some (.builtin "isinstance")) (hg2 : Gl X x2) (hm2 : X.mg x2 = none) (hv2 : bootBuiltins x2 = some (.type (tyS t))) (hn2 : x2 ≠ "__name__") (hd2 : (x2 == ("__debug__" : Str)) = false)
    (ha : PE X a (gE X.K C W ea)) (hs : notStar a = true) : PE X (.Call (.Name "isinstance" p) [a, .Name x2 p2] [] pos) (gE X.K C W fun ρ st => (ea ρ st).bind fun x st => boolE (isTy st x t) st) := by
  refine (pe_callB call_isi hg hm hv (pa_cons ha (pa_cons (pe_bltn (v := .ty (tyS t)) hg2 hm2 hv2 rfl hn2 hd2) pa_nil rfl) (star_of hs)) (by decide) rfl (star_of hs) (by rfl)).imp ?_
  intro σ H Q q
  refine gE.imp ?_ (gE.one q)
  rintro x H1 ⟨μ, st, q, hr, r, z⟩
  obtain ⟨k, e, w⟩ := boolE_ok z hr
  obtain ⟨T, e1, e2⟩ := isTy_of e
  exact ⟨x, .ty (tyS t), .type T, .type (tyS t), k, rfl, .ty _, ty_of hr r e1, e2 _, w⟩
end
end Pi
end
section
set_option Elab.async false
set_option linter.all false
set_option maxRecDepth 100000
set_option maxHeartbeats 4000000
namespace Pi
open PySem PySem.Spec PyProof.Rows L2
/-! ### an object of the store is written -/
section
variable {K : PySem.W.Frag} {H : Hp} {μ : Mu} {st : Sto} {n : Nat} {a : Addr} {o u : HO}
theorem Ext.put (h : Hr K H μ st) (m : μ n = some a) (e : H a = some o) (c : Chg o) : Ext K H μ (upd H a u) μ := by
  refine ⟨⟨fun _ _ h => h, fun b xs q => ?_, fun b xs q => ?_⟩, fun b q => ⟨q, fun w hw => ?_⟩, fun b ob w hw => ?_⟩
  · rcases q with q | q
    · refine .inl ?_
      rcases q with q | ⟨ob, q⟩
      · have ne : b ≠ a := fun z => by subst z; rw [e] at q; exact c.tup _ (Option.some.inj q)
        exact .inl (by rw [upd_ne ne]; exact q)
      · have ne : b ≠ a := fun z => by subst z; rw [e] at q; exact c.frz (Option.some.inj q)
        exact .inr ⟨ob, by rw [upd_ne ne]; exact q⟩
    · exact .inr q
  · rcases q with ⟨q, nm, np⟩ | q
    · have ne : b ≠ a := fun z => nm n (z ▸ m)
      refine .inl ⟨?_, nm, np⟩
      rcases q with q | ⟨ob, q⟩
      · exact .inl (by rw [upd_ne ne]; exact q)
      · exact .inr ⟨ob, by rw [upd_ne ne]; exact q⟩
    · exact .inr q
  · have ne : b ≠ a := fun z => h.prv n a m (z ▸ q)
    rw [upd_ne ne]
    exact hw
  · have ne : b ≠ a := fun z => by subst z; rw [e] at hw; exact c.frz (Option.some.inj hw)
    rw [upd_ne ne]
    exact hw
theorem Hr.put {so : SO} (h : Hr K H μ st) (m : μ n = some a) (e : H a = some o) (c : Chg o) (r : RO K (upd H a u) μ a so) : Hr K (upd H a u) μ (st.put n so) := by
  have x := Ext.put (u := u) h m e c
  refine ⟨h.inj, fun k b q => ?_, h.low, h.des.put, h.prv, fun b q => ?_, fun k w q => ?_⟩
  · by_cases z : b = a
    · subst z; rw [upd_same]; simp
    · rw [upd_ne z]; exact h.trk k b q
  · obtain ⟨xs, w, cc⟩ := h.prT b q
    have ne : b ≠ a := fun z => h.prv n a m (z ▸ q)
    exact ⟨xs, by rw [upd_ne ne]; exact w, cc⟩
  · by_cases z : k = n
    · subst z
      unfold Sto.get Sto.put at q
      cases g : getO st.objs k with
      | none =>
        have := put_none (o := so) g
        rw [this] at q
        cases q
      | some u' =>
        have := getO_put_same (o := so) g
        simp only at q
        rw [this] at q
        cases q
        exact ⟨a, m, r⟩
    · have q' : st.get k = some w := by
        unfold Sto.get Sto.put at q
        simp only at q
        rw [getO_put_ne z] at q
        exact q
      obtain ⟨b, e1, e2⟩ := h.obj k w q'
      refine ⟨b, e1, e2.wk x.toWk (upd_ne fun zz => z ?_)⟩
      subst zz
      exact h.inj _ _ _ e1 m
where
  put_none {l : List (Nat × SO)} {n : Nat} {o : SO} (h : getO l n = none) : getO (putO l n o) n = none := by
    induction l with
    | nil => rfl
    | cons p r ih =>
      obtain ⟨m, v⟩ := p
      simp only [getO, putO] at h ⊢
      cases e : Nat.beq m n with
      | true => rw [e] at h; cases h
      | false => rw [e] at h; simp only [cond_false] at h ⊢; simp only [getO, e, cond_false]; exact ih h
/-- a list of the store is written -/
theorem Hr.putL {vs ws : List V} {ps : List PV} (h : Hr K H μ st) (m : μ n = some a) (e : H a = some (.lst vs)) (r : RVs K H μ ps ws) : Ext K H μ (upd H a (.lst ws)) μ ∧ Hr K (upd H a (.lst ws)) μ (st.put n (.lst ps)) := by
  have x := Ext.put (u := .lst ws) h m e trivial
  exact ⟨x, h.put m e trivial ⟨ws, upd_same, r.ext x⟩⟩
end
/-! ### methods of lists -/
section
variable {X : Cx} {C : Cls} {W : WX} {a b c : Expr} {ea eb ec : Env → Sto → Out PV} {ev : Env → Sto → Out (List PV)} {pos p p2 : Pos} {D : Dat} {N : List Str} {sc : Scope} {R : Ops}
/-- what is asked of a method's receiver -/
def tyD (K : PySem.W.Frag) (T : String) (x : V) (H : Hp) : Prop := tyV K T x H ∨ (T = "dict" ∧ ∃ a ks, x = .ref a ∧ H a = some (dkO a ks))
theorem tyD_is {pins : List (Addr × Obj)} {σ : L2.St} {H : Hp} {s : Shared} {T : String} {x : V} {v : Value} (I : Inv X pins σ H s) (r : RelV x v) (ty : tyD X.K T x H) :
    s.TypeIs v T ∧ ∀ a, v = .ref a → ∃ ob, s.heap.get? a = some ob ∧ ob.dict = none := by
  rcases ty with ty | ⟨rfl, a, ks, rfl, e⟩
  · exact tyV_is I r ty
  · cases r
    obtain ⟨⟨_, _, _, _, o, es, ep, h1, h2, _⟩, _⟩ := I.hok a _ e
    exact ⟨⟨o, h1, h2.1⟩, fun b z => by cases z; exact ⟨o, h1, h2.2.1⟩⟩
theorem pe_bmD {o e : Expr} {es : List Expr} {to : TE} {t : TA} {name : Str} {apos cpos : Pos} {T id : String} {r : V → List V → Hp → VK → Prop} (pa : PlainAttrs T) (slot : Slot T name id) (hty : typeOf (.builtin id) = pure (.type "method_descriptor")) (hm : MtR X id r) (ho : PE X o to) (ha : PA X (e :: es) t)
    (hbase : attributeBase o name X.env (eval o X.env) = eval o X.env)
    (hfew : ((backTo cpos (starEach (e :: es) X.env)).all (fun x => !x.1) && (backToKw cpos (keywordEach [] X.env)).all (fun x => x.1.isSome)
      && decide ((e :: es).length + ([] : List Keyword).length + (if ([] : List Keyword).isEmpty then 0 else 1) < 30)) = true)
    (hline : (apos.endLine == cpos.line) = true) (hs : starEach (e :: es) X.env = (false, eval e X.env) :: starEach es X.env) (hplain : (backTo cpos (starEach es X.env)).any (·.1) = false) :
    PE X (.Call (.Attribute o name apos) (e :: es) [] cpos) (fun σ H Q => to σ H fun x H1 => tyD X.K T x H1 ∧ t σ H1 fun xs H2 => r x xs H2 Q) := by
  refine ⟨fun pins s σ H Q I h => ?_⟩
  refine wpAny_Call_method_late hbase hfew hline rfl (thn (ho.run pins s σ H _ I h) fun v s1 ⟨x, H1, I1, r1, ty, q1⟩ => ?_)
  obtain ⟨h1, h2⟩ := tyD_is I1 r1 ty
  refine ⟨T, id, pa, slot, hty, h1, h2, ?_⟩
  have hA := ha.run cpos pins s1 σ H1 _ I1 q1
  rw [hs] at hA ⊢
  refine Calls.callWith_builtin (by show (false || (backTo cpos (starEach es X.env)).any (·.1)) = false; rw [hplain] <;> rfl) (Calls.evalArgs_plain ?_)
  exact thn hA fun us s2 ⟨vs, H2, I2, r2, q2⟩ => hm pins s2 σ H2 x vs v us Q I2 r1 r2 q2
/-- a method's reading -/
def rMeth (K : PySem.W.Frag) (C : Cls) (W : WX) (m : MM) : V → List V → Hp → VK → Prop := fun x vs H Q => ∃ σ μ st p ps, Hr K H μ st ∧ RV K H μ p x ∧ RVs K H μ ps vs ∧ Th K C W (RV K) (methV m p ps st) σ H μ Q
theorem fitB {n : Nat} (h : fitLen n = true) : n ≤ sizeLine := Nat.le_of_ble_eq_true h
/-- a method of a list of the store -/
theorem meth_lst {m : MM} {σ : L2.St} {H : Hp} {μ : Mu} {st : Sto} {p : PV} {ps : List PV} {x : V} {Q : VK} {K : PySem.W.Frag} (hr : Hr K H μ st) (r : RV K H μ p x) (z : Th K C W (RV K) (methV m p ps st) σ H μ Q) :
    ∃ n a, p = .loc n ∧ x = .ref a ∧ μ n = some a ∧ ((∃ xs vs, st.get n = some (.lst xs) ∧ H a = some (.lst vs) ∧ RVs K H μ xs vs) ∨ ∃ b kvs, st.get n = some (.dct b kvs)) := by
  cases r with
  | @loc n a mn =>
    refine ⟨n, a, rfl, rfl, mn, ?_⟩
    unfold methV at z
    dsimp only at z
    cases g : st.get n with
    | none => rw [g] at z; exact z.elim
    | some o =>
      cases o with
      | lst xs =>
        obtain ⟨vs, e, rs⟩ := hr.lst g mn
        exact .inl ⟨xs, vs, rfl, e, rs⟩
      | dct b kvs => exact .inr ⟨b, kvs, rfl⟩
  | _ => exact z.elim
theorem mt_appendP : MtR X "list.append" (rMeth X.K C W .append) := by
  intro pins s σ' H x vs v us Q I rx rv h
  obtain ⟨σ, μ, st, p, ps, hr, r, rs, z⟩ := h
  obtain ⟨n, a, rfl, rfl, m, hh⟩ := meth_lst hr r z
  rcases hh with ⟨xs, ws, g, e, rl⟩ | ⟨b, kvs, g⟩
  · simp only [methV, g] at z
    cases rs with
    | nil => exact z.elim
    | cons r1 rs =>
      cases rs with
      | cons _ _ => exact z.elim
      | nil =>
        dsimp only at z
        cases hf : fitLen (xs.length + 1) with
        | false => rw [hf] at z; exact z.elim
        | true =>
          rw [hf] at z
          have hz := fitB hf
          rw [rl.length] at hz
          obtain ⟨x2, h2⟩ := hr.putL m e (rl.append (.cons r1 .nil))
          exact mt_append pins s σ' H _ _ v us Q I rx rv ⟨a, ws, _, rfl, rfl, e, by omega, z _ μ .non x2 h2 .non⟩
  · simp only [methV, g] at z
    exact z.elim
theorem lastP_eq : ∀ {xs : List PV} {p : PV}, lastP xs = some p → xs[xs.length - 1]? = some p ∧ initP xs = xs.take (xs.length - 1)
  | [], _, h => by simp [lastP] at h
  | [x], _, h => by simp [lastP] at h; subst h; exact ⟨rfl, rfl⟩
  | x :: y :: r, p, h => by
    obtain ⟨h1, h2⟩ := lastP_eq (xs := y :: r) (p := p) h
    refine ⟨?_, ?_⟩
    · simpa using h1
    · show x :: initP (y :: r) = _
      rw [h2]
      simp
theorem mt_popP : MtR X "list.pop" (rMeth X.K C W .pop) := by
  intro pins s σ' H x vs v us Q I rx rv h
  obtain ⟨σ, μ, st, p, ps, hr, r, rs, z⟩ := h
  obtain ⟨n, a, rfl, rfl, m, hh⟩ := meth_lst hr r z
  rcases hh with ⟨xs, ws, g, e, rl⟩ | ⟨b, kvs, g⟩
  · simp only [methV, g] at z
    cases rs with
    | cons _ _ => exact z.elim
    | nil =>
      dsimp only at z
      cases hl : lastP xs with
      | none => rw [hl] at z; exact z.elim
      | some u =>
        rw [hl] at z
        obtain ⟨l1, l2⟩ := lastP_eq hl
        obtain ⟨y, h3, h4⟩ := rl.get l1
        rw [rl.length] at h3
        rw [l2] at z
        have rt := rl.take (xs.length - 1)
        obtain ⟨x2, h2⟩ := hr.putL m e rt
        refine mt_pop pins s σ' H _ _ v us Q I rx rv ⟨a, ws, y, rfl, rfl, e, h3, ?_⟩
        have : ws.dropLast = ws.take (xs.length - 1) := by rw [rl.length, List.dropLast_eq_take]
        rw [this]
        exact z _ μ y x2 h2 (h4.ext x2)
  · simp only [methV, g] at z
    exact z.elim
theorem mt_extendP : MtR X "list.extend" (rMeth X.K C W .extend) := by
  intro pins s σ' H x vs v us Q I rx rv h
  obtain ⟨σ, μ, st, p, ps, hr, r, rs, z⟩ := h
  obtain ⟨n, a, rfl, rfl, m, hh⟩ := meth_lst hr r z
  rcases hh with ⟨xs, ws, g, e, rl⟩ | ⟨b, kvs, g⟩
  · simp only [methV, g] at z
    cases rs with
    | nil => exact z.elim
    | cons r1 rs =>
      cases rs with
      | cons _ _ => exact z.elim
      | nil =>
        dsimp only at z
        split at z
        · rename_i ys el
          cases hf : fitLen (xs.length + ys.length) with
          | false => rw [hf] at z; exact z.elim
          | true =>
            rw [hf] at z
            have hz := fitB hf
            obtain ⟨b, us2, rfl, sx, r2⟩ := list_of hr r1 el
            obtain ⟨u, rfl, ru⟩ := rv.one
            cases ru
            cases rx
            obtain ⟨z1, its, k1, w1, l1, e1⟩ := I.lstM e
            obtain ⟨z2, its2, k2, w2, l2, e2⟩ := Inv.sx I sx
            obtain ⟨x2, h2⟩ := hr.putL m e (rl.append r2)
            rw [rl.length, r2.length] at hz
            have hsz : its.toArray.size + its2.toArray.size ≤ sizeLine := by rw [List.size_toArray, List.size_toArray]; omega
            have hlong : ¬ (!its.toArray.isEmpty && Builtin.List.listTooLong (its.toArray.size + its2.toArray.size)) = true := by
              rw [notLongL hsz, Bool.and_false]
              exact Bool.false_ne_true
            refine call_meets F.slot_list_extend ⟨_, e1, rfl⟩ F.entry_list_extend (F.args_list_extend_2 _ _)
              (AutoSeq1.list_extend_list_list_0 a its.toArray k1 b its2.toArray k2 hlong (by rw [List.size_toArray]; omega) (by omega)) ⟨e1, e2, ?_⟩
            refine ⟨.non, _, I.lset (its' := its ++ its2) e e1 (by simp) (w1.append w2) ?_, rfl, z _ μ .non x2 h2 .non⟩
            rw [List.length_append]
            omega
        · exact z.elim
  · simp only [methV, g] at z
    exact z.elim
end
end Pi
end
section
set_option Elab.async false
set_option linter.all false
set_option maxRecDepth 100000
set_option maxHeartbeats 4000000
namespace Pi
open PySem PySem.Spec PyProof.Rows L2
def mT : MM → String
  | .append => "list" | .extend => "list" | .pop => "list" | .reverse => "list" | .index => "list" | _ => "dict"
theorem recv_ty {K : PySem.W.Frag} {H : Hp} {μ : Mu} {st : Sto} {m : MM} {p : PV} {x : V} (hr : Hr K H μ st) (r : RV K H μ p x) (h : recv st m p = true) : tyD K (mT m) x H := by
  cases r with
  | @loc n a mn =>
    unfold recv at h
    dsimp only at h
    split at h
    · rename_i xs g
      obtain ⟨vs, e, rs⟩ := hr.lst g mn
      have : mT m = "list" := by cases m <;> first | rfl | cases h
      rw [this]
      exact .inl (.inl ⟨rfl, vs, SqL.of e⟩)
    · rename_i b kvs g
      have : mT m = "dict" := by cases m <;> first | rfl | cases h
      rw [this]
      obtain ⟨a', e1, e2⟩ := hr.obj n _ g
      rw [mn] at e1
      cases e1
      cases b with
      | false =>
        obtain ⟨ks, e, _⟩ := e2
        exact .inl (.inr (.inr (.inl ⟨rfl, .inl ⟨ks, e⟩⟩)))
      | true =>
        obtain ⟨ks, e, _⟩ := e2
        exact .inr ⟨rfl, a, ks, rfl, e⟩
    · cases h
  | _ => cases h
theorem obj_base {o : Expr} {name : Str} {env : PySem.Env} {w : Sem Value} (h : objB o = true) : attributeBase o name env w = w := by
  cases o with
  | Name _ _ => rfl
  | Subscript _ _ _ => rfl
  | Call f _ _ _ => cases f <;> first | rfl | cases h
  | _ => cases h
section
variable {X : Cx} {C : Cls} {W : WX} {a b c : Expr} {ea eb ec : Env → Sto → Out PV} {ev : Env → Sto → Out (List PV)} {pos p p2 : Pos} {D : Dat} {N : List Str} {sc : Scope} {R : Ops}
theorem stars_all : ∀ {es : List E} {xs : List Expr} {env : PySem.Env} {p : Pos}, chkEs D N sc es xs = true → (backTo p (starEach xs env)).all (fun x => !x.1) = true
  | es, xs, env, p, h => by
    have := stars_of (env := env) (p := p) h
    rw [List.all_eq_not_any_not]
    simpa using this
theorem gE.meth {m : MM} {σ : L2.St} {H : Hp} {Q : VK} {K : PySem.W.Frag} (h : gE K C W (fun ρ st => (ea ρ st).bind fun x st => match recv st m x with
    | true => (ev ρ st).bind fun vs st => methV m x vs st
    | false => .stuck) σ H Q) : gE K C W ea σ H fun x H1 => tyD K (mT m) x H1 ∧ gA K C W ev σ H1 fun vs H2 => rMeth K C W m x vs H2 Q := by
  obtain ⟨μ, ρ, st, hr, he, z⟩ := h
  refine ⟨μ, ρ, st, hr, he, (Th.bind (rel := RV K) z).imp ?_⟩
  rintro x H1 ⟨μ1, p, st1, e1, hr1, r1, z1⟩
  cases hc : recv st1 m p with
  | false => rw [hc] at z1; exact z1.elim
  | true =>
    rw [hc] at z1
    refine ⟨recv_ty hr1 r1 hc, μ1, ρ, st1, hr1, he.ext e1, (Th.bind (rel := RVs K) z1).imp ?_⟩
    rintro vs H2 ⟨μ2, ps, st2, e2, hr2, r2, z2⟩
    exact ⟨σ, μ2, st2, p, ps, hr2, r1.ext e2, r2, z2⟩
theorem g_meth {m : MM} {id : String} {o e : Expr} {xs : List Expr} {name : Str} {es : List E} (pa : PlainAttrs (mT m)) (slot : Slot (mT m) name id) (hty : typeOf (.builtin id) = pure (.type "method_descriptor")) (hm : MtR X id (rMeth X.K C W m))
    (ho : PE X o (gE X.K C W ea)) (S : SoundE X C W D N sc R) (hes : chkEs D N sc es (e :: xs) = true) (hl : (decide (xs.length < 20)) = true) (hb : objB o = true) (hline : (p2.endLine == pos.line) = true) :
    PE X (.Call (.Attribute o name p2) (e :: xs) [] pos) (gE X.K C W fun ρ st => (ea ρ st).bind fun x st => match recv st m x with
      | true => (evEs R es ρ st).bind fun vs st => methV m x vs st
      | false => .stuck) := by
  obtain ⟨f, fs, rfl⟩ : ∃ f fs, es = f :: fs := by cases es with
    | nil => simp [chkEs] at hes
    | cons f fs => exact ⟨f, fs, rfl⟩
  obtain ⟨h1, h2, h3⟩ := chkEs_cons hes
  refine (pe_bmD pa slot hty hm ho (g_args S hes) (obj_base hb) ?_ hline (star_of h1) (stars_of h3)).imp fun σ H Q q => gE.meth q
  have := of_decide_eq_true hl
  rw [stars_all hes]
  show (true && true && decide ((e :: xs).length + 0 + 0 < 30)) = true
  simp
  omega
theorem g_meth0 {m : MM} {id : String} {o : Expr} {name : Str} (pa : PlainAttrs (mT m)) (slot : Slot (mT m) name id) (hty : typeOf (.builtin id) = pure (.type "method_descriptor")) (hm : MtR X id (rMeth X.K C W m)) (hT : mT m = "list")
    (ho : PE X o (gE X.K C W ea)) (hb : objB o = true) (hline : (p2.endLine == pos.line) = true) :
    PE X (.Call (.Attribute o name p2) [] [] pos) (gE X.K C W fun ρ st => (ea ρ st).bind fun x st => match recv st m x with
      | true => (evEs R [] ρ st).bind fun vs st => methV m x vs st
      | false => .stuck) := by
  refine (pe_bm0 (T := mT m) pa slot hty hm ho (obj_base hb) hline).imp fun σ H Q q => gE.imp ?_ (gE.meth (m := m) (ev := evEs R []) q)
  rintro x H1 ⟨ty, q⟩
  refine ⟨?_, ?_⟩
  · rcases ty with ty | ⟨z, _⟩
    · exact ty
    · rw [hT] at z; exact absurd z (by decide)
  · obtain ⟨μ, ρ, st, hr, he, z⟩ := q
    exact z.ok hr .nil
end
end Pi
end
section
set_option Elab.async false
set_option linter.all false
set_option maxRecDepth 100000
set_option maxHeartbeats 4000000
namespace Pi
open PySem PySem.Spec PyProof.Rows
/-! ### keys of cells in the machine's dicts: an int beside a tuple of ints -/
section
variable {prog : Program} {w : World}
/-- the tuple at a is (k.1, (..k.2)) -/
def IsCell (prog : Program) (w : World) (h : Heap) (k : CK) (a : Addr) : Prop :=
  ∃ o items n b t, h.get? a = some o ∧ o.cls = .type "tuple" ∧ o.data = .seq items n ∧ items.toList = [Value.int k.1 t, .ref b] ∧ IsTupleKey (intKind prog w) h k.2 b
variable {A : Around} {E : Value → Shared → Prop} {s : Shared}
theorem IsCell.typeIs {k : CK} {a : Addr} (x : IsCell prog w s.heap k a) : s.TypeIs (.ref a) "tuple" := let ⟨o, _, _, _, _, ho, hc, _⟩ := x; ⟨o, ho, hc⟩
theorem IsCell.inj {h : Heap} {a : Addr} {x y : CK} (hx : IsCell prog w h x a) (hy : IsCell prog w h y a) : x = y := by
  obtain ⟨o, items, n, b, t, h1, h2, h3, h4, h5⟩ := hx
  obtain ⟨o', items', n', b', t', g1, g2, g3, g4, g5⟩ := hy
  obtain rfl : o = o' := Option.some.inj (h1.symm.trans g1)
  rw [h3] at g3
  injection g3 with e1 _
  subst e1
  rw [h4] at g4
  injection g4 with e2 e3
  injection e2 with e2 _
  injection e3 with e3 _
  injection e3 with e3
  subst e3
  have := h5.inj g5
  exact Prod.ext e2 this
theorem IsCell.keeps {h h' : Heap} {k : CK} {a d : Addr} {o : Obj} {es ep} (x : IsCell prog w h k a) (ho : h.get? d = some o) (hd : o.data = .dict es ep) (hs : Heap.SameBut d h h') : IsCell prog w h' k a := by
  obtain ⟨o', items, n, b, t, h1, h2, h3, h4, h5⟩ := x
  have hne : a ≠ d := by
    rintro rfl
    obtain rfl : o' = o := Option.some.inj (h1.symm.trans ho)
    rw [h3] at hd
    exact nomatch hd
  exact ⟨o', items, n, b, t, (hs.2 a hne).trans h1, h2, h3, h4, h5.keeps ho hd hs⟩
theorem pyHash_cell {k : CK} {a : Addr} {Q : Int → Shared → Prop} (hu : A.units + 2 < cLine) (hk : IsCell prog w s.heap k a) (h : Q (ckHash k) { s with toks := s.toks + (k.2.length + 3) }) : wpAny (model prog w) A (pyHash (.ref a)) Q E s := by
  have hT := hk.typeIs
  obtain ⟨o, items, n, b, t, ho, _, hd, hi, hb⟩ := hk
  unfold pyHash
  first | unfold pyHashByItsType | skip
  first | refine wpAny_bind (wpAny_cRoomFor_or (.inr (by omega)) ?_) | skip
  refine wpAny_bind (wpAny_specialOf hT F.slot_tuple_hash.lookup ?_)
  show wpAny _ _ (if (some (Value.builtin "tuple.__hash__") == some Value.none) = true then _ else _) Q E s
  rw [if_neg (by rw [beq_builtin_none]; exact Bool.false_ne_true)]
  refine wpAny_bind (wpAny_specialOf hT F.slot_tuple_hash.lookup ?_)
  show wpAny _ _ (callSpecialIfBoundUnlessNone? (.ref a) "__hash__" _ >>= _) Q E s
  refine wpAny_bind (wpAny_callSpecialIfBoundUnlessNone?_slot hT F.slot_tuple_hash (wpAny_call_entry F.slot_tuple_hash hT F.entry_tuple_hash ?_ (F.args_tuple_hash_1 _)))
  show wpAny _ _ (Builtin.Tuple.tupleItemsOf (.ref a) >>= _) _ _ s
  refine wpAny_bind (wpAny_tupleItemsOf ho hd ?_)
  refine wpAny_bind ?_
  rw [← Array.forIn_toList, hi]
  simp only [List.forIn_cons, List.forIn_nil]
  refine wpAny_bind (wpAny_bind (wpAny_pyHash_int ?_))
  refine wpAny_pure ?_
  refine wpAny_bind (wpAny_bind (wpAny_pyHash_tuple (s := { s with toks := s.toks + 1 }) ?_ hb ?_))
  · show A.units + 1 < cLine
    omega
  refine wpAny_pure ?_
  refine wpAny_pure ?_
  show wpAny _ _ (retInt (Builtin.Tuple.tupleHashOf [hashInt k.1, reduceHash (Builtin.Tuple.tupleHashOf (k.2.map hashInt))])) _ _ _
  refine wpAny_ret_mkInt ?_
  show wpAny _ _ (if (decide (-(2 : Int) ^ 63 ≤ Builtin.Tuple.tupleHashOf [hashInt k.1, reduceHash (Builtin.Tuple.tupleHashOf (k.2.map hashInt))]) && decide (Builtin.Tuple.tupleHashOf [hashInt k.1, reduceHash (Builtin.Tuple.tupleHashOf (k.2.map hashInt))] < 2 ^ 63)) = true then _ else _) Q E _
  unfold ckHash at h
  generalize Builtin.Tuple.tupleHashOf [hashInt k.1, reduceHash (Builtin.Tuple.tupleHashOf (k.2.map hashInt))] = T at h ⊢
  unfold reduceHash at h
  by_cases hr : (decide (-(2 : Int) ^ 63 ≤ T) && decide (T < 2 ^ 63)) = true
  · rw [if_pos hr]
    rw [if_pos hr] at h
    exact wpAny_pure (by simpa [Nat.add_assoc, Nat.add_comm, Nat.add_left_comm] using h)
  · rw [if_neg hr]
    rw [if_neg hr] at h
    exact wpAny_bind (wpAny_rule (wpAny_pure (by simpa [Nat.add_assoc, Nat.add_comm, Nat.add_left_comm] using h)))
theorem cell_eq_tree {x y : CK} {a b : Addr} {P : Fin → Shared → Prop} (hu : A.units < cLine) (hx : IsCell prog w s.heap x a) (hy : IsCell prog w s.heap y b) (h : P (.done (.ret (.bool (decide (x = y))))) s) :
    wpAny (model prog w) A (Builtin.«tuple.__eq__» ⟨[.ref a, .ref b], []⟩) P E s := by
  have hTb := hy.typeIs
  obtain ⟨oa, xs, na, c1, t1, hoa, _, hda, hia, hka⟩ := hx
  obtain ⟨ob, ys, nb, c2, t2, hob, _, hdb, hib, hkb⟩ := hy
  show wpAny _ _ (isInstance (.ref b) (.type "tuple") >>= _) _ _ s
  refine wpAny_bind (wpAny_isInstance hTb isSubtype_tuple_tuple ?_)
  simp only [Bool.not_true, Bool.false_eq_true, if_false]
  refine wpAny_bind (wpAny_tupleItemsOf hoa hda ?_)
  refine wpAny_bind (wpAny_tupleItemsOf hob hdb ?_)
  refine wpAny_bind ?_
  have hz : (xs.size == ys.size) = true := by
    have e1 : xs.size = 2 := by rw [← Array.length_toList, hia]; rfl
    have e2 : ys.size = 2 := by rw [← Array.length_toList, hib]; rfl
    rw [e1, e2]; rfl
  have hzip : List.zip xs.toList ys.toList = [(Value.int x.1 t1, Value.int y.1 t2), (Value.ref c1, Value.ref c2)] := by rw [hia, hib]; rfl
  rw [hzip]
  simp only [List.forIn_cons, List.forIn_nil]
  refine wpAny_bind (wpAny_bind (wpAny_eqBool_int ?_))
  by_cases hk : x.1 = y.1
  · rw [hk, beq_self_eq_true]
    simp only [Bool.not_true, Bool.false_eq_true, if_false]
    refine wpAny_pure ?_
    refine wpAny_bind (wpAny_bind (wpAny_eqBool_tuple hu hka hkb ?_))
    by_cases hk2 : x.2 = y.2
    · rw [decide_eq_true hk2]
      simp only [Bool.not_true, Bool.false_eq_true, if_false]
      refine wpAny_pure ?_
      refine wpAny_pure ?_
      show wpAny _ _ (ret (.bool (xs.size == ys.size))) _ _ _
      rw [hz]
      have : x = y := Prod.ext hk hk2
      rw [decide_eq_true this] at h
      exact wpAny_pure h
    · rw [decide_eq_false hk2]
      simp only [Bool.not_false, if_true]
      have : x ≠ y := fun e => hk2 (congrArg Prod.snd e)
      rw [decide_eq_false this] at h
      exact wpAny_bind (wpAny_pure (wpAny_pure (wpAny_pure (wpAny_pure h))))
  · rw [beq_eq_false_iff_ne.mpr hk]
    simp only [Bool.not_false, if_true]
    have : x ≠ y := fun e => hk (congrArg Prod.fst e)
    rw [decide_eq_false this] at h
    exact wpAny_bind (wpAny_pure (wpAny_pure (wpAny_pure (wpAny_pure h))))
theorem eqBool_cell {x y : CK} {a b : Addr} {Q : Bool → Shared → Prop} (hu : A.units + 2 < cLine) (hx : IsCell prog w s.heap x a) (hy : IsCell prog w s.heap y b) (h : Q (decide (x = y)) s) :
    wpAny (model prog w) A (eqBool (.ref a) (.ref b)) Q E s := by
  unfold eqBool
  try with_reducible refine wpAny_holding ?_
  show wpAny _ _ (if (Value.ref a == Value.ref b) = true then _ else _) Q E s
  by_cases hab : (Value.ref a == Value.ref b) = true
  · rw [if_pos hab]
    have e : a = b := by have := eq_of_beq hab; injection this
    subst e
    obtain rfl := hx.inj hy
    exact wpAny_bind (wpAny_rule (wpAny_pure (by simpa using h)))
  · rw [if_neg hab]
    refine wpAny_bind (wpAny_richCompare_same_room (op := .Eq) hx.typeIs hy.typeIs F.slot_tuple_eq
      (wpAny_call_entry F.slot_tuple_eq hx.typeIs F.entry_tuple_eq (cell_eq_tree ?_ hx hy ⟨_, rfl, (fun e => nomatch e), wpAny_truthy_bool h⟩) (F.args_tuple_eq_2 _ _)) (by omega))
    show A.units + 1 < cLine
    omega
theorem quiet_tup {M : Model} {n : Nat} {ks : List Int} {a : Addr} {Q : Bool → Shared → Prop} (hk : IsTupleKey (intKind prog w) s.heap ks a) (h : Q true s) : wpAny (model prog w) A (eqIsQuiet (n + 1) (.ref a)) Q E s := by
  have hT := hk.typeIs
  obtain ⟨o, items, m, ho, _, hd, hi⟩ := hk
  unfold eqIsQuiet
  refine wpAny_bind (wpAny_specialOf hT F.slot_tuple_eq.lookup ?_)
  show wpAny _ _ (isInstance (.ref a) (.type "tuple") >>= _) _ _ s
  refine wpAny_bind (wpAny_isInstance hT isSubtype_tuple_tuple ?_)
  simp only [Bool.not_true, Bool.false_eq_true, if_false]
  refine wpAny_bind (wpAny_seqItems ho hd ?_)
  refine wpAny_bind ?_
  show wpAny _ _ (forIn items _ _) _ _ s
  rw [← Array.forIn_toList]
  refine wpAny_forIn_list _ (fun rest r s' => r.1 = none ∧ s' = s ∧ ∀ v ∈ rest, carriedByValue v = true) _ ?_ ?_ _ _ ⟨rfl, rfl, hi.byValue⟩
  · rintro v rest r s' ⟨hr, rfl, hall⟩
    rw [eqIsQuiet_byValue _ (hall v List.mem_cons_self)]
    refine wpAny_bind (wpAny_pure ?_)
    simp only [Bool.not_true, Bool.false_eq_true, if_false]
    exact wpAny_pure ⟨rfl, rfl, fun u hu' => hall u (List.mem_cons_of_mem _ hu')⟩
  · rintro ⟨r1, r2⟩ s' ⟨hr, rfl, _⟩
    simp only at hr
    subst hr
    exact wpAny_pure h
theorem quiet_cell {k : CK} {a : Addr} {Q : Bool → Shared → Prop} (hk : IsCell prog w s.heap k a) (h : Q true s) : wpAny (model prog w) A (eqIsQuiet 8 (.ref a)) Q E s := by
  have hT := hk.typeIs
  obtain ⟨o, items, m, b, t, ho, _, hd, hi, hb⟩ := hk
  unfold eqIsQuiet
  refine wpAny_bind (wpAny_specialOf hT F.slot_tuple_eq.lookup ?_)
  show wpAny _ _ (isInstance (.ref a) (.type "tuple") >>= _) _ _ s
  refine wpAny_bind (wpAny_isInstance hT isSubtype_tuple_tuple ?_)
  simp only [Bool.not_true, Bool.false_eq_true, if_false]
  refine wpAny_bind (wpAny_seqItems ho hd ?_)
  refine wpAny_bind ?_
  show wpAny _ _ (forIn items _ _) _ _ s
  rw [← Array.forIn_toList, hi]
  simp only [List.forIn_cons, List.forIn_nil]
  rw [eqIsQuiet_byValue _ (rfl : carriedByValue (Value.int k.1 t) = true)]
  refine wpAny_bind (wpAny_bind (wpAny_pure ?_))
  simp only [Bool.not_true, Bool.false_eq_true, if_false]
  refine wpAny_pure ?_
  refine wpAny_bind (wpAny_bind (quiet_tup (M := model prog w) hb ?_))
  simp only [Bool.not_true, Bool.false_eq_true, if_false]
  refine wpAny_pure ?_
  refine wpAny_pure ?_
  exact wpAny_pure h
end
/-- the kind of such keys -/
def cellKind (prog : Program) (w : World) : HeapKind prog w CK where
  is := IsCell prog w
  hash := ckHash
  draws := fun k => k.2.length + 3
  room := fun A => A.units + 2 < cLine
  inj := fun hx hy => hx.inj hy
  keeps := fun x ho hd hs => x.keeps ho hd hs
  pyHash := fun hu hk h => pyHash_cell hu hk h
  eqBool := fun hu hx hy h => eqBool_cell hu hx hy h
  quiet := fun hk h => quiet_cell hk h
end Pi
end
section
set_option Elab.async false
set_option linter.all false
set_option maxRecDepth 100000
set_option maxHeartbeats 4000000
namespace Pi
open PySem PySem.Spec PyProof.Rows L2
/-! ### dicts whose keys are ints -/
theorem eqK_key {j k : Key} : eqK kD (keyP j) (keyP k) = decide (j = k) := by
  cases j with
  | inl a => cases k with
    | inl b =>
      show (a == b) = _
      by_cases h : a = b
      · subst h; simp
      · rw [beq_eq_false_iff_ne.mpr h, decide_eq_false (fun z => h (Sum.inl.inj z))]
    | inr b => exact (decide_eq_false (fun z => nomatch z)).symm
  | inr a => cases k with
    | inl b => exact (decide_eq_false (fun z => nomatch z)).symm
    | inr b =>
      show decide (a = b) = _
      by_cases h : a = b
      · subst h; simp
      · rw [decide_eq_false h, decide_eq_false (fun z => h (Sum.inr.inj z))]
section
variable {K : PySem.W.Frag} {H : Hp} {μ : Mu}
theorem key_of {p : PV} {v : V} (h : keyOk false p = true) (r : RV K H μ p v) : ∃ k : Key, p = keyP k ∧ v = kV k := by
  cases r with
  | int i => exact ⟨.inl i, rfl, rfl⟩
  | str s => exact ⟨.inr s, rfl, rfl⟩
  | _ => simp [keyOk] at h
theorem find_key {k : Key} : ∀ {kvs : List (PV × PV)} {ks : List (Key × V)}, RKs K H μ kvs ks → (∀ u, findK (keyP k) kvs = some u → ∃ v, valV ks k = some v ∧ RV K H μ u v) ∧ (findK (keyP k) kvs = none → valV ks k = none)
  | _, _, .nil => ⟨fun u e => by simp [findK] at e, fun _ => rfl⟩
  | _, _, .cons (k := j) r rs => by
    obtain ⟨h1, h2⟩ := find_key (k := k) rs
    simp only [findK, eqK_key]
    by_cases e : j = k
    · subst e
      rw [decide_eq_true rfl]
      refine ⟨fun u z => ?_, fun z => by simp at z⟩
      simp only [cond_true, Option.some.injEq] at z
      subst z
      exact ⟨_, valV_pos rfl, r⟩
    · rw [decide_eq_false e]
      rw [valV_neg e]
      exact ⟨h1, h2⟩
theorem RKs.snoc {k : Key} {u : PV} {v : V} (r0 : RV K H μ u v) : ∀ {kvs : List (PV × PV)} {ks : List (Key × V)}, RKs K H μ kvs ks → RKs K H μ (kvs ++ [(keyP k, u)]) (ks ++ [(k, v)])
  | _, _, .nil => .cons r0 .nil
  | _, _, .cons r rs => .cons r (RKs.snoc r0 rs)
theorem RKs.mapK {k : Key} {u : PV} {v : V} (r0 : RV K H μ u v) : ∀ {kvs : List (PV × PV)} {ks : List (Key × V)}, RKs K H μ kvs ks → RKs K H μ (mapKs (keyP k) u kvs) (ks.map fun kv => if kv.1 = k then (kv.1, v) else kv)
  | _, _, .nil => .nil
  | _, _, .cons (k := j) r rs => by
    simp only [mapKs, List.map_cons, eqK_key]
    by_cases e : j = k
    · subst e
      rw [decide_eq_true rfl, if_pos rfl]
      exact .cons r0 (RKs.mapK r0 rs)
    · rw [decide_eq_false e, if_neg e]
      exact .cons r (RKs.mapK r0 rs)
theorem put_key {k : Key} {u : PV} {v : V} (r0 : RV K H μ u v) {kvs : List (PV × PV)} {ks : List (Key × V)} (rs : RKs K H μ kvs ks) : RKs K H μ (putKs (keyP k) u kvs) (putK ks k v) := by
  unfold putKs putK
  obtain ⟨f1, f2⟩ := find_key (k := k) rs
  rw [valV_any]
  cases e : findK (keyP k) kvs with
  | none =>
    rw [f2 e]
    simp only [Option.isSome_none, cond_false, Bool.false_eq_true, if_false]
    exact rs.snoc r0
  | some w =>
    obtain ⟨v', e2, _⟩ := f1 w e
    rw [e2]
    simp only [Option.isSome_some, cond_true, if_true]
    exact rs.mapK r0
theorem RKs.length : ∀ {kvs : List (PV × PV)} {ks : List (Key × V)}, RKs K H μ kvs ks → kvs.length = ks.length
  | _, _, .nil => rfl
  | _, _, .cons _ rs => congrArg (· + 1) rs.length
end
/-- the dict at a loc -/
theorem dct_of {K : PySem.W.Frag} {H : Hp} {μ : Mu} {st : Sto} {p : PV} {x : V} {kvs : List (PV × PV)} (hr : Hr K H μ st) (r : RV K H μ p x) (e : dctAt st p = some (false, kvs)) : ∃ n a ks, p = .loc n ∧ μ n = some a ∧ x = .ref a ∧ H a = some (.dK ks) ∧ RKs K H μ kvs ks ∧ st.get n = some (.dct false kvs) := by
  cases r with
  | @loc n a m =>
    unfold dctAt at e
    dsimp only at e
    split at e
    · rename_i b kvs' g
      cases e
      obtain ⟨a', e1, e2⟩ := hr.obj n _ g
      rw [m] at e1
      cases e1
      obtain ⟨ks, e3, rs⟩ := e2
      exact ⟨n, a, ks, rfl, m, rfl, e3, rs, g⟩
    · cases e
  | _ => cases e
section
variable {X : Cx} {C : Cls} {W : WX} {a b c : Expr} {ea eb ec : Env → Sto → Out PV} {pos p p2 : Pos} {D : Dat} {N : List Str} {sc : Scope} {R : Ops}
theorem ix_dct (hu : X.A.units + 1 < cLine) : IxR X (fun x y H Q => ∃ a v, x = .ref a ∧ DGet H a y (some v) ∧ Q v H) := by
  intro value slice pins s σ H x y v u Q I rx ry h hs
  obtain ⟨a, z, rfl, g, q⟩ := h
  obtain rfl : v = Value.ref a := rx
  have hT := dict_typeIs I g
  have fin := d_getItem (A := X.A) (E := X.xe) (Q := EP X pins σ Q) hu I g ry fun w' s3 I3 rw' => ⟨z, H, I3, rw', q⟩
  unfold subscriptTail
  refine wpAny_bind ?_
  rw [getitemInPython_of_ne hT.not_modules]
  refine wpAny_bind (wpAny_specialOf hT PySem.F.slot_dict_getitem.lookup ?_)
  have fin2 : wpAny (model X.prog X.w) X.A (subscripted slice false (.ref a) u) (fun r s₃ => wpAny (model X.prog X.w) X.A (letTemporaryGo value (.ref a) r >>= fun _ => pure r) (EP X pins σ Q) X.xe s₃) X.xe s := by
    rw [hs]
    exact wpAny_operating (wpAny_mono fin (fun r s₃ h₃ => wpAny_bind (wpAny_letTemporaryGo (wpAny_pure h₃))) fun _ _ x => x)
  first
    | exact wpAny_pure (wpAny_bind fin2)
    | exact wpAny_bind (wpAny_pure (wpAny_bind fin2))
    | exact wpAny_bind fin2
theorem g_idxA (hu : X.A.units + 1 < cLine) (hi : ixB b = true) (ha : PE X a (gE X.K C W ea)) (hb : PE X b (gE X.K C W eb)) :
    PE X (.Subscript a b pos) (gE X.K C W fun ρ st => (ea ρ st).bind fun x st => (eb ρ st).bind fun y st => Out.of (idxA st x y) st) := by
  refine (pe_ix (ix_seq.or (ix_dct hu)) ha hb (ix_plain hi)).imp ?_
  intro σ H Q q
  refine gE.imp ?_ (gE.two q)
  intro x H1 q1
  refine gE.imp ?_ q1
  rintro y H2 ⟨μ, st, p, q, hr, r1, r2, z⟩
  unfold idxA at z
  split at z
  · rename_i kvs ed
    obtain ⟨n, ad, ks, rfl, m, rfl, e3, rs, g⟩ := dct_of hr r1 ed
    cases hk : keyOk false q with
    | false => rw [hk] at z; exact z.elim
    | true =>
      rw [hk] at z
      obtain ⟨kk, rfl, rfl⟩ := key_of hk r2
      dsimp only [cond] at z
      cases ef : findK (keyP kk) kvs with
      | none => rw [ef] at z; exact z.elim
      | some u =>
        rw [ef] at z
        obtain ⟨v, e4, r5⟩ := (find_key rs).1 u ef
        exact .inr ⟨ad, v, rfl, by rw [← e4]; exact DGet.k (k := kk) e3, z.ok hr r5⟩
  · exact z.elim
  · cases e : idxV st p q with
    | none => rw [e] at z; exact z.elim
    | some v =>
      rw [e] at z
      unfold idxV at e
      split at e
      · rename_i j
        split at e
        · rename_i xs e1
          split at e
          · rename_i k e2
            rw [nth_eq] at e
            cases r2
            obtain ⟨a, vs, rfl, h1, rs⟩ := items_of hr r1 e1
            obtain ⟨u, h2, r3⟩ := rs.get e
            have at' : atI vs j = some u := by
              unfold atI
              have : ixN vs.length j = some k := by rw [← rs.length]; exact e2
              rw [this]
              exact h2
            rcases h1 with h1 | h1
            · exact .inl (.inl ⟨a, vs, j, u, rfl, rfl, h1.sq, at', z.ok hr r3⟩)
            · exact .inl (.inr (.inl ⟨a, vs, j, u, rfl, rfl, h1, at', z.ok hr r3⟩))
          · cases e
        · cases e
      · cases e
/-! ### in -/
theorem op_inD (n : Bool) (hu : X.A.units + 1 < cLine) : OpR X (compareOp (memOp n)) (fun y x H Q => ∃ a o, x = .ref a ∧ DGet H a y o ∧ Q (.bl (if n then !o.isSome else o.isSome)) H) := by
  intro pins s σ H y x u v Q I ry rx h
  obtain ⟨a, o, rfl, g, q⟩ := h
  obtain rfl : v = Value.ref a := rx
  cases n with
  | false => exact d_in hu I g ry fun s' I' => ⟨.bl o.isSome, H, I', rfl, by simpa using q⟩
  | true => exact d_notIn hu I g ry fun s' I' => ⟨.bl (!o.isSome), H, I', rfl, by simpa using q⟩
theorem memMark (n : Bool) (b : Expr) : behindInMarks (memOp n) b = false ∨ True := .inr trivial
theorem g_mem {n : Bool} (hu : X.A.units + 65 < cLine) (ha : PE X a (gE X.K C W ea)) (hb : PE X b (gE X.K C W eb)) (hm : behindInMarks (memOp n) b = false) :
    PE X (.Compare a [memOp n] [b] pos) (gE X.K C W fun ρ st => (ea ρ st).bind fun x st => (eb ρ st).bind fun y st => match memV st x y with
      | some b => .ok (.bl (if n then !b else b)) st
      | none => .stuck) := by
  refine (pe_cmpR ((opr_mem n hu).or (op_inD n (by omega))) ha hb hm).imp ?_
  intro σ H Q q
  refine gE.imp ?_ (gE.two q)
  intro x H1 q1
  refine gE.imp ?_ q1
  rintro y H2 ⟨μ, st, p, q, hr, r1, r2, z⟩
  cases e : memV st p q with
  | none => rw [e] at z; exact z.elim
  | some k =>
    rw [e] at z
    have w := z.ok hr (.bl _)
    unfold memV at e
    split at e
    · rename_i kvs ed
      obtain ⟨nn, ad, ks, rfl, m, rfl, e3, rs, g⟩ := dct_of hr r2 ed
      cases hk : keyOk false p with
      | false => rw [hk] at e; cases e
      | true =>
        rw [hk] at e
        obtain ⟨kk, rfl, rfl⟩ := key_of hk r1
        dsimp only [cond] at e
        cases e
        refine .inr ⟨ad, valV ks kk, rfl, DGet.k (k := kk) e3, ?_⟩
        have : (valV ks kk).isSome = (findK (keyP kk) kvs).isSome := by
          obtain ⟨f1, f2⟩ := find_key (k := kk) rs
          cases ef : findK (keyP kk) kvs with
          | none => rw [f2 ef]; rfl
          | some u => obtain ⟨v, e4, _⟩ := f1 u ef; rw [e4]; rfl
        rw [this]
        exact w
    · cases e
    · exact .inl ⟨μ, st, p, q, k, hr, r1, r2, e, w⟩
end
end Pi
end
section
set_option Elab.async false
set_option linter.all false
set_option maxRecDepth 100000
set_option maxHeartbeats 4000000
namespace Pi
open PySem PySem.Spec PyProof.Rows L2
section
variable {X : Cx} {C : Cls} {W : WX} {a b c o i e : Expr} {ea eb ec eo ei : Env → Sto → Out PV} {pos p p2 : Pos} {D : Dat} {N : List Str} {sc : Scope} {R : Ops}
/-! ### o[i] = v -/
def rSetP (K : PySem.W.Frag) : V → V → V → Hp → (Hp → Prop) → Prop := fun o i v H Q => ∃ μ st p q r st', Hr K H μ st ∧ RV K H μ p o ∧ RV K H μ q i ∧ RV K H μ r v ∧ subV p q r st = some st' ∧ ∀ H' μ', Ext K H μ H' μ' → Hr K H' μ' st' → Q H'
theorem set_P (hu : X.A.units + 1 < cLine) : PSet X (rSetP X.K) := by
  intro pins s σ H o i v ov iv u Q I ro ri rv h
  obtain ⟨μ, st, p, q, r, st', hr, r1, r2, r3, e, z⟩ := h
  cases r1 with
  | @loc n a m =>
    unfold subV at e
    dsimp only at e
    split at e
    · rename_i xs g
      split at e
      · rename_i j
        split at e
        · rename_i k ek
          cases e
          cases r2
          obtain ⟨vs, e1, rs⟩ := hr.lst g m
          obtain ⟨x2, h2⟩ := hr.putL m e1 (rs.set k r3)
          rw [← setN_eq xs] at h2
          refine set_list pins s σ H _ _ v ov iv u Q I ro ri rv ⟨a, vs, j, k, rfl, rfl, e1, ?_, z _ μ x2 h2⟩
          rw [← rs.length]
          exact ek
        · cases e
      · cases e
    · rename_i kvs g
      obtain ⟨_, a', ks, e0, m', e1, e2, rs, g'⟩ := dct_of (p := .loc n) hr (.loc m) (show dctAt st (.loc n) = some (false, kvs) by unfold dctAt; dsimp only; rw [g])
      cases e0
      cases e1
      cases hk : keyOk false q with
      | false => rw [hk] at e; cases e
      | true =>
        rw [hk] at e
        obtain ⟨kk, rfl, rfl⟩ := key_of hk r2
        cases hf : fitLen (kvs.length + 1) with
        | false => rw [hf] at e; cases e
        | true =>
          rw [hf] at e
          cases e
          have hz := fitB hf
          rw [rs.length] at hz
          have x2 := Ext.put (u := .dK (putK ks kk v)) hr m e2 trivial
          have h2 := hr.put (u := .dK (putK ks kk v)) (so := .dct false (putKs (keyP kk) r kvs)) m e2 trivial ⟨_, upd_same, (put_key r3 rs).wk x2.toWk⟩
          obtain rfl : ov = Value.ref a := ro
          exact d_setItem hu I (DPut.k (k := kk) e2 (by omega)) ri rv fun s' I' => ⟨_, I', z _ μ x2 h2⟩
    · cases e
  | _ => cases e
theorem sw_sub {l : Expr} {e : Expr} {env : PySem.Env} {tp : Pos} : swappedStores [.Subscript o i tp] e env = pure none := by
  unfold swappedStores
  rfl
theorem sws_sub {e : Expr} {env : PySem.Env} {tp : Pos} {ln : Nat} : swapsWithSole [.Subscript o i tp] e ln env = pure false := by
  unfold swapsWithSole swapsWith
  cases e <;> rfl
theorem asg_sub {env : PySem.Env} {tp : Pos} (h : ixB i = true) : ∀ v, assign (.Subscript o i tp) env v = (do
      let ov ← holding [v] (eval o env)
      let iv ← holding [v, ov] (eval i env)
      standAt tp
      holding [v, ov, iv] (setItem ov iv v)
      release [v, ov, iv] []) := by
  intro v
  cases i <;> first | rfl | cases h
theorem s_sub (hb : ixB i = true) (hu : X.A.units + 1 < cLine) (he : PE X e (gE X.K C W ea)) (ho : PE X o (gE X.K C W eo)) (hi : PE X i (gE X.K C W ei)) :
    PS X (.Assign [.Subscript o i p2] e pos) (gS X.K C W fun ρ st => (ea ρ st).fl ρ fun v st => (eo ρ st).fl ρ fun x st => (ei ρ st).fl ρ fun y st => match subV x y v st with
      | some st => .nx ρ st
      | none => .stuck) := by
  refine (ps_asg he (pg_sub ho hi (set_P hu) (asg_sub hb)) sws_sub (sw_sub (l := o)) (by rfl)).imp ?_
  rintro D σ H ⟨μ, ρ, st, hr, hE, z⟩
  refine ⟨μ, ρ, st, hr, hE, (fl_of (rel := RV X.K) hE rfl z).imp ?_⟩
  rintro v H1 ⟨μ1, r, st1, e1, hr1, r1, z1⟩
  refine ⟨μ1, ρ, st1, hr1, hE.ext e1, (fl_of (rel := RV X.K) (hE.ext e1) rfl z1).imp ?_⟩
  rintro x H2 ⟨μ2, q, st2, e2, hr2, r2, z2⟩
  refine ⟨μ2, ρ, st2, hr2, (hE.ext e1).ext e2, (fl_of (rel := RV X.K) ((hE.ext e1).ext e2) rfl z2).imp ?_⟩
  rintro y H3 ⟨μ3, w, st3, e3, hr3, r3, z3⟩
  cases es : subV q w r st3 with
  | none => rw [es] at z3; exact z3.elim
  | some st4 =>
    rw [es] at z3
    exact ⟨μ3, st3, q, w, r, st4, hr3, r2.ext e3, r3, (r1.ext e2).ext e3, es, fun H' μ' ex hr' => z3 H' μ' σ ex hr' ((((hE.ext e1).ext e2).ext e3).ext ex) rfl⟩
/-- o1[i1], o2[i2] = a tuple -/
theorem s_sub2 {o2 i2 : Expr} {eo2 ei2 : E} {eoo eii : E} {k : Nat} {tp tp2 tp3 : Pos} (hb : ixB i = true) (hb2 : ixB i2 = true) (hc : X.calm = true) (hu : X.A.units + 1 < cLine) (he : PE X e (gE X.K C W ea)) (ho : PE X o (gE X.K C W (R.e eoo))) (hi : PE X i (gE X.K C W (R.e eii))) (ho2 : PE X o2 (gE X.K C W (R.e eo2))) (hi2 : PE X i2 (gE X.K C W (R.e ei2)))
    (hsw : swappedStores [.Tuple [.Subscript o i tp, .Subscript o2 i2 tp2] k tp3] e X.env = pure none) (hss : swapsWithSole [.Tuple [.Subscript o i tp, .Subscript o2 i2 tp2] k tp3] e pos.line X.env = pure false) :
    PS X (.Assign [.Tuple [.Subscript o i tp, .Subscript o2 i2 tp2] k tp3] e pos) (gS X.K C W fun ρ st => (ea ρ st).fl ρ fun v st => match v with
      | .tup vs => bif Nat.beq vs.length 2 then (tgSubs R [(eoo, eii), (eo2, ei2)] vs ρ st).fl ρ fun _ st => .nx ρ st else .stuck
      | _ => .stuck) := by
  refine (ps_asg he (pg_tup hc (pgs_cons (pg_sub ho hi (set_P hu) (asg_sub hb)) (pgs_cons (pg_sub ho2 hi2 (set_P hu) (asg_sub hb2)) pgs_nil)) (by rfl) (by rfl)) hss hsw (by rfl)).imp ?_
  rintro D σ H ⟨μ, ρ, st, hr, hE, z⟩
  refine ⟨μ, ρ, st, hr, hE, (fl_of (rel := RV X.K) hE rfl z).imp ?_⟩
  rintro v H1 ⟨μ1, r, st1, e1, hr1, r1, z1⟩
  cases r1 with
  | @tup a vs ps hT rs =>
    dsimp only at z1
    have hE1 := hE.ext e1
    cases rs with
    | nil => exact z1.elim
    | @cons q1 x1 qs xs ra rs =>
      cases rs with
      | nil => exact z1.elim
      | @cons q2 x2 qs xs rb rs =>
        cases rs with
        | cons _ _ => exact z1.elim
        | nil =>
          refine ⟨a, [x1, x2], rfl, hT, rfl, x1, [x2], rfl, ?_⟩
          have z2 : ThS X.K C W (((R.e eoo ρ st1).fl ρ fun x st => (R.e eii ρ st).fl ρ fun y st => match subV x y q1 st with
            | some st => (R.e eo2 ρ st).fl ρ fun x st => (R.e ei2 ρ st).fl ρ fun y st => match subV x y q2 st with
              | some st => .nx ρ st
              | none => .stuck
            | none => .stuck)) σ.length H1 μ1 D := by
            have e : ((R.e eoo ρ st1).fl ρ fun x st => (R.e eii ρ st).fl ρ fun y st => match subV x y q1 st with
              | some st => (R.e eo2 ρ st).fl ρ fun x st => (R.e ei2 ρ st).fl ρ fun y st => match subV x y q2 st with
                | some st => .nx ρ st
                | none => .stuck
              | none => .stuck) = (tgSubs R [(eoo, eii), (eo2, ei2)] [q1, q2] ρ st1).fl ρ fun _ st => .nx ρ st := by
              simp only [tgSubs]
              cases R.e eoo ρ st1 with
              | stuck => rfl
              | exc c fs st2 => rfl
              | ok x st2 =>
                simp only [Out.fl, Out.bind]
                cases R.e eii ρ st2 with
                | stuck => rfl
                | exc c fs st3 => rfl
                | ok y st3 =>
                  simp only []
                  cases subV x y q1 st3 with
                  | none => rfl
                  | some st4 =>
                    simp only []
                    cases R.e eo2 ρ st4 with
                    | stuck => rfl
                    | exc c fs st5 => rfl
                    | ok x st5 =>
                      simp only []
                      cases R.e ei2 ρ st5 with
                      | stuck => rfl
                      | exc c fs st6 => rfl
                      | ok y st6 =>
                        simp only []
                        cases subV x y q2 st6 with
                        | none => rfl
                        | some st7 => rfl
            rw [e]
            exact z1
          refine ⟨μ1, ρ, st1, hr1, hE1, (fl_of (rel := RV X.K) hE1 rfl z2).imp ?_⟩
          rintro y H2 ⟨μ2, u, st2, e2, hr2, r2, z3⟩
          have hE2 := hE1.ext e2
          refine ⟨μ2, ρ, st2, hr2, hE2, (fl_of (rel := RV X.K) hE2 rfl z3).imp ?_⟩
          rintro w H3 ⟨μ3, t, st3, e3, hr3, r3, z4⟩
          have hE3 := hE2.ext e3
          cases es : subV u t q1 st3 with
          | none => rw [es] at z4; exact z4.elim
          | some st4 =>
            rw [es] at z4
            refine ⟨μ3, st3, u, t, q1, st4, hr3, r2.ext e3, r3, (ra.ext e2).ext e3, es, fun H4 μ4 e4 hr4 => ?_⟩
            have hE4 := hE3.ext e4
            refine ⟨x2, [], rfl, μ4, ρ, st4, hr4, hE4, (fl_of (rel := RV X.K) hE4 rfl (ThS.ext e4 z4)).imp ?_⟩
            rintro y H5 ⟨μ5, u5, st5, e5, hr5, r5, z5⟩
            have hE5 := hE4.ext e5
            refine ⟨μ5, ρ, st5, hr5, hE5, (fl_of (rel := RV X.K) hE5 rfl z5).imp ?_⟩
            rintro w H6 ⟨μ6, u6, st6, e6, hr6, r6, z6⟩
            have hE6 := hE5.ext e6
            cases es2 : subV u5 u6 q2 st6 with
            | none => rw [es2] at z6; exact z6.elim
            | some st7 =>
              rw [es2] at z6
              exact ⟨μ6, st6, u5, u6, q2, st7, hr6, r5.ext e6, r6, ((((rb.ext e2).ext e3).ext e4).ext e5).ext e6, es2, fun H7 μ7 e7 hr7 => ⟨rfl, z6 H7 μ7 σ e7 hr7 (hE6.ext e7) rfl⟩⟩
  | _ => exact z1.elim
end
end Pi
end
section
set_option Elab.async false
set_option linter.all false
set_option maxRecDepth 100000
set_option maxHeartbeats 4000000
namespace Pi
open PySem PySem.Spec PyProof.Rows L2
section
variable {X : Cx} {C : Cls} {W : WX} {a b c o i e : Expr} {ea eb ec eo ei : Env → Sto → Out PV} {pos p p2 : Pos} {D : Dat} {N : List Str} {sc : Scope} {R : Ops}
def augOk : Op2 → Bool
  | .add => true | .sub => true | _ => false
def rAug (op : Op2) : TIp := fun x y H Q => ∃ i j k, x = .int i ∧ y = .int j ∧ augI op (.int i) (.int j) = some k ∧ Q (.int k) H
theorem ip_aug {op : Op2} (h : augOk op = true) : PIp X (opOf op) (rAug op) := by
  intro pins s σ H x y v u Q I rx ry q
  obtain ⟨i, j, k, rfl, rfl, e, q⟩ := q
  cases op with
  | add => cases e; exact ip_add pins s σ H _ _ v u Q I rx ry ⟨i, j, rfl, rfl, q⟩
  | sub => cases e; exact ip_sub pins s σ H _ _ v u Q I rx ry ⟨i, j, rfl, rfl, q⟩
  | _ => cases h
theorem s_aug {k : Nat} {n : Str} {op : Op2} (ho : augOk op = true) (hN : X.N.Nodup) (hi : X.N[k]? = some n) (hx : Loc X.env.scope n) (hf : X.fn n = true ∨ X.env.scope.names.lookup n = some .local) (he : PE X e (gE X.K C W ea)) :
    PS X (.AugAssign (.Name n p2) (opOf op) e pos) (gS X.K C W fun ρ st => match (nth ρ k).bind id with
      | some x => (ea ρ st).fl ρ fun y st => match augI op x y with
        | some j => .nx (setN ρ k (some (.int j))) st
        | none => .stuck
      | none => .stuck) := by
  refine (ps_aug hN hi hx he (ip_aug ho) hf).imp ?_
  rintro D σ H ⟨μ, ρ, st, hr, hE, z⟩
  dsimp only at z
  rw [nth_eq] at z
  cases eo : ρ[k]? with
  | none => rw [eo] at z; exact z.elim
  | some o =>
    cases o with
    | none => rw [eo] at z; exact z.elim
    | some q =>
      rw [eo] at z
      obtain ⟨x, e1, r⟩ := hE.2 k q eo
      refine ⟨x, e1, μ, ρ, st, hr, hE, (fl_of (rel := RV X.K) hE rfl z).imp ?_⟩
      rintro y H1 ⟨μ1, q1, st1, ex, hr1, r1, z1⟩
      cases ea : augI op q q1 with
      | none =>
        rw [ea] at z1; exact z1.elim
      | some j =>
        try dsimp only [id] at z1
        rw [ea] at z1
        have : ∃ m n, q = .int m ∧ q1 = .int n := by
          cases q <;> cases q1 <;> cases op <;> first | exact ⟨_, _, rfl, rfl⟩ | cases ea
        obtain ⟨m, n', rfl, rfl⟩ := this
        cases r
        cases r1
        exact ⟨m, n', j, rfl, rfl, ea, z1 H1 μ1 (σ.set k (some (.int j))) .refl hr1 ((hE.ext ex).set (.int j)) (by simp)⟩
/-! ### setdefault -/
theorem set_dflt_int (hu : X.A.units + 1 < cLine) {pins : List (Addr × Obj)} {s : Shared} {σ : L2.St} {H : Hp} {a : Addr} {ks : List (Key × V)} {k : Key} {d : V} {ku du : Value} {Q : VK} (I : Inv X pins σ H s) (e : H a = some (.dK ks)) (rk : L2.RelV (kV k) ku) (rd : L2.RelV d du) (hl : ks.length < sizeLine)
    (h1 : ∀ v, valV ks k = some v → Q v H) (h2 : valV ks k = none → Q d (upd H a (.dK (putK ks k d)))) :
    wpAny (model X.prog X.w) X.A (call (.builtin "dict.setdefault") [.ref a, ku, du]) (EP X pins σ Q) X.xe s := by
  obtain ⟨z, hd, vs0, rel, dd⟩ := dk_of I.hok e
  have hz : vs0.length ≤ sizeLine := by rw [← rel.length]; exact z
  refine call_meetsIn F.slot_dict_setdefault dd.typeIs F.entry_dict_setdefault (F.args_dict_setdefault_3 _ _ _) (kt_meets_setdefault (mixKind X.prog X.w) _ (kV_is rk) hd _) ⟨vs0, dd, hz, fun u hu => ?_, fun hn h' dd' hs => ?_⟩
  · have rr := rel.val k
    rw [hu] at rr
    cases hv : valV ks k with
    | none => rw [hv] at rr; exact False.elim rr
    | some x =>
      rw [hv] at rr
      exact (⟨x, H, I.tok _, rr, h1 x hv⟩ : EP X pins σ Q u _)
  · have rr := rel.val k
    rw [hn] at rr
    cases hv : valV ks k with
    | some x => rw [hv] at rr; exact False.elim rr
    | none =>
      have hl2 : (putK ks k d).length ≤ sizeLine := by have := length_putK ks k d; omega
      exact (⟨d, _, d_write (t' := s.toks + 1) I (by rw [e]; exact True.intro) hs (let ⟨q, _, _, hq, _⟩ := dd'; ⟨q, hq⟩) (dk_new hl2 hd (rel.put k rd) dd'), rd, h2 hv⟩ : EP X pins σ Q _ _)
/-- a key of a cell, in the machine -/
theorem cell_of {pins : List (Addr × Obj)} {σ : L2.St} {H : Hp} {s : Shared} {μ : Mu} {k : CK} {b : Addr} (I : Inv X pins σ H s) (r : RV X.K H μ (ckP k) (.ref b)) : IsCell X.prog X.w s.heap k b := by
  unfold ckP at r
  cases r with
  | tup hT rs =>
    cases rs with
    | cons r1 rs =>
      cases rs with
      | cons r2 rs =>
        cases rs
        cases r1
        cases r2 with
        | @tup c us _ hT2 rs2 =>
          have := RVs.ints rs2
          subst this
          obtain ⟨its, rv, ⟨o, p1, p2, n, p3⟩, _⟩ := I.tuple hT
          obtain ⟨its2, rv2, ⟨o2, q1, q2, n2, q3⟩, _⟩ := I.tuple hT2
          cases rv with
          | cons w1 rv =>
            cases rv with
            | cons w2 rv =>
              cases rv
              cases w2
              obtain ⟨t, rfl⟩ := w1
              exact ⟨o, _, n, c, t, p1, p2, p3, rfl, o2, _, n2, q1, q2, q3, by simpa using are_ints rv2⟩
where
  are_ints {prog : Program} {w : World} : ∀ {ns : List Int} {us : List Value}, Vals (ns.map V.int) us → ItemsAre (intKind prog w) ns us
    | [], _, .nil => .nil
    | n :: ns, _, .cons r rs => by
      obtain ⟨t, rfl⟩ := (show ∃ t, _ = Value.int n t from r)
      exact .cons (by simp [intKind, Value.isInt]) (are_ints rs)
end
end Pi
end
section
set_option Elab.async false
set_option linter.all false
set_option maxRecDepth 100000
set_option maxHeartbeats 4000000
namespace Pi
open PySem PySem.Spec PyProof.Rows L2
mutual
theorem eqK_nk : ∀ {n : Nat} {a b : NestedKey}, nkFree a = true → nkFree b = true → a.depth < n → eqK n (nkP a) (nkP b) = decide (a = b)
  | 0, a, b, _, _, h => absurd h (Nat.not_lt_zero _)
  | n + 1, .num i, .num j, _, _, _ => by
    simp only [nkP, eqK]
    by_cases e : i = j
    · subst e; simp
    · simp [e]
  | n + 1, .num i, .tup ks, _, _, _ => by simp [nkP, eqK]
  | n + 1, .tup ks, .num i, _, _, _ => by simp [nkP, eqK]
  | n + 1, .tup ks, .tup js, h1, h2, h => by
    simp only [nkP, eqK]
    simp only [NestedKey.depth] at h
    rw [eqLs_nk (by simpa [nkFree] using h1) (by simpa [nkFree] using h2) (by omega)]
    simp
  | n + 1, .none, _, h, _, _ => by simp [nkFree] at h
  | n + 1, .text _, _, h, _, _ => by simp [nkFree] at h
  | n + 1, .num _, .none, _, h, _ => by simp [nkFree] at h
  | n + 1, .num _, .text _, _, h, _ => by simp [nkFree] at h
  | n + 1, .tup _, .none, _, h, _ => by simp [nkFree] at h
  | n + 1, .tup _, .text _, _, h, _ => by simp [nkFree] at h
theorem eqLs_nk : ∀ {n : Nat} {a b : List NestedKey}, nkFrees a = true → nkFrees b = true → NestedKey.depthAll a < n → eqLs (eqK n) (nkPs a) (nkPs b) = decide (a = b)
  | n, [], [], _, _, _ => by simp [nkPs, eqLs]
  | n, [], _ :: _, _, _, _ => by simp [nkPs, eqLs]
  | n, _ :: _, [], _, _, _ => by simp [nkPs, eqLs]
  | n, x :: a, y :: b, h1, h2, h => by
    simp only [nkFrees, Bool.and_eq_true] at h1 h2
    simp only [NestedKey.depthAll] at h
    simp only [nkPs, eqLs]
    rw [eqLs_nk h1.2 h2.2 (by omega), eqK_nk h1.1 h2.1 (by omega)]
    by_cases e : x = y
    · subst e; simp
    · simp [e]
end
theorem nkLs_eq {f : PV → Option NestedKey} {n : Nat} (hf : ∀ p k, f p = some k → p = nkP k ∧ nkFree k = true ∧ k.depth ≤ n) : ∀ {xs : List PV} {ks : List NestedKey}, nkLs f xs = some ks → xs = nkPs ks ∧ nkFrees ks = true ∧ NestedKey.depthAll ks ≤ n
  | [], ks, h => by
    cases h
    exact ⟨rfl, rfl, Nat.zero_le _⟩
  | x :: xs, ks, h => by
    simp only [nkLs] at h
    cases e1 : f x with
    | none => rw [e1] at h; cases h
    | some k =>
      rw [e1] at h
      cases e2 : nkLs f xs with
      | none => rw [e2] at h; cases h
      | some ks' =>
        rw [e2] at h
        cases h
        obtain ⟨a1, a2, a3⟩ := hf x k e1
        obtain ⟨b1, b2, b3⟩ := nkLs_eq hf e2
        subst a1 b1
        refine ⟨rfl, by simp [nkFrees, a2, b2], ?_⟩
        simp only [NestedKey.depthAll]
        omega
theorem nkOf_eq : ∀ {n : Nat} {p : PV} {k : NestedKey}, nkOf n p = some k → p = nkP k ∧ nkFree k = true ∧ k.depth ≤ n
  | 0, p, k, h => by cases h
  | n + 1, p, k, h => by
    unfold nkOf at h
    cases p with
    | int i => cases h; exact ⟨rfl, rfl, Nat.zero_le _⟩
    | tup xs =>
      dsimp only at h
      cases e : nkLs (nkOf n) xs with
      | none => rw [e] at h; cases h
      | some ks =>
        rw [e] at h
        cases h
        obtain ⟨b1, b2, b3⟩ := nkLs_eq (n := n) (fun p k h => nkOf_eq h) e
        subst b1
        refine ⟨rfl, b2, ?_⟩
        simp only [NestedKey.depth]
        omega
    | _ => cases h
theorem tupKey_eq {p : PV} {k : NestedKey} (h : tupKey p = some k) : p = nkP k ∧ nkFree k = true ∧ k.depth ≤ 7 ∧ ∃ xs, p = .tup xs := by
  unfold tupKey at h
  split at h
  · obtain ⟨h1, h2, h3⟩ := nkOf_eq h
    exact ⟨h1, h2, by omega, _, rfl⟩
  · cases h
mutual
theorem nkHash_eq {w : World} : ∀ {k : NestedKey}, nkFree k = true → k.hash w = nkHash k
  | .num i, _ => rfl
  | .tup ks, h => by
    simp only [NestedKey.hash, nkHash]
    rw [nkHashes_eq (by simpa [nkFree] using h)]
  | .none, h => by simp [nkFree] at h
  | .text _, h => by simp [nkFree] at h
theorem nkHashes_eq {w : World} : ∀ {ks : List NestedKey}, nkFrees ks = true → NestedKey.hashes w ks = nkHashes ks
  | [], _ => rfl
  | k :: ks, h => by
    simp only [nkFrees, Bool.and_eq_true] at h
    simp only [NestedKey.hashes, nkHashes]
    rw [nkHash_eq h.1, nkHashes_eq h.2]
end
section
variable {X : Cx} {pins : List (Addr × Obj)} {σ : L2.St} {H : Hp} {s : Shared} {μ : Mu}
mutual
/-- a key, in the machine -/
theorem nest_of (I : Inv X pins σ H s) : ∀ {k : NestedKey} {v : V} {u : Value}, nkFree k = true → RV X.K H μ (nkP k) v → L2.RelV v u → NestedIs s.heap k u
  | .num i, v, u, _, r, q => by
    simp only [nkP] at r
    cases r
    obtain ⟨t, rfl⟩ := (show ∃ t, u = Value.int i t from q)
    exact .int i t
  | .tup ks, v, u, h, r, q => by
    simp only [nkP] at r
    cases r with
    | @tup a vs _ hT rs =>
      obtain ⟨its, rv, ⟨o, p1, p2, n, p3⟩, _⟩ := I.tuple hT
      obtain rfl : u = Value.ref a := q
      exact .tup p1 p2 p3 (by simpa using nest_all I (by simpa [nkFree] using h) rs rv)
  | .none, _, _, h, _, _ => by simp [nkFree] at h
  | .text _, _, _, h, _, _ => by simp [nkFree] at h
theorem nest_all (I : Inv X pins σ H s) : ∀ {ks : List NestedKey} {vs : List V} {us : List Value}, nkFrees ks = true → RVs X.K H μ (nkPs ks) vs → Vals vs us → NestedAll s.heap ks us
  | [], _, _, _, r, q => by
    simp only [nkPs] at r
    cases r
    cases q
    exact .nil
  | k :: ks, _, _, h, r, q => by
    simp only [nkPs] at r
    simp only [nkFrees, Bool.and_eq_true] at h
    cases r with
    | cons r1 rs =>
      cases q with
      | cons q1 qs => exact .cons (nest_of I h.1 r1 q1) (nest_all I h.2 rs qs)
end
end
section
variable {K : PySem.W.Frag} {H : Hp} {μ : Mu}
abbrev PC3 (p : NestedKey × Addr × V) (q : NestedKey × Addr × Value) : Prop := p.1 = q.1 ∧ p.2.1 = q.2.1 ∧ L2.RelV p.2.2 q.2.2
theorem find_nk {k : NestedKey} (hf : nkFree k = true) : ∀ {kvs : List (PV × PV)} {xs : List (NestedKey × Addr × V)} {ys : List (NestedKey × Addr × Value)}, RCs K H μ kvs xs → Paired PC3 xs ys →
    (∀ u, findK (nkP k) kvs = some u → ∃ p, atKey ys k = some p ∧ ∃ v, RV K H μ u v ∧ L2.RelV v p.2) ∧ (findK (nkP k) kvs = none → atKey ys k = none)
  | _, _, _, .nil, .nil => ⟨fun u e => by simp [findK] at e, fun _ => rfl⟩
  | _, _, _, .cons (k := j) fj dj rk r rs, .cons (b := q) (l₂ := qs) ⟨e1, e2, e3⟩ ps => by
    obtain ⟨h1, h2⟩ := find_nk hf rs ps
    simp only [findK]
    rw [show kD = 8 from rfl, eqK_nk fj hf (by omega)]
    have e1' : q.1 = j := e1.symm
    by_cases e : j = k
    · subst e
      rw [decide_eq_true rfl]
      have at0 : atKey (q :: qs) j = some q.2 := by simp [atKey, List.find?_cons, e1']
      refine ⟨fun u z => ?_, fun z => by simp at z⟩
      simp only [cond_true, Option.some.injEq] at z
      subst z
      exact ⟨q.2, at0, _, r, e3⟩
    · rw [decide_eq_false e]
      have at0 : atKey (q :: qs) k = atKey qs k := by
        have : ¬ q.1 = k := by rw [e1']; exact e
        simp [atKey, List.find?_cons, this]
      rw [at0]
      exact ⟨h1, h2⟩
theorem RCs.snoc {k : NestedKey} {b : Addr} {u : PV} {v : V} (fk : nkFree k = true) (dk : k.depth ≤ 7) (rk : RV K H μ (nkP k) (.ref b)) (r0 : RV K H μ u v) : ∀ {kvs : List (PV × PV)} {ks : List (NestedKey × Addr × V)}, RCs K H μ kvs ks → RCs K H μ (kvs ++ [(nkP k, u)]) (ks ++ [(k, b, v)])
  | _, _, .nil => .cons fk dk rk r0 .nil
  | _, _, .cons f d q r rs => .cons f d q r (RCs.snoc fk dk rk r0 rs)
theorem RCs.length : ∀ {kvs : List (PV × PV)} {ks : List (NestedKey × Addr × V)}, RCs K H μ kvs ks → kvs.length = ks.length
  | _, _, .nil => rfl
  | _, _, .cons _ _ _ _ rs => congrArg (· + 1) rs.length
theorem PC3.snoc {p : NestedKey × Addr × V} {q : NestedKey × Addr × Value} (h : PC3 p q) : ∀ {xs : List (NestedKey × Addr × V)} {ys : List (NestedKey × Addr × Value)}, Paired PC3 xs ys → Paired PC3 (xs ++ [p]) (ys ++ [q])
  | _, _, .nil => .cons h .nil
  | _, _, .cons a r => .cons a (PC3.snoc h r)
theorem dkO_ok {P : Program} {w : World} {h : Heap} {a : Addr} {xs : List (NestedKey × Addr × V)} (z : xs.length ≤ sizeLine) (hs : (a == sysModules) = false) {ys : List (NestedKey × Addr × Value)} (r : Paired PC3 xs ys)
    {o : Obj} {es : Array DictEntry} {ep : Nat} (h1 : h.get? a = some o) (h2 : o.ExactDict) (h3 : o.data = .dict es ep) (h4 : es.toList = ys.map entN) (h5 : (ys.map (·.1)).Nodup) : ObjOk P w H h a (dkO a xs) :=
  ⟨⟨z, hs, ys, r, o, es, ep, h1, h2, h3, h4, h5⟩, ⟨o, h1⟩, fun g1 g2 ⟨z, hs, ys, r, o, es, ep, h1, h2⟩ k => ⟨z, hs, ys, r, o, es, ep, k o h1, h2⟩⟩
/-- the machine's dict -/
theorem dkO_of {pins : List (Addr × Obj)} {σ : L2.St} {s : Shared} {X : Cx} {a : Addr} {xs : List (NestedKey × Addr × V)} {kvs : List (PV × PV)} (I : Inv X pins σ H s) (e : H a = some (dkO a xs)) (rc : RCs X.K H μ kvs xs) :
    xs.length ≤ sizeLine ∧ (a == sysModules) = false ∧ ∃ ys, Paired PC3 xs ys ∧ s.heap.DictOfH (nestedKind X.prog X.w) a ys := by
  obtain ⟨⟨z, hs, ys, r, o, es, ep, h1, h2, h3, h4, h5⟩, _⟩ := I.hok a _ e
  have all : ∀ {kvs : List (PV × PV)} {xs : List (NestedKey × Addr × V)} {ys : List (NestedKey × Addr × Value)}, RCs X.K H μ kvs xs → Paired PC3 xs ys → ∀ y ∈ ys, nkFree y.1 = true ∧ (nestedKind X.prog X.w).is s.heap y.1 y.2.1 := by
    intro kvs xs ys rc
    induction rc generalizing ys with
    | nil => intro p y hy; cases p; cases hy
    | cons f d rk r0 rs ih =>
      intro p y hy
      cases p with
      | cons q ps =>
        rcases List.mem_cons.mp hy with e | hy
        · subst e
          rw [← q.1, ← q.2.1]
          exact ⟨f, nest_of I f rk rfl, Nat.le_trans d (by decide)⟩
        · exact ih ps y hy
  have al := all rc r
  refine ⟨z, hs, ys, r, o, es, ep, h1, h2, h3, h4.trans (List.map_congr_left fun y hy => ?_), fun y hy => (al y hy).2, h5⟩
  show DictEntry.mk _ _ _ = DictEntry.mk _ _ _
  rw [show (nestedKind X.prog X.w).hash y.1 = y.1.hash X.w from rfl, nkHash_eq (al y hy).1]
end
theorem dkO_free {K : PySem.W.Frag} {H : Hp} {μ : Mu} : ∀ {kvs : List (PV × PV)} {xs : List (NestedKey × Addr × V)} {ys : List (NestedKey × Addr × Value)}, RCs K H μ kvs xs → Paired PC3 xs ys → ∀ y ∈ ys, nkFree y.1 = true := by
  intro kvs xs ys rc
  induction rc generalizing ys with
  | nil => intro p y hy; cases p; cases hy
  | cons f d rk r0 rs ih =>
    intro p y hy
    cases p with
    | cons q ps =>
      rcases List.mem_cons.mp hy with e | hy
      · subst e
        rw [← q.1]
        exact f
      · exact ih ps y hy
section
variable {X : Cx} {C : Cls} {W : WX}
theorem set_dflt_nk (hu : X.A.units + 12 < cLine) {pins : List (Addr × Obj)} {s : Shared} {σ : L2.St} {H : Hp} {μ : Mu} {a b : Addr} {xs : List (NestedKey × Addr × V)} {kvs : List (PV × PV)} {k : NestedKey} {d : V} {du : Value} {Q : VK} (I : Inv X pins σ H s) (e : H a = some (dkO a xs)) (rc : RCs X.K H μ kvs xs)
    (fk : nkFree k = true) (dk : k.depth ≤ 7) (rk : RV X.K H μ (nkP k) (.ref b)) (rd : L2.RelV d du) (hl : xs.length < sizeLine) (h1 : ∀ u, findK (nkP k) kvs = some u → ∀ v, RV X.K H μ u v → Q v H) (h2 : findK (nkP k) kvs = none → Q d (upd H a (dkO a (xs ++ [(k, b, d)])))) :
    wpAny (model X.prog X.w) X.A (call (.builtin "dict.setdefault") [.ref a, .ref b, du]) (EP X pins σ Q) X.xe s := by
  obtain ⟨z, hs, ys, r, dd⟩ := dkO_of I e rc
  have hlen : xs.length = ys.length := Paired.length r
  obtain ⟨f1, f2⟩ := find_nk fk rc r
  refine call_setdefault_heap (knd := nestedKind X.prog X.w) (k := k) (show X.A.units + 1 + 8 < cLine by omega) ⟨nest_of I fk rk rfl, by omega⟩ hs dd (fun p hp => ?_) (fun hn h' dd' sb => ?_) (by rw [← hlen]; exact z)
  · cases ef : findK (nkP k) kvs with
    | none => rw [f2 ef] at hp; cases hp
    | some u =>
      obtain ⟨p', e1, v, r1, r2⟩ := f1 u ef
      rw [hp] at e1
      cases e1
      exact (⟨v, H, I.tok _, r2, h1 u ef v r1⟩ : EP X pins σ Q p.2 _)
  · cases ef : findK (nkP k) kvs with
    | some u => obtain ⟨p', e1, _⟩ := f1 u ef; rw [hn] at e1; cases e1
    | none =>
      rw [storedH_new hn] at dd'
      obtain ⟨o, es, ep, q1, q2, q3, q4, _, q5⟩ := dd'
      have q4' : es.toList = (ys ++ [(k, b, du)]).map entN := q4.trans (List.map_congr_left fun y hy => by
        have hf : nkFree y.1 = true := by
          rcases List.mem_append.mp hy with hy | hy
          · exact dkO_free rc r y hy
          · rw [List.mem_singleton] at hy
            subst hy
            exact fk
        show DictEntry.mk _ _ _ = DictEntry.mk _ _ _
        rw [show (nestedKind X.prog X.w).hash y.1 = y.1.hash X.w from rfl, nkHash_eq hf])
      refine (⟨d, _, d_write (t' := s.toks + k.draws) I (by rw [e]; exact True.intro) sb ⟨o, q1⟩ (dkO_ok (ys := ys ++ [(k, b, du)]) ?_ hs (PC3.snoc ⟨rfl, rfl, rd⟩ r) q1 q2 q3 q4' q5), rd, h2 ef⟩ : EP X pins σ Q du _)
      rw [List.length_append]
      show xs.length + 1 ≤ sizeLine
      omega
theorem mt_setdefaultP (hu : X.A.units + 12 < cLine) : MtR X "dict.setdefault" (rMeth X.K C W .setdefault) := by
  intro pins s σ' H x vs v us Q I rx rv h
  obtain ⟨σ, μ, st, p, ps, hr, r, rs, z⟩ := h
  obtain ⟨n, a, rfl, rfl, m, hh⟩ := meth_lst hr r z
  rcases hh with ⟨xs, ws, g, e, rl⟩ | ⟨b, kvs, g⟩
  · simp only [methV, g] at z
    exact z.elim
  · simp only [methV, g] at z
    cases rs with
    | nil => exact z.elim
    | cons r1 rs =>
      cases rs with
      | nil => exact z.elim
      | cons r2 rs =>
        cases rs with
        | cons _ _ => exact z.elim
        | nil =>
          dsimp only at z
          rename_i p1 x1 p2 x2
          cases hk : keyOk b p1 with
          | false => rw [hk] at z; exact z.elim
          | true =>
            cases hf : fitLen (kvs.length + 1) with
            | false => rw [hk, hf] at z; exact z.elim
            | true =>
              rw [hk, hf] at z
              dsimp only [Bool.and_self, cond] at z
              have hz := fitB hf
              obtain rfl : v = Value.ref a := rx
              obtain ⟨a', e1, e2⟩ := hr.obj n _ g
              rw [m] at e1
              cases e1
              cases rv with
              | cons w1 rv =>
                cases rv with
                | cons w2 rv =>
                  cases rv
                  cases b with
                  | false =>
                    obtain ⟨ks, e3, rk⟩ := e2
                    obtain ⟨kk, rfl, rfl⟩ := key_of hk r1
                    rw [rk.length] at hz
                    obtain ⟨f1, f2⟩ := find_key (k := kk) rk
                    refine set_dflt_int (k := kk) (by omega) I e3 w1 w2 (by omega) (fun v hv => ?_) (fun hv => ?_)
                    · cases ef : findK (keyP kk) kvs with
                      | none => rw [f2 ef] at hv; cases hv
                      | some u =>
                        obtain ⟨v', e4, r5⟩ := f1 u ef
                        rw [hv] at e4
                        cases e4
                        rw [ef] at z
                        exact z.ok hr r5
                    · cases ef : findK (keyP kk) kvs with
                      | some u => obtain ⟨v', e4, r5⟩ := f1 u ef; rw [hv] at e4; cases e4
                      | none =>
                        rw [ef] at z
                        rw [putK_new _ hv]
                        have x2' := Ext.put (u := .dK (ks ++ [(kk, x2)])) hr m e3 trivial
                        have h2 := hr.put (u := .dK (ks ++ [(kk, x2)])) (so := .dct false (kvs ++ [(keyP kk, p2)])) m e3 trivial ⟨_, upd_same, (rk.snoc r2).wk x2'.toWk⟩
                        exact z _ μ x2 x2' h2 (r2.ext x2')
                  | true =>
                    obtain ⟨ks, e3, rk⟩ := e2
                    cases ck : tupKey p1 with
                    | none => simp [keyOk, ck] at hk
                    | some k =>
                      obtain ⟨ep, fk, dk, xs1, ex⟩ := tupKey_eq ck
                      rw [rk.length] at hz
                      have r1' := r1
                      rw [ex] at r1'
                      cases r1' with
                      | @tup kb _ _ _ _ =>
                        rw [ep] at r1 z
                        cases w1
                        refine set_dflt_nk hu I e3 rk fk dk r1 w2 (by omega) (fun u ef v r5 => ?_) (fun ef => ?_)
                        · rw [ef] at z
                          exact z.ok hr r5
                        · rw [ef] at z
                          have x2' := Ext.put (u := dkO a (ks ++ [(k, kb, x2)])) hr m e3 trivial
                          have h2 := hr.put (u := dkO a (ks ++ [(k, kb, x2)])) (so := .dct true (kvs ++ [(nkP k, p2)])) m e3 trivial ⟨_, upd_same, (rk.snoc fk dk r1 r2).wk x2'.toWk⟩
                          exact z _ μ x2 x2' h2 (r2.ext x2')
end
end Pi
end
section
set_option Elab.async false
set_option linter.all false
set_option maxRecDepth 100000
set_option maxHeartbeats 4000000
namespace Pi
open PySem PySem.Spec PyProof.Rows L2
/-! ### tests -/
section
variable {K : PySem.W.Frag} {C : Cls} {W : WX} {σ : L2.St} {H : Hp} {ev : Env → Sto → Out PV}
theorem gT.bool {Q : Bool → Hp → Prop} (hb : ∀ ρ st v st', ev ρ st = .ok v st' → ∃ b, v = .bl b) (h : gT K C W (fun ρ st => (ev ρ st).bind fun v st => Out.of (tru st v) st) σ H Q) : gE K C W ev σ H fun v H1 => ∃ b, v = .bl b ∧ Q b H1 := by
  obtain ⟨μ, ρ, st, hr, he, h⟩ := h
  refine ⟨μ, ρ, st, hr, he, ?_⟩
  dsimp only at h
  cases e : ev ρ st with
  | stuck => rw [e] at h; exact h
  | exc c fs st1 => rw [e] at h; exact h
  | ok v st1 =>
    obtain ⟨b, rfl⟩ := hb _ _ _ _ e
    rw [e] at h
    intro H' μ' x ex hr' r
    cases r
    exact ⟨b, rfl, h H' μ' b ex hr' rfl⟩
theorem PT.of {X : Cx} {e : Expr} {t : TE} {C : Cls} {W : WX} {ev : Env → Sto → Out PV} (h : PT X e (tTest t)) (hb : ∀ ρ st v st', ev ρ st = .ok v st' → ∃ b, v = .bl b) (i : ∀ σ H Q, gE X.K C W ev σ H Q → t σ H Q) :
    PT X e (gT X.K C W fun ρ st => (ev ρ st).bind fun v st => Out.of (tru st v) st) := h.imp fun σ H Q q => i _ _ _ (gT.bool hb q)
end
section
variable {X : Cx} {C : Cls} {W : WX} {a b c : Expr} {ea eb ec : Env → Sto → Out PV} {pos p p2 : Pos} {D : Dat} {N : List Str} {sc : Scope} {R : Ops}
theorem bind_ok {α β : Type} {o : Out α} {f : α → Sto → Out β} {v : β} {st : Sto} (h : o.bind f = .ok v st) : ∃ x st1, o = .ok x st1 ∧ f x st1 = .ok v st := by
  cases o with
  | ok x st1 => exact ⟨x, st1, rfl, h⟩
  | exc _ _ _ => cases h
  | stuck => cases h
theorem boolE_bl {o : Option Bool} {st : Sto} {v : PV} {st' : Sto} (h : boolE o st = .ok v st') : ∃ b, v = .bl b := by
  cases o with
  | none => cases h
  | some b => cases h; exact ⟨b, rfl⟩
/-! #### in -/
theorem i_mem {n : Bool} {ks : R2} (hk : ∀ x y H Q, rMemP X.K n x y H Q ∨ (∃ a o, y = V.ref a ∧ DGet H a x o ∧ Q (.bl (if n then !o.isSome else o.isSome)) H) → ks x y H Q) {σ : L2.St} {H : Hp} {Q : VK}
    (q : gE X.K C W (fun ρ st => (ea ρ st).bind fun x st => (eb ρ st).bind fun y st => match memV st x y with
      | some b => .ok (.bl (if n then !b else b)) st
      | none => .stuck) σ H Q) : tOp ks (gE X.K C W ea) (gE X.K C W eb) σ H Q := by
  refine gE.imp ?_ (gE.two q)
  intro x H1 q1
  refine gE.imp ?_ q1
  rintro y H2 ⟨μ, st, p, q, hr, r1, r2, z⟩
  apply hk
  cases e : memV st p q with
  | none => rw [e] at z; exact z.elim
  | some k =>
    rw [e] at z
    have w := z.ok hr (.bl _)
    unfold memV at e
    split at e
    · rename_i kvs ed
      obtain ⟨nn, ad, ks, rfl, m, rfl, e3, rs, g⟩ := dct_of hr r2 ed
      cases hk : keyOk false p with
      | false => rw [hk] at e; cases e
      | true =>
        rw [hk] at e
        obtain ⟨kk, rfl, rfl⟩ := key_of hk r1
        dsimp only [cond] at e
        cases e
        refine .inr ⟨ad, valV ks kk, rfl, DGet.k (k := kk) e3, ?_⟩
        have : (valV ks kk).isSome = (findK (keyP kk) kvs).isSome := by
          obtain ⟨f1, f2⟩ := find_key (k := kk) rs
          cases ef : findK (keyP kk) kvs with
          | none => rw [f2 ef]; rfl
          | some u => obtain ⟨v, e4, _⟩ := f1 u ef; rw [e4]; rfl
        rw [this]
        exact w
    · cases e
    · exact .inl ⟨μ, st, p, q, k, hr, r1, r2, e, w⟩
theorem g_memT {n : Bool} (hu : X.A.units + 65 < cLine) (ha : PE X a (gE X.K C W ea)) (hb : PE X b (gE X.K C W eb)) (hm : behindInMarks (memOp n) b = false) :
    PT X (.Compare a [memOp n] [b] pos) (gT X.K C W fun ρ st => ((ea ρ st).bind fun x st => (eb ρ st).bind fun y st => match memV st x y with
      | some b => .ok (.bl (if n then !b else b)) st
      | none => .stuck).bind fun v st => Out.of (tru st v) st) := by
  refine PT.of (pt_cmpR ((opr_mem n hu).or (op_inD n (by omega))) ha hb hm) (fun ρ st v st' e => ?_) fun σ H Q q => i_mem (fun x y H Q h => h) q
  obtain ⟨x, st1, _, e⟩ := bind_ok e
  obtain ⟨y, st2, _, e⟩ := bind_ok e
  split at e
  · cases e; exact ⟨_, rfl⟩
  · cases e
/-! #### is -/
theorem g_isT {n : Bool} {v : PV} {k : Const} {j : Nat} (ha : PE X a (gE X.K C W ea)) (hv : cstB v k = true) :
    PT X (.Compare a [isOp n] [.Constant k j p2] pos) (gT X.K C W fun ρ st => ((ea ρ st).bind fun x st => match isP x v with
      | some b => .ok (.bl (if n then !b else b)) st
      | none => .stuck).bind fun v st => Out.of (tru st v) st) := by
  refine PT.of (pt_cmpR (opr_is n v) ha (g_cst (C := C) (W := W) (pos := p2) (j := j) hv) (isMark n _)) (fun ρ st v st' e => ?_) ?_
  · obtain ⟨x, st1, _, e⟩ := bind_ok e
    split at e
    · cases e; exact ⟨_, rfl⟩
    · cases e
  · intro σ H Q q
    refine gE.imp ?_ (gE.one q)
    rintro x H1 ⟨μ, st, p, hr, r, z⟩
    cases e : isP p v with
    | none => rw [e] at z; exact z.elim
    | some b =>
      rw [e] at z
      refine ⟨μ, List.replicate σ.length none, st, hr, ⟨by simp, fun i p h => ?_⟩, fun H' μ' y ex hr' r' => ?_⟩
      · rw [List.getElem?_replicate] at h
        split at h <;> cases h
      · exact ⟨μ', p, b, r.ext ex, r', e, z H' μ' _ ex hr' (.bl _)⟩
/-! #### chains -/
theorem g_chainT {o1 o2 : Cm} (hu : X.A.units + 64 < cLine) (ha : PE X a (gE X.K C W ea)) (hb : PE X b (gE X.K C W eb)) (hc : PE X c (gE X.K C W ec)) :
    PT X (.Compare a [cmOf o1, cmOf o2] [b, c] pos) (gT X.K C W fun ρ st => ((ea ρ st).bind fun x st => (eb ρ st).bind fun y st => match cmp o1 x y st with
      | some true => (ec ρ st).bind fun u st => boolE (cmp o2 y u st) st
      | some false => .ok (.bl false) st
      | none => .stuck).bind fun v st => Out.of (tru st v) st) := by
  refine PT.of (pt_chain (opr_cm o1 hu) (opr_cm o2 hu) ha hb hc (show behindInMarks (cmOf o2) c = false from nomark2 c o2)) (fun ρ st v st' e => ?_) ?_
  · obtain ⟨x, st1, _, e⟩ := bind_ok e
    obtain ⟨y, st2, _, e⟩ := bind_ok e
    split at e
    · obtain ⟨u, st3, _, e⟩ := bind_ok e
      exact boolE_bl e
    · cases e; exact ⟨_, rfl⟩
    · cases e
  · rintro σ H Q ⟨μ, ρ, st, hr, he, z⟩
    refine ⟨μ, ρ, st, hr, he, (Th.bind (rel := RV X.K) z).imp ?_⟩
    rintro x H1 ⟨μ1, p, st1, e1, hr1, r1, z1⟩
    refine ⟨μ1, ρ, st1, hr1, he.ext e1, (Th.bind (rel := RV X.K) z1).imp ?_⟩
    rintro y H2 ⟨μ2, q, st2, e2, hr2, r2, z2⟩
    cases e : cmp o1 p q st2 with
    | none => rw [e] at z2; exact z2.elim
    | some k =>
      refine ⟨μ2, st2, p, q, k, hr2, r1.ext e2, r2, e, k, rfl, ?_⟩
      rw [e] at z2
      cases k with
      | false => exact z2.ok hr2 (.bl false)
      | true =>
        refine ⟨μ2, ρ, st2, hr2, (he.ext e1).ext e2, (Th.bind (rel := RV X.K) z2).imp ?_⟩
        rintro u H3 ⟨μ3, w, st3, e3, hr3, r3, z3⟩
        obtain ⟨b, eb, q3⟩ := boolE_ok z3 hr3
        exact ⟨μ3, st3, q, w, b, hr3, r2.ext e3, r3, eb, q3⟩
/-! #### and, or -/
/-- a value, its truth, then the rest, as a test -/
theorem gT.seq {K : PySem.W.Frag} {σ : L2.St} {H : Hp} {k : Bool} {e : E} {er : Env → Sto → Out PV} {Q : Bool → Hp → Prop} (h : gT K C W (fun ρ st => ((R.e e ρ st).bind fun v st => match tru st v with
      | some b => if b = k then er ρ st else .ok v st
      | none => .stuck).bind fun v st => Out.of (tru st v) st) σ H Q) :
    gT K C W (evT R e) σ H fun b H1 => if b = k then gT K C W (fun ρ st => (er ρ st).bind fun v st => Out.of (tru st v) st) σ H1 Q else Q b H1 := by
  obtain ⟨μ, ρ, st, hr, he, h⟩ := h
  refine ⟨μ, ρ, st, hr, he, ?_⟩
  unfold evT
  dsimp only at h
  cases e1 : R.e e ρ st with
  | stuck => rw [e1] at h; exact h
  | exc c fs st1 => rw [e1] at h; exact h
  | ok v st1 =>
    rw [e1] at h
    simp only [Out.bind] at h ⊢
    cases e2 : tru st1 v with
    | none => rw [e2] at h; exact h.elim
    | some b =>
      rw [e2] at h
      intro H' μ' b' ex hr' rb
      obtain rfl : b = b' := rb
      by_cases hk : b = k
      · simp only [hk, if_true] at h
        rw [if_pos hk]
        exact ⟨μ', ρ, st1, hr', he.ext ex, Th.ext ex h⟩
      · simp only [hk, if_false, e2, Out.of] at h
        rw [if_neg hk]
        exact h H' μ' b ex hr' rfl
theorem g_andT (S : SoundT X C W D N sc R) : ∀ {es : List E} {xs : List Expr}, chkEs D N sc es xs = true → tstBs xs = true → es ≠ [] → PW X (.BoolOp .And xs pos) (gT X.K C W fun ρ st => (evAnd R es ρ st).bind fun v st => Out.of (tru st v) st)
  | [], _, _, _, n => absurd rfl n
  | [e], xs, h, ht, _ => by
    obtain ⟨x, ys, rfl⟩ := chkEs_ex h
    obtain ⟨h1, h2, h3⟩ := chkEs_cons h
    obtain rfl := chkEs_nil h3
    simp only [tstBs, Bool.and_eq_true] at ht
    exact pw_and1 (S e x h2 ht.1)
  | e :: f :: r, xs, h, ht, _ => by
    obtain ⟨x, ys, rfl⟩ := chkEs_ex h
    obtain ⟨h1, h2, h4⟩ := chkEs_cons h
    obtain ⟨y, zs, rfl⟩ := chkEs_ex h4
    simp only [tstBs, Bool.and_eq_true] at ht
    refine (pw_and (S e x h2 ht.1) (g_andT S (es := f :: r) (xs := y :: zs) h4 (by simp only [tstBs, Bool.and_eq_true]; exact ht.2) (by simp))).imp ?_
    intro σ H Q q
    rw [and_cons] at q
    have q' := gT.seq q
    obtain ⟨μ, ρ, st, hr, he, z⟩ := q'
    refine ⟨μ, ρ, st, hr, he, z.imp fun b H1 h => ?_⟩
    cases b with
    | true => simpa using h
    | false => simpa using h
theorem g_orT (S : SoundT X C W D N sc R) : ∀ {es : List E} {xs : List Expr}, chkEs D N sc es xs = true → tstBs xs = true → es ≠ [] → PW X (.BoolOp .Or xs pos) (gT X.K C W fun ρ st => (evOr R es ρ st).bind fun v st => Out.of (tru st v) st)
  | [], _, _, _, n => absurd rfl n
  | [e], xs, h, ht, _ => by
    obtain ⟨x, ys, rfl⟩ := chkEs_ex h
    obtain ⟨h1, h2, h3⟩ := chkEs_cons h
    obtain rfl := chkEs_nil h3
    simp only [tstBs, Bool.and_eq_true] at ht
    exact pw_or1 (S e x h2 ht.1)
  | e :: f :: r, xs, h, ht, _ => by
    obtain ⟨x, ys, rfl⟩ := chkEs_ex h
    obtain ⟨h1, h2, h4⟩ := chkEs_cons h
    obtain ⟨y, zs, rfl⟩ := chkEs_ex h4
    simp only [tstBs, Bool.and_eq_true] at ht
    refine (pw_or (S e x h2 ht.1) (g_orT S (es := f :: r) (xs := y :: zs) h4 (by simp only [tstBs, Bool.and_eq_true]; exact ht.2) (by simp))).imp ?_
    intro σ H Q q
    rw [or_cons] at q
    have q' := gT.seq q
    obtain ⟨μ, ρ, st, hr, he, z⟩ := q'
    refine ⟨μ, ρ, st, hr, he, z.imp fun b H1 h => ?_⟩
    cases b with
    | true => simpa using h
    | false => simpa using h
end
end Pi
end
section
set_option Elab.async false
set_option linter.all false
set_option maxRecDepth 100000
set_option maxHeartbeats 4000000
namespace Pi
open PySem PySem.Spec PyProof.Rows L2
/-! ### scopes: a comprehension's block sees a free name perhaps as a cell -/
def ScR (sc sc' : Scope) : Prop := ∀ x k, sc.names.lookup x = some k → ∃ k', sc'.names.lookup x = some k' ∧ (k' = k ∨ (k = .free ∧ k' = .cell))
theorem ScR.refl {sc : Scope} : ScR sc sc := fun _ k h => ⟨k, h, .inl rfl⟩
theorem look_relabel {P : Str → NameKind → Bool} : ∀ {names : List (Str × NameKind)} {x : Str} {k : NameKind}, names.lookup x = some k → (∀ n k, P n k = true → k = .free) →
    ∃ k', (names.map fun y => if P y.1 y.2 then (y.1, NameKind.cell) else y).lookup x = some k' ∧ (k' = k ∨ (k = .free ∧ k' = .cell))
  | [], _, _, h, _ => by simp at h
  | (n, j) :: r, x, k, h, hP => by
    simp only [List.map_cons]
    cases hx : x == n with
    | true =>
      simp only [List.lookup_cons, hx] at h
      have e := Option.some.inj h
      subst e
      by_cases hp : P n j = true
      · rw [if_pos hp]
        exact ⟨.cell, by simp [List.lookup_cons, hx], .inr ⟨hP n j hp, rfl⟩⟩
      · rw [if_neg hp]
        exact ⟨j, by simp [List.lookup_cons, hx], .inl rfl⟩
    | false =>
      simp only [List.lookup_cons, hx] at h
      obtain ⟨k', h1, h2⟩ := look_relabel (P := P) h hP
      refine ⟨k', ?_, h2⟩
      by_cases hp : P n j = true
      · rw [if_pos hp]; simp only [List.lookup_cons, hx]; exact h1
      · rw [if_neg hp]; simp only [List.lookup_cons, hx]; exact h1
theorem ScR.relabel {scope : Scope} {env : PySem.Env} : ScR scope (relabel scope env) := by
  intro x k h
  have := look_relabel (P := fun n k => k == NameKind.free && env.scope.kind == .function && env.kindOf n == some .cell) h (fun n k e => by
    simp only [Bool.and_eq_true, beq_iff_eq] at e
    exact e.1.1)
  exact this
theorem ScR.vis {sc sc' : Scope} {x : Str} (r : ScR sc sc') (h : visB sc x = true) : visB sc' x = true := by
  unfold visB at h ⊢
  simp only [Bool.and_eq_true] at h ⊢
  refine ⟨⟨?_, h.1.2⟩, h.2⟩
  have h1 := h.1.1
  cases e : sc.names.lookup x with
  | none => rw [e] at h1; cases h1
  | some k =>
    rw [e] at h1
    obtain ⟨k', e', q⟩ := r x k e
    rw [e']
    rcases q with rfl | ⟨rfl, rfl⟩
    · exact h1
    · rfl
theorem ScR.gl {sc sc' : Scope} {x : Str} (r : ScR sc sc') (h : glB sc x = true) : sc'.names.lookup x = some .globalImplicit ∧ (x == ("__debug__" : Str)) = false := by
  unfold glB at h
  simp only [Bool.and_eq_true, decide_eq_true_eq, Bool.not_eq_true'] at h
  obtain ⟨k', e', q⟩ := r x _ h.1
  rcases q with rfl | ⟨z, _⟩
  · exact ⟨e', h.2⟩
  · cases z
theorem ScR.loc {sc sc' fs : Scope} {x : Str} (r : ScR sc sc') (h : locB sc fs x = true) : locB sc' fs x = true := by
  unfold locB at h ⊢
  simp only [Bool.or_eq_true, Bool.and_eq_true, decide_eq_true_eq] at h ⊢
  rcases h with h | ⟨h1, h2⟩
  · obtain ⟨k', e', q⟩ := r x _ h
    rcases q with rfl | ⟨z, _⟩
    · exact .inl e'
    · cases z
  · obtain ⟨k', e', q⟩ := r x _ h1
    rcases q with rfl | ⟨z, _⟩
    · exact .inr ⟨e', h2⟩
    · cases z
theorem BlkOk.of {N : List Str} {sc sc' scope : Scope} {own : List (Str × Nat)} (r : ScR sc sc') (b : BlkOk N sc scope own) : BlkOk N sc' scope own :=
  ⟨b.kind, b.uniq, b.ix, fun y hy e => by
    rcases b.free y hy e with h | h
    · obtain ⟨k', e', q⟩ := r _ _ h
      rcases q with rfl | ⟨z, _⟩
      · exact .inl e'
      · cases z
    · obtain ⟨k', e', q⟩ := r _ _ h
      rcases q with rfl | ⟨_, rfl⟩
      · exact .inr e'
      · exact .inl e', b.own⟩
mutual
theorem chkT_of {N : List Str} {sc sc' fs : Scope} (r : ScR sc sc') : ∀ {t : TV} {e : Expr}, chkT N sc fs t e = true → chkT N sc' fs t e = true
  | .var i, e, h => by
    cases e <;> try (simp [chkT] at h; done)
    simp only [chkT, Bool.and_eq_true] at h ⊢
    exact ⟨h.1, r.loc h.2⟩
  | .tup ts, e, h => by
    cases e <;> try (simp [chkT] at h; done)
    simp only [chkT] at h ⊢
    exact chkTs_of r h
theorem chkTs_of {N : List Str} {sc sc' fs : Scope} (r : ScR sc sc') : ∀ {ts : List TV} {es : List Expr}, chkTs N sc fs ts es = true → chkTs N sc' fs ts es = true
  | [], es, h => by
    cases es with
    | nil => simp [chkTs]
    | cons _ _ => simp [chkTs] at h
  | t :: ts, es, h => by
    cases es with
    | nil => simp [chkTs] at h
    | cons e es =>
      simp only [chkTs, Bool.and_eq_true] at h ⊢
      exact ⟨chkT_of r h.1, chkTs_of r h.2⟩
end
/-! ### what is known of the module -/
/-- the names of built-ins that the module does not hide -/
def bltNames : List Str := ["len", "tuple", "list", "sum", "any", "all", "max", "min", "abs", "int", "sorted", "set", "repr", "str", "bool", "dict", "isinstance", "enumerate", "reversed", "range", "zip"]
structure Nms (D : Dat) (K : PySem.W.Frag) (mg : Str → Option Value) : Prop where
  blt : ∀ n, n ∈ bltNames → mg n = none
  gcd : D.gcd = true → mg "gcd" = some (.builtin "math.gcd")
  glb : ∀ n v, (n, v) ∈ D.glb → ∃ (u : Value) (y : V), mg n = some u ∧ L2.RelV y u ∧ ∀ H μ, RV K H μ v y
structure GQ (P : Program) (w : World) (K : PySem.W.Frag) (mg : Str → Option Value) (k : Nat) (N : List Str) (X : Cx) (sc fs : Scope) (W : WX) : Prop where
  eP : X.prog = P
  ew : X.w = w
  eK : X.K = K
  em : X.mg = mg
  nm : X.N = N
  nd : X.N.Nodup
  scr : ScR sc X.env.scope
  fn : ∀ x, fs.names.lookup x = some .cell → X.fn x = true
  calm : X.calm = true
  quiet : Quiet X.A
  room : Room k X.A
  tk : Takes X W
  po : PassesOwn (model X.prog X.w) X.A X.env X.xe
theorem takesN {X : Cx} : Takes X W0 := fun _ _ x => by
  obtain ⟨_, _, _, _, _, _, _, _, _, _, _, _, _, _, _, _, z⟩ := x
  exact z.elim
section
variable {P : Program} {w : World} {K : PySem.W.Frag} {mg : Str → Option Value} {k : Nat} {N : List Str} {X : Cx} {sc fs : Scope} {W : WX}
theorem GQ.blk (G : GQ P w K mg k N X sc fs W) (s : Shared) (H : Hp) (A : Addr) (cl : List (Str × Addr)) (fp : List Addr) (scope : Scope) : GQ P w K mg k N (X.blk s H scope (compEnvC scope cl A X.env) fp) scope scope W0 :=
  ⟨G.eP, G.ew, G.eK, G.em, G.nm, G.nd, ScR.relabel, fun x h => by show (scope.names.lookup x == some .cell) = true; rw [h]; rfl, G.calm, G.quiet, G.room, takesN, PassesOwn.never⟩
theorem GQ.gt (G : GQ P w K mg k N X sc fs W) : GT X N X.env.scope fs := ⟨G.nm, G.nd, rfl, G.fn, G.calm⟩
theorem GQ.gl (G : GQ P w K mg k N X sc fs W) {x : Str} (h : glB sc x = true) : Gl X x := (G.scr.gl h).1
end
end Pi
end
section
set_option Elab.async false
set_option linter.all false
set_option maxRecDepth 100000
set_option maxHeartbeats 4000000
namespace Pi
open PySem PySem.Spec PyProof.Rows L2
/-! ### displays of dicts -/
inductive RPs (K : PySem.W.Frag) (H : Hp) (μ : Mu) : List (PV × PV) → List (V × V) → Prop
  | nil : RPs K H μ [] []
  | cons {p q : PV} {x y : V} {ps : List (PV × PV)} {vs : List (V × V)} : RV K H μ p x → RV K H μ q y → RPs K H μ ps vs → RPs K H μ ((p, q) :: ps) ((x, y) :: vs)
section
variable {X : Cx} {C : Cls} {W : WX} {D : Dat} {N : List Str} {sc : Scope} {R : Ops} {pos : Pos}
def trPairs (X : Cx) (C : Cls) (W : WX) (R : Ops) : List E → List E → List (TE × TE)
  | k :: ks, v :: vs => (gE X.K C W (R.e k), gE X.K C W (R.e v)) :: trPairs X C W R ks vs
  | _, _ => []
def chkPs (D : Dat) (N : List Str) (sc : Scope) : List E → List E → List (Option Expr) → List Expr → Bool
  | [], [], [], [] => true
  | k :: ks, v :: vs, some x :: xs, y :: ys => chkE D N sc k x && chkE D N sc v y && chkPs D N sc ks vs xs ys
  | _, _, _, _ => false
theorem pps_ok (S : SoundE X C W D N sc R) (pos : Pos) : ∀ {ks vs : List E} {xs : List (Option Expr)} {ys : List Expr}, chkPs D N sc ks vs xs ys = true → PPs X pos xs ys (trPairs X C W R ks vs) ∧ xs.all (·.isSome) = true ∧ xs.length = ys.length ∧ xs.length = ks.length
  | [], [], [], [], _ => ⟨pps_nil, rfl, rfl, rfl⟩
  | k :: ks, v :: vs, some x :: xs, y :: ys, h => by
    simp only [chkPs, Bool.and_eq_true] at h
    obtain ⟨a, b, c, d⟩ := pps_ok S pos h.2
    exact ⟨pps_cons (S k x h.1.1) (S v y h.1.2) a, by simp [b], by simp [c], by simp [d]⟩
  | [], [], [], _ :: _, h => by simp [chkPs] at h
  | [], [], _ :: _, _, h => by simp [chkPs] at h
  | [], _ :: _, _, _, h => by simp [chkPs] at h
  | _ :: _, [], _, _, h => by simp [chkPs] at h
  | _ :: _, _ :: _, [], _, h => by simp [chkPs] at h
  | _ :: _, _ :: _, none :: _, _, h => by simp [chkPs] at h
  | _ :: _, _ :: _, some _ :: _, [], h => by simp [chkPs] at h
/-- one step, the rest told from where it began -/
theorem Th.base {K : PySem.W.Frag} {α β γ δ : Type} {σ : L2.St} {H0 H : Hp} {μ0 μ : Mu} {rel : Hp → Mu → α → β → Prop} {rel' : Hp → Mu → γ → δ → Prop} {o : Out α} {f : α → Sto → Out γ} {Q : δ → Hp → Prop} (x : Ext K H0 μ0 H μ) (h : Th K C W rel' (o.bind f) σ H0 μ0 Q) :
    Th K C W rel o σ H μ (fun b H1 => ∃ μ1 a st1, Ext K H μ H1 μ1 ∧ Hr K H1 μ1 st1 ∧ rel H1 μ1 a b ∧ Th K C W rel' (f a st1) σ H0 μ0 Q) := by
  cases o with
  | ok a st => exact fun H' μ' b e r z => ⟨μ', a, st, e, r, z, h⟩
  | exc c fs st =>
    have h' : KX K C H0 μ0 c fs st (fun u d H' => W u d σ H') := h
    exact fun H' μ' d xs e => h' H' μ' d xs (x.trans e)
  | stuck => exact h
theorem pairs_ok {H0 : Hp} {μ0 : Mu} {σ : L2.St} {Q : VK} {f : List (PV × PV) → Sto → Out PV} : ∀ {ks vs : List E} {H : Hp} {μ : Mu} {ρ : Env} {st : Sto} {f : List (PV × PV) → Sto → Out PV} {Q' : List (V × V) → Hp → Prop}, ks.length = vs.length → Ext X.K H0 μ0 H μ → Hr X.K H μ st → RE X.K H μ ρ σ → Th X.K C W (RV X.K) ((evPairs R ks vs ρ st).bind f) σ H0 μ0 Q →
    (∀ H' μ' ps vs st', Ext X.K H μ H' μ' → Hr X.K H' μ' st' → RPs X.K H' μ' ps vs → Th X.K C W (RV X.K) (f ps st') σ H0 μ0 Q → Q' vs H') → tPairs (trPairs X C W R ks vs) σ H Q'
  | [], [], H, μ, ρ, st, f, Q', _, x, hr, he, z, g => g H μ [] [] st .refl hr .nil z
  | k :: ks, v :: vs, H, μ, ρ, st, f, Q', hl, x, hr, he, z, g => by
    have z' : Th X.K C W (RV X.K) ((R.e k ρ st).bind fun x st => (R.e v ρ st).bind fun y st => (evPairs R ks vs ρ st).bind fun r st => f ((x, y) :: r) st) σ H0 μ0 Q := by
      have e : ((R.e k ρ st).bind fun x st => (R.e v ρ st).bind fun y st => (evPairs R ks vs ρ st).bind fun r st => f ((x, y) :: r) st) = (evPairs R (k :: ks) (v :: vs) ρ st).bind f := by
        simp only [evPairs]
        cases R.e k ρ st with
        | stuck => rfl
        | exc _ _ _ => rfl
        | ok x st1 =>
          simp only [Out.bind]
          cases R.e v ρ st1 with
          | stuck => rfl
          | exc _ _ _ => rfl
          | ok y st2 =>
            simp only []
            cases evPairs R ks vs ρ st2 with
            | stuck => rfl
            | exc _ _ _ => rfl
            | ok r st3 => rfl
      rw [e]
      exact z
    refine ⟨μ, ρ, st, hr, he, (Th.base (rel := RV X.K) x z').imp ?_⟩
    rintro y1 H1 ⟨μ1, p, st1, e1, hr1, r1, z1⟩
    refine ⟨μ1, ρ, st1, hr1, he.ext e1, (Th.base (rel := RV X.K) (x.trans e1) z1).imp ?_⟩
    rintro y2 H2 ⟨μ2, q, st2, e2, hr2, r2, z2⟩
    refine pairs_ok (f := f) (by simpa using hl) ((x.trans e1).trans e2) hr2 ((he.ext e1).ext e2) z2 fun H3 μ3 ps us st3 e3 hr3 r3 z3 => ?_
    exact g H3 μ3 _ _ st3 ((e1.trans e2).trans e3) hr3 (.cons ((r1.ext e2).ext e3) (r2.ext e3) r3) z3
  | [], _ :: _, _, _, _, _, _, _, hl, _, _, _, _, _ => by simp at hl
  | _ :: _, [], _, _, _, _, _, _, hl, _, _, _, _, _ => by simp at hl
theorem disp_ok {K : PySem.W.Frag} {H : Hp} {μ : Mu} : ∀ {ps : List (PV × PV)} {vs : List (V × V)} {acc kvs : List (PV × PV)} {ks : List (Key × V)}, RPs K H μ ps vs → disp ps acc = some kvs → RKs K H μ acc ks →
    ∃ more : List (Key × V), vs = more.map (fun kv => (kV kv.1, kv.2)) ∧ more.length = ps.length ∧ RKs K H μ kvs (mergeK ks more)
  | _, _, acc, kvs, ks, .nil, e, rk => by
    simp [disp] at e
    subst e
    exact ⟨[], rfl, rfl, rk⟩
  | _, _, acc, kvs, ks, .cons (p := p) (q := q) (y := y) r1 r2 rs, e, rk => by
    simp only [disp] at e
    cases hk : keyOk false p with
    | false => rw [hk] at e; cases e
    | true =>
      rw [hk] at e
      obtain ⟨kk, rfl, rfl⟩ := key_of hk r1
      obtain ⟨more, h1, h2, h3⟩ := disp_ok rs (by simpa using e) (put_key (k := kk) r2 rk)
      exact ⟨(kk, y) :: more, by rw [h1]; rfl, by simp [h2], h3⟩
theorem chkPs_len : ∀ {ks vs : List E} {xs : List (Option Expr)} {ys : List Expr}, chkPs D N sc ks vs xs ys = true → ks.length = vs.length := by
  intro ks
  induction ks with
  | nil => intro vs xs ys h; cases vs <;> first | rfl | (simp [chkPs] at h)
  | cons k ks ih =>
    intro vs xs ys h
    cases vs with
    | nil => simp [chkPs] at h
    | cons v vs =>
      cases xs with
      | nil => simp [chkPs] at h
      | cons x xs =>
        cases x with
        | none => simp [chkPs] at h
        | some x =>
          cases ys with
          | nil => simp [chkPs] at h
          | cons y ys =>
            simp only [chkPs, Bool.and_eq_true] at h
            simp [ih h.2]
theorem g_dct {ks vs : List E} {xs : List (Option Expr)} {ys : List Expr} (S : SoundE X C W D N sc R) (h : chkPs D N sc ks vs xs ys = true) (h0 : ks ≠ []) (h15 : (decide (ks.length ≤ 15)) = true) :
    PE X (.Dict xs ys pos) (gE X.K C W fun ρ st => (evPairs R ks vs ρ st).bind fun ps st => bif Nat.ble ps.length 15 then (match disp ps [] with
      | some kvs => .ok (.loc st.next) (st.new (.dct false kvs))
      | none => .stuck) else .stuck) := by
  obtain ⟨a, b, c, d⟩ := pps_ok S pos h
  have h15 := of_decide_eq_true h15
  refine (pe_disp a b c (fun e => h0 (List.eq_nil_of_length_eq_zero (by rw [e] at d; exact d.symm))) (by omega)).imp ?_
  rintro σ H Q ⟨μ, ρ, st, hr, he, z⟩ p np
  have x0 := Ext.priv (u := .dK []) hr np
  have h0 := hr.priv (u := .dK []) np trivial
  have pp : (muPrv μ p).p p := .inl rfl
  refine pairs_ok (f := fun ps st => bif Nat.ble ps.length 15 then (match disp ps [] with
      | some kvs => .ok (.loc st.next) (st.new (.dct false kvs))
      | none => .stuck) else .stuck) (chkPs_len h) x0 h0 (he.ext x0) z fun H' μ' ps us st' ex hr' rp z' => ?_
  have q := ex.prv p pp
  have eD := q.2 _ upd_same
  cases hb : Nat.ble ps.length 15 with
  | false => rw [hb] at z'; exact z'.elim
  | true =>
    rw [hb] at z'
    cases ed : disp ps [] with
    | none => rw [ed] at z'; exact z'.elim
    | some kvs =>
      rw [ed] at z'
      obtain ⟨more, m1, m2, m3⟩ := disp_ok rp ed .nil
      refine ⟨eD, more, m1, by rw [m2]; exact Nat.le_of_ble_eq_true hb, ?_⟩
      have x1 := Ext.grow (u' := .dK (mergeK [] more)) (x0.trans ex) np q.1 eD trivial hr
      have h1 := hr'.grow (u' := .dK (mergeK [] more)) q.1 eD trivial trivial
      have m4 := m3.wk (Wk.grow (K := X.K) (u' := .dK (mergeK [] more)) q.1 eD trivial)
      exact z' _ _ (.ref p) (x1.take h1 q.1 np hr) (h1.take (so := .dct false kvs) q.1 ⟨_, upd_same, m4⟩) (.loc muNew_same)
/-- a new dict, of either kind -/
theorem Hr.newO {K : PySem.W.Frag} {H : Hp} {μ : Mu} {st : Sto} {p : Addr} {u : HO} {so : SO} (h : Hr K H μ st) (np : H p = none) (c : Chg u) (r : RO K (upd H p u) (muPrv μ p) p so) : Ext K H μ (upd H p u) (muNew (muUn (muPrv μ p) p) st.next p) ∧ Hr K (upd H p u) (muNew (muUn (muPrv μ p) p) st.next p) (st.new so) := by
  have x0 := Ext.priv (u := u) h np
  have h0 := h.priv np c
  have pp : (muPrv μ p).p p := .inl rfl
  exact ⟨x0.take h0 pp np h, h0.take pp r⟩
theorem g_dct0 : PE X (.Dict [] [] pos) (gE X.K C W fun ρ st => (.ok (.loc st.next) (st.new (.dct false [])))) := by
  refine pe_dnewK.imp ?_
  rintro σ H Q ⟨μ, ρ, st, hr, he, z⟩ p np
  obtain ⟨x1, h1⟩ := hr.newO (u := .dK []) (so := .dct false []) np trivial ⟨[], upd_same, .nil⟩
  exact z _ _ (.ref p) x1 h1 (.loc muNew_same)
theorem g_dctC : PE X (.Dict [] [] pos) (gE X.K C W fun ρ st => (.ok (.loc st.next) (st.new (.dct true [])))) := by
  refine ⟨fun pins s σ H Q I q => ?_⟩
  obtain ⟨μ, ρ, st, hr, he, z⟩ := q
  have hn := I.hok.fresh (Nat.le_refl s.heap.objs.size)
  have ok : ∀ H', ObjOk X.prog X.w H' (s.heap.push { cls := .type "dict", data := .dict #[] }) s.heap.objs.size (dkO s.heap.objs.size []) := fun H' =>
    dkO_ok (Nat.zero_le _) (beq_eq_false_iff_ne.mpr (Ne.symm (Nat.ne_of_lt I.big))) .nil (Heap.get?_push_size _ rfl) ⟨rfl, rfl, rfl⟩ rfl rfl List.nodup_nil
  obtain ⟨x1, h1⟩ := hr.newO (u := dkO s.heap.objs.size []) (so := .dct true []) hn trivial ⟨[], upd_same, .nil⟩
  exact wpAny_Dict_empty ⟨.ref s.heap.objs.size, _, I.laid (a := s.heap.objs.size) (o := dkO s.heap.objs.size []) (t' := s.toks) (fun _ _ q => Heap.get?_push_of_some _ q) (Nat.le_refl _) (ok _), rfl, z _ _ (.ref s.heap.objs.size) x1 h1 (.loc muNew_same)⟩
end
end Pi
end
section
set_option Elab.async false
set_option linter.all false
set_option maxRecDepth 100000
set_option maxHeartbeats 4000000
namespace Pi
open PySem PySem.Spec PyProof.Rows L2
/-! ### comprehensions of dicts -/
section
variable {X : Cx} {C : Cls} {W : WX} {R : Ops} {t : TV} {ifs : List E} {ke ve : E}
def dcFin : List (PV × PV) → Sto → Out PV := fun acc st => .ok (.loc st.next) (st.new (.dct false acc))
theorem putKs_len {k v : PV} {kvs : List (PV × PV)} : (putKs k v kvs).length ≤ kvs.length + 1 := by
  have m : ∀ l : List (PV × PV), (mapKs k v l).length = l.length := by
    intro l
    induction l with
    | nil => rfl
    | cons p r ih => obtain ⟨a, b⟩ := p; simp [mapKs, ih]
  unfold putKs
  cases (findK k kvs).isSome with
  | true => simp only [cond_true]; rw [m]; omega
  | false => simp
theorem dc_core' {es : Env → Sto → Out Src} {σ : L2.St} {H : Hp} {Q : VK}
    (h : ∃ μ ρ st, Hr X.K H μ st ∧ RE X.K H μ ρ σ ∧ Th X.K C W (RV X.K) ((es ρ st).bind fun src st => (dcAll R t (slotsT t) ifs ke ve ρ src st).bind dcFin) σ H μ Q) :
    tDc (gI X.K C W es) (gG X.K t) (gT X.K C W0 (evTs R ifs)) (gE X.K C W0 (R.e ke)) (gE X.K C W0 (R.e ve)) (slotsT t) σ H Q := by
  obtain ⟨μ, ρ, st, hr, hE, z⟩ := h
  refine ⟨μ, ρ, st, hr, hE, (Th.bind (rel := fun H' μ' src J => RJ X.K src H' μ' J) z).imp ?_⟩
  rintro J H1 ⟨μ1, src, st1, e1, hr1, rj, z1⟩ D nD
  cases src with
  | dyn kk ps => exact z1.elim
  | vals xs =>
    have z2 : Th X.K C W (RV X.K) (((if fitLen xs.length then dcVals R t (slotsT t) ifs ke ve ρ xs [] st1 else .stuck)).bind dcFin) σ H1 μ1 Q := z1
    by_cases hf : fitLen xs.length = true
    · rw [if_pos hf] at z2
      have hz := fitB hf
      have hE1 := hE.ext e1
      refine ⟨fun i m H' => ∃ μ' acc ks st', Ext X.K H1 μ1 H' μ' ∧ Hr X.K H' μ' st' ∧ μ'.p D ∧ H' D = some (.dK ks) ∧ RKs X.K H' μ' acc ks ∧ acc.length ≤ i ∧ m = xs.length - i ∧ i ≤ xs.length ∧
          Th X.K C W (RV X.K) ((dcVals R t (slotsT t) ifs ke ve ρ (xs.drop i) acc st').bind dcFin) σ H1 μ1 Q,
        ⟨xs.length, muPrv μ1 D, [], [], st1, Ext.priv hr1 nD, hr1.priv nD trivial, .inl rfl, upd_same, .nil, Nat.le_refl _, by simp, Nat.zero_le _, z2⟩, ?_⟩
      rintro i m H' ⟨μ', acc, ks, st', ex, hr', pD, eD, rs, hl, rfl, hi, z3⟩
      have j := rj H' μ' st' ex hr' i hi
      simp only [Src.at] at j
      rw [nth_eq] at j
      cases ed : xs.drop i with
      | nil =>
        have hge : xs.length ≤ i := by
          have := congrArg List.length ed
          simp at this
          omega
        rw [List.getElem?_eq_none hge] at j
        rw [ed] at z3
        have z4 : Th X.K C W (RV X.K) (.ok (.loc st'.next) (st'.new (.dct false acc))) σ H1 μ1 Q := z3
        exact .inl ⟨j, z4 _ _ (.ref D) (ex.take hr' pD nD hr1) (hr'.take (so := .dct false acc) pD ⟨ks, eD, rs⟩) (.loc muNew_same)⟩
      | cons x r =>
        have hlt : i < xs.length := by
          have := congrArg List.length ed
          simp at this
          omega
        have hx : xs[i]? = some x := by
          have : (xs.drop i)[0]? = some x := by rw [ed]; rfl
          simpa using this
        have hrr : r = xs.drop (i + 1) := by
          have := congrArg List.tail ed
          simpa using this.symm
        rw [hx] at j
        rw [ed] at z3
        subst hrr
        refine .inr ⟨j.1, fun H2 => ∃ μ2 acc2 ks2 st2, Ext X.K H1 μ1 H2 μ2 ∧ Hr X.K H2 μ2 st2 ∧ μ2.p D ∧ H2 D = some (.dK ks2) ∧ RKs X.K H2 μ2 acc2 ks2 ∧ acc2.length ≤ i + 1 ∧
          Th X.K C W (RV X.K) ((dcVals R t (slotsT t) ifs ke ve ρ (xs.drop (i + 1)) acc2 st2).bind dcFin) σ H1 μ1 Q, fun H2 ⟨μ2, acc2, ks2, st2, a1, a2, a3, a4, a5, a6, a7⟩ => ⟨xs.length - (i + 1), by omega, μ2, acc2, ks2, st2, a1, a2, a3, a4, a5, a6, rfl, hlt, a7⟩, ?_⟩
        intro y H2 hy
        obtain ⟨μ2, ex2, hr2, r2⟩ := j.2 y H2 hy
        have p2 := ex2.prv D pD
        have eD2 := p2.2 _ eD
        have rs2 := rs.wk ex2.toWk
        have ex12 := ex.trans ex2
        simp only [dcVals] at z3
        unfold dcTurn at z3
        cases eb : bindT t x (wipeE ρ (slotsT t)) with
        | none => rw [eb] at z3; exact z3.elim
        | some ρ' =>
          rw [eb] at z3
          dsimp only at z3
          cases et : evTs R ifs ρ' st' with
          | exc c fs st2 => rw [et] at z3; exact z3.elim
          | stuck => rw [et] at z3; exact z3.elim
          | ok b st2 =>
            rw [et] at z3
            simp only [noExc, Out.bind] at z3
            refine ⟨μ2, wipeE ρ (slotsT t), x, ρ', (hE1.ext ex12).wipe _, r2, eb, fun σ2 he2 hl2 hs2 => ⟨wipe_same (by rw [hl2]) hs2, μ2, ρ', st', hr2, he2, ?_⟩⟩
            rw [et]
            intro H3 μ3 b' ex3 hr3 rb
            obtain rfl : b = b' := rb
            have p3 := ex3.prv D p2.1
            have eD3 := p3.2 _ eD2
            have rs3 := rs2.wk ex3.toWk
            have ex13 := ex12.trans ex3
            cases b with
            | false =>
              rw [if_neg (by simp)]
              exact ⟨μ3, acc, ks, st2, ex13, hr3, p3.1, eD3, rs3, Nat.le_succ_of_le hl, z3⟩
            | true =>
              rw [if_pos rfl]
              dsimp only at z3
              cases ek : R.e ke ρ' st2 with
              | exc c fs st3 => rw [ek] at z3; exact z3.elim
              | stuck => rw [ek] at z3; exact z3.elim
              | ok k st3 =>
                rw [ek] at z3
                dsimp only at z3
                refine ⟨μ3, ρ', st2, hr3, he2.ext ex3, ?_⟩
                rw [ek]
                intro H4 μ4 y4 ex4 hr4 r4
                have p4 := ex4.prv D p3.1
                have eD4 := p4.2 _ eD3
                have rs4 := rs3.wk ex4.toWk
                have ex14 := ex13.trans ex4
                cases ev : R.e ve ρ' st3 with
                | exc c fs st4 => rw [ev] at z3; exact z3.elim
                | stuck => rw [ev] at z3; exact z3.elim
                | ok v st4 =>
                  rw [ev] at z3
                  dsimp only at z3
                  refine ⟨μ4, ρ', st3, hr4, (he2.ext ex3).ext ex4, ?_⟩
                  rw [ev]
                  intro H5 μ5 y5 ex5 hr5 r5
                  have p5 := ex5.prv D p4.1
                  have eD5 := p5.2 _ eD4
                  have rs5 := rs4.wk ex5.toWk
                  have ex15 := ex14.trans ex5
                  cases hk : keyOk false k with
                  | false => rw [hk] at z3; exact z3.elim
                  | true =>
                    rw [hk] at z3
                    obtain ⟨kk, rfl, rfl⟩ := key_of hk r4
                    have z6 : Th X.K C W (RV X.K) ((dcVals R t (slotsT t) ifs ke ve ρ (xs.drop (i + 1)) (putKs (keyP kk) v acc) st4).bind dcFin) σ H1 μ1 Q := z3
                    have hlen : ks.length ≤ i := by rw [← rs.length]; exact hl
                    refine ⟨ks, kk, rfl, eD5, by omega, μ5, putKs (keyP kk) v acc, putK ks kk y5, st4, ex15.grow nD p5.1 eD5 trivial hr1, hr5.grow p5.1 eD5 trivial trivial, p5.1, upd_same, (put_key r5 rs5).wk (Wk.grow p5.1 eD5 trivial), ?_, z6⟩
                    have := putKs_len (k := keyP kk) (v := v) (kvs := acc)
                    omega
    · rw [if_neg hf] at z2
      exact z2.elim
theorem g_dcomp {tg iter kx vx : Expr} {xs : List Expr} {scope : Scope} {own : List (Str × Nat)} {pos : Pos} {es : Env → Sto → Out Src} (hc : X.calm = true) (hN : X.N.Nodup) (hi : PI X tg iter (gI X.K C W es)) (ok : BlkOk X.N X.env.scope scope own) (ho : own.map (·.2) = slotsT t)
    (hg : ∀ (s : Shared) (H : Hp) (A : Addr) (cl : List (Str × Addr)) (fp : List Addr), PG (X.blk s H scope (compEnvC scope cl A X.env) fp) tg (gG X.K t))
    (ht : ∀ (s : Shared) (H : Hp) (A : Addr) (cl : List (Str × Addr)) (fp : List Addr), PTs (X.blk s H scope (compEnvC scope cl A X.env) fp) xs (gT X.K C W0 (evTs R ifs)))
    (hk : ∀ (s : Shared) (H : Hp) (A : Addr) (cl : List (Str × Addr)) (fp : List Addr), PE (X.blk s H scope (compEnvC scope cl A X.env) fp) kx (gE X.K C W0 (R.e ke)))
    (he : ∀ (s : Shared) (H : Hp) (A : Addr) (cl : List (Str × Addr)) (fp : List Addr), PE (X.blk s H scope (compEnvC scope cl A X.env) fp) vx (gE X.K C W0 (R.e ve))) (hs : ∀ y, foldedSetIterable iter X.env y = pure y) :
    PE X (.DictComp kx vx [⟨tg, iter, xs, 0⟩] scope pos) (gE X.K C W fun ρ st => (es ρ st).bind fun src st => (dcAll R t (slotsT t) ifs ke ve ρ src st).bind dcFin) := by
  refine (pe_dc hc hN hi ok hg ht hk he hs).imp fun σ H Q q => ?_
  rw [ho]
  exact dc_core' q
/-- y = {..} on one line -/
theorem s_setDc {i : Nat} {y : Str} {py : Pos} {tg iter kx vx : Expr} {xs : List Expr} {scope : Scope} {own : List (Str × Nat)} {pos spos : Pos} {es : Env → Sto → Out Src} (hc : X.calm = true) (hN : X.N.Nodup) (hy : X.N[i]? = some y) (hyl : X.env.scope.names.lookup y = some .local)
    (hsw : swapsWith (.DictComp kx vx [⟨tg, iter, xs, 0⟩] scope pos) (some (.Name y py)) spos.line X.env = pure true) (hi : PI X tg iter (gI X.K C W es)) (ok : BlkOk X.N X.env.scope scope own) (ho : own.map (·.2) = slotsT t)
    (hg : ∀ (s : Shared) (H : Hp) (A : Addr) (cl : List (Str × Addr)) (fp : List Addr), PG (X.blk s H scope (compEnvC scope cl A X.env) fp) tg (gG X.K t))
    (ht : ∀ (s : Shared) (H : Hp) (A : Addr) (cl : List (Str × Addr)) (fp : List Addr), PTs (X.blk s H scope (compEnvC scope cl A X.env) fp) xs (gT X.K C W0 (evTs R ifs)))
    (hk : ∀ (s : Shared) (H : Hp) (A : Addr) (cl : List (Str × Addr)) (fp : List Addr), PE (X.blk s H scope (compEnvC scope cl A X.env) fp) kx (gE X.K C W0 (R.e ke)))
    (he : ∀ (s : Shared) (H : Hp) (A : Addr) (cl : List (Str × Addr)) (fp : List Addr), PE (X.blk s H scope (compEnvC scope cl A X.env) fp) vx (gE X.K C W0 (R.e ve))) (hs : ∀ y, foldedSetIterable iter X.env y = pure y) :
    PS X (.Assign [.Name y py] (.DictComp kx vx [⟨tg, iter, xs, 0⟩] scope pos) spos) (gS X.K C W fun ρ st => ((es ρ st).bind fun src st => (dcAll R t (slotsT t) ifs ke ve ρ src st).bind dcFin).fl ρ fun v st => .nx (setN ρ i (some v)) st) := by
  refine ⟨fun pins s σ H D I h => ?_⟩
  rw [exec_Assign_Name_used _ _ _ _ hsw]
  refine wpAny_bind (wpAny_standAt (wpAny_bind ?_))
  show wpAny _ X.A (do let _ ← comprehension (.DictComp kx vx [⟨tg, iter, xs, 0⟩] scope pos) scope X.env (firstIterPos [⟨tg, iter, xs, 0⟩] pos) newDict false (eval iter X.env) (some (assign (.Name y py) X.env))) _ _ s
  have h : tDc (gI X.K C W es) (gG X.K t) (gT X.K C W0 (evTs R ifs)) (gE X.K C W0 (R.e ke)) (gE X.K C W0 (R.e ve)) (own.map (·.2)) σ H (fun x H1 => gName i x σ H1 D.nx) := by
    rw [ho]
    obtain ⟨μ, ρ, st, hr, hE, z⟩ := h
    refine dc_core' (C := C) (W := W) ⟨μ, ρ, st, hr, hE, (fl_of (rel := RV X.K) hE rfl z).imp ?_⟩
    rintro v H1 ⟨μ1, p, st1, e1, hr1, r1, z1⟩
    exact z1 H1 μ1 (σ.set i (some v)) .refl hr1 ((hE.ext e1).set r1) (by simp)
  refine wpAny_bind (thn (dc_core (Qf := fun _ s' => SP X pins D .next s') hc hN I hi ok hg ht hk he hs h fun L A s' m H' I' q hn f => ?_) fun _ s' hq => wpAny_pure (wpAny_pure hq))
  show wpAny _ _ (assign (.Name y py) X.env (.ref L)) _ _ _
  refine wpAny_assign_Name (store_ok2 (v := V.ref L) I' hN hy (.inl hyl) rfl (fun s2 I2 ⟨a, sb, ha⟩ => ?_) (.inr hyl))
  obtain ⟨f0, f1, f2, f3, f4, f5⟩ := f
  have haC : A ≠ a := by
    rcases ha with z | z
    · rw [z]; exact f1
    · exact fun e => f4 y a z e.symm
  refine ⟨m, hn.sameBut sb haC, fun h3 sb3 => ?_⟩
  exact ⟨_, H', I2.turned (t' := s2.toks) (fun b o hb e => (sb3.2 b hb).trans e) f0 f1 f3 f4 f5, q⟩
end
end Pi
end
section
set_option Elab.async false
set_option linter.all false
set_option maxRecDepth 100000
set_option maxHeartbeats 4000000
namespace Pi
open PySem
/-! ### zip of two things, each a list (true) or a tuple (false) -/
def SIt (b : Bool) (h : Heap) (it l : Addr) (k : Nat) : Prop := match b with
  | true => h.IsListIter it l k
  | false => h.IsTupleIter it l k
def SSq (b : Bool) (h : Heap) (l : Addr) (xs : Array Value) : Prop := match b with
  | true => h.IsList l xs
  | false => h.IsTuple l xs
def sqT : Bool → String
  | true => "list_iterator"
  | false => "tuple_iterator"
theorem SIt.extBut {b : Bool} {h h' : Heap} {a c l : Addr} {i : Nat} (x : SIt b h a l i) (hs : Heap.ExtBut c h h') (hab : a ≠ c) : SIt b h' a l i := by
  cases b with
  | true => exact Heap.IsListIter.extBut x hs hab
  | false => exact Heap.IsTupleIter.extBut x hs hab
theorem SIt.at {b : Bool} {h h' : Heap} {a l : Addr} {i : Nat} (x : SIt b h a l i) (e : ∀ o, h.get? a = some o → h'.get? a = some o) : SIt b h' a l i := by
  cases b with
  | true => exact Heap.IsListIter.at x e
  | false => exact Heap.IsTupleIter.at x e
theorem SSq.extBut {b : Bool} {h h' : Heap} {l c : Addr} {xs : Array Value} (x : SSq b h l xs) (hs : Heap.ExtBut c h h') (hab : l ≠ c) : SSq b h' l xs := by
  cases b with
  | true => exact Heap.IsList.extBut x hs hab
  | false => exact Heap.IsTuple.extBut x hs hab
theorem SIt.obj {b : Bool} {h : Heap} {a l : Addr} {i : Nat} (x : SIt b h a l i) : ∃ o, h.get? a = some o ∧ o.data = .fields #[.ref l, .int i 0] := by
  cases b with
  | true => obtain ⟨o, e, _, d⟩ := (show h.IsListIter a l i from x); exact ⟨o, e, d⟩
  | false => obtain ⟨o, e, _, d⟩ := (show h.IsTupleIter a l i from x); exact ⟨o, e, d⟩
section
variable {prog : Program} {w : World} {A : Around} {E : Value → Shared → Prop} {s : Shared}
theorem nx_item {b : Bool} {it l : Addr} {i : Nat} {items : Array Value} {x : Value} {Q : Value → Shared → Prop} (hit : SIt b s.heap it l i) (hl : SSq b s.heap l items) (hx : items[i]? = some x)
    (hQ : ∀ h', SIt b h' it l (i + 1) → Heap.SameBut it s.heap h' → Q x { s with heap := h' }) : wpAny (model prog w) A (Builtin.SmallTypes.nextOf (.ref it)) Q E s := by
  cases b with
  | true => exact wpAny_nextOf_list_item hit hl hx hQ
  | false => exact RZ.nextOf_tuple_item hit hl hx hQ
theorem nx_end {b : Bool} {it l : Addr} {i : Nat} {items : Array Value} {Q : Value → Shared → Prop} (hh : A.handled = none) (hit : SIt b s.heap it l i) (hl : SSq b s.heap l items) (hx : items[i]? = none)
    (hE : ∀ h' e, Heap.ExtBut it s.heap h' → (∃ o, h'.get? e = some o ∧ o.cls = .type "StopIteration") → E (.ref e) { s with heap := h' }) : wpAny (model prog w) A (Builtin.SmallTypes.nextOf (.ref it)) Q E s := by
  cases b with
  | true => exact wpAny_nextOf_list_end hh hit hl hx hE
  | false => exact RZ.nextOf_tuple_end hh hit hl hx hE
/-- a turn -/
theorem zipA_item {b1 b2 : Bool} {z TI TO i1 i2 l1 l2 : Addr} {k1 k2 : Nat} {xs ys : Array Value} {x y a b : Value} {Q : Value → Shared → Prop} (D : ZipApart z TI TO i1 i2 l1 l2)
    (hz : IsZip s.heap z TI TO .none) (hTI : IsPair s.heap TI (.ref i1) (.ref i2)) (hTO : IsPair s.heap TO a b)
    (h1 : SIt b1 s.heap i1 l1 k1) (h2 : SIt b2 s.heap i2 l2 k2) (hl1 : SSq b1 s.heap l1 xs) (hl2 : SSq b2 s.heap l2 ys) (hx : xs[k1]? = some x) (hy : ys[k2]? = some y)
    (hQ : ∀ h', IsZip h' z TI TO (rawInt s.heap.objs.size) → IsPair h' TO x y → SIt b1 h' i1 l1 (k1 + 1) → SIt b2 h' i2 l2 (k2 + 1) → IsPair h' s.heap.objs.size x y → h'.objs.size = s.heap.objs.size + 1 →
      (∀ c o, c ≠ z → c ≠ TO → c ≠ i1 → c ≠ i2 → s.heap.get? c = some o → h'.get? c = some o) → Q (.ref s.heap.objs.size) { s with heap := h' }) :
    wpAny (model prog w) A (Builtin.«zip.__next__» ⟨[.ref z], []⟩) (fun fin s' => ∃ v, fin = .done (.ret v) ∧ Q v s') E s := by
  show wpAny _ _ (field (.ref z) 2 >>= _) _ _ _
  refine wpAny_bind (wpAny_field hz rfl (x := .bool false) rfl ?_)
  show wpAny _ _ (field (.ref z) 3 >>= _) _ _ _
  refine wpAny_bind (wpAny_field hz rfl (x := .ref TI) rfl ?_)
  refine wpAny_bind (wpAny_seqItems hTI rfl ?_)
  show wpAny _ _ (Builtin.SmallTypes.ownedTupleIsFree (.ref z) >>= _) _ _ _
  refine wpAny_bind ?_
  unfold Builtin.SmallTypes.ownedTupleIsFree
  refine wpAny_bind (wpAny_field hz rfl (x := .none) rfl (wpAny_pure ?_))
  simp only [if_true]
  refine wpAny_bind (wpAny_rule ?_)
  refine wpAny_bind (wpAny_field hz rfl (x := .ref TO) rfl ?_)
  refine wpAny_bind (wpAny_setField_rec hz (by simp) fun g1 z1 s1 => ?_)
  replace z1 : IsZip g1 z TI TO .ellipsis := z1
  refine wpAny_bind ?_
  simp only [List.zipIdx_cons, List.zipIdx_nil, List.forIn_cons, List.forIn_nil]
  refine wpAny_bind (wpAny_bind (wpAny_onRaise ?_))
  show wpAny _ _ (Builtin.SmallTypes.nextOf (.ref i1) >>= _) _ _ _
  refine wpAny_bind (nx_item (h1.extBut s1.extBut D.i1z) (hl1.extBut s1.extBut D.l1z) hx fun g2 a2 s2 => wpAny_pure ?_)
  have t2 : IsPair g2 TO a b := s2.extBut _ _ D.TOi1 (s1.extBut _ _ D.TOz hTO)
  refine wpAny_bind (wpAny_seqItems t2 rfl ?_)
  refine wpAny_bind (wpAny_updateSeq_pair t2 fun g3 t3 s3 => ?_)
  replace t3 : IsPair g3 TO x b := t3
  refine wpAny_bind (wpAny_letGo (wpAny_pure ?_))
  refine wpAny_bind (wpAny_bind (wpAny_onRaise ?_))
  show wpAny _ _ (Builtin.SmallTypes.nextOf (.ref i2) >>= _) _ _ _
  refine wpAny_bind (nx_item (((h2.extBut s1.extBut D.i2z).extBut s2.extBut D.i12.symm).extBut s3.extBut D.TOi2.symm)
    (((hl2.extBut s1.extBut D.l2z).extBut s2.extBut D.l2i1).extBut s3.extBut D.l2TO) hy fun g4 a4 s4 => wpAny_pure ?_)
  have t4 : IsPair g4 TO x b := s4.extBut _ _ D.TOi2 t3
  refine wpAny_bind (wpAny_seqItems t4 rfl ?_)
  refine wpAny_bind (wpAny_updateSeq_pair t4 fun g5 t5 s5 => ?_)
  replace t5 : IsPair g5 TO x y := t5
  refine wpAny_bind (wpAny_letGo (wpAny_pure (wpAny_pure ?_)))
  refine wpAny_bind (wpAny_seqItems t5 rfl ?_)
  refine wpAny_bind (wpAny_newTuple ?_)
  have hsz : g5.objs.size = s.heap.objs.size := by rw [s5.1, s4.1, s3.1, s2.1, s1.1]
  have z5 : IsZip g5 z TI TO .ellipsis := s5.extBut _ _ D.TOz.symm (s4.extBut _ _ D.i2z.symm (s3.extBut _ _ D.TOz.symm (s2.extBut _ _ D.i1z.symm z1)))
  have k5 : ∀ c o, c ≠ z → c ≠ TO → c ≠ i1 → c ≠ i2 → s.heap.get? c = some o → g5.get? c = some o := fun c o c1 c2 c3 c4 e =>
    s5.extBut _ _ c2 (s4.extBut _ _ c4 (s3.extBut _ _ c2 (s2.extBut _ _ c3 (s1.extBut _ _ c1 e))))
  have w1 : SIt b1 g5 i1 l1 (k1 + 1) := ((a2.extBut s3.extBut D.TOi1.symm).extBut s4.extBut D.i12).extBut s5.extBut D.TOi1.symm
  have w2 : SIt b2 g5 i2 l2 (k2 + 1) := a4.extBut s5.extBut D.TOi2.symm
  have zlt : z < g5.objs.size := Heap.lt_size z5
  show wpAny _ _ (Builtin.SmallTypes.ownedTupleHandOut (.ref z) (.ref g5.objs.size) >>= _) _ _ _
  refine wpAny_bind ?_
  unfold Builtin.SmallTypes.ownedTupleHandOut
  have z6 : IsZip (g5.push { cls := .type "tuple", data := .seq #[x, y] }) z TI TO .ellipsis := Heap.get?_push_of_some _ z5
  refine wpAny_bind (wpAny_setField_rec z6 (by simp) fun g7 z7 s7 => ?_)
  replace z7 : IsZip g7 z TI TO (rawInt g5.objs.size) := z7
  refine wpAny_setField_rec z7 (by simp) fun g8 z8 s8 => ?_
  replace z8 : IsZip g8 z TI TO (rawInt g5.objs.size) := z8
  have up : ∀ c o, c ≠ z → g5.get? c = some o → g8.get? c = some o := fun c o c1 e => s8.extBut _ _ c1 (s7.extBut _ _ c1 (Heap.get?_push_of_some _ e))
  have t8 : IsPair g8 g5.objs.size x y := s8.extBut _ _ (Nat.ne_of_gt zlt) (s7.extBut _ _ (Nat.ne_of_gt zlt) (Heap.get?_push_size _ rfl))
  have n8 : g8.objs.size = g5.objs.size + 1 := by rw [s8.1, s7.1, Heap.size_push]
  rw [hsz] at z8 t8 n8
  refine wpAny_pure ⟨_, rfl, ?_⟩
  show Q (.ref g5.objs.size) _
  rw [hsz]
  exact hQ g8 z8 (up _ _ D.TOz t5) (w1.at fun o e => up _ o D.i1z e) (w2.at fun o e => up _ o D.i2z e) t8 n8 fun c o c1 c2 c3 c4 e => up c o c1 (k5 c o c1 c2 c3 c4 e)
/-- the end -/
theorem zipA_end {b1 b2 : Bool} {z TI TO i1 i2 l1 l2 : Addr} {k1 k2 : Nat} {xs ys : Array Value} {a b : Value} {Q : Fin → Shared → Prop} (hh : A.handled = none) (D : ZipApart z TI TO i1 i2 l1 l2)
    (hz : IsZip s.heap z TI TO .none) (hTI : IsPair s.heap TI (.ref i1) (.ref i2)) (hTO : IsPair s.heap TO a b)
    (h1 : SIt b1 s.heap i1 l1 k1) (h2 : SIt b2 s.heap i2 l2 k2) (hl1 : SSq b1 s.heap l1 xs) (hl2 : SSq b2 s.heap l2 ys) (hend : xs[k1]? = none ∨ ys[k2]? = none)
    (hE : ∀ h' e, (∀ c o, c ≠ z → c ≠ TO → c ≠ i1 → c ≠ i2 → s.heap.get? c = some o → h'.get? c = some o) → (∃ o, h'.get? e = some o ∧ o.cls = .type "StopIteration") → E (.ref e) { s with heap := h' }) :
    wpAny (model prog w) A (Builtin.«zip.__next__» ⟨[.ref z], []⟩) Q E s := by
  show wpAny _ _ (field (.ref z) 2 >>= _) _ _ _
  refine wpAny_bind (wpAny_field hz rfl (x := .bool false) rfl ?_)
  show wpAny _ _ (field (.ref z) 3 >>= _) _ _ _
  refine wpAny_bind (wpAny_field hz rfl (x := .ref TI) rfl ?_)
  refine wpAny_bind (wpAny_seqItems hTI rfl ?_)
  show wpAny _ _ (Builtin.SmallTypes.ownedTupleIsFree (.ref z) >>= _) _ _ _
  refine wpAny_bind ?_
  unfold Builtin.SmallTypes.ownedTupleIsFree
  refine wpAny_bind (wpAny_field hz rfl (x := .none) rfl (wpAny_pure ?_))
  simp only [if_true]
  refine wpAny_bind (wpAny_rule ?_)
  refine wpAny_bind (wpAny_field hz rfl (x := .ref TO) rfl ?_)
  refine wpAny_bind (wpAny_setField_rec hz (by simp) fun g1 z1 s1 => ?_)
  replace z1 : IsZip g1 z TI TO .ellipsis := z1
  refine wpAny_bind ?_
  simp only [List.zipIdx_cons, List.zipIdx_nil, List.forIn_cons, List.forIn_nil]
  refine wpAny_bind (wpAny_bind (wpAny_onRaise ?_))
  show wpAny _ _ (Builtin.SmallTypes.nextOf (.ref i1) >>= _) _ _ _
  cases hx : xs[k1]? with
  | none =>
    refine wpAny_bind (nx_end hh (h1.extBut s1.extBut D.i1z) (hl1.extBut s1.extBut D.l1z) hx fun g2 e s2 he => ?_)
    obtain ⟨oe, hoe, hce⟩ := he
    have z2 : IsZip g2 z TI TO .ellipsis := s2 _ _ D.i1z.symm z1
    have ez : e ≠ z := fun x => by subst x; rw [z2] at hoe; cases hoe; simp at hce
    refine wpAny_setField_rec z2 (by simp) fun g3 _ s3 => hE g3 e (fun c o c1 _ c3 _ x => s3.extBut _ _ c1 (s2 _ _ c3 (s1.extBut _ _ c1 x))) ⟨oe, s3.extBut _ _ ez hoe, hce⟩
  | some x =>
    have hy : ys[k2]? = none := by
      rcases hend with h | h
      · rw [hx] at h; cases h
      · exact h
    refine wpAny_bind (nx_item (h1.extBut s1.extBut D.i1z) (hl1.extBut s1.extBut D.l1z) hx fun g2 a2 s2 => wpAny_pure ?_)
    have t2 : IsPair g2 TO a b := s2.extBut _ _ D.TOi1 (s1.extBut _ _ D.TOz hTO)
    refine wpAny_bind (wpAny_seqItems t2 rfl ?_)
    refine wpAny_bind (wpAny_updateSeq_pair t2 fun g3 t3 s3 => ?_)
    refine wpAny_bind (wpAny_letGo (wpAny_pure ?_))
    refine wpAny_bind (wpAny_bind (wpAny_onRaise ?_))
    show wpAny _ _ (Builtin.SmallTypes.nextOf (.ref i2) >>= _) _ _ _
    refine wpAny_bind (nx_end hh (((h2.extBut s1.extBut D.i2z).extBut s2.extBut D.i12.symm).extBut s3.extBut D.TOi2.symm)
      (((hl2.extBut s1.extBut D.l2z).extBut s2.extBut D.l2i1).extBut s3.extBut D.l2TO) hy fun g4 e s4 he => ?_)
    obtain ⟨oe, hoe, hce⟩ := he
    have z4 : IsZip g4 z TI TO .ellipsis := s4 _ _ D.i2z.symm (s3.extBut _ _ D.TOz.symm (s2.extBut _ _ D.i1z.symm z1))
    have ez : e ≠ z := fun x => by subst x; rw [z4] at hoe; cases hoe; simp at hce
    refine wpAny_setField_rec z4 (by simp) fun g5 _ s5 => hE g5 e (fun c o c1 c2 c3 c4 x => s5.extBut _ _ c1 (s4 _ _ c4 (s3.extBut _ _ c2 (s2.extBut _ _ c3 (s1.extBut _ _ c1 x))))) ⟨oe, s5.extBut _ _ ez hoe, hce⟩
theorem nextA_item {b1 b2 : Bool} {z TI TO i1 i2 l1 l2 : Addr} {k1 k2 : Nat} {xs ys : Array Value} {x y a b : Value} {Q : Option Value → Shared → Prop} (D : ZipApart z TI TO i1 i2 l1 l2)
    (hz : IsZip s.heap z TI TO .none) (hTI : IsPair s.heap TI (.ref i1) (.ref i2)) (hTO : IsPair s.heap TO a b)
    (h1 : SIt b1 s.heap i1 l1 k1) (h2 : SIt b2 s.heap i2 l2 k2) (hl1 : SSq b1 s.heap l1 xs) (hl2 : SSq b2 s.heap l2 ys) (hx : xs[k1]? = some x) (hy : ys[k2]? = some y)
    (hQ : ∀ h', IsZip h' z TI TO (rawInt s.heap.objs.size) → IsPair h' TO x y → SIt b1 h' i1 l1 (k1 + 1) → SIt b2 h' i2 l2 (k2 + 1) → IsPair h' s.heap.objs.size x y → h'.objs.size = s.heap.objs.size + 1 →
      (∀ c o, c ≠ z → c ≠ TO → c ≠ i1 → c ≠ i2 → s.heap.get? c = some o → h'.get? c = some o) → Q (some (.ref s.heap.objs.size)) { s with heap := h' }) : wpAny (model prog w) A (pyNext (.ref z)) Q E s := by
  have hT : s.TypeIs (.ref z) "zip" := ⟨_, hz, rfl⟩
  unfold pyNext
  exact wpAny_bind (wpAny_attempt (wpAny_callSpecial?_slot (name := Str.ofString "__next__") hT F.slot_zip_next
    (wpAny_call_entry F.slot_zip_next hT F.entry_zip_next
      (zipA_item D hz hTI hTO h1 h2 hl1 hl2 hx hy fun h' a1 a2 a3 a4 a5 a6 a7 => wpAny_pure (hQ h' a1 a2 a3 a4 a5 a6 a7)) (F.args_zip_next_1 _))))
theorem nextA_end {b1 b2 : Bool} {z TI TO i1 i2 l1 l2 : Addr} {k1 k2 : Nat} {xs ys : Array Value} {a b : Value} {Q : Option Value → Shared → Prop} (hh : A.handled = none) (D : ZipApart z TI TO i1 i2 l1 l2)
    (hz : IsZip s.heap z TI TO .none) (hTI : IsPair s.heap TI (.ref i1) (.ref i2)) (hTO : IsPair s.heap TO a b)
    (h1 : SIt b1 s.heap i1 l1 k1) (h2 : SIt b2 s.heap i2 l2 k2) (hl1 : SSq b1 s.heap l1 xs) (hl2 : SSq b2 s.heap l2 ys) (hend : xs[k1]? = none ∨ ys[k2]? = none)
    (hQ : ∀ h', (∀ c o, c ≠ z → c ≠ TO → c ≠ i1 → c ≠ i2 → s.heap.get? c = some o → h'.get? c = some o) → Q none { s with heap := h' }) : wpAny (model prog w) A (pyNext (.ref z)) Q E s := by
  have hT : s.TypeIs (.ref z) "zip" := ⟨_, hz, rfl⟩
  unfold pyNext
  refine wpAny_bind (wpAny_attempt (wpAny_callSpecial?_slot (name := Str.ofString "__next__") hT F.slot_zip_next
    (wpAny_call_entry F.slot_zip_next hT F.entry_zip_next (zipA_end hh D hz hTI hTO h1 h2 hl1 hl2 hend fun h' e hk he => ?_) (F.args_zip_next_1 _))))
  obtain ⟨o, ho, hc⟩ := he
  refine wpAny_bind (wpAny_isInstance (T := "StopIteration") (b := true) ⟨o, ho, hc⟩ isSubtype_stop ?_)
  exact wpAny_pure (hQ _ hk)
end
end Pi
end
section
set_option Elab.async false
set_option linter.all false
set_option maxRecDepth 100000
set_option maxHeartbeats 4000000
namespace Pi
open PySem
/-! ### a new zip -/
def itO (b : Bool) (l : Addr) : Obj := match b with
  | true => { cls := .type "list_iterator", data := .fields #[.ref l, .int 0 0] }
  | false => { cls := .type "tuple_iterator", data := .fields #[.ref l, .int 0 0] }
abbrev zA1 (b : Bool) (h : Heap) (l1 : Addr) : Heap := h.push (itO b l1)
abbrev zA2 (b c : Bool) (h : Heap) (l1 l2 : Addr) : Heap := (zA1 b h l1).push (itO c l2)
abbrev zA3 (b c : Bool) (h : Heap) (l1 l2 : Addr) : Heap := (zA2 b c h l1 l2).push { cls := .type "tuple", data := .seq #[.ref h.objs.size, .ref (zA1 b h l1).objs.size] }
abbrev zA4 (b c : Bool) (h : Heap) (l1 l2 : Addr) : Heap := (zA3 b c h l1 l2).push { cls := .type "tuple", data := .seq #[.none, .none] }
abbrev zA5 (b c : Bool) (h : Heap) (l1 l2 : Addr) : Heap := (zA4 b c h l1 l2).push { cls := .type "zip", data := .fields #[.none, .bool false, .bool false, .ref (zA2 b c h l1 l2).objs.size, .ref (zA3 b c h l1 l2).objs.size] }
theorem SSq.push {b : Bool} {h : Heap} {l : Addr} {xs : Array Value} (x : SSq b h l xs) (o : Obj) : SSq b (h.push o) l xs := by
  cases b with
  | true => exact Heap.IsList.push x o
  | false => exact Heap.IsTuple.push x o
theorem SIt.new {b : Bool} {h : Heap} {l : Addr} (n : Addr) (e : h.get? n = some (itO b l)) : SIt b h n l 0 := by
  cases b with
  | true => exact ⟨_, e, rfl, rfl⟩
  | false => exact ⟨_, e, rfl, rfl⟩
theorem meetsA_new (b c : Bool) (l1 l2 : Addr) (xs ys : Array Value) :
    Meets (Builtin.«zip.__new__» ⟨[.type "zip", .ref l1, .ref l2], []⟩) (fun _ R s => SSq b s.heap l1 xs ∧ SSq c s.heap l2 ys ∧
      R (.ok (.ret (.ref (zA4 b c s.heap l1 l2).objs.size))) { s with heap := zA5 b c s.heap l1 l2 }) :=
  .of_wp fun prog w A R s h => by
    obtain ⟨hp, g, d, tk, os⟩ := s
    obtain ⟨hl1, hl2, h⟩ := h
    have hsub := sub_zip
    have L2 := hl2.push (itO b l1)
    cases b <;> cases c
    · have M1 : Heap.IsTuple (Shared.heap ⟨hp, g, d, tk, os⟩) l1 xs := hl1
      have M2 : Heap.IsTuple (Shared.heap ⟨hp.push { cls := .type "tuple_iterator", data := .fields #[.ref l1, .int 0 0] }, g, d, tk, os⟩) l2 ys := L2
      wp_walk using wpAny_pyIter_tuple M1, wpAny_pyIter_tuple M2
      exact ⟨_, rfl, h⟩
    · have M1 : Heap.IsTuple (Shared.heap ⟨hp, g, d, tk, os⟩) l1 xs := hl1
      have M2 : Heap.IsList (Shared.heap ⟨hp.push { cls := .type "tuple_iterator", data := .fields #[.ref l1, .int 0 0] }, g, d, tk, os⟩) l2 ys := L2
      wp_walk using wpAny_pyIter_tuple M1, wpAny_pyIter_list M2
      exact ⟨_, rfl, h⟩
    · have M1 : Heap.IsList (Shared.heap ⟨hp, g, d, tk, os⟩) l1 xs := hl1
      have M2 : Heap.IsTuple (Shared.heap ⟨hp.push { cls := .type "list_iterator", data := .fields #[.ref l1, .int 0 0] }, g, d, tk, os⟩) l2 ys := L2
      wp_walk using wpAny_pyIter_list M1, wpAny_pyIter_tuple M2
      exact ⟨_, rfl, h⟩
    · have M1 : Heap.IsList (Shared.heap ⟨hp, g, d, tk, os⟩) l1 xs := hl1
      have M2 : Heap.IsList (Shared.heap ⟨hp.push { cls := .type "list_iterator", data := .fields #[.ref l1, .int 0 0] }, g, d, tk, os⟩) l2 ys := L2
      wp_walk using wpAny_pyIter_list M1, wpAny_pyIter_list M2
      exact ⟨_, rfl, h⟩
section
variable {prog : Program} {w : World} {A : Around} {E : Value → Shared → Prop} {s : Shared}
theorem callA_zip {b c : Bool} {l1 l2 : Addr} {xs ys : Array Value} {Q : Value → Shared → Prop} (hl1 : SSq b s.heap l1 xs) (hl2 : SSq c s.heap l2 ys)
    (h : ∀ h', IsZip h' (s.heap.objs.size + 4) (s.heap.objs.size + 2) (s.heap.objs.size + 3) .none → IsPair h' (s.heap.objs.size + 2) (.ref s.heap.objs.size) (.ref (s.heap.objs.size + 1)) →
      IsPair h' (s.heap.objs.size + 3) .none .none → SIt b h' s.heap.objs.size l1 0 → SIt c h' (s.heap.objs.size + 1) l2 0 → h'.objs.size = s.heap.objs.size + 5 →
      (∀ a o, s.heap.get? a = some o → h'.get? a = some o) → Q (.ref (s.heap.objs.size + 4)) { s with heap := h' }) :
    wpAny (model prog w) A (call (.type "zip") [.ref l1, .ref l2]) Q E s := by
  refine callType_new F.called_zip (by decide) (F.typeCall_zip_2 _ _) (F.newCall_zip_2 _ _) (fun obj => F.args_object_init_3 obj _ _) F.entry_zip_new (meetsA_new b c l1 l2 xs ys) ⟨hl1, hl2, ?_⟩
  have n1 : (zA1 b s.heap l1).objs.size = s.heap.objs.size + 1 := Heap.size_push ..
  have n2 : (zA2 b c s.heap l1 l2).objs.size = s.heap.objs.size + 2 := by rw [Heap.size_push, n1]
  have n3 : (zA3 b c s.heap l1 l2).objs.size = s.heap.objs.size + 3 := by rw [Heap.size_push, n2]
  have n4 : (zA4 b c s.heap l1 l2).objs.size = s.heap.objs.size + 4 := by rw [Heap.size_push, n3]
  have n5 : (zA5 b c s.heap l1 l2).objs.size = s.heap.objs.size + 5 := by rw [Heap.size_push, n4]
  have fr : ∀ (b : Bool) (l : Addr), (itO b l).isFreed = false := fun b l => by cases b <;> rfl
  have e5 : (zA5 b c s.heap l1 l2).get? (zA4 b c s.heap l1 l2).objs.size = some _ := Heap.get?_push_size _ rfl
  have e4 : (zA5 b c s.heap l1 l2).get? (zA3 b c s.heap l1 l2).objs.size = some _ := Heap.get?_push_of_some _ (Heap.get?_push_size _ rfl)
  have e3 : (zA5 b c s.heap l1 l2).get? (zA2 b c s.heap l1 l2).objs.size = some _ := Heap.get?_push_of_some _ (Heap.get?_push_of_some _ (Heap.get?_push_size _ rfl))
  have e2 : (zA5 b c s.heap l1 l2).get? (zA1 b s.heap l1).objs.size = some _ := Heap.get?_push_of_some _ (Heap.get?_push_of_some _ (Heap.get?_push_of_some _ (Heap.get?_push_size _ (fr c l2))))
  have e1 : (zA5 b c s.heap l1 l2).get? s.heap.objs.size = some _ := Heap.get?_push_of_some _ (Heap.get?_push_of_some _ (Heap.get?_push_of_some _ (Heap.get?_push_of_some _ (Heap.get?_push_size _ (fr b l1)))))
  show _ ∧ _
  rw [n2, n3, n4] at e5
  rw [n1, n2] at e3
  rw [n3] at e4
  rw [n1] at e2
  rw [n4]
  exact ⟨⟨_, e5, rfl⟩, h _ e5 e3 e4 (SIt.new _ e1) (SIt.new _ e2) n5 fun a o x =>
    Heap.get?_push_of_some _ (Heap.get?_push_of_some _ (Heap.get?_push_of_some _ (Heap.get?_push_of_some _ (Heap.get?_push_of_some _ x))))⟩
end
end Pi
namespace Pi
open PySem PySem.Spec PyProof.Rows L2
/-! ### zip as what a loop walks -/
def SqB (b : Bool) (K : PySem.W.Frag) (H : Hp) (a : Addr) (xs : List V) : Prop := match b with
  | true => SqL K H a xs
  | false => SqT K H a xs
section
variable {X : Cx} {pins : List (Addr × Obj)} {σ : L2.St} {H : Hp} {s : Shared}
theorem sqB_of {b : Bool} {a : Addr} {xs : List V} (I : Inv X pins σ H s) (h : SqB b X.K H a xs) : ∃ its : List Value, Vals xs its ∧ SSq b s.heap a its.toArray ∧ a < s.heap.objs.size := by
  cases b with
  | true =>
    obtain ⟨its, rv, p, _⟩ := I.list h
    exact ⟨its, rv, p.isList, p.lt⟩
  | false =>
    obtain ⟨its, rv, p, _⟩ := I.tuple h
    obtain ⟨o, ho, _⟩ := id p
    exact ⟨its, rv, (show s.heap.IsTuple a its.toArray from p), Heap.lt_size ho⟩
theorem sqB_inj {b : Bool} {a : Addr} {xs ys : List V} (I : Inv X pins σ H s) (h : SqB b X.K H a xs) (g : SqB b X.K H a ys) : xs = ys := by
  cases b with
  | true => exact I.list_inj h g
  | false => exact I.tuple_inj h g
end
/-- the two as they stand at each turn, the items in new pairs -/
def ItzB (b c : Bool) (K : PySem.W.Frag) (a a2 : Addr) : It :=
  ⟨fun i H => ∃ (xs ys : List V) (x y : V), SqB b K H a xs ∧ SqB c K H a2 ys ∧ xs[i]? = some x ∧ ys[i]? = some y,
    fun i H v H' => ∃ T x y, v = .ref T ∧ H T = none ∧ H' = upd H T (.tup [x, y]) ∧ (∀ xs, SqB b K H a xs → xs[i]? = some x) ∧ ∀ ys, SqB c K H a2 ys → ys[i]? = some y,
    fun i H => ∃ xs ys : List V, SqB b K H a xs ∧ SqB c K H a2 ys ∧ (xs.length ≤ i ∨ ys.length ≤ i)⟩
theorem turnB {b c : Bool} {P : Program} {w : World} {K : PySem.W.Frag} {elts : List Expr} {kk : Nat} {tpos : Pos} {a a2 z TI TO i1 i2 : Addr} (D : ZipApart z TI TO i1 i2 a a2) :
    Turn P w K (.Tuple elts kk tpos) (ItzB b c K a a2) [z, TI, TO, i1, i2] z (fun i h => IsZip h z TI TO .none ∧ IsPair h TI (.ref i1) (.ref i2) ∧ (∃ x y, IsPair h TO x y) ∧ SIt b h i1 a i ∧ SIt c h i2 a2 i) where
  mem := by simp
  obj := fun i h st q hc => by
    obtain ⟨hz, hTI, ⟨x, y, hTO⟩, h1, h2⟩ := st
    obtain ⟨o1, e1, d1⟩ := h1.obj
    obtain ⟨o2, e2, d2⟩ := h2.obj
    have e' : q = z ∨ q = TI ∨ q = TO ∨ q = i1 ∨ q = i2 := by simpa using hc
    rcases e' with r | r | r | r | r
    · rw [r]; exact ⟨_, hz, fun v q => nomatch q⟩
    · rw [r]; exact ⟨_, hTI, fun v q => nomatch q⟩
    · rw [r]; exact ⟨_, hTO, fun v q => nomatch q⟩
    · rw [r]; exact ⟨o1, e1, fun v q => by rw [d1] at q; cases q⟩
    · rw [r]; exact ⟨o2, e2, fun v q => by rw [d2] at q; cases q⟩
  keep := fun i h h' st k => by
    obtain ⟨hz, hTI, ⟨x, y, hTO⟩, h1, h2⟩ := st
    exact ⟨k z (by simp) _ hz, k TI (by simp) _ hTI, ⟨x, y, k TO (by simp) _ hTO⟩, h1.at fun o q => k i1 (by simp) o q, h2.at fun o q => k i2 (by simp) o q⟩
  item := by
    intro X hP hw hK hc i pins s σ H E I hf st hg
    subst hP hw hK
    obtain ⟨hz, hTI, ⟨x0, y0, hTO⟩, h1, h2⟩ := st
    obtain ⟨xs, ys, x, y, hqx, hqy, hx, hy⟩ := hg
    obtain ⟨its, rv, p, _⟩ := sqB_of I hqx
    obtain ⟨its2, rv2, p2, _⟩ := sqB_of I hqy
    obtain ⟨u, hu, ru⟩ := rv.get hx
    obtain ⟨u2, hu2, ru2⟩ := rv2.get hy
    have hzl : z < s.heap.objs.size := Heap.lt_size hz
    obtain ⟨oi1, ei1, _⟩ := h1.obj
    obtain ⟨oi2, ei2, _⟩ := h2.obj
    refine nextA_item D hz hTI hTO h1 h2 p p2 (x := u) (y := u2) (by simpa using hu) (by simpa using hu2) fun h' z' TO' h1' h2' hT hsz hk => ?_
    refine ⟨_, rfl, wpAny_letOwnedTupleGo_zip (s := { s with heap := h' }) z' fun h'' z'' sb => ?_⟩
    have hT2 : h''.get? s.heap.objs.size = some { cls := .type "tuple", data := .seq #[u, u2] } := (sb.2 _ (Nat.ne_of_gt hzl)).trans hT
    have new : ObjOk X.prog X.w (upd H s.heap.objs.size (.tup [x, y])) h'' s.heap.objs.size (.tup [x, y]) :=
      ⟨by show 2 ≤ sizeLine; decide, [u, u2], .cons ru (.cons ru2 .nil), ⟨_, hT2, rfl, _, rfl⟩⟩
    have I1 : Inv X pins σ (upd H s.heap.objs.size (.tup [x, y])) { s with heap := h'' } :=
      I.turnedNew (t' := s.toks) (ch := [z, TI, TO, i1, i2]) (fun q o hb e => (sb.2 q (fun r => hb (by simp [r]))).trans (hk q o (fun r => hb (by simp [r])) (fun r => hb (by simp [r])) (fun r => hb (by simp [r])) (fun r => hb (by simp [r])) e)) hf (Nat.le_refl _) new
    refine ⟨.ref s.heap.objs.size, _, I1, rfl, ⟨_, x, y, rfl, I.hok.fresh (Nat.le_refl _), rfl, fun l hl => by rw [sqB_inj I hl hqx]; exact hx, fun l hl => by rw [sqB_inj I hl hqy]; exact hy⟩, ⟨z'', ?_, ⟨u, u2, ?_⟩, ?_, ?_⟩, fun q hcm => ?_⟩
    · exact (sb.2 _ D.TIz).trans (hk _ _ D.TIz D.TITO D.TIi1 D.TIi2 hTI)
    · exact (sb.2 _ D.TOz).trans TO'
    · exact h1'.at fun o q => (sb.2 _ D.i1z).trans q
    · exact h2'.at fun o q => (sb.2 _ D.i2z).trans q
    · have hlt : q < s.heap.objs.size := by
        have e' : q = z ∨ q = TI ∨ q = TO ∨ q = i1 ∨ q = i2 := by simpa using hcm
        rcases e' with r | r | r | r | r
        · rw [r]; exact hzl
        · rw [r]; exact Heap.lt_size hTI
        · rw [r]; exact Heap.lt_size hTO
        · rw [r]; exact Heap.lt_size ei1
        · rw [r]; exact Heap.lt_size ei2
      rw [upd_ne (Nat.ne_of_lt hlt)]
      exact (hf q hcm).1
  done := by
    intro X hP hw hK hc i pins s σ H E I hf st hg
    subst hP hw hK
    obtain ⟨hz, hTI, ⟨x0, y0, hTO⟩, h1, h2⟩ := st
    obtain ⟨xs, ys, hqx, hqy, hend⟩ := hg
    obtain ⟨its, rv, p, _⟩ := sqB_of I hqx
    obtain ⟨its2, rv2, p2, _⟩ := sqB_of I hqy
    have l1 := rv.length
    have l2 := rv2.length
    have he : its.toArray[i]? = none ∨ its2.toArray[i]? = none := by
      rcases hend with q | q
      · exact .inl (by simp; omega)
      · exact .inr (by simp; omega)
    exact nextA_end (I.ok.hd hc) D hz hTI hTO h1 h2 p p2 he fun h' hk => ⟨rfl, I.turnedL (t' := s.toks) (ch := [z, TI, TO, i1, i2]) (fun q o hb e =>
      hk q o (fun r => hb (by simp [r])) (fun r => hb (by simp [r])) (fun r => hb (by simp [r])) (fun r => hb (by simp [r])) e) hf⟩
  self := fun A i s Q E st h => wpAny_pyIter_zip st.1 h
def iZipB (K : PySem.W.Frag) (ta : TA) : TI := fun σ H R => ta σ H fun vs H1 => ∃ b c a a2 xs ys, vs = [.ref a, .ref a2] ∧ SqB b K H1 a xs ∧ SqB c K H1 a2 ys ∧ R (ItzB b c K a a2) H1
theorem pi_zipB {X : Cx} {e e2 : Expr} {ta : TA} {p pos tpos : Pos} {elts : List Expr} {kk : Nat} (hg : Gl X "zip") (hm : X.mg "zip" = none) (ha : PA X [e, e2] ta)
    (hs : starEach [e, e2] X.env = (false, eval e X.env) :: starEach [e2] X.env) (hpl : (backTo pos (starEach [e2] X.env)).any (·.1) = false) :
    PI X (.Tuple elts kk tpos) (.Call (.Name "zip" p) [e, e2] [] pos) (iZipB X.K ta) := by
  refine ⟨fun pins s σ H R I h => ?_⟩
  refine Call_ (ld_blt I hg hm PyProof.Rows.boot_zip (PyProof.Rows.callWith_type1 (thn (ha.run pos pins s σ H _ I h) fun us s1 ⟨vs, H1, I1, r1, q1⟩ => ?_) hs hpl))
  obtain ⟨b, c, a, a2, xs, ys, ex, hqx, hqy, q⟩ := q1
  subst ex
  cases r1 with
  | cons r rr =>
    cases rr with
    | cons r' rr =>
      cases rr
      cases r
      cases r'
      obtain ⟨its, rv, p1, lt1⟩ := sqB_of I1 hqx
      obtain ⟨its2, rv2, p2, lt2⟩ := sqB_of I1 hqy
      refine callA_zip p1 p2 fun h' hz hTI hTO h1 h2 hsz hk => wpAny_pyIter_zip hz ?_
      have I2 : Inv X pins σ H1 { s1 with heap := h' } := I1.kept (t' := s1.toks) hk
      refine ⟨s1.heap.objs.size + 4, [s1.heap.objs.size + 4, s1.heap.objs.size + 2, s1.heap.objs.size + 3, s1.heap.objs.size, s1.heap.objs.size + 1], _, _, H1, rfl, I2, turnB (PySem.W.ktu_apart s1.heap.objs.size a a2 lt1 lt2), ⟨hz, hTI, ⟨_, _, hTO⟩, h1, h2⟩, fun q hcm => ?_, q⟩
      have e' : q = s1.heap.objs.size + 4 ∨ q = s1.heap.objs.size + 2 ∨ q = s1.heap.objs.size + 3 ∨ q = s1.heap.objs.size ∨ q = s1.heap.objs.size + 1 := by simpa using hcm
      have hle : s1.heap.objs.size ≤ q := by
        rcases e' with z | z | z | z | z
        · rw [z]; exact Nat.le_add_right _ _
        · rw [z]; exact Nat.le_add_right _ _
        · rw [z]; exact Nat.le_add_right _ _
        · rw [z]; exact Nat.le_refl _
        · rw [z]; exact Nat.le_add_right _ _
      exact I1.fpOk hle (I1.hok.fresh hle)
end Pi
end
section
set_option Elab.async false
set_option linter.all false
set_option maxRecDepth 100000
set_option maxHeartbeats 4000000
namespace Pi
open PySem PySem.Spec PyProof.Rows L2
/-- a list, not a tuple -/
def kb : PV → Bool
  | .tup _ => false
  | _ => true
section
variable {K : PySem.W.Frag} {H : Hp} {μ : Mu} {st : Sto}
theorem items_kb {p : PV} {x : V} {ps : List PV} (h : Hr K H μ st) (r : RV K H μ p x) (e : itemsOf st p = some ps) : ∃ a vs, x = .ref a ∧ SqB (kb p) K H a vs ∧ RVs K H μ ps vs := by
  cases r with
  | tup hl rs => cases e; exact ⟨_, _, rfl, hl, rs⟩
  | lst hl rs => cases e; exact ⟨_, _, rfl, hl.sq, rs⟩
  | @loc n a m =>
    obtain ⟨a, vs, h1, h2, h3⟩ := list_of h (.loc m) (show listOf st (.loc n) = some ps from e)
    exact ⟨a, vs, h1, h2.sq, h3⟩
  | _ => cases e
theorem items_any {p : PV} {ps : List PV} (st' : Sto) (e : itemsOf ⟨0, []⟩ p = some ps) : itemsOf st' p = some ps := by
  cases p with
  | tup xs => exact e
  | lst xs => exact e
  | loc n => simp [itemsOf, Sto.get, getO] at e
  | _ => cases e
theorem nth_pairs : ∀ (ps qs : List PV) (i : Nat), nth (pairsL ps qs) i = match nth ps i, nth qs i with
    | some x, some y => some (.tup [x, y])
    | _, _ => none
  | [], qs, i => by simp [pairsL, nth]
  | p :: ps, [], i => by
    simp only [pairsL, nth]
    cases nth (p :: ps) i <;> rfl
  | p :: ps, q :: qs, 0 => by simp [pairsL, nth]
  | p :: ps, q :: qs, i + 1 => by
    simp only [pairsL, nth]
    exact nth_pairs ps qs i
/-- what both give at a turn -/
theorem zip_turn {p q : PV} {a a2 : Addr} {H' : Hp} {μ' : Mu} {st' : Sto} {ps qs : List PV} (r1 : RV K H' μ' p (.ref a)) (r2 : RV K H' μ' q (.ref a2)) (hr : Hr K H' μ' st') (e1 : itemsOf st' p = some ps) (e2 : itemsOf st' q = some qs) (i : Nat) :
    match (match nth ps i, nth qs i with
      | some x, some y => some (some (PV.tup [x, y]))
      | _, _ => some none) with
    | none => True
    | some none => (ItzB (kb p) (kb q) K a a2).stop i H'
    | some (some x) => (ItzB (kb p) (kb q) K a a2).go i H' ∧ ∀ y H2, (ItzB (kb p) (kb q) K a a2).yld i H' y H2 → ∃ μ2, Ext K H' μ' H2 μ2 ∧ Hr K H2 μ2 st' ∧ RV K H2 μ2 x y := by
  obtain ⟨b1, vs, q1, s1, rs1⟩ := items_kb hr r1 e1
  obtain ⟨b2, us, q2, s2, rs2⟩ := items_kb hr r2 e2
  cases q1
  cases q2
  cases n1 : nth ps i with
  | none => exact ⟨vs, us, s1, s2, .inl (nth_none rs1 n1)⟩
  | some x =>
    cases n2 : nth qs i with
    | none => exact ⟨vs, us, s1, s2, .inr (nth_none rs2 n2)⟩
    | some y =>
      obtain ⟨v, g1, g2⟩ := nth_some rs1 n1
      obtain ⟨u, f1, f2⟩ := nth_some rs2 n2
      refine ⟨⟨vs, us, v, u, s1, s2, g1, f1⟩, fun w H2 ⟨T, x2, y2, ex, np, eH, k1, k2⟩ => ?_⟩
      subst ex
      have w1 := k1 vs s1
      rw [g1] at w1
      cases w1
      have w2 := k2 us s2
      rw [f1] at w2
      cases w2
      subst eH
      exact ⟨μ', Ext.made np, hr.made np, RV.tupMade (st := st') np (.cons g2 (.cons f2 .nil))⟩
theorem rj_zipV {p q : PV} {a a2 : Addr} {ps qs : List PV} (r1 : RV K H μ p (.ref a)) (r2 : RV K H μ q (.ref a2)) (e1 : itemsOf ⟨0, []⟩ p = some ps) (e2 : itemsOf ⟨0, []⟩ q = some qs) : RJ K (.vals (pairsL ps qs)) H μ (ItzB (kb p) (kb q) K a a2) := by
  intro H' μ' st' e hr i hl
  have z := zip_turn (r1.wk e.toWk) (r2.wk e.toWk) hr (items_any st' e1) (items_any st' e2) i
  simp only [Src.at]
  rw [nth_pairs]
  cases n1 : nth ps i with
  | none => rw [n1] at z; exact z
  | some x =>
    cases n2 : nth qs i with
    | none => rw [n1, n2] at z; exact z
    | some y => rw [n1, n2] at z; exact z
theorem rj_zipD {p q : PV} {a a2 : Addr} (r1 : RV K H μ p (.ref a)) (r2 : RV K H μ q (.ref a2)) : RJ K (.dyn .zip [p, q]) H μ (ItzB (kb p) (kb q) K a a2) := by
  intro H' μ' st' e hr i hl
  simp only [Src.at]
  cases e1 : itemsOf st' p with
  | none => trivial
  | some ps =>
    cases e2 : itemsOf st' q with
    | none => trivial
    | some qs => exact zip_turn (r1.wk e.toWk) (r2.wk e.toWk) hr e1 e2 i
end
section
variable {X : Cx} {C : Cls} {W : WX} {a b : Expr} {ea eb : Env → Sto → Out PV} {p pos tpos : Pos} {elts : List Expr} {kk : Nat}
theorem g_zip (hg : Gl X "zip") (hm : X.mg "zip" = none) (ha : PE X a (gE X.K C W ea)) (hb : PE X b (gE X.K C W eb)) (h1 : notStar a = true) (h2 : notStar b = true) :
    PI X (.Tuple elts kk tpos) (.Call (.Name "zip" p) [a, b] [] pos) (gI X.K C W fun ρ st => (ea ρ st).bind fun v st => (eb ρ st).bind fun u st => Out.of (srcOf .zip [v, u] st) st) := by
  refine ⟨fun pins s σ H Rc I q => (pi_zipB hg hm (pa_cons ha (pa_cons hb pa_nil (star_of h2)) (star_of h1)) (star_of h1) (by rw [star_of h2]; rfl)).run pins s σ H Rc I (gE.imp ?_ (gI.two q))⟩
  intro x H1 q1
  refine gE.imp ?_ q1
  rintro y H2 ⟨μ, st, q, q2, src, hr, r, r2, e, z⟩
  simp only [srcOf] at e
  split at e
  · rename_i xs ys e1 e2
    cases e
    obtain ⟨a1, vs, rfl, s1, rs1⟩ := items_kb hr r (items_any st e1)
    obtain ⟨a2, us, rfl, s2, rs2⟩ := items_kb hr r2 (items_any st e2)
    exact ⟨kb q, kb q2, a1, a2, vs, us, rfl, s1, s2, z _ (rj_zipV r r2 e1 e2)⟩
  · split at e
    · rename_i xs ys e1 e2
      cases e
      obtain ⟨a1, vs, rfl, s1, rs1⟩ := items_kb hr r e1
      obtain ⟨a2, us, rfl, s2, rs2⟩ := items_kb hr r2 e2
      exact ⟨kb q, kb q2, a1, a2, vs, us, rfl, s1, s2, z _ (rj_zipD r r2)⟩
    · cases e
end
end Pi
end
section
set_option Elab.async false
set_option linter.all false
set_option maxRecDepth 100000
set_option maxHeartbeats 4000000
/-! own rules, first part: defs that are called where nothing is being shown (so that repr may be asked), repr of data -/
namespace Own
open PySem PySem.Spec PyProof.Rows L2

/-- nothing is being shown around -/
abbrev Quiet (A : Around) : Prop := A.guards = some []
theorem Quiet.deeper {A : Around} (h : Quiet A) (env : Env) : Quiet (A.deeper env) := by
  obtain ⟨a, b, c, g, u⟩ := A
  exact h
/-- a promise that holds where nothing is being shown -/
structure FnG (P : Program) (w : World) (K : PySem.W.Frag) (mg : Str → Option Value) (base : Heap) (CX : CXT) (k : Nat) (f : Addr) (fd : FuncData) (ps : List Str) (sp : Sp) : Prop where
  len : ∀ vs H Q E, sp vs H Q E → vs.length = ps.length
  run : ∀ (A : Around), Quiet A → ∀ (outer : List Env) (s : Shared) (H : Hp) (args : Args) (us : List Value) (vs : List V) (Q : VK) (E : XK), Room k A → Env0 P w K mg base A outer s H →
    BindsTo s fd args (ps.zip us) → Vals vs us → sp vs H Q E → codeAny (model P w) A (.call (.ref f) args) (CR CX outer P w H s Q E) s

section
variable {CX : CXT} {P : Program} {w : World} {K : PySem.W.Frag} {mg : Str → Option Value} {base : Heap} {k : Nat} {f : Addr} {x qual : Str} {st : Stmt} {fd : FuncData} {N ps : List Str} {sp : Sp}
/-- the rule for such a def -/
theorem fnG_ok (F : Fun K x qual st f fd) (S : FnScope N ps (defScope st)) (len : ∀ vs H Q E, sp vs H Q E → vs.length = ps.length)
    (hb : ∀ (cdv : Value) (A : Around), Quiet A → ∀ (outer : List Env) (s : Shared) (H : Hp) (vs : List V) (Q : VK) (E : XK), Room k (A.deeper (envOfC qual (defScope st) s.heap.objs.size f cdv)) → sp vs H Q E →
      ∃ t, PSs (cxOf CX0 P w K mg base N qual (defScope st) f cdv A outer s H E) (defBody st) t ∧ t { nx := fun _ H' => Q .non H', rt := Q } (start N vs) H) :
    FnG P w K mg base CX0 (k + 1) f fd ps sp := by
  obtain ⟨oc, od, kV, doc, pm, an, cdv, ct, osl, rfl, lk, hcd⟩ := F.ex
  constructor
  · exact len
  intro A hq outer s H args us vs Q E hr e0 hbi r hsp
  have up : ∀ b o, base.get? b = some o → s.heap.get? b = some o := fun b o e => (e0.bs b o e).1
  have inK : K.In s.heap := e0.mod.kin.keeps up
  have hlim : s.heap.NoLimit := e0.mod.nolimit.keeps up
  refine codeAny_call_function hr.depth (inK _ _ lk) rfl S.co S.gen rfl (PySem.W.codeRec_of inK hcd) (hbi _ _ _ _ ?_)
  refine wpAny_newFunctionEnv_cells S.kind (fun y hy => ?_) fun env he s1 xx => ?_
  · rcases S.par y.1 (List.of_mem_zip (show (y.1, y.2) ∈ ps.zip us from hy)).1 with q | q
    · exact Or.inl q
    · exact Or.inr ⟨q, PySem.W.cellsFrom_some _ _ _ (Or.inl q)⟩
  · cases he
    refine ⟨hlim.keeps xx.toInCall.keep, codeAny_func ?_⟩
    obtain ⟨t, ht, hgoal⟩ := hb cdv A hq outer s H vs Q E (hr.deeper _) hsp
    refine wpAny_mono (ht.run [] s1 (start N vs) H _ (inv_start S hr.hd e0 (len _ _ _ _ hsp) r xx) hgoal) (fun fl s' hs => ?_) (fun _ _ z => z)
    cases fl with
    | brk => obtain ⟨_, _, _, z⟩ := hs; exact z.elim
    | cont => obtain ⟨_, _, _, z⟩ := hs; exact z.elim
    | next =>
      obtain ⟨_, H', J, z⟩ := hs
      exact ⟨V.non, H', J.os, J.bare, J.base, J.hok, rfl, z⟩
    | ret u =>
      obtain ⟨v, _, H', J, rv, z⟩ := hs
      exact ⟨v, H', J.os, J.bare, J.base, J.hok, rv, z⟩
theorem FnG.of (F : FnOk P w K mg base CX k f fd ps sp) : FnG P w K mg base CX k f fd ps sp := ⟨F.len, fun A _ => F.run A⟩
end
section
variable {X : Cx} {CX : CXT} {k : Nat} {f C : Addr} {fd : FuncData} {ps : List Str} {sp : Sp} {dvs : List V} {ds : List Value} {E : XK} {x m : Str} {p pos apos : Pos} {e o : Expr} {es : List Expr} {ta : TE} {t : TA}
theorem run_fnG {pins : List (Addr × Obj)} {σ : L2.St} {H : Hp} {s : Shared} {Q : VK} {us : List Value} {vs : List V} (hq : Quiet X.A) (F : FnG X.prog X.w X.K X.mg X.base CX0 k f fd ps sp) (hr : Room k X.A) (hb : Binds X.K fd ps [])
    (I : Inv X pins σ H s) (r : Vals vs us) (h : sp vs H Q E0) : wpAny (model X.prog X.w) X.A (call (.ref f) us) (EP X pins σ Q) X.xe s := by
  have hl : (us ++ []).length = ps.length := by
    rw [List.append_nil, ← Paired.length r]
    exact F.len _ _ _ _ h
  have hb' := hb s us I.kIn hl
  rw [List.append_nil] at hb'
  refine wpAny_call (codeAny_mono (F.run X.A hq X.stack s H ⟨us, []⟩ us vs Q E0 hr I.env0 hb' r h) fun r s' z => ?_)
  match r, z with
  | .error _, z => exact z.elim
  | .ok (.ret _), z => exact I.after z
  | .ok .next, z => exact z.elim
  | .ok .brk, z => exact z.elim
  | .ok .cont, z => exact z.elim
theorem pe_callG (hq : Quiet X.A) (F : FnG X.prog X.w X.K X.mg X.base CX0 k f fd ps sp) (hr : Room k X.A) (hg : Gl X x) (hm : X.mg x = some (.ref f)) (hk : PySem.W.keepIn X.K (.ref f) = true) (hb : Binds X.K fd ps [])
    (ha : PA X (e :: es) t) (hdb : (x == ("__debug__" : Str)) = false := by decide) (he : starEach (e :: es) X.env = (false, eval e X.env) :: starEach es X.env := by rfl) (hpl : (backTo pos (starEach es X.env)).any (·.1) = false := by rfl) :
    PE X (.Call (.Name x p) (e :: es) [] pos) (fun σ H Q => t σ H fun vs H1 => sp vs H1 Q E0) := by
  constructor
  intro pins s σ H Q I h
  refine wpAny_Call_Name_kw (ld_glob I hg hm ?_ hdb)
  exact PySem.W.callWith_K (h₀ := X.base) I.ok.mod.kin hk (thn (ha.run pos pins s σ H _ I h) fun us s1 ⟨vs, H1, I1, r, q⟩ => ⟨I1.kIn, run_fnG hq F hr hb I1 r q⟩) he hpl
theorem pe_callG0 (hq : Quiet X.A) (F : FnG X.prog X.w X.K X.mg X.base CX0 k f fd [] sp) (hr : Room k X.A) (hg : Gl X x) (hm : X.mg x = some (.ref f)) (hk : PySem.W.keepIn X.K (.ref f) = true) (hb : Binds X.K fd [] [])
    (hdb : (x == ("__debug__" : Str)) = false := by decide) : PE X (.Call (.Name x p) [] [] pos) (fun σ H Q => sp [] H Q E0) := by
  constructor
  intro pins s σ H Q I h
  refine wpAny_Call_Name_kw (ld_glob I hg hm ?_ hdb)
  exact PySem.W.callWith_K0 I.kIn hk (run_fnG (us := []) hq F hr hb I .nil h)
end
end Own
end
section
set_option Elab.async false
set_option linter.all false
set_option maxRecDepth 100000
set_option maxHeartbeats 4000000
/-! repr of data over the abstract heap -/
namespace Own
open PySem PySem.Spec PyProof.Rows L2

theorem ram_nil {h : Heap} {n : Nat} : ReadAtMost h n [] := by
  intro b hb
  cases hb
def keyD : Key → PyData
  | .inl i => .int i
  | .inr x => .str x
mutual
/-- a value is a datum: as Dp, dicts too -/
inductive Dq (K : PySem.W.Frag) (H : Hp) : V → PyData → Prop
  | non : Dq K H .non .none
  | bl (b : Bool) : Dq K H (.bl b) (.bool b)
  | int (i : Int) : Dq K H (.int i) (.int i)
  | str (x : Str) : Dq K H (.str x) (.str x)
  | lst {a : Addr} {xs : List V} {ds : List PyData} (h : SqL K H a xs) (r : DqAll K H xs ds) : Dq K H (.ref a) (.list ds)
  | tup {a : Addr} {xs : List V} {ds : List PyData} (h : SqT K H a xs) (r : DqAll K H xs ds) : Dq K H (.ref a) (.tuple ds)
  | dk {a : Addr} {kvs : List (Key × V)} {ds : List PyData} (h : H a = some (.dK kvs)) (r : DqAll K H (kvs.map (·.2)) ds) : Dq K H (.ref a) (.dict ((kvs.map fun p => keyD p.1).zip ds))
  | dt {a : Addr} {kvs : List (List Key × V)} {ds : List PyData} (h : H a = some (.dT kvs)) (r : DqAll K H (kvs.map (·.2)) ds) : Dq K H (.ref a) (.dict ((kvs.map fun p => PyData.tuple (p.1.map keyD)).zip ds))
inductive DqAll (K : PySem.W.Frag) (H : Hp) : List V → List PyData → Prop
  | nil : DqAll K H [] []
  | cons {v : V} {vs : List V} {d : PyData} {ds : List PyData} (h : Dq K H v d) (r : DqAll K H vs ds) : DqAll K H (v :: vs) (d :: ds)
end
theorem DqAll.len {K : PySem.W.Frag} {H : Hp} : ∀ {vs : List V} {ds : List PyData}, DqAll K H vs ds → vs.length = ds.length
  | _, _, .nil => rfl
  | _, _, .cons _ r => congrArg Nat.succ r.len
mutual
theorem Dq.same {K : PySem.W.Frag} {H H' : Hp} (s : Same H H') : ∀ {v : V} {d : PyData}, Dq K H v d → Dq K H' v d
  | _, _, .non => .non
  | _, _, .bl b => .bl b
  | _, _, .int i => .int i
  | _, _, .str x => .str x
  | _, _, .lst h r => .lst (s.seq h) (DqAll.same s r)
  | _, _, .tup h r => .tup (by
      rcases h with (h | ⟨o, h⟩) | h
      · exact .inl (.inl (s _ _ h))
      · exact .inl (.inr ⟨o, s _ _ h⟩)
      · exact .inr h) (DqAll.same s r)
  | _, _, .dk h r => .dk (s _ _ h) (DqAll.same s r)
  | _, _, .dt h r => .dt (s _ _ h) (DqAll.same s r)
theorem DqAll.same {K : PySem.W.Frag} {H H' : Hp} (s : Same H H') : ∀ {vs : List V} {ds : List PyData}, DqAll K H vs ds → DqAll K H' vs ds
  | _, _, .nil => .nil
  | _, _, .cons h r => .cons (Dq.same s h) (DqAll.same s r)
end

theorem map_fst_zip' {α β : Type} : ∀ (l : List α) (r : List β), l.length = r.length → (l.zip r).map (·.1) = l
  | [], [], _ => rfl
  | a :: l, b :: r, h => by
    have e := map_fst_zip' l r (Nat.succ.inj h)
    simp only [List.zip_cons_cons, List.map_cons, e]
theorem map_snd_zip' {α β : Type} : ∀ (l : List α) (r : List β), l.length = r.length → (l.zip r).map (·.2) = r
  | [], [], _ => rfl
  | a :: l, b :: r, h => by
    have e := map_snd_zip' l r (Nat.succ.inj h)
    simp only [List.zip_cons_cons, List.map_cons, e]
/-- keys that are ints and texts are read without any address -/
theorem reads_key {h : Heap} {k : Key} {v : Value} (e : keyIs k v = true) : Reads h v (keyD k) [] := by
  rcases keyIs_shape e with ⟨i, t, rfl, rfl⟩ | ⟨x, t, rfl, rfl⟩
  · exact .int i t
  · exact .str x t
theorem reads_keys {prog : Program} {w : World} {h : Heap} : ∀ {es : List DictEntry} {vs : List (Key × Value)}, Pairs (mixKind prog w) es vs → ReadsAll h (es.map (·.key)) (vs.map fun p => keyD p.1) []
  | _, _, .nil => .nil
  | _, _, .cons k _ r => ReadsAll.cons (as := []) (bs := []) (reads_key k) (reads_keys r)
theorem vals_of_pairs {prog : Program} {w : World} : ∀ {es : List DictEntry} {vs : List (Key × Value)}, Pairs (mixKind prog w) es vs → es.map (·.val) = vs.map (·.2)
  | _, _, .nil => rfl
  | _, _, .cons _ e r => by
    have q := vals_of_pairs r
    simp only [List.map_cons, e, q]
theorem kv_vals : ∀ {kvs : List (Key × V)} {vs : List (Key × Value)}, KV kvs vs → Vals (kvs.map (·.2)) (vs.map (·.2)) ∧ (kvs.map fun p => keyD p.1) = vs.map fun p => keyD p.1
  | _, _, .nil => ⟨.nil, rfl⟩
  | _, _, .cons r t => by
    obtain ⟨a, b⟩ := kv_vals t
    refine ⟨.cons r.2 a, ?_⟩
    simp only [List.map_cons, r.1, b]
theorem reads_ints {h : Heap} : ∀ {ks : List Key} {us : List Value}, Vals (ks.map kV) us → ReadsAll h us (ks.map keyD) []
  | [], _, r => by
    cases r
    exact .nil
  | k :: ks, _, r => by
    cases r with
    | cons r1 r2 =>
      refine ReadsAll.cons (as := []) (bs := []) ?_ (reads_ints r2)
      cases k with
      | inl i =>
        obtain ⟨t, rfl⟩ := r1
        exact .int i t
      | inr x =>
        obtain ⟨t, rfl⟩ := r1
        exact .str x t

/-- a dict's node: its entries -/
theorem nodeDict {prog : Program} {w : World} {h : Heap} {a : Addr} {o : Obj} {es : Array DictEntry} {ep : Nat} {kd ds : List PyData} (ho : h.get? a = some o) (hc : o.cls = .type "dict") (hd : o.data = .dict es ep)
    (el : kd.length = ds.length) (rk1 : ReadsAll h (es.toList.map (·.key)) kd []) (hs : (PyData.dict (kd.zip ds)).showable = true) (hz : (PyData.dict (kd.zip ds)).shown.length ≤ sizeLine)
    (rest : PyData.showableAll ds = true → (∀ t ∈ PyData.shownAll ds, t.length ≤ sizeLine) → ∃ as bs, ReadsAll h (es.toList.map (·.val)) ds as ∧ ReadAtMost h (PyData.depthAll ds) bs ∧ ReprAllK prog w bs h (PyData.depthAll ds) (es.toList.map (·.val)) (PyData.shownAll ds)) :
    ∃ as bs, Reads h (.ref a) (.dict (kd.zip ds)) as ∧ ReadAtMost h (PyData.depthKv (kd.zip ds)) bs ∧ a ∉ bs ∧ ReprEntriesK prog w bs h (PyData.depthKv (kd.zip ds)) es.toList (PyData.shownKv (kd.zip ds)) := by
  have e1 := map_fst_zip' kd ds el
  have e2 := map_snd_zip' kd ds el
  have hz' : (dictText (PyData.shownKv (kd.zip ds))).length ≤ sizeLine := by simpa only [PyData.shown] using hz
  obtain ⟨s1, s2⟩ := PyData.showableKv_split (kd.zip ds) (by simpa [PyData.showable] using hs)
  have lk : ∀ t ∈ PyData.shownAll kd, t.length ≤ sizeLine := fun t ht => by
    rw [← e1] at ht
    obtain ⟨p, hp, l⟩ := PyData.shownKv_key_le (kd.zip ds) t ht
    exact Nat.le_trans l (Nat.le_trans (dictText_mem_le hp) hz')
  have lv : ∀ t ∈ PyData.shownAll ds, t.length ≤ sizeLine := fun t ht => by
    rw [← e2] at ht
    obtain ⟨p, hp, l⟩ := PyData.shownKv_val_le (kd.zip ds) t ht
    exact Nat.le_trans l (Nat.le_trans (dictText_mem_le hp) hz')
  rw [e1] at s1
  rw [e2] at s2
  obtain ⟨b1, m1, k1⟩ := ReprAllK.of_readsAll (prog := prog) (w := w) rk1 s1 (fun _ z => nomatch z) lk
  obtain ⟨as, b2, rd2, m2, k2⟩ := rest s2 lv
  have d1 := PyData.depthAll_keys_le (kd.zip ds)
  have d2 := PyData.depthAll_vals_le (kd.zip ds)
  rw [e1] at d1
  rw [e2] at d2
  have rd : Reads h (.ref a) (.dict (kd.zip ds)) _ := .dict ho hc hd (by rw [e1]; exact rk1) (by rw [e2]; exact rd2)
  have m : ReadAtMost h (PyData.depthKv (kd.zip ds)) (b1 ++ b2) := (m1.mono d1).append (m2.mono d2)
  have hn := not_mem_of_deeper rd (n := PyData.depthKv (kd.zip ds)) (by simp only [PyData.depth]; omega) m
  refine ⟨_, _, rd, m, hn, ?_⟩
  simp only [PyData.shownKv_eq, e1, e2]
  exact ReprEntriesK.of_two es.toList _ _ (k1.more_le (fun b hb => List.mem_append_left _ hb) d1) (k2.more_le (fun b hb => List.mem_append_right _ hb) d2)
theorem rkDict {prog : Program} {w : World} {h : Heap} {a : Addr} {o : Obj} {es : Array DictEntry} {ep : Nat} {kd ds : List PyData} (ho : h.get? a = some o) (hc : o.cls = .type "dict") (hd : o.data = .dict es ep) (hsys : (a == sysModules) = false)
    (el : kd.length = ds.length) (rk1 : ReadsAll h (es.toList.map (·.key)) kd []) (hs : (PyData.dict (kd.zip ds)).showable = true) (hz : (PyData.dict (kd.zip ds)).shown.length ≤ sizeLine)
    (rest : PyData.showableAll ds = true → (∀ t ∈ PyData.shownAll ds, t.length ≤ sizeLine) → ∃ as bs, ReadsAll h (es.toList.map (·.val)) ds as ∧ ReadAtMost h (PyData.depthAll ds) bs ∧ ReprAllK prog w bs h (PyData.depthAll ds) (es.toList.map (·.val)) (PyData.shownAll ds)) :
    ∃ as bs, Reads h (.ref a) (.dict (kd.zip ds)) as ∧ ReadAtMost h (PyData.dict (kd.zip ds)).depth bs ∧ ReprK prog w bs h (PyData.dict (kd.zip ds)).depth (.ref a) (PyData.dict (kd.zip ds)).shown := by
  obtain ⟨as, bs, rd, m, hn, hE⟩ := nodeDict (prog := prog) (w := w) ho hc hd el rk1 hs hz rest
  refine ⟨_, _, rd, ReadAtMost.cons rd (by simp only [PyData.depth]; omega) m, ?_⟩
  simp only [PyData.depth, PyData.shown]
  exact ReprK.dict ho hc hd hsys hn hE
theorem topDict {prog : Program} {w : World} {h : Heap} {a : Addr} {o : Obj} {es : Array DictEntry} {ep : Nat} {kd ds : List PyData} (ho : h.get? a = some o) (hc : o.cls = .type "dict") (hd : o.data = .dict es ep)
    (el : kd.length = ds.length) (rk1 : ReadsAll h (es.toList.map (·.key)) kd []) (hs : (PyData.dict (kd.zip ds)).showable = true) (hz : (PyData.dict (kd.zip ds)).shown.length ≤ sizeLine)
    (rest : PyData.showableAll ds = true → (∀ t ∈ PyData.shownAll ds, t.length ≤ sizeLine) → ∃ as bs, ReadsAll h (es.toList.map (·.val)) ds as ∧ ReadAtMost h (PyData.depthAll ds) bs ∧ ReprAllK prog w bs h (PyData.depthAll ds) (es.toList.map (·.val)) (PyData.shownAll ds)) :
    ∃ bs, a ∉ bs ∧ ReprEntriesK prog w bs h (PyData.depthKv (kd.zip ds)) es.toList (PyData.shownKv (kd.zip ds)) := by
  obtain ⟨as, bs, rd, m, hn, hE⟩ := nodeDict (prog := prog) (w := w) ho hc hd el rk1 hs hz rest
  exact ⟨bs, hn, hE⟩
section
variable {X : Cx} {pins : List (Addr × Obj)} {σ : L2.St} {H : Hp} {s : Shared}
theorem reads_tkeys (I : Inv X pins σ H s) : ∀ {kvs : List (List Key × V)} {xs : List (List Key × Addr × Value)},
    Paired (fun (p : List Key × V) (q : List Key × Addr × Value) => p.1 = q.1 ∧ H q.2.1 = some (.tup (p.1.map kV)) ∧ RelV p.2 q.2.2) kvs xs →
    ReadsAll s.heap (xs.map fun q => Value.ref q.2.1) (kvs.map fun p => PyData.tuple (p.1.map keyD)) [] ∧ Vals (kvs.map (·.2)) (xs.map (·.2.2))
  | _, _, .nil => ⟨.nil, .nil⟩
  | _, _, .cons r t => by
    obtain ⟨a, b⟩ := reads_tkeys I t
    refine ⟨ReadsAll.cons (as := []) (bs := []) ?_ a, .cons r.2.2 b⟩
    obtain ⟨_, its, rv, o, ho, hc, n, hd⟩ := I.hok _ _ r.2.1
    exact .tuple ho hc hd (reads_ints rv)
mutual
/-- a datum's text -/
theorem rk (I : Inv X pins σ H s) : ∀ {v : V} {d : PyData}, Dq X.K H v d → ∀ {u : Value}, RelV v u → d.showable = true → d.shown.length ≤ sizeLine →
    ∃ as bs, Reads s.heap u d as ∧ ReadAtMost s.heap d.depth bs ∧ ReprK X.prog X.w bs s.heap d.depth u d.shown
  | _, _, .non, _, r, _, _ => by
    cases r
    exact ⟨_, [], .none, ram_nil, by simp only [PyData.shown]; exact ReprK.of_is ReprIs.none [] _ _⟩
  | _, _, .bl b, _, r, _, _ => by
    cases r
    exact ⟨_, [], .bool b, ram_nil, by simp only [PyData.shown]; exact ReprK.of_is (ReprIs.bool b) [] _ _⟩
  | _, _, .int i, _, r, hs, _ => by
    obtain ⟨t, rfl⟩ := r
    have hs' : i.natAbs.log2 < 1920 := by simpa [PyData.showable] using hs
    exact ⟨_, [], .int i t, ram_nil, by simp only [PyData.shown]; exact ReprK.of_is (ReprIs.int t hs') [] _ _⟩
  | _, _, .str x, _, r, _, hz => by
    obtain ⟨t, rfl⟩ := r
    have hz' : (reprText x).length ≤ sizeLine := by simpa only [PyData.shown] using hz
    exact ⟨_, [], .str x t, ram_nil, by simp only [PyData.shown]; exact ReprK.of_is (ReprIs.str x t hz') [] _ _⟩
  | _, _, .lst (ds := ds) hl ra, _, r, hs, hz => by
    cases r
    have hz' : (listText (PyData.shownAll ds)).length ≤ sizeLine := by simpa only [PyData.shown] using hz
    obtain ⟨its, rv, ⟨o, n, ho, hc, _, hd⟩, _⟩ := I.list hl
    obtain ⟨as, bs, q1, q2, q3⟩ := rkAll I ra rv (by simpa [PyData.showable] using hs) fun t ht => Nat.le_trans (listText_mem_le ht) hz'
    have rd := Reads.list ho hc hd q1
    have hn := not_mem_of_deeper rd (n := PyData.depthAll ds) (by simp only [PyData.depth]; omega) q2
    refine ⟨_, _, rd, ReadAtMost.cons rd (by simp only [PyData.depth]; omega) q2, ?_⟩
    simp only [PyData.depth, PyData.shown]
    match its, q1, q3, hd with
    | [], q1, q3, hd =>
      cases q1
      simp only [PyData.shownAll, listText_nil]
      exact ReprK.listEmpty ho hc hd
    | y :: l, q1, q3, hd => exact ReprK.list ho hc hd hn (by simpa using q3.length_eq) fun i z e => q3.item i z (by simpa using e)
  | _, _, .tup (ds := ds) hl ra, _, r, hs, hz => by
    cases r
    have hz' : (tupleText (PyData.shownAll ds)).length ≤ sizeLine := by simpa only [PyData.shown] using hz
    obtain ⟨its, rv, ⟨o, ho, hc, n, hd⟩, _⟩ := I.tuple hl
    obtain ⟨as, bs, q1, q2, q3⟩ := rkAll I ra rv (by simpa [PyData.showable] using hs) fun t ht => Nat.le_trans (tupleText_mem_le ht) hz'
    have rd := Reads.tuple ho hc hd q1
    have hn := not_mem_of_deeper rd (n := PyData.depthAll ds) (by simp only [PyData.depth]; omega) q2
    refine ⟨_, _, rd, ReadAtMost.cons rd (by simp only [PyData.depth]; omega) q2, ?_⟩
    simp only [PyData.depth, PyData.shown]
    exact ReprK.tuple ho hc hd hn q3
  | _, _, .dk (kvs := kvs) (ds := ds) hl ra, _, r, hs, hz => by
    cases r
    obtain ⟨_, hsys, vs, hkv, o, es, ep, ho, hex, hd, _, hp, _⟩ := I.hok _ _ hl
    obtain ⟨rv, ek⟩ := kv_vals hkv
    rw [← vals_of_pairs hp] at rv
    have rk1 : ReadsAll s.heap (es.toList.map (·.key)) (kvs.map fun p => keyD p.1) [] := by
      rw [ek]
      exact reads_keys hp
    have el : (kvs.map fun p => keyD p.1).length = ds.length := by
      rw [← ra.len]
      simp
    exact rkDict ho hex.1 hd hsys el rk1 hs hz fun hs2 hz2 => rkAll I ra rv hs2 hz2
  | _, _, .dt (kvs := kvs) (ds := ds) hl ra, _, r, hs, hz => by
    cases r
    obtain ⟨_, hsys, xs, hkv, o, es, ep, ho, hex, hd, he, _⟩ := I.hok _ _ hl
    obtain ⟨rk0, rv⟩ := reads_tkeys I hkv
    have e1 : es.toList.map (·.key) = xs.map fun q => Value.ref q.2.1 := by
      rw [he, List.map_map]
      rfl
    have e2 : es.toList.map (·.val) = xs.map (·.2.2) := by
      rw [he, List.map_map]
      rfl
    rw [← e1] at rk0
    rw [← e2] at rv
    have el : (kvs.map fun p => PyData.tuple (p.1.map keyD)).length = ds.length := by
      rw [← ra.len]
      simp
    exact rkDict ho hex.1 hd hsys el rk0 hs hz fun hs2 hz2 => rkAll I ra rv hs2 hz2
theorem rkAll (I : Inv X pins σ H s) : ∀ {vs : List V} {ds : List PyData}, DqAll X.K H vs ds → ∀ {us : List Value}, Vals vs us → PyData.showableAll ds = true → (∀ t ∈ PyData.shownAll ds, t.length ≤ sizeLine) →
    ∃ as bs, ReadsAll s.heap us ds as ∧ ReadAtMost s.heap (PyData.depthAll ds) bs ∧ ReprAllK X.prog X.w bs s.heap (PyData.depthAll ds) us (PyData.shownAll ds)
  | _, _, .nil, _, r, _, _ => by
    cases r
    exact ⟨_, [], .nil, ram_nil, by simp only [PyData.shownAll]; exact .nil⟩
  | _, _, .cons (d := d) (ds := ds) h ra, _, r, hs, hz => by
    cases r with
    | cons r1 r2 =>
      have hs' : d.showable = true ∧ PyData.showableAll ds = true := by simpa [PyData.showableAll] using hs
      obtain ⟨a1, b1, p1, p2, p3⟩ := rk I h r1 hs'.1 (hz _ (by simp only [PyData.shownAll]; exact List.mem_cons_self ..))
      obtain ⟨a2, b2, q1, q2, q3⟩ := rkAll I ra r2 hs'.2 fun t ht => hz t (by simp only [PyData.shownAll]; exact List.mem_cons_of_mem _ ht)
      refine ⟨_, b1 ++ b2, ReadsAll.cons p1 q1, ?_, ?_⟩
      · simp only [PyData.depthAll]
        exact (p2.mono (Nat.le_max_left _ _)).append (q2.mono (Nat.le_max_right _ _))
      · simp only [PyData.depthAll, PyData.shownAll]
        exact .cons ((p3.more fun b hb => List.mem_append_left _ hb).level_le (Nat.le_max_left _ _)) (q3.more_le (fun b hb => List.mem_append_right _ hb) (Nat.le_max_right _ _))
end
end
section
variable {X : Cx}
/-- repr(x) of a datum -/
def rRepr (K : PySem.W.Frag) : List V → Hp → VK → Prop := fun xs H Q => ∃ x d, xs = [x] ∧ Dq K H x d ∧ d.showable = true ∧ d.depth ≤ 60 ∧ d.shown.length ≤ sizeLine ∧ Q (.str d.shown) H
theorem call_repr (hg : Quiet X.A) (hu : X.A.units + 64 < cLine) : CallR X (.builtin "repr") (rRepr X.K) := by
  intro pins s σ H xs us Q I r h
  obtain ⟨x, d, rfl, hd, hs, hdp, hz, q⟩ := h
  obtain ⟨u, rfl, ru⟩ := vals1 r
  have fin : ∀ h' v tk, (∀ b o, s.heap.get? b = some o → h'.get? b = some o) → EP X pins σ Q (.str d.shown v) { s with heap := h', toks := tk } :=
    fun h' v tk k => ⟨.str d.shown, H, I.kept (t' := tk) k, ⟨_, rfl⟩, q⟩
  have e0 : ∀ b o, s.heap.get? b = some o → s.heap.get? b = some o := fun _ _ e => e
  have hg1 : X.A.in1.guards = some [] := hg
  have u1 : X.A.in1.units = X.A.units + 1 := rfl
  cases hd with
  | non =>
    cases ru
    refine PySem.P.repr_of_none ?_
    have := fin s.heap s.toks (s.toks + 1) e0
    simpa only [PyData.shown] using this
  | bl b =>
    cases ru
    refine PySem.P.repr_of_bool ?_
    have := fin s.heap s.toks (s.toks + 1) e0
    simpa only [PyData.shown] using this
  | int i =>
    obtain ⟨t, rfl⟩ := ru
    refine PySem.P.repr_of_int (by simpa [PyData.showable] using hs) ?_
    have := fin s.heap s.toks (s.toks + 1) e0
    simpa only [PyData.shown] using this
  | str z =>
    obtain ⟨t, rfl⟩ := ru
    refine PySem.P.repr_of_str ?_ (by simpa only [PyData.shown] using hz)
    have := fin s.heap s.toks (s.toks + 1) e0
    simpa only [PyData.shown] using this
  | @lst a ys ds hl ra =>
    cases ru
    have hz' : (listText (PyData.shownAll ds)).length ≤ sizeLine := by simpa only [PyData.shown] using hz
    obtain ⟨its, rv, ⟨o, n, ho, hc, _, hdt⟩, _⟩ := I.list hl
    obtain ⟨as, bs, q1, q2, q3⟩ := rkAll I ra rv (by simpa [PyData.showable] using hs) fun t ht => Nat.le_trans (listText_mem_le ht) hz'
    have rd := Reads.list ho hc hdt q1
    have hn := not_mem_of_deeper rd (n := PyData.depthAll ds) (by simp only [PyData.depth]; omega) q2
    simp only [PyData.depth] at hdp
    simp only [PyData.shown] at fin
    match its, q1, q3, hdt with
    | [], q1, q3, hdt =>
      cases q1
      simp only [PyData.shownAll, listText_nil] at fin
      exact call_repr_slot (by omega) ⟨o, ho, hc⟩ F.slot_list_repr.toG (call_list_repr_empty ⟨o, ho, hc⟩ ho hdt ⟨_, _, rfl, fin _ _ _ e0⟩)
    | y :: l, q1, q3, hdt =>
      exact call_repr_slot (by omega) ⟨o, ho, hc⟩ F.slot_list_repr.toG (call_list_reprK ho hc hdt hn (by simpa using q3.length_eq) (fun i z e => q3.item i z (by simpa using e)) hg1 (fun b _ => Clear.nil b)
        (by rw [u1]; omega) e0 (fun h' v tk k => ⟨_, _, rfl, fin h' v tk k⟩) hz')
  | @tup a ys ds hl ra =>
    cases ru
    have hz' : (tupleText (PyData.shownAll ds)).length ≤ sizeLine := by simpa only [PyData.shown] using hz
    obtain ⟨its, rv, ⟨o, ho, hc, n, hdt⟩, _⟩ := I.tuple hl
    obtain ⟨as, bs, q1, q2, q3⟩ := rkAll I ra rv (by simpa [PyData.showable] using hs) fun t ht => Nat.le_trans (tupleText_mem_le ht) hz'
    have rd := Reads.tuple ho hc hdt q1
    have hn := not_mem_of_deeper rd (n := PyData.depthAll ds) (by simp only [PyData.depth]; omega) q2
    simp only [PyData.depth] at hdp
    simp only [PyData.shown] at fin
    exact call_repr_slot (by omega) ⟨o, ho, hc⟩ F.slot_tuple_repr (call_tuple_reprK ho hc hdt hn q3 hg1 (fun b _ => Clear.nil b) (by rw [u1]; omega) e0 (fun h' v tk k => ⟨_, _, rfl, fin h' v tk k⟩) hz')
  | @dk a kvs ds hl ra =>
    cases ru
    obtain ⟨as, bs, rd, hb, hk⟩ := rk I (.dk hl ra) (u := .ref a) rfl hs hz
    obtain ⟨_, hsys, vs, hkv, o, es, ep, ho, hex, hdt, _, hp, _⟩ := I.hok _ _ hl
    obtain ⟨rv, ek⟩ := kv_vals hkv
    rw [← vals_of_pairs hp] at rv
    have rk1 : ReadsAll s.heap (es.toList.map (·.key)) (kvs.map fun p => keyD p.1) [] := by
      rw [ek]
      exact reads_keys hp
    have el : (kvs.map fun p => keyD p.1).length = ds.length := by
      rw [← ra.len]
      simp
    obtain ⟨bs, hn, hE⟩ := topDict (prog := X.prog) (w := X.w) ho hex.1 hdt el rk1 hs hz fun hs2 hz2 => rkAll I ra rv hs2 hz2
    have ek : (PyData.dict ((kvs.map fun p => keyD p.1).zip ds)).shown = dictText (PyData.shownKv ((kvs.map fun p => keyD p.1).zip ds)) := by simp only [PyData.shown]
    rw [ek] at fin hz
    simp only [PyData.depth] at hdp
    exact call_repr_slot (by omega) ⟨o, ho, hex.1⟩ F.slot_dict_repr (call_dict_reprK ho hex.1 hdt hsys hn hE hg1 (fun b _ => Clear.nil b) (by rw [u1]; omega) e0 (fun h' v tk k => ⟨_, _, rfl, fin h' v tk k⟩) hz)
  | @dt a kvs ds hl ra =>
    cases ru
    obtain ⟨_, hsys, xs, hkv, o, es, ep, ho, hex, hdt, he, _⟩ := I.hok _ _ hl
    obtain ⟨rk0, rv⟩ := reads_tkeys I hkv
    have e1 : es.toList.map (·.key) = xs.map fun q => Value.ref q.2.1 := by
      rw [he, List.map_map]
      rfl
    have e2 : es.toList.map (·.val) = xs.map (·.2.2) := by
      rw [he, List.map_map]
      rfl
    rw [← e1] at rk0
    rw [← e2] at rv
    have el : (kvs.map fun p => PyData.tuple (p.1.map keyD)).length = ds.length := by
      rw [← ra.len]
      simp
    obtain ⟨bs, hn, hE⟩ := topDict (prog := X.prog) (w := X.w) ho hex.1 hdt el rk0 hs hz fun hs2 hz2 => rkAll I ra rv hs2 hz2
    have ek : (PyData.dict ((kvs.map fun p => PyData.tuple (p.1.map keyD)).zip ds)).shown = dictText (PyData.shownKv ((kvs.map fun p => PyData.tuple (p.1.map keyD)).zip ds)) := by simp only [PyData.shown]
    rw [ek] at fin hz
    simp only [PyData.depth] at hdp
    exact call_repr_slot (by omega) ⟨o, ho, hex.1⟩ F.slot_dict_repr (call_dict_reprK ho hex.1 hdt hsys hn hE hg1 (fun b _ => Clear.nil b) (by rw [u1]; omega) e0 (fun h' v tk k => ⟨_, _, rfl, fin h' v tk k⟩) hz)
end
end Own
end
section
set_option Elab.async false
set_option linter.all false
set_option maxRecDepth 100000
set_option maxHeartbeats 4000000
namespace Pi
open PySem PySem.Spec PyProof.Rows L2
/-! ### repr -/
mutual
theorem toDq {K : PySem.W.Frag} {H : Hp} {μ : Mu} {st : Sto} (h : Hr K H μ st) : ∀ (n : Nat) (p : PV) (v : V) (d : PyData), toD st n p = some d → RV K H μ p v → Own.Dq K H v d
  | 0, _, _, _, e, _ => by simp [toD] at e
  | n + 1, p, v, d, e, r => by
    cases r with
    | non => simp [toD] at e; subst e; exact .non
    | bl b => simp [toD] at e; subst e; exact .bl b
    | int i => simp [toD] at e; subst e; exact .int i
    | str x => simp [toD] at e; subst e; exact .str x
    | ty x => simp [toD] at e
    | tup hT rs =>
      simp only [toD] at e
      split at e
      · rename_i ds e2
        cases e
        exact .tup hT (toDqs h n _ _ _ e2 rs)
      · cases e
    | lst hL rs =>
      simp only [toD] at e
      split at e
      · rename_i ds e2
        cases e
        exact .lst hL.sq (toDqs h n _ _ _ e2 rs)
      · cases e
    | loc m =>
      simp only [toD] at e
      split at e
      · rename_i xs g
        split at e
        · rename_i ds e2
          cases e
          obtain ⟨vs, e1, rs⟩ := h.lst g m
          exact .lst (SqL.of e1) (toDqs h n _ _ _ e2 rs)
        · cases e
      · cases e
theorem toDqs {K : PySem.W.Frag} {H : Hp} {μ : Mu} {st : Sto} (h : Hr K H μ st) : ∀ (n : Nat) (ps : List PV) (vs : List V) (ds : List PyData), toD.toDs (toD st n) ps = some ds → RVs K H μ ps vs → Own.DqAll K H vs ds
  | n, [], _, _, e, r => by
    cases r
    simp [toD.toDs] at e
    subst e
    exact .nil
  | n, p :: ps, _, _, e, r => by
    cases r with
    | cons r1 r2 =>
      unfold toD.toDs at e
      split at e
      · rename_i d ds e1 e2
        cases e
        exact .cons (toDq h n _ _ _ e1 r1) (toDqs h n _ _ _ e2 r2)
      · cases e
end
section
variable {X : Cx} {C : Cls} {W : WX}
theorem g_repr {l : Bool} {p pos : Pos} {e : Expr} {ev : Env → Sto → Out (List PV)} (hq : Quiet X.A) (hu : X.A.units + 64 < cLine) (hg : Gl X "repr") (hm : X.mg "repr" = none) (ha : PA X [e] (gA X.K C W ev))
    (he : starEach [e] X.env = [(false, eval e X.env)]) : PE X (.Call (.Name "repr" p) [e] [] pos) (gE X.K C W fun ρ st => (ev ρ st).bind fun vs st => biG l .repr vs st) := by
  refine (pe_callB (Own.call_repr hq hu) hg hm (by decide +kernel) ha (by decide) (by decide) he rfl).imp fun σ H Q q => gA.imp ?_ (gE.args q)
  rintro vs H1 ⟨μ, st, ps, hr, rs, z⟩
  cases rs with
  | nil => exact z.elim
  | cons r1 rs =>
    cases rs with
    | cons _ rs =>
      exfalso
      cases rs with
      | nil => simp [biG, biV, bi2, Th] at z
      | cons _ _ => simp [biG, biV, Th] at z
    | nil =>
      rename_i q1 x1
      have z' : Th X.K C W (RV X.K) (match reprV st q1 with
        | some x => .ok (.str x) st
        | none => .stuck) σ H1 μ Q := z
      cases er : reprV st q1 with
      | none => rw [er] at z'; exact z'.elim
      | some x =>
        rw [er] at z'
        unfold reprV at er
        split at er
        · rename_i d ed
          split at er
          · rename_i hc
            cases er
            simp only [Bool.and_eq_true] at hc
            exact ⟨_, d, rfl, toDq hr _ _ _ _ ed r1, hc.1.1, Nat.le_of_ble_eq_true hc.1.2, fitB hc.2, z'.ok hr (.str _)⟩
          · cases er
        · cases er
/-! ### list(range(n)) -/
theorem rangeL_get : ∀ (lo : Int) (n i : Nat), i < n → (rangeL lo n)[i]? = some (.int (lo + i)) := by
  intro lo n i h
  rw [← nth_eq, nth_range, if_pos h]
theorem rangeL_len : ∀ (lo : Int) (n : Nat), (rangeL lo n).length = n
  | _, 0 => rfl
  | lo, n + 1 => by simp [rangeL, rangeL_len (lo + 1) n]
def rangeV (n : Nat) : List V := (List.range n).map fun (i : Nat) => V.int (i : Int)
theorem rangeV_rel {K : PySem.W.Frag} {H : Hp} {μ : Mu} (n : Nat) : RVs K H μ (rangeL 0 n) (rangeV n) := by
  have key : ∀ (n lo : Nat), RVs K H μ (rangeL (lo : Int) n) ((List.range' lo n).map fun (i : Nat) => V.int (i : Int)) := by
    intro n
    induction n with
    | zero => intro lo; exact .nil
    | succ n ih =>
      intro lo
      simp only [rangeL, List.range'_succ, List.map_cons]
      refine .cons (.int _) ?_
      have := ih (lo + 1)
      simpa using this
  have := key n 0
  unfold rangeV
  rw [List.range_eq_range']
  simpa using this
theorem vals_range : ∀ {n : Nat} {its : List Value}, its.length = n → (∀ (i : Nat) v, its[i]? = some v → ∃ t, v = Value.int (i : Int) t) → Vals (rangeV n) its := by
  have key : ∀ (its : List Value) (lo : Nat), (∀ (i : Nat) v, its[i]? = some v → ∃ t, v = Value.int ((lo + i : Nat) : Int) t) → Vals ((List.range' lo its.length).map fun (i : Nat) => V.int (i : Int)) its := by
    intro its
    induction its with
    | nil => intro lo _; exact .nil
    | cons v its ih =>
      intro lo h
      simp only [List.length_cons, List.range'_succ, List.map_cons]
      refine .cons ?_ (ih (lo + 1) fun i u e => ?_)
      · obtain ⟨t, e⟩ := h 0 v rfl
        exact ⟨t, by simpa using e⟩
      · obtain ⟨t, e'⟩ := h (i + 1) u (by simpa using e)
        exact ⟨t, by rw [e']; congr 1; omega⟩
  intro n its hn h
  subst hn
  unfold rangeV
  rw [List.range_eq_range']
  exact key its 0 fun i v e => by simpa using h i v e
theorem g_lrange {l : Bool} {p q pos pos2 : Pos} {e : Expr} {ea : Env → Sto → Out PV} (hc : X.calm = true) (hg : Gl X "list") (hm : X.mg "list" = none) (hg2 : Gl X "range") (hm2 : X.mg "range" = none) (ha : PE X e (gE X.K C W ea)) (h1 : notStar e = true) :
    PE X (.Call (.Name "list" p) [.Call (.Name "range" q) [e] [] pos2] [] pos) (gE X.K C W fun ρ st => (ea ρ st).bind fun x st => match x with
      | .int j => if wide62 j && fitLen j.toNat then mkL l (rangeL 0 j.toNat) st else .stuck
      | _ => .stuck) := by
  have cr1 : CallR X (.type "range") (fun vs H Q => ∃ j, vs = [V.int j] ∧ ∀ p, H p = none → Q (.ref p) (upd H p (.rng 0 j))) := by
    intro pins s σ H vs us Q I r h
    obtain ⟨j, rfl, q⟩ := h
    obtain ⟨u1, rfl, t, rfl⟩ := vals1 r
    refine call_range_1 ⟨.ref s.heap.objs.size, upd H s.heap.objs.size (.rng 0 j), I.laid (t' := s.toks + 1 + 1) (fun b o e => Heap.get?_push_of_some _ e) (Nat.le_refl _) ?_, rfl, q _ (I.hok.fresh (Nat.le_refl _))⟩
    exact ⟨_, _, _, Heap.get?_push_size _ rfl⟩
  have cr2 : CallR X (.type "list") (fun vs H Q => ∃ (a : Addr) (j : Int), vs = [V.ref a] ∧ H a = some (.rng 0 j) ∧ wide62 j = true ∧ fitLen j.toNat = true ∧ ∀ p, H p = none → Q (.ref p) (upd H p (.lst (rangeV j.toNat)))) := by
    intro pins s σ H vs us Q I r h
    obtain ⟨a, j, rfl, ea, hw, hf, q⟩ := h
    obtain ⟨u1, rfl, ru⟩ := vals1 r
    cases ru
    obtain ⟨t, u, v, hr⟩ := I.hok a _ ea
    have hn : Builtin.Range.rangeSize 0 j 1 = (j.toNat : Int) := by
      unfold Builtin.Range.rangeSize
      simp only [show (1 : Int) > 0 from by decide, if_true]
      split <;> omega
    have hw' := Nat.blt_eq.mp hw
    have hsm : Builtin.Range.small 0 j 1 = true := by
      unfold Builtin.Range.small
      rw [hn]
      unfold Builtin.Range.rangeFitsLong
      simp only [show (1 : Int) > 0 from by decide, if_true, Bool.and_eq_true, Bool.or_eq_true, decide_eq_true_eq]
      refine ⟨⟨⟨⟨⟨by decide, by decide⟩, by omega, by omega⟩, by decide, by decide⟩, by omega, by omega⟩, .inr ⟨by omega, by omega⟩⟩
    have hz := fitB hf
    refine call_list_range (I.ok.hd hc) hr hsm hn (by have : sizeLine = 2 ^ 24 := rfl; omega) fun h' tk acc' c' hk hS hacc => ?_
    have hp := I.hok.fresh (Nat.le_refl s.heap.objs.size)
    refine ⟨.ref s.heap.objs.size, upd H s.heap.objs.size (.lst (rangeV j.toNat)), I.laid (t' := tk) (fun b o e => hk b o e) (Nat.le_refl _) ⟨?_, acc'.toList, c', vals_range (by rw [Array.length_toList]; exact hacc.1) (fun i v e => ?_), ?_⟩, rfl, q _ hp⟩
    · unfold rangeV
      simpa using hz
    · obtain ⟨t, e'⟩ := hacc.2 i v (by rw [← Array.getElem?_toList]; exact e)
      exact ⟨t, by simpa using e'⟩
    · simpa using hS
  refine (pe_callTy cr2 hg hm (by decide +kernel) (pa_cons (pe_callTy cr1 hg2 hm2 (by decide +kernel) (pa_cons ha pa_nil (star_of h1)) (by decide) (by decide) (star_of h1) rfl) pa_nil rfl) (by decide) (by decide) rfl rfl).imp ?_
  intro σ H Q q
  refine gE.imp ?_ (gE.one q)
  rintro x H1 ⟨μ, st, p, hr, r, z⟩
  cases r with
  | int j =>
    dsimp only at z
    split at z
    · rename_i hb
      simp only [Bool.and_eq_true] at hb
      refine ⟨j, rfl, fun p1 np1 => ⟨p1, j, rfl, upd_same, hb.1, hb.2, fun p2 np2 => ?_⟩⟩
      have h2 := hr.made (o := .rng 0 j) np1
      exact mkL_ok (Th.ext (Ext.made np1) z) h2 (rangeV_rel _) np2
    · exact z.elim
  | _ => exact z.elim
end
end Pi
end
section
set_option Elab.async false
set_option linter.all false
set_option maxRecDepth 100000
set_option maxHeartbeats 4000000
namespace Pi
open PySem PySem.Spec PyProof.Rows L2
/-! ### the values of a dict, locked for good -/
theorem del_sub (n : Nat) : ∀ l : List (Nat × SO), (delO n l).Sublist l
  | [] => .slnil
  | (m, o) :: r => by
    unfold delO
    cases Nat.beq m n with
    | true => exact .cons _ (List.Sublist.refl _)
    | false => exact .cons₂ _ (del_sub n r)
theorem del_no {n : Nat} : ∀ {l : List (Nat × SO)}, Desc l → ∀ o, (n, o) ∉ delO n l
  | [], _, o => by simp [delO]
  | (m, u) :: r, d, o => by
    have d' := List.pairwise_cons.mp d
    unfold delO
    cases e : Nat.beq m n with
    | true =>
      have := Nat.eq_of_beq_eq_true e
      subst this
      intro h
      have := d'.1 _ h
      simp at this
    | false =>
      intro h
      rcases List.mem_cons.mp h with h | h
      · cases h
        rw [Nat.beq_refl] at e
        cases e
      · exact del_no d'.2 o h
section
variable {K : PySem.W.Frag} {H : Hp} {μ : Mu} {st : Sto} {n : Nat} {a : Addr} {o u : HO}
theorem Hr.del (h : Hr K H μ st) (m : μ n = some a) (e : H a = some o) (c : Chg o) : Hr K (upd H a u) μ (st.del n) := by
  have x := Ext.put (u := u) h m e c
  refine ⟨h.inj, fun k b q => ?_, h.low, h.des.sublist (del_sub n _), h.prv, fun b q => ?_, fun k w q => ?_⟩
  · by_cases z : b = a
    · subst z; rw [upd_same]; simp
    · rw [upd_ne z]; exact h.trk k b q
  · obtain ⟨xs, w, cc⟩ := h.prT b q
    have ne : b ≠ a := fun z => h.prv n a m (z ▸ q)
    exact ⟨xs, by rw [upd_ne ne]; exact w, cc⟩
  · have q' := getO_mem q
    have kn : k ≠ n := fun z => by subst z; exact del_no h.des w q'
    obtain ⟨b, e1, e2⟩ := h.obj k w (getO_of_mem h.des ((del_sub n _).subset q'))
    refine ⟨b, e1, e2.wk x.toWk (upd_ne fun zz => kn ?_)⟩
    subst zz
    exact h.inj _ _ _ e1 m
theorem vals_get : ∀ {kvs : List (PV × PV)} {ks : List (Key × V)} {i : Nat} {p : PV}, RKs K H μ kvs ks → nth (kvs.map fun kv => kv.2) i = some p → ∃ k v, ks[i]? = some (k, v) ∧ RV K H μ p v
  | _, _, 0, p, .cons r rs, e => by
    simp only [List.map_cons, nth, Option.some.injEq] at e
    subst e
    exact ⟨_, _, rfl, r⟩
  | _, _, i + 1, p, .cons r rs, e => by
    simp only [List.map_cons, nth] at e
    obtain ⟨k, v, h1, h2⟩ := vals_get rs e
    exact ⟨k, v, by simpa using h1, h2⟩
  | _, _, _, _, .nil, e => by simp [nth] at e
theorem rj_vals {kvs : List (PV × PV)} {ks : List (Key × V)} {ob : Obj} (rk : RKs K H μ kvs ks) (e : H a = some (.frz ob (.dK ks))) : RJ K (.vals (kvs.map fun kv => kv.2)) H μ (Itd a ob ks) := by
  intro H' μ' st' ex hr i hl
  have e' := ex.frz a ob _ e
  have rk' := rk.wk ex.toWk
  have hlen := rk'.length
  show match some (nth (kvs.map fun kv => kv.2) i) with | none => True | some none => _ | some (some p) => _
  cases z : nth (kvs.map fun kv => kv.2) i with
  | none =>
    rw [nth_eq] at z
    have := List.getElem?_eq_none_iff.mp z
    rw [List.length_map, hlen] at this
    exact ⟨e', this⟩
  | some p =>
    obtain ⟨k, v, h1, h2⟩ := vals_get rk' z
    refine ⟨⟨e', ?_⟩, fun x H2 ⟨q1, k2, q2⟩ => ?_⟩
    · exact (List.getElem?_eq_some_iff.mp h1).1
    · subst q1
      rw [h1] at q2
      cases q2
      exact ⟨μ', .refl, hr, h2⟩
end
section
variable {X : Cx} {C : Cls} {W : WX} {R : Ops} {e : Expr} {a : E} {tg : Expr} {apos cpos : Pos}
theorem pe_frz {td : TE} (he : PE X e td) : PE X e (fun σ H Q => td σ H fun x H1 => ∃ d u, x = .ref d ∧ H1 d = some u ∧ Mut (some u) ∧ ∀ o, Q x (upd H1 d (.frz o u))) :=
  ⟨fun pins s σ H Q I h => thn (he.run pins s σ H _ I h) fun v s1 ⟨x, H1, I1, r, d, u, ex, hd, mu, q⟩ => by
    obtain ⟨od, I2⟩ := I1.lock hd mu
    exact ⟨x, _, I2, r, q od⟩⟩
end
end Pi
end
section
set_option Elab.async false
set_option linter.all false
set_option maxRecDepth 100000
set_option maxHeartbeats 4000000
namespace Pi
open PySem PySem.W
/-! ### next of a zip whose last tuple is still there: a new tuple each turn -/
section
variable {prog : Program} {w : World} {A : Around} {E : Value → Shared → Prop} {s : Shared}
theorem heldA_item {b1 b2 : Bool} {z TI TO T i1 i2 l1 l2 : Addr} {f : Bool} {oT : Obj} {k1 k2 : Nat} {xs ys : Array Value} {x y : Value} {Q : Value → Shared → Prop} (D : ZipApart z TI TO i1 i2 l1 l2)
    (hz : IsZipHeld s.heap z TI TO T f) (hT : s.heap.get? T = some oT) (hTI : IsPair s.heap TI (.ref i1) (.ref i2))
    (h1 : SIt b1 s.heap i1 l1 k1) (h2 : SIt b2 s.heap i2 l2 k2) (hl1 : SSq b1 s.heap l1 xs) (hl2 : SSq b2 s.heap l2 ys) (hx : xs[k1]? = some x) (hy : ys[k2]? = some y)
    (hQ : ∀ h', IsZipHeld h' z TI TO T true → SIt b1 h' i1 l1 (k1 + 1) → SIt b2 h' i2 l2 (k2 + 1) → IsPair h' s.heap.objs.size x y → h'.objs.size = s.heap.objs.size + 1 →
      (∀ c o, c ≠ z → c ≠ i1 → c ≠ i2 → s.heap.get? c = some o → h'.get? c = some o) → Q (.ref s.heap.objs.size) { s with heap := h' }) :
    wpAny (model prog w) A (Builtin.«zip.__next__» ⟨[.ref z], []⟩) (fun fin s' => ∃ v, fin = .done (.ret v) ∧ Q v s') E s := by
  show wpAny _ _ (field (.ref z) 2 >>= _) _ _ _
  refine wpAny_bind (wpAny_field hz rfl (x := .bool false) rfl ?_)
  show wpAny _ _ (field (.ref z) 3 >>= _) _ _ _
  refine wpAny_bind (wpAny_field hz rfl (x := .ref TI) rfl ?_)
  refine wpAny_bind (wpAny_seqItems hTI rfl ?_)
  show wpAny _ _ (Builtin.SmallTypes.ownedTupleIsFree (.ref z) >>= _) _ _ _
  refine wpAny_bind (wpAny_tupleHeld_zip hz hT fun g1 z1 s1 => ?_)
  simp only [Bool.false_eq_true, if_false]
  refine wpAny_bind ?_
  rw [← Array.forIn_toList]
  simp only [List.forIn_cons, List.forIn_nil]
  refine wpAny_bind (wpAny_bind (wpAny_holding ?_))
  show wpAny _ _ (Builtin.SmallTypes.nextOf (.ref i1) >>= _) _ _ _
  refine wpAny_bind (nx_item (s := { s with heap := g1 }) (h1.extBut s1.extBut D.i1z) (hl1.extBut s1.extBut D.l1z) hx fun g2 a2 s2 => wpAny_pure ?_)
  refine wpAny_pure ?_
  refine wpAny_bind (wpAny_bind (wpAny_holding ?_))
  show wpAny _ _ (Builtin.SmallTypes.nextOf (.ref i2) >>= _) _ _ _
  refine wpAny_bind (nx_item (s := { s with heap := g2 }) ((h2.extBut s1.extBut D.i2z).extBut s2.extBut D.i12.symm) ((hl2.extBut s1.extBut D.l2z).extBut s2.extBut D.l2i1) hy fun g3 a3 s3 => wpAny_pure ?_)
  refine wpAny_pure (wpAny_pure ?_)
  show wpAny _ _ (newTuple [x, y] >>= _) _ _ _
  refine wpAny_bind (wpAny_newTuple ?_)
  have hsz : g3.objs.size = s.heap.objs.size := by rw [s3.1, s2.1, s1.1]
  have z3 : IsZipHeld g3 z TI TO T true := s3.extBut _ _ D.i2z.symm (s2.extBut _ _ D.i1z.symm z1)
  have hk : ∀ c o, c ≠ z → c ≠ i1 → c ≠ i2 → s.heap.get? c = some o → g3.get? c = some o := fun c o c1 c2 c3 e => s3.extBut _ _ c3 (s2.extBut _ _ c2 (s1.extBut _ _ c1 e))
  have w1 : SIt b1 g3 i1 l1 (k1 + 1) := a2.extBut s3.extBut D.i12
  refine wpAny_pure ⟨_, rfl, ?_⟩
  show Q (.ref g3.objs.size) _
  have hp : IsPair (g3.push { cls := .type "tuple", data := .seq #[x, y] }) g3.objs.size x y := Heap.get?_push_size _ rfl
  have hz4 : (g3.push { cls := .type "tuple", data := .seq #[x, y] }).objs.size = g3.objs.size + 1 := Heap.size_push ..
  rw [hsz] at hp hz4 ⊢
  exact hQ _ (Heap.get?_push_of_some _ z3) (w1.at fun o e => Heap.get?_push_of_some _ e) (a3.at fun o e => Heap.get?_push_of_some _ e) hp hz4 fun c o c1 c2 c3 e => Heap.get?_push_of_some _ (hk c o c1 c2 c3 e)
theorem heldA_end {b1 b2 : Bool} {z TI TO T i1 i2 l1 l2 : Addr} {f : Bool} {oT : Obj} {k1 k2 : Nat} {xs ys : Array Value} {Q : Fin → Shared → Prop} (hh : A.handled = none) (D : ZipApart z TI TO i1 i2 l1 l2)
    (hz : IsZipHeld s.heap z TI TO T f) (hT : s.heap.get? T = some oT) (hTI : IsPair s.heap TI (.ref i1) (.ref i2))
    (h1 : SIt b1 s.heap i1 l1 k1) (h2 : SIt b2 s.heap i2 l2 k2) (hl1 : SSq b1 s.heap l1 xs) (hl2 : SSq b2 s.heap l2 ys) (hend : xs[k1]? = none ∨ ys[k2]? = none)
    (hE : ∀ h' e, (∀ c o, c ≠ z → c ≠ i1 → c ≠ i2 → s.heap.get? c = some o → h'.get? c = some o) → (∃ o, h'.get? e = some o ∧ o.cls = .type "StopIteration") → E (.ref e) { s with heap := h' }) :
    wpAny (model prog w) A (Builtin.«zip.__next__» ⟨[.ref z], []⟩) Q E s := by
  show wpAny _ _ (field (.ref z) 2 >>= _) _ _ _
  refine wpAny_bind (wpAny_field hz rfl (x := .bool false) rfl ?_)
  show wpAny _ _ (field (.ref z) 3 >>= _) _ _ _
  refine wpAny_bind (wpAny_field hz rfl (x := .ref TI) rfl ?_)
  refine wpAny_bind (wpAny_seqItems hTI rfl ?_)
  show wpAny _ _ (Builtin.SmallTypes.ownedTupleIsFree (.ref z) >>= _) _ _ _
  refine wpAny_bind (wpAny_tupleHeld_zip hz hT fun g1 z1 s1 => ?_)
  simp only [Bool.false_eq_true, if_false]
  refine wpAny_bind ?_
  rw [← Array.forIn_toList]
  simp only [List.forIn_cons, List.forIn_nil]
  refine wpAny_bind (wpAny_bind (wpAny_holding ?_))
  show wpAny _ _ (Builtin.SmallTypes.nextOf (.ref i1) >>= _) _ _ _
  cases hx : xs[k1]? with
  | none =>
    refine wpAny_bind (nx_end (s := { s with heap := g1 }) hh (h1.extBut s1.extBut D.i1z) (hl1.extBut s1.extBut D.l1z) hx fun g2 e s2 he => ?_)
    exact hE g2 e (fun c o c1 c2 _ x => s2 _ _ c2 (s1.extBut _ _ c1 x)) he
  | some x =>
    have hy : ys[k2]? = none := by
      rcases hend with h | h
      · rw [hx] at h; cases h
      · exact h
    refine wpAny_bind (nx_item (s := { s with heap := g1 }) (h1.extBut s1.extBut D.i1z) (hl1.extBut s1.extBut D.l1z) hx fun g2 a2 s2 => wpAny_pure ?_)
    refine wpAny_pure ?_
    refine wpAny_bind (wpAny_bind (wpAny_holding ?_))
    show wpAny _ _ (Builtin.SmallTypes.nextOf (.ref i2) >>= _) _ _ _
    refine wpAny_bind (nx_end (s := { s with heap := g2 }) hh ((h2.extBut s1.extBut D.i2z).extBut s2.extBut D.i12.symm) ((hl2.extBut s1.extBut D.l2z).extBut s2.extBut D.l2i1) hy fun g3 e s3 he => ?_)
    exact hE g3 e (fun c o c1 c2 c3 x => s3 _ _ c3 (s2.extBut _ _ c2 (s1.extBut _ _ c1 x))) he
end
end Pi
end
section
set_option Elab.async false
set_option linter.all false
set_option maxRecDepth 100000
set_option maxHeartbeats 4000000
namespace Pi
open PySem PySem.W PySem.Calls PyProof.Rows
/-! ### list(..) of what gives a new tuple each turn -/
/-- z gives n new tuples; T: the first that it gave; fp: what it changes or reads -/
structure Mkr (prog : Program) (w : World) (z : Addr) (fp wr : List Addr) (n : Nat) (P : Nat → List Value → Prop) (St : Nat → Option Addr → Heap → Prop) : Prop where
  there : ∀ i T h, St i T h → ∀ b ∈ fp, b < h.objs.size
  mem : z ∈ fp
  sub : ∀ b, b ∈ wr → b ∈ fp
  keep : ∀ i T h h', St i T h → (∀ b ∈ fp, ∀ o, h.get? b = some o → h'.get? b = some o) → St i T h'
  next : ∀ (A : Around) (E : Value → Shared → Prop) (s : Shared) (i : Nat) (T : Option Addr) (Q : Option Value → Shared → Prop), i < n → St i T s.heap → (∀ t, T = some t → t ∉ fp ∧ ∃ o, s.heap.get? t = some o) →
    (∀ h' vs, P i vs → St (i + 1) (some (T.getD s.heap.objs.size)) h' → h'.get? s.heap.objs.size = some { cls := .type "tuple", data := .seq vs.toArray } → h'.objs.size = s.heap.objs.size + 1 →
      (∀ b o, b ∉ wr → s.heap.get? b = some o → h'.get? b = some o) → Q (some (.ref s.heap.objs.size)) { s with heap := h' }) → wpAny (model prog w) A (pyNext (.ref z)) Q E s
  done : ∀ (A : Around) (E : Value → Shared → Prop) (s : Shared) (T : Option Addr) (Q : Option Value → Shared → Prop), A.handled = none → St n T s.heap → (∀ t, T = some t → t ∉ fp ∧ ∃ o, s.heap.get? t = some o) →
    (∀ h', (∀ b o, b ∉ wr → s.heap.get? b = some o → h'.get? b = some o) → Q none { s with heap := h' }) → wpAny (model prog w) A (pyNext (.ref z)) Q E s
/-- the tuples that were made -/
structure Mds (fp : List Addr) (n : Nat) (P : Nat → List Value → Prop) (h : Heap) (as : List Addr) : Prop where
  rise : as.Pairwise (· < ·)
  apart : ∀ a ∈ as, a ∉ fp
  at' : ∀ (j : Nat) (a : Addr), as[j]? = some a → ∃ vs, P j vs ∧ h.get? a = some { cls := .type "tuple", data := .seq vs.toArray }
theorem Mds.lt {fp : List Addr} {n : Nat} {P : Nat → List Value → Prop} {h : Heap} {as : List Addr} (g : Mds fp n P h as) {a : Addr} (ha : a ∈ as) : a < h.objs.size := by
  obtain ⟨j, hj⟩ := List.mem_iff_getElem?.mp ha
  obtain ⟨_, _, e⟩ := g.at' j a hj
  exact Heap.lt_size e
section
variable {prog : Program} {w : World} {A : Around} {s : Shared} {R : Result → Shared → Prop} {z : Addr} {fp wr : List Addr} {n : Nat} {P : Nat → List Value → Prop} {St : Nat → Option Addr → Heap → Prop}
theorem mk_loop {S : Addr} (M : Mkr prog w z fp wr n P St) (hh : A.handled = none) (hS0 : S ∉ fp) (hn : n ≤ sizeLine) (res : Value) {h₁ : Heap}
    (hR : ∀ h' tk acc c as, (∀ b o, b ≠ S → b ∉ wr → h₁.get? b = some o → h'.get? b = some o) → h'.get? S = some { cls := .type "list", dict := none, data := .seq acc c, slots := #[] } → as.length = n → Mds fp n P h' as → (∀ a ∈ as, S < a) →
      acc.toList = as.map Value.ref → R (.ok (.ret res)) { s with heap := h', toks := tk }) :
    ∀ (k i : Nat) (h : Heap) (tk c : Nat) (acc : Array Value) (as : List Addr), n - i = k → i ≤ n → St i as.head? h → (∀ b o, b ≠ S → b ∉ wr → h₁.get? b = some o → h.get? b = some o) →
      h.get? S = some { cls := .type "list", dict := none, data := .seq acc c, slots := #[] } → acc.toList = as.map Value.ref → as.length = i → Mds fp n P h as → (∀ a ∈ as, S < a) →
      codeAny (model prog w) A (.builtin "list.extend.loop" ⟨[.ref S, .ref z, res], []⟩) R { s with heap := h, toks := tk } := by
  intro k
  induction k with
  | zero =>
    intro i h tk c acc as hk hi hst hkeep hS hacc hal hG hlo
    have ein : i = n := by omega
    subst ein
    refine codeAny_builtin PySem.F.entry_extend_loop ?_
    rw [Around.under_plainId PySem.F.plain_extend_loop _]
    show wpAny _ A.in1 (pyNext (.ref z) >>= _) _ _ _
    refine wpAny_bind (M.done A.in1 _ { s with heap := h, toks := tk } as.head? _ hh hst (fun t ht => ?_) fun h' he => ?_)
    · have hm : t ∈ as := List.mem_of_mem_head? ht
      obtain ⟨j, hj⟩ := List.mem_iff_getElem?.mp hm
      obtain ⟨_, _, e⟩ := hG.at' j t hj
      exact ⟨hG.apart t hm, _, e⟩
    · refine wpAny_pure (hR h' tk acc c as (fun b o h1 h2 e => he b o h2 (hkeep b o h1 h2 e)) (he S _ (fun q => hS0 (M.sub _ q)) hS) hal ⟨hG.rise, hG.apart, fun j a hj => ?_⟩ hlo hacc)
      obtain ⟨vs, e1, e3⟩ := hG.at' j a hj
      exact ⟨vs, e1, he a _ (fun q => hG.apart a (List.mem_of_getElem? hj) (M.sub _ q)) e3⟩
  | succ k ih =>
    intro i h tk c acc as hk hi hst hkeep hS hacc hal hG hlo
    have hlt : i < n := by omega
    have hsz : acc.size = i := by rw [← Array.length_toList, hacc, List.length_map, hal]
    refine codeAny_builtin PySem.F.entry_extend_loop ?_
    rw [Around.under_plainId PySem.F.plain_extend_loop _]
    show wpAny _ A.in1 (pyNext (.ref z) >>= _) _ _ _
    refine wpAny_bind (M.next A.in1 _ { s with heap := h, toks := tk } i as.head? _ hlt hst (fun t ht => ?_) fun h' vs hP hst' ht hz hkp => ?_)
    · have hm : t ∈ as := List.mem_of_mem_head? ht
      obtain ⟨j, hj⟩ := List.mem_iff_getElem?.mp hm
      obtain ⟨_, _, e⟩ := hG.at' j t hj
      exact ⟨hG.apart t hm, _, e⟩
    · dsimp only at ht hz hkp hst' ⊢
      have hS' := hkp S _ (fun q => hS0 (M.sub _ q)) hS
      have hSl : S < h.objs.size := Heap.lt_size hS
      have up : ∀ b o, b ≠ S → h'.get? b = some o → (h'.update S (Obj.mapSeq (·.push (Value.ref h.objs.size)))).get? b = some o := fun b o hb e => (Heap.get?_update_other _ _ (Ne.symm hb)).trans e
      have nfp : h.objs.size ∉ fp := fun hm => Nat.lt_irrefl _ (M.there i _ h hst _ hm)
      have hhead : (as ++ [h.objs.size]).head? = some (as.head?.getD h.objs.size) := by
        cases as <;> rfl
      show wpAny _ A.in1 (updateSeq S (·.push (Value.ref h.objs.size)) >>= _) _ _ _
      refine wpAny_bind ?_
      refine wpAny_updateSeq hS' rfl (wpAny_pure ⟨plainId_quiet PySem.F.plain_extend_loop _, ih (i + 1) _ tk _ (acc.push (Value.ref h.objs.size)) (as ++ [h.objs.size]) (by omega) hlt (by rw [hhead]; exact M.keep _ _ _ _ hst' fun b hb o e => up b o (fun q => hS0 (q ▸ hb)) e)
        (fun b o h1 h2 e => up b o h1 (hkp b o h2 (hkeep b o h1 h2 e))) (Heap.get?_update_self _ hS' rfl) (by rw [Array.toList_push, hacc, List.map_append]; rfl) (by rw [List.length_append, hal]; rfl) ⟨?_, ?_, ?_⟩ ?_⟩) (by rw [hsz]; omega) (by show (acc.push (Value.ref h.objs.size)).size ≤ sizeLine + 1; rw [Array.size_push, hsz]; omega)
      · refine List.pairwise_append.mpr ⟨hG.rise, List.pairwise_singleton _ _, fun a ha b hb => ?_⟩
        rw [List.mem_singleton.mp hb]
        exact hG.lt ha
      · intro a ha
        rcases List.mem_append.mp ha with ha | ha
        · exact hG.apart a ha
        · rw [List.mem_singleton.mp ha]; exact nfp
      · intro j b hj
        rcases Nat.lt_trichotomy j as.length with h1 | h1 | h1
        · rw [List.getElem?_append_left h1] at hj
          obtain ⟨vs', e1, e3⟩ := hG.at' j b hj
          have hm := List.mem_of_getElem? hj
          exact ⟨vs', e1, up b _ (Nat.ne_of_gt (hlo b hm)) (hkp b _ (fun q => hG.apart b hm (M.sub _ q)) e3)⟩
        · subst h1
          have hb : h.objs.size = b := by simpa using hj
          subst hb
          exact ⟨vs, by rw [hal]; exact hP, up _ _ (Nat.ne_of_gt hSl) ht⟩
        · have hnone : (as ++ [h.objs.size])[j]? = none := List.getElem?_eq_none (by rw [List.length_append, List.length_singleton]; omega)
          rw [hnone] at hj; cases hj
      · intro a ha
        rcases List.mem_append.mp ha with ha | ha
        · exact hlo a ha
        · rw [List.mem_singleton.mp ha]; exact hSl
/-- list(z) -/
theorem mk_list {E : Value → Shared → Prop} {T : String} {Q : Value → Shared → Prop} (M : Mkr prog w z fp wr n P St) (hh : A.handled = none) (hst : St 0 none s.heap) (hn : n ≤ sizeLine) (hty : ∀ h, St 0 none h → ∃ o, h.get? z = some o ∧ o.cls = .type T)
    (hnl : (Value.type T == Value.type "list") = false) (hnt : (Value.type T == Value.type "tuple") = false)
    (hit : ∀ (A : Around) (E : Value → Shared → Prop) (s : Shared) (Q : Value → Shared → Prop), St 0 none s.heap → Q (.ref z) s → wpAny (model prog w) A (pyIter (.ref z)) Q E s)
    (hhint : ∀ (A : Around) (E : Value → Shared → Prop) (s : Shared) (Q : Bool → Shared → Prop), St 0 none s.heap → (∀ b, Q b s) → wpAny (model prog w) A (Builtin.List.listLengthHint (.ref z)) Q E s)
    (hQ : ∀ h' tk acc c as, (∀ b o, b ∉ wr → s.heap.get? b = some o → h'.get? b = some o) → h'.get? s.heap.objs.size = some { cls := .type "list", dict := none, data := .seq acc c, slots := #[] } → as.length = n → Mds fp n P h' as → (∀ a ∈ as, s.heap.objs.size < a) →
      acc.toList = as.map Value.ref → Q (.ref s.heap.objs.size) { s with heap := h', toks := tk }) :
    wpAny (model prog w) A (call (.type "list") [.ref z]) Q E s := by
  refine callType_codes (Q₁ := fun obj s₁ => obj = .ref s.heap.objs.size ∧ s₁ = { s with heap := s.heap.push { cls := .type "list", data := .seq #[] } }) PySem.F.called_list (PySem.F.typeCall_list_1 _) PySem.F.entry_list_init
    (code_list_new _ ⟨rfl, rfl⟩) fun obj s₁ h₁ => ?_
  obtain ⟨rfl, rfl⟩ := h₁
  have hS : (s.heap.push { cls := .type "list", data := .seq #[] }).get? s.heap.objs.size = some { cls := .type "list", data := .seq #[] } := Heap.get?_push_size _ rfl
  have hlt := M.there 0 none _ hst
  have hSf : s.heap.objs.size ∉ fp := fun hm => Nat.lt_irrefl _ (hlt _ hm)
  have hSz : s.heap.objs.size ≠ z := fun e => hSf (e ▸ M.mem)
  refine ⟨⟨_, hS, rfl⟩, PySem.F.args_list_init_2 _ _, ?_⟩
  have key : ∀ (h : Heap) (c₁ tk : Nat), (∀ b o, b ≠ s.heap.objs.size → s.heap.get? b = some o → h.get? b = some o) → h.get? s.heap.objs.size = some { cls := .type "list", data := .seq #[] c₁ } →
      codeAny (model prog w) A.in1 (.builtin "list.extend.loop" ⟨[.ref s.heap.objs.size, .ref z, .none], []⟩) (wants (fun r s₂ => r = Value.none ∧ Q (.ref s.heap.objs.size) s₂) E) { s with heap := h, toks := tk } := by
    intro h c₁ tk hk hS₁
    refine mk_loop (A := A.in1) (s := s) (S := s.heap.objs.size) (h₁ := s.heap) M hh hSf hn .none (fun h' tk' acc c as hk' hS' hl hG hlo hacc => ⟨rfl, hQ h' tk' acc c as (fun b o hb e => hk' b o (Nat.ne_of_lt (Heap.lt_size e)) hb e) hS' hl hG hlo hacc⟩)
      n 0 h tk c₁ #[] [] (Nat.sub_zero _) (Nat.zero_le _) (M.keep 0 none _ _ hst fun b hb o e => hk b o (fun q => hSf (q ▸ hb)) e) (fun b o hb _ e => hk b o hb e) hS₁ rfl rfl
      ⟨List.Pairwise.nil, (fun _ ha => nomatch ha), (fun j a hj => by simp at hj)⟩ (fun _ ha => nomatch ha)
  show wpAny _ _ (do let old ← Builtin.List.listItems (.ref s.heap.objs.size); Builtin.List.listUpdate (.ref s.heap.objs.size) (fun _ => #[]); letGo old.toList.reverse; Builtin.List.listExtendWith (.ref s.heap.objs.size) (.ref z) .none) _ _ _
  refine wpAny_bind ?_
  unfold Builtin.List.listItems
  refine wpAny_bind (wpAny_seqItems hS rfl (wpAny_pure ?_))
  show wpAny _ _ (updateSeq s.heap.objs.size (fun _ => #[]) >>= fun _ => letGo (#[] : Array Value).toList.reverse >>= fun _ => Builtin.List.listExtendWith (.ref s.heap.objs.size) (.ref z) .none) _ _ _
  refine wpAny_bind (wpAny_updateSeq hS rfl ?_)
  have hS₂ := Heap.get?_update_self (Obj.mapSeq (fun _ => (#[] : Array Value))) hS rfl
  have oth : ∀ b o, b ≠ s.heap.objs.size → s.heap.get? b = some o → ((s.heap.push { cls := .type "list", data := .seq #[] }).update s.heap.objs.size (Obj.mapSeq (fun _ => (#[] : Array Value)))).get? b = some o :=
    fun b o hb e => (Heap.get?_update_other _ _ (Ne.symm hb)).trans (Heap.get?_push_of_some _ e)
  refine wpAny_bind (wpAny_letGo ?_)
  have hst2 := M.keep 0 none _ ((s.heap.push { cls := .type "list", data := .seq #[] }).update s.heap.objs.size (Obj.mapSeq (fun _ => (#[] : Array Value)))) hst fun b hb o e => oth b o (fun q => hSf (q ▸ hb)) e
  unfold Builtin.List.listExtendWith
  obtain ⟨oz, ez, cz⟩ := hty _ hst2
  refine wpAny_bind (wpAny_typeOf (T := T) ⟨oz, ez, cz⟩ ?_)
  have h1 : Builtin.List.listSameRef (.ref s.heap.objs.size) (.ref z) = false := by simp [Builtin.List.listSameRef, hSz]
  simp only [h1, hnl, hnt, Bool.or_false, Bool.false_eq_true, if_false]
  refine wpAny_bind (hit _ _ _ _ hst2 ?_)
  refine wpAny_bind (wpAny_holding (hhint _ _ _ _ hst2 fun bb => ?_))
  refine wpAny_ite_split (fun _ => ?_) (fun _ => wpAny_pure ⟨plainId_quiet PySem.F.plain_extend_loop _, key _ _ _ oth hS₂⟩)
  refine wpAny_bind (wpAny_rule ?_)
  refine wpAny_bind ?_
  show wpAny _ _ (updateSeq s.heap.objs.size (·.push .none) >>= fun _ => updateSeq s.heap.objs.size (·.pop)) _ _ _
  refine wpAny_bind (wpAny_updateSeq hS₂ rfl ?_)
  have hS₃ := Heap.get?_update_self (Obj.mapSeq (·.push Value.none)) hS₂ rfl
  refine wpAny_updateSeq (hz := by seq_fits) hS₃ rfl ?_
  have hS₄ := Heap.get?_update_self (Obj.mapSeq (·.pop)) hS₃ rfl
  refine wpAny_pure ⟨plainId_quiet PySem.F.plain_extend_loop _, key _ _ _ (fun b o hb e => ?_) hS₄⟩
  exact (Heap.get?_update_other _ _ (Ne.symm hb)).trans ((Heap.get?_update_other _ _ (Ne.symm hb)).trans (oth b o hb e))
end
end Pi
end
section
set_option Elab.async false
set_option linter.all false
set_option maxRecDepth 100000
set_option maxHeartbeats 4000000
namespace Pi
open PySem PySem.W PySem.Calls PyProof.Rows
/-! ### zip of two gives new pairs -/
def ZSt (b1 b2 : Bool) (z TI TO i1 i2 l1 l2 : Addr) (xs ys : Array Value) (i : Nat) (T : Option Addr) (h : Heap) : Prop :=
  (match T with
    | none => IsZip h z TI TO .none
    | some t => ∃ f, IsZipHeld h z TI TO t f) ∧ IsPair h TI (.ref i1) (.ref i2) ∧ (∃ a b, IsPair h TO a b) ∧ SIt b1 h i1 l1 i ∧ SIt b2 h i2 l2 i ∧ SSq b1 h l1 xs ∧ SSq b2 h l2 ys
theorem SSq.at {b : Bool} {h h' : Heap} {l : Addr} {xs : Array Value} (x : SSq b h l xs) (e : ∀ o, h.get? l = some o → h'.get? l = some o) : SSq b h' l xs := by
  cases b with
  | true => exact Heap.IsList.at x e
  | false => obtain ⟨o, ho, r⟩ := (show h.IsTuple l xs from x); exact ⟨o, e o ho, r⟩
theorem SSq.lt {b : Bool} {h : Heap} {l : Addr} {xs : Array Value} (x : SSq b h l xs) : l < h.objs.size := by
  cases b with
  | true => obtain ⟨o, ho, r⟩ := (show h.IsList l xs from x); exact Heap.lt_size ho
  | false => obtain ⟨o, ho, r⟩ := (show h.IsTuple l xs from x); exact Heap.lt_size ho
theorem zip_mkr {prog : Program} {w : World} {b1 b2 : Bool} {z TI TO i1 i2 l1 l2 : Addr} {xs ys : Array Value} (D : ZipApart z TI TO i1 i2 l1 l2) :
    Mkr prog w z [z, TI, TO, i1, i2, l1, l2] [z, TI, TO, i1, i2] (min xs.size ys.size) (fun i vs => ∃ x y, xs[i]? = some x ∧ ys[i]? = some y ∧ vs = [x, y]) (ZSt b1 b2 z TI TO i1 i2 l1 l2 xs ys) where
  mem := by simp
  sub := fun b hb => by
    simp only [List.mem_cons, List.not_mem_nil, or_false] at hb ⊢
    rcases hb with r | r | r | r | r <;> simp [r]
  there := fun i T h st b hb => by
    obtain ⟨hz, hTI, ⟨a, c, hTO⟩, h1, h2, q1, q2⟩ := st
    obtain ⟨o1, e1, _⟩ := h1.obj
    obtain ⟨o2, e2, _⟩ := h2.obj
    have ez : z < h.objs.size := by
      cases T with
      | none => exact Heap.lt_size (show IsZip h z TI TO .none from hz)
      | some t => obtain ⟨f, e⟩ := hz; exact Heap.lt_size e
    have e' : b = z ∨ b = TI ∨ b = TO ∨ b = i1 ∨ b = i2 ∨ b = l1 ∨ b = l2 := by simpa using hb
    rcases e' with r | r | r | r | r | r | r
    · rw [r]; exact ez
    · rw [r]; exact Heap.lt_size hTI
    · rw [r]; exact Heap.lt_size hTO
    · rw [r]; exact Heap.lt_size e1
    · rw [r]; exact Heap.lt_size e2
    · rw [r]; exact q1.lt
    · rw [r]; exact q2.lt
  keep := fun i T h h' st k => by
    obtain ⟨hz, hTI, ⟨a, c, hTO⟩, h1, h2, q1, q2⟩ := st
    refine ⟨?_, k TI (by simp) _ hTI, ⟨a, c, k TO (by simp) _ hTO⟩, h1.at fun o e => k i1 (by simp) o e, h2.at fun o e => k i2 (by simp) o e, q1.at fun o e => k l1 (by simp) o e, q2.at fun o e => k l2 (by simp) o e⟩
    cases T with
    | none => exact k z (by simp) _ hz
    | some t => obtain ⟨f, e⟩ := hz; exact ⟨f, k z (by simp) _ e⟩
  next := fun A E s i T Q hi st hT hQ => by
    obtain ⟨hz, hTI, ⟨a, c, hTO⟩, h1, h2, q1, q2⟩ := st
    have hix : i < xs.size := Nat.lt_of_lt_of_le hi (Nat.min_le_left ..)
    have hiy : i < ys.size := Nat.lt_of_lt_of_le hi (Nat.min_le_right ..)
    cases T with
    | none =>
      refine nextA_item D hz hTI hTO h1 h2 q1 q2 (Array.getElem?_eq_getElem hix) (Array.getElem?_eq_getElem hiy) fun h' a1 a2 a3 a4 a5 a6 hk => ?_
      exact hQ h' [xs[i], ys[i]] ⟨_, _, Array.getElem?_eq_getElem hix, Array.getElem?_eq_getElem hiy, rfl⟩
        ⟨⟨false, a1⟩, hk _ _ D.TIz D.TITO D.TIi1 D.TIi2 hTI, ⟨_, _, a2⟩, a3, a4, q1.at fun o e => hk _ o D.l1z D.l1TO D.l1i1 D.l1i2 e, q2.at fun o e => hk _ o D.l2z D.l2TO D.l2i1 D.l2i2 e⟩
        a5 a6 fun b o hb e => hk b o (fun r => hb (by simp [r])) (fun r => hb (by simp [r])) (fun r => hb (by simp [r])) (fun r => hb (by simp [r])) e
    | some t =>
      obtain ⟨f, hz⟩ := hz
      obtain ⟨ht, oT, eT⟩ := hT t rfl
      have hTy : s.TypeIs (.ref z) "zip" := ⟨_, hz, rfl⟩
      unfold pyNext
      refine wpAny_bind (wpAny_attempt (wpAny_callSpecial?_slot (name := Str.ofString "__next__") hTy F.slot_zip_next
        (wpAny_call_entry F.slot_zip_next hTy F.entry_zip_next
          (heldA_item D hz eT hTI h1 h2 q1 q2 (Array.getElem?_eq_getElem hix) (Array.getElem?_eq_getElem hiy) fun h' a1 a3 a4 a5 a6 hk => wpAny_pure ?_) (F.args_zip_next_1 _))))
      exact hQ h' [xs[i], ys[i]] ⟨_, _, Array.getElem?_eq_getElem hix, Array.getElem?_eq_getElem hiy, rfl⟩
        ⟨⟨true, a1⟩, hk _ _ D.TIz D.TIi1 D.TIi2 hTI, ⟨_, _, hk _ _ D.TOz D.TOi1 D.TOi2 hTO⟩, a3, a4, q1.at fun o e => hk _ o D.l1z D.l1i1 D.l1i2 e, q2.at fun o e => hk _ o D.l2z D.l2i1 D.l2i2 e⟩
        a5 a6 fun b o hb e => hk b o (fun r => hb (by simp [r])) (fun r => hb (by simp [r])) (fun r => hb (by simp [r])) e
  done := fun A E s T Q hh st hT hQ => by
    obtain ⟨hz, hTI, ⟨a, c, hTO⟩, h1, h2, q1, q2⟩ := st
    have hend : xs[min xs.size ys.size]? = none ∨ ys[min xs.size ys.size]? = none := by
      rcases Nat.le_total xs.size ys.size with h | h
      · exact .inl (by rw [Nat.min_eq_left h]; exact Array.getElem?_eq_none (Nat.le_refl _))
      · exact .inr (by rw [Nat.min_eq_right h]; exact Array.getElem?_eq_none (Nat.le_refl _))
    cases T with
    | none => exact nextA_end hh D hz hTI hTO h1 h2 q1 q2 hend fun h' hk => hQ h' fun b o hb e => hk b o (fun r => hb (by simp [r])) (fun r => hb (by simp [r])) (fun r => hb (by simp [r])) (fun r => hb (by simp [r])) e
    | some t =>
      obtain ⟨f, hz⟩ := hz
      obtain ⟨ht, oT, eT⟩ := hT t rfl
      have hTy : s.TypeIs (.ref z) "zip" := ⟨_, hz, rfl⟩
      unfold pyNext
      refine wpAny_bind (wpAny_attempt (wpAny_callSpecial?_slot (name := Str.ofString "__next__") hTy F.slot_zip_next
        (wpAny_call_entry F.slot_zip_next hTy F.entry_zip_next (heldA_end hh D hz eT hTI h1 h2 q1 q2 hend fun h' e hk he => ?_) (F.args_zip_next_1 _))))
      obtain ⟨o, ho, hc⟩ := he
      refine wpAny_bind (wpAny_isInstance (T := "StopIteration") (b := true) ⟨o, ho, hc⟩ isSubtype_stop ?_)
      exact wpAny_pure (hQ _ fun b o hb e => hk b o (fun r => hb (by simp [r])) (fun r => hb (by simp [r])) (fun r => hb (by simp [r])) e)
end Pi
end
section
set_option Elab.async false
set_option linter.all false
set_option maxRecDepth 100000
set_option maxHeartbeats 4000000
namespace Pi
open PySem PySem.W PySem.Calls PyProof.Rows
theorem zip_nolen : typeLookup (.type "zip") "__len__" = pure none := by rw [typeLookup_type, builtinLookup_eq_fast]; kernel_rfl
theorem zip_nohint : typeLookup (.type "zip") "__length_hint__" = pure none := by rw [typeLookup_type, builtinLookup_eq_fast]; kernel_rfl
theorem zip_hint {prog : Program} {w : World} {A : Around} {E : Value → Shared → Prop} {s : Shared} {z : Addr} {Q : Bool → Shared → Prop} (hT : s.TypeIs (.ref z) "zip") (h : ∀ b, Q b s) : wpAny (model prog w) A (Builtin.List.listLengthHint (.ref z)) Q E s := by
  unfold Builtin.List.listLengthHint
  refine wpAny_bind (wpAny_specialOf hT zip_nolen ?_)
  wp_delta
  refine wpAny_ite_split (fun hab => absurd hab (by decide)) (fun _ => ?_)
  refine wpAny_ite_split (fun hab => absurd hab (by decide)) (fun _ => ?_)
  refine wpAny_bind (wpAny_specialOf hT zip_nohint ?_)
  exact wpAny_pure (h true)
/-- list(z), z a new zip of two -/
theorem list_zip {prog : Program} {w : World} {A : Around} {E : Value → Shared → Prop} {s : Shared} {b1 b2 : Bool} {z TI TO i1 i2 l1 l2 : Addr} {xs ys : Array Value} {Q : Value → Shared → Prop} (D : ZipApart z TI TO i1 i2 l1 l2) (hh : A.handled = none)
    (hst : ZSt b1 b2 z TI TO i1 i2 l1 l2 xs ys 0 none s.heap) (hn : min xs.size ys.size ≤ sizeLine)
    (hQ : ∀ h' tk acc c as, (∀ b o, b ∉ [z, TI, TO, i1, i2] → s.heap.get? b = some o → h'.get? b = some o) → h'.get? s.heap.objs.size = some { cls := .type "list", dict := none, data := .seq acc c, slots := #[] } → as.length = min xs.size ys.size →
      Mds [z, TI, TO, i1, i2, l1, l2] (min xs.size ys.size) (fun i vs => ∃ x y, xs[i]? = some x ∧ ys[i]? = some y ∧ vs = [x, y]) h' as → (∀ a ∈ as, s.heap.objs.size < a) → acc.toList = as.map Value.ref → Q (.ref s.heap.objs.size) { s with heap := h', toks := tk }) :
    wpAny (model prog w) A (call (.type "list") [.ref z]) Q E s :=
  mk_list (T := "zip") (zip_mkr D) hh hst hn (fun h st => ⟨_, st.1, rfl⟩) (by decide) (by decide) (fun A E s Q st h => wpAny_pyIter_zip (show IsZip s.heap z TI TO .none from st.1) h) (fun A E s Q st h => zip_hint ⟨_, st.1, rfl⟩ h) hQ
end Pi
end
section
set_option Elab.async false
set_option linter.all false
set_option maxRecDepth 100000
set_option maxHeartbeats 4000000
namespace Pi
open PySem PySem.Spec PyProof.Rows L2
section
variable {K : PySem.W.Frag} {H H2 : Hp} {μ : Mu} {st : Sto}
/-- more is tracked -/
theorem Ext.sub (g : ∀ b o, H b = some o → H2 b = some o) : Ext K H μ H2 μ := by
  have k : ∀ {a u}, Rd H a u → Rd H2 a u := fun {a u} h => by
    rcases h with h | ⟨z, h⟩
    · exact .inl (g _ _ h)
    · exact .inr ⟨z, g _ _ h⟩
  exact ⟨⟨fun _ _ h => h, fun a xs h => h.imp k id, fun a xs h => h.imp (fun q => ⟨k q.1, q.2⟩) id⟩, fun a h => ⟨h, fun o e => g _ _ e⟩, fun a o u e => g _ _ e⟩
theorem Hr.sub (h : Hr K H μ st) (g : ∀ b o, H b = some o → H2 b = some o) : Hr K H2 μ st := by
  refine ⟨h.inj, fun n a e => ?_, h.low, h.des, h.prv, fun a e => ?_, fun n u e => ?_⟩
  · cases q : H a with
    | none => exact absurd q (h.trk n a e)
    | some o => rw [g _ _ q]; simp
  · obtain ⟨xs, w, c⟩ := h.prT a e
    exact ⟨xs, g _ _ w, c⟩
  · obtain ⟨a, e1, e2⟩ := h.obj n u e
    obtain ⟨w, e3⟩ := e2.some
    exact ⟨a, e1, e2.wk (Ext.sub g).toWk (by rw [g _ _ e3, e3])⟩
theorem RVs.of_get : ∀ {ps : List PV} {vs : List V}, ps.length = vs.length → (∀ (i : Nat) p v, ps[i]? = some p → vs[i]? = some v → RV K H μ p v) → RVs K H μ ps vs
  | [], [], _, _ => .nil
  | p :: ps, v :: vs, hl, h => .cons (h 0 p v rfl rfl) (RVs.of_get (by simpa using hl) fun i q u e1 e2 => h (i + 1) q u (by simpa using e1) (by simpa using e2))
  | [], _ :: _, hl, _ => by simp at hl
  | _ :: _, [], hl, _ => by simp at hl
theorem pairsL_len : ∀ (ps qs : List PV), (pairsL ps qs).length = min ps.length qs.length
  | [], qs => by simp [pairsL]
  | p :: ps, [] => by simp [pairsL]
  | p :: ps, q :: qs => by simp only [pairsL, List.length_cons, pairsL_len ps qs]; omega
end
end Pi
end
section
set_option Elab.async false
set_option linter.all false
set_option maxRecDepth 100000
set_option maxHeartbeats 4000000
namespace Pi
open PySem PySem.Spec PyProof.Rows L2
section
variable {X : Cx} {C : Cls} {W : WX} {a b : Expr} {ea eb : Env → Sto → Out PV} {p q pos pos2 : Pos}
/-- tuples that lie already are tracked -/
theorem takeM {pins : List (Addr × Obj)} {σ : L2.St} {H0 : Hp} {s : Shared} {h' : Heap} {tk : Nat} {P : Addr → List V → Prop} (I0 : Inv X pins σ H0 s) : ∀ (L : List Addr) (H1 : Hp), Inv X pins σ H1 { s with heap := h', toks := tk } → L.Nodup →
    (∀ a ∈ L, s.heap.objs.size ≤ a ∧ H1 a = none ∧ ∃ vs, P a vs ∧ ∀ H2, ObjOk X.prog X.w H2 h' a (.tup vs)) →
    ∃ H2, Inv X pins σ H2 { s with heap := h', toks := tk } ∧ (∀ b o, H1 b = some o → H2 b = some o) ∧ (∀ a ∈ L, ∃ vs, P a vs ∧ H2 a = some (.tup vs)) ∧ ∀ b, b ∉ L → H2 b = H1 b
  | [], H1, I1, _, _ => ⟨H1, I1, fun _ _ e => e, fun _ h => absurd h (by simp), fun _ _ => rfl⟩
  | a :: L, H1, I1, hn, h => by
    obtain ⟨hb, hnone, vs, hP, ok⟩ := h a (List.mem_cons_self ..)
    have I2 : Inv X pins σ (upd H1 a (.tup vs)) { s with heap := h', toks := tk } := I1.take (h' := h') (t' := tk) (fun b ob _ e => e) (I0.fpOk hb hnone) (ok _)
    rw [List.nodup_cons] at hn
    obtain ⟨H2, I3, g, q, k⟩ := takeM I0 L (upd H1 a (.tup vs)) I2 hn.2 fun c hc => by
      obtain ⟨c1, c2, c3⟩ := h c (List.mem_cons_of_mem _ hc)
      exact ⟨c1, by rw [upd_ne (fun z => hn.1 (by rw [← z]; exact hc))]; exact c2, c3⟩
    refine ⟨H2, I3, fun b o e => g b o (by rw [upd_ne (ne_of_none e hnone)]; exact e), fun c hc => ?_, fun b hb => ?_⟩
    · rcases List.mem_cons.mp hc with rfl | hc
      · exact ⟨vs, hP, g _ _ upd_same⟩
      · exact q c hc
    · rw [List.mem_cons, not_or] at hb
      rw [k b hb.2, upd_ne hb.1]
theorem vals_refs : ∀ as : List Addr, Vals (as.map V.ref) (as.map Value.ref)
  | [] => .nil
  | _ :: as => .cons rfl (vals_refs as)
theorem vals_at : ∀ {vs : List V} {its : List Value} {i : Nat} {u : Value}, Vals vs its → its[i]? = some u → ∃ v, vs[i]? = some v ∧ L2.RelV v u
  | _, _, 0, _, .cons r _, e => by simp at e; subst e; exact ⟨_, rfl, r⟩
  | _, _, i + 1, u, .cons _ rs, e => by
    obtain ⟨v, h1, h2⟩ := vals_at rs (by simpa using e)
    exact ⟨v, by simpa using h1, h2⟩
  | _, _, _, _, .nil, e => by simp at e
theorem sqB_le {pins : List (Addr × Obj)} {σ : L2.St} {H : Hp} {s : Shared} {b : Bool} {a : Addr} {xs : List V} {its : List Value} (I : Inv X pins σ H s) (h : SqB b X.K H a xs) (rv : Vals xs its) : its.length ≤ sizeLine := by
  cases b with
  | true =>
    obtain ⟨its', rv', p, hz⟩ := I.list h
    rw [← rv.length]
    exact hz
  | false =>
    obtain ⟨its', rv', p, hz⟩ := I.tuple h
    rw [← rv.length]
    exact hz
theorem g_lzip {l : Bool} (hc : X.calm = true) (hg : Gl X "list") (hm : X.mg "list" = none) (hg2 : Gl X "zip") (hm2 : X.mg "zip" = none) (ha : PE X a (gE X.K C W ea)) (hb : PE X b (gE X.K C W eb)) (h1 : notStar a = true) (h2 : notStar b = true) :
    PE X (.Call (.Name "list" p) [.Call (.Name "zip" q) [a, b] [] pos2] [] pos) (gE X.K C W fun ρ st => (ea ρ st).bind fun x st => (eb ρ st).bind fun y st => match itemsOf st x, itemsOf st y with
      | some xs, some ys => mkL l (pairsL xs ys) st
      | _, _ => .stuck) := by
  refine ⟨fun pins s σ H Q I qq => ?_⟩
  have hA := pa_cons ha (pa_cons hb pa_nil (star_of h2)) (star_of h1)
  refine wpAny_Call_Name_kw (ld_blt I hg hm (u := .type "list") (by decide +kernel) ?_ (by decide) (by decide))
  rw [show starEach [Expr.Call (.Name "zip" q) [a, b] [] pos2] X.env = [(false, eval (Expr.Call (.Name "zip" q) [a, b] [] pos2) X.env)] from rfl]
  refine PySem.callWith_type rfl (Calls.evalArgs_plain (Calls.spliced_cons (wpAny_mono (Q := fun v s' => wpAny (model X.prog X.w) X.A (call (.type "list") [v]) (EP X pins σ Q) X.xe s') ?_ (fun _ _ h => Calls.spliced_nil h) fun _ _ e => e)))
  have q2 : tCons (gE X.K C W ea) (tCons (gE X.K C W eb) tNil) σ H (fun vs H2 => ∃ x y, vs = [x, y] ∧ ∃ μ st p q, Hr X.K H2 μ st ∧ RV X.K H2 μ p x ∧ RV X.K H2 μ q y ∧ Th X.K C W (RV X.K) (match itemsOf st p, itemsOf st q with
      | some xs, some ys => mkL l (pairsL xs ys) st
      | _, _ => .stuck) σ H2 μ Q) := gE.imp (fun x H1 q1 => gE.imp (fun y H2 q3 => ⟨x, y, rfl, q3⟩) q1) (gE.two qq)
  refine wpAny_Call_Name_kw (ld_blt I hg2 hm2 (u := .type "zip") PyProof.Rows.boot_zip (PyProof.Rows.callWith_type1 (thn (hA.run pos2 pins s σ H _ I q2) fun us s1 ⟨vs, H1, I1, r1, q1⟩ => ?_) (star_of h1) (by rw [star_of h2]; rfl)) (by decide) (by decide))
  obtain ⟨vx, vy, ev, μ, st, pv, qv, hr, rx, ry, z⟩ := q1
  subst ev
  cases r1 with
  | cons ra rr =>
    cases rr with
    | cons rb rr =>
      cases rr
      cases e1 : itemsOf st pv with
      | none => rw [e1] at z; exact z.elim
      | some ps =>
        cases e2 : itemsOf st qv with
        | none => rw [e1, e2] at z; exact z.elim
        | some qs =>
          rw [e1, e2] at z
          obtain ⟨l1, vs, rfl, sq1, rs1⟩ := items_kb hr rx e1
          obtain ⟨l2, us, rfl, sq2, rs2⟩ := items_kb hr ry e2
          cases ra
          cases rb
          obtain ⟨its, rv, p1, lt1⟩ := sqB_of I1 sq1
          obtain ⟨its2, rv2, p2, lt2⟩ := sqB_of I1 sq2
          refine callA_zip p1 p2 fun h0 hz hTI hTO g1 g2 hsz hk => ?_
          have D := PySem.W.ktu_apart s1.heap.objs.size l1 l2 lt1 lt2
          have I2 : Inv X pins σ H1 { s1 with heap := h0 } := I1.kept (t' := s1.toks) hk
          have fresh5 : ∀ b o, s1.heap.get? b = some o → b ∉ [s1.heap.objs.size + 4, s1.heap.objs.size + 2, s1.heap.objs.size + 3, s1.heap.objs.size, s1.heap.objs.size + 1] := fun b o e hm => by
            have := Heap.lt_size e
            simp only [List.mem_cons, List.not_mem_nil, or_false] at hm
            have le : s1.heap.objs.size ≤ b := by
              rcases hm with r | r | r | r | r
              · rw [r]; exact Nat.le_add_right _ _
              · rw [r]; exact Nat.le_add_right _ _
              · rw [r]; exact Nat.le_add_right _ _
              · rw [r]; exact Nat.le_refl _
              · rw [r]; exact Nat.le_add_right _ _
            exact Nat.lt_irrefl _ (Nat.lt_of_lt_of_le this le)
          refine list_zip D (I1.ok.hd hc) ⟨hz, hTI, ⟨_, _, hTO⟩, g1, g2, p1.at fun o e => hk _ o e, p2.at fun o e => hk _ o e⟩ ?_ fun h' tk acc c as hkeep hS hlen hG hlo hacc => ?_
          · have := sqB_le I1 sq1 rv
            simp only [List.size_toArray]
            exact Nat.le_trans (Nat.min_le_left _ _) this
          · have I3 : Inv X pins σ H1 { s1 with heap := h', toks := tk } := I1.kept (t' := tk) fun b o e => hkeep b o (fresh5 b o e) (hk b o e)
            have hL : H1 h0.objs.size = none := I2.hok.fresh (Nat.le_refl _)
            have lt0 : s1.heap.objs.size ≤ h0.objs.size := by rw [hsz]; exact Nat.le_add_right _ _
            have fr : ∀ t, t ∈ as → s1.heap.objs.size ≤ t ∧ H1 t = none := fun t ht => by
              have h3 : s1.heap.objs.size ≤ t := Nat.le_trans lt0 (Nat.le_of_lt (hlo t ht))
              exact ⟨h3, I1.hok.fresh h3⟩
            have hl1 := rv.length
            have hl2 := rv2.length
            have tup : ∀ t, t ∈ as → ∃ i x y, as[i]? = some t ∧ vs[i]? = some x ∧ us[i]? = some y ∧ ∀ H2, ObjOk X.prog X.w H2 h' t (.tup [x, y]) := fun t ht => by
              obtain ⟨i, hi⟩ := List.mem_iff_getElem?.mp ht
              obtain ⟨ws, ⟨u1, u2, f1, f2, rfl⟩, f3⟩ := hG.at' i t hi
              obtain ⟨x, k1, k2⟩ := vals_at rv (by simpa using f1)
              obtain ⟨y, k3, k4⟩ := vals_at rv2 (by simpa using f2)
              exact ⟨i, x, y, hi, k1, k3, fun H2 => ⟨by show 2 ≤ sizeLine; decide, [u1, u2], .cons k2 (.cons k4 .nil), ⟨_, f3, rfl, _, rfl⟩⟩⟩
            have nd : as.Nodup := hG.rise.imp fun h => Nat.ne_of_lt h
            obtain ⟨H2, I4, g, tq, kk⟩ := takeM (P := fun t ws => ∃ i x y, as[i]? = some t ∧ vs[i]? = some x ∧ us[i]? = some y ∧ ws = [x, y]) I1 as H1 I3 nd fun t ht => by
              obtain ⟨i, x, y, k1, k2, k3, k4⟩ := tup t ht
              exact ⟨(fr t ht).1, (fr t ht).2, [x, y], ⟨i, x, y, k1, k2, k3, rfl⟩, k4⟩
            have hL2 : H2 h0.objs.size = none := by
              rw [kk _ fun hm => Nat.lt_irrefl _ (hlo _ hm)]
              exact hL
            have hlenp : (pairsL ps qs).length = as.length := by
              rw [pairsL_len, hlen, rs1.length, rs2.length, hl1, hl2]
              simp
            have x1 := Ext.sub (K := X.K) (μ := μ) g
            have hr2 := hr.sub g
            have rel : RVs X.K H2 μ (pairsL ps qs) (as.map V.ref) := RVs.of_get (by simp [hlenp]) fun i pp v k1 k2 => by
              rw [List.getElem?_map] at k2
              obtain ⟨t, k3, rfl⟩ := Option.map_eq_some_iff.mp k2
              obtain ⟨ws, ⟨j, x, y, m1, m2, m3, rfl⟩, m4⟩ := tq t (List.mem_of_getElem? k3)
              have : i = j := (List.getElem?_inj (List.getElem?_eq_some_iff.mp k3).1 nd).mp (k3.trans m1.symm)
              subst this
              rw [← nth_eq, nth_pairs] at k1
              split at k1
              · rename_i xx yy n1 n2
                cases k1
                obtain ⟨v1, w1, w2⟩ := nth_some rs1 n1
                obtain ⟨v2, w3, w4⟩ := nth_some rs2 n2
                rw [m2] at w1
                rw [m3] at w3
                cases w1
                cases w3
                exact .tup (SqT.of m4) (.cons (w2.ext x1) (.cons (w4.ext x1) .nil))
              · cases k1
            have ok : ∀ H3, ObjOk X.prog X.w H3 h' h0.objs.size (.lst (as.map V.ref)) := fun H3 => by
              refine ⟨?_, acc.toList, c, by rw [hacc]; exact vals_refs as, by simpa using hS⟩
              rw [List.length_map, hlen]
              have := sqB_le I1 sq1 rv
              simp only [List.size_toArray]
              exact Nat.le_trans (Nat.min_le_left _ _) this
            exact ⟨.ref h0.objs.size, upd H2 h0.objs.size (.lst (as.map V.ref)), I4.take (h' := h') (t' := tk) (fun b ob _ e => e) (I1.fpOk lt0 hL2) (ok _), rfl, mkL_ok (Th.ext x1 z) hr2 rel hL2⟩
end
end Pi
end
section
set_option Elab.async false
set_option linter.all false
set_option maxRecDepth 100000
set_option maxHeartbeats 1000000
namespace Pi
open PySem PySem.W PySem.Calls PyProof.Rows
/-! ### zip of any number of lists and tuples: a new tuple each turn -/
structure Arm where
  b : Bool
  it : Nat
  l : Nat
  xs : Array Value
def refsA (as : List Arm) : List Value := as.map fun a => Value.ref a.it
def rowA (as : List Arm) (i : Nat) : List Value := as.map fun a => (a.xs[i]?).getD .none
/-- the arms lie apart from one another and from the zip's own objects -/
structure NApart (z TI TO : Addr) (as : List Arm) : Prop where
  TIz : TI ≠ z
  TOz : TO ≠ z
  TITO : TI ≠ TO
  iz : ∀ a ∈ as, a.it ≠ z
  iTI : ∀ a ∈ as, a.it ≠ TI
  iTO : ∀ a ∈ as, a.it ≠ TO
  lz : ∀ a ∈ as, a.l ≠ z
  lTO : ∀ a ∈ as, a.l ≠ TO
  li : ∀ a ∈ as, ∀ c ∈ as, a.l ≠ c.it
  nd : (as.map (·.it)).Nodup
theorem nd_mid {done todo : List Arm} {a : Arm} (h : ((done ++ a :: todo).map (·.it)).Nodup) : (∀ c ∈ done, c.it ≠ a.it) ∧ ∀ c ∈ todo, c.it ≠ a.it := by
  rw [List.map_append, List.nodup_append] at h
  obtain ⟨_, h2, h3⟩ := h
  rw [List.map_cons, List.nodup_cons] at h2
  exact ⟨fun c hc => h3 _ (List.mem_map_of_mem hc) _ (by simp), fun c hc e => h2.1 (e ▸ List.mem_map_of_mem (f := fun x : Arm => x.it) hc)⟩
/-- an arm's list and its iterator at k -/
def ArmAt (h : Heap) (k : Nat) (a : Arm) : Prop := SIt a.b h a.it a.l k ∧ SSq a.b h a.l a.xs
theorem ArmAt.extBut {h h' : Heap} {k : Nat} {a : Arm} {c : Addr} (x : ArmAt h k a) (hs : Heap.ExtBut c h h') (e1 : a.it ≠ c) (e2 : a.l ≠ c) : ArmAt h' k a := ⟨x.1.extBut hs e1, x.2.extBut hs e2⟩
theorem ArmAt.at {h h' : Heap} {k : Nat} {a : Arm} (x : ArmAt h k a) (e1 : ∀ o, h.get? a.it = some o → h'.get? a.it = some o) (e2 : ∀ o, h.get? a.l = some o → h'.get? a.l = some o) : ArmAt h' k a := ⟨x.1.at e1, x.2.at e2⟩
abbrev IsTup' (h : Heap) (T : Addr) (vs : List Value) : Prop := h.get? T = some { cls := .type "tuple", data := .seq vs.toArray }
section
variable {prog : Program} {w : World} {A : Around} {E : Value → Shared → Prop} {s : Shared}
theorem set_mid {α : Type} (xs : List α) (y : α) (r : List α) (x : α) (n : Nat) (h : xs.length = n) : (xs ++ y :: r).set n x = xs ++ x :: r := by
  subst h
  simp
theorem rowA_len (as : List Arm) (k : Nat) : (rowA as k).length = as.length := by simp [rowA]
theorem refs_em {as : List Arm} (hne : as ≠ []) : (refsA as).toArray.isEmpty = false := by
  cases as with
  | nil => exact absurd rfl hne
  | cons a as => simp [refsA]
theorem heldN_item {z TI TO T : Addr} {f : Bool} {oT : Obj} {as : List Arm} {k : Nat} {Q : Value → Shared → Prop} (D : NApart z TI TO as) (hne : as ≠ []) (hfit : as.length ≤ sizeLine)
    (hz : IsZipHeld s.heap z TI TO T f) (hT : s.heap.get? T = some oT) (hTI : IsTup' s.heap TI (refsA as)) (ha : ∀ a ∈ as, ArmAt s.heap k a) (hk : ∀ a ∈ as, k < a.xs.size)
    (hQ : ∀ h', IsZipHeld h' z TI TO T true → (∀ a ∈ as, ArmAt h' (k + 1) a) → IsTup' h' s.heap.objs.size (rowA as k) → h'.objs.size = s.heap.objs.size + 1 →
      (∀ c o, c ≠ z → (∀ a ∈ as, c ≠ a.it) → s.heap.get? c = some o → h'.get? c = some o) → Q (.ref s.heap.objs.size) { s with heap := h' }) :
    wpAny (model prog w) A (Builtin.«zip.__next__» ⟨[.ref z], []⟩) (fun fin s' => ∃ v, fin = .done (.ret v) ∧ Q v s') E s := by
  show wpAny _ _ (field (.ref z) 2 >>= _) _ _ _
  refine wpAny_bind (wpAny_field hz rfl (x := .bool false) rfl ?_)
  show wpAny _ _ (field (.ref z) 3 >>= _) _ _ _
  refine wpAny_bind (wpAny_field hz rfl (x := .ref TI) rfl ?_)
  refine wpAny_bind (wpAny_seqItems hTI rfl ?_)
  simp only [refs_em hne, Bool.false_eq_true, if_false]
  show wpAny _ _ (Builtin.SmallTypes.ownedTupleIsFree (.ref z) >>= _) _ _ _
  refine wpAny_bind (wpAny_tupleHeld_zip hz hT fun g1 z1 s1 => ?_)
  simp only [Bool.false_eq_true, if_false]
  refine wpAny_bind ?_
  rw [← Array.forIn_toList]
  refine wpAny_forIn_list _ (fun rest b s' => ∃ done todo, as = done ++ todo ∧ rest = refsA todo ∧ b = ⟨none, (rowA done k).toArray⟩ ∧ ∃ h', s' = { s with heap := h' } ∧ IsZipHeld h' z TI TO T true ∧ h'.objs.size = s.heap.objs.size ∧
    (∀ a ∈ done, ArmAt h' (k + 1) a) ∧ (∀ a ∈ todo, ArmAt h' k a) ∧ ∀ c o, c ≠ z → (∀ a ∈ as, c ≠ a.it) → s.heap.get? c = some o → h'.get? c = some o) _ ?_ ?_ _ _
    ⟨[], as, rfl, rfl, rfl, g1, rfl, z1, s1.1, fun _ h => (nomatch h), fun a h => (ha a h).extBut s1.extBut (D.iz a h) (D.lz a h), fun c o c1 _ e => s1.extBut _ _ c1 e⟩
  · rintro x rest b s' ⟨done, todo, e1, e2, rfl, h', rfl, z', sz, hd, ht, hk'⟩
    cases todo with
    | nil => cases e2
    | cons a todo =>
      cases e2
      have hm : a ∈ as := by rw [e1]; simp
      have nd := nd_mid (e1 ▸ D.nd)
      obtain ⟨at1, at2⟩ := ht a (List.mem_cons_self ..)
      have hx := Array.getElem?_eq_getElem (hk a hm)
      refine wpAny_bind (wpAny_holding ?_)
      show wpAny _ _ (Builtin.SmallTypes.nextOf (.ref a.it) >>= _) _ _ _
      refine wpAny_bind (nx_item (s := { s with heap := h' }) at1 at2 hx fun g2 a2 s2 => wpAny_pure ?_)
      refine wpAny_pure ⟨done ++ [a], todo, by rw [e1]; simp, rfl, ?_, g2, rfl, ?_, ?_, ?_, ?_, ?_⟩
      · simp [rowA, hx]
      · exact s2.extBut _ _ (D.iz a hm).symm z'
      · exact s2.1.trans sz
      · intro c hc
        rcases List.mem_append.mp hc with hc | hc
        · have hcm : c ∈ as := by rw [e1]; simp [hc]
          exact (hd c hc).extBut s2.extBut (nd.1 c hc) (D.li c hcm a hm)
        · obtain rfl := List.mem_singleton.mp hc
          exact ⟨a2, at2.extBut s2.extBut (D.li c hm c hm)⟩
      · intro c hc
        have hcm : c ∈ as := by rw [e1]; simp [hc]
        exact (ht c (List.mem_cons_of_mem _ hc)).extBut s2.extBut (nd.2 c hc) (D.li c hcm a hm)
      · exact fun c o c1 c2 e => s2.extBut _ _ (c2 a hm) (hk' c o c1 c2 e)
  · rintro b s' ⟨done, todo, e1, e2, rfl, h', rfl, z', sz, hd, ht, hk'⟩
    cases todo with
    | cons a todo => cases e2
    | nil =>
      rw [List.append_nil] at e1
      subst e1
      show wpAny _ _ (newTuple (rowA as k).toArray.toList >>= _) _ _ _
      rw [show (rowA as k).toArray.toList = rowA as k from by simp]
      refine wpAny_bind (wpAny_newTuple (hsz := by rw [rowA_len]; exact hfit) ?_)
      refine wpAny_pure ⟨_, rfl, ?_⟩
      show Q (.ref h'.objs.size) _
      have hp : IsTup' (h'.push { cls := .type "tuple", data := .seq (rowA as k).toArray }) h'.objs.size (rowA as k) := Heap.get?_push_size _ rfl
      have hz4 : (h'.push { cls := .type "tuple", data := .seq (rowA as k).toArray }).objs.size = h'.objs.size + 1 := Heap.size_push ..
      rw [sz] at hp hz4 ⊢
      exact hQ _ (Heap.get?_push_of_some _ z') (fun a h => (hd a h).at (fun o e => Heap.get?_push_of_some _ e) fun o e => Heap.get?_push_of_some _ e) hp hz4 fun c o c1 c2 e => Heap.get?_push_of_some _ (hk' c o c1 c2 e)
theorem heldN_end {z TI TO T : Addr} {f : Bool} {oT : Obj} {as : List Arm} {k : Nat} {Q : Fin → Shared → Prop} (hh : A.handled = none) (D : NApart z TI TO as) (hne : as ≠ [])
    (hz : IsZipHeld s.heap z TI TO T f) (hT : s.heap.get? T = some oT) (hTI : IsTup' s.heap TI (refsA as)) (ha : ∀ a ∈ as, ArmAt s.heap k a) (hk : ∃ a ∈ as, a.xs.size ≤ k)
    (hE : ∀ h' e, (∀ c o, c ≠ z → (∀ a ∈ as, c ≠ a.it) → s.heap.get? c = some o → h'.get? c = some o) → (∃ o, h'.get? e = some o ∧ o.cls = .type "StopIteration") → E (.ref e) { s with heap := h' }) :
    wpAny (model prog w) A (Builtin.«zip.__next__» ⟨[.ref z], []⟩) Q E s := by
  show wpAny _ _ (field (.ref z) 2 >>= _) _ _ _
  refine wpAny_bind (wpAny_field hz rfl (x := .bool false) rfl ?_)
  show wpAny _ _ (field (.ref z) 3 >>= _) _ _ _
  refine wpAny_bind (wpAny_field hz rfl (x := .ref TI) rfl ?_)
  refine wpAny_bind (wpAny_seqItems hTI rfl ?_)
  simp only [refs_em hne, Bool.false_eq_true, if_false]
  show wpAny _ _ (Builtin.SmallTypes.ownedTupleIsFree (.ref z) >>= _) _ _ _
  refine wpAny_bind (wpAny_tupleHeld_zip hz hT fun g1 z1 s1 => ?_)
  simp only [Bool.false_eq_true, if_false]
  refine wpAny_bind ?_
  rw [← Array.forIn_toList]
  refine wpAny_forIn_list _ (fun rest b s' => ∃ done todo, as = done ++ todo ∧ rest = refsA todo ∧ (∃ a ∈ todo, a.xs.size ≤ k) ∧ ∃ h', s' = { s with heap := h' } ∧
    (∀ a ∈ todo, ArmAt h' k a) ∧ ∀ c o, c ≠ z → (∀ a ∈ as, c ≠ a.it) → s.heap.get? c = some o → h'.get? c = some o) _ ?_ ?_ _ _
    ⟨[], as, rfl, rfl, hk, g1, rfl, fun a h => (ha a h).extBut s1.extBut (D.iz a h) (D.lz a h), fun c o c1 _ e => s1.extBut _ _ c1 e⟩
  · rintro x rest b s' ⟨done, todo, e1, e2, ⟨d, hd1, hd2⟩, h', rfl, ht, hk'⟩
    cases todo with
    | nil => cases e2
    | cons a todo =>
      cases e2
      have hm : a ∈ as := by rw [e1]; simp
      have nd := nd_mid (e1 ▸ D.nd)
      obtain ⟨at1, at2⟩ := ht a (List.mem_cons_self ..)
      refine wpAny_bind (wpAny_holding ?_)
      show wpAny _ _ (Builtin.SmallTypes.nextOf (.ref a.it) >>= _) _ _ _
      by_cases hlt : k < a.xs.size
      · have hx := Array.getElem?_eq_getElem hlt
        refine wpAny_bind (nx_item (s := { s with heap := h' }) at1 at2 hx fun g2 a2 s2 => wpAny_pure ?_)
        refine wpAny_pure ⟨done ++ [a], todo, by rw [e1]; simp, rfl, ?_, g2, rfl, ?_, ?_⟩
        · rcases List.mem_cons.mp hd1 with rfl | hd1
          · omega
          · exact ⟨d, hd1, hd2⟩
        · intro c hc
          have hcm : c ∈ as := by rw [e1]; simp [hc]
          exact (ht c (List.mem_cons_of_mem _ hc)).extBut s2.extBut (nd.2 c hc) (D.li c hcm a hm)
        · exact fun c o c1 c2 e => s2.extBut _ _ (c2 a hm) (hk' c o c1 c2 e)
      · have hx : a.xs[k]? = none := Array.getElem?_eq_none (by omega)
        refine wpAny_bind (nx_end (s := { s with heap := h' }) hh at1 at2 hx fun g2 e s2 he => ?_)
        exact hE g2 e (fun c o c1 c2 x => s2 _ _ (c2 a hm) (hk' c o c1 c2 x)) he
  · rintro b s' ⟨done, todo, e1, e2, ⟨d, hd1, hd2⟩, _⟩
    cases todo with
    | cons a todo => cases e2
    | nil => cases hd1
theorem freeN_item {z TI TO : Addr} {as : List Arm} {k : Nat} {old : List Value} {Q : Value → Shared → Prop} (D : NApart z TI TO as) (hne : as ≠ []) (hfit : as.length ≤ sizeLine)
    (hz : IsZip s.heap z TI TO .none) (hTI : IsTup' s.heap TI (refsA as)) (hTO : IsTup' s.heap TO old) (hold : old.length = as.length) (ha : ∀ a ∈ as, ArmAt s.heap k a) (hk : ∀ a ∈ as, k < a.xs.size)
    (hQ : ∀ h', IsZip h' z TI TO (rawInt s.heap.objs.size) → IsTup' h' TO (rowA as k) → (∀ a ∈ as, ArmAt h' (k + 1) a) → IsTup' h' s.heap.objs.size (rowA as k) → h'.objs.size = s.heap.objs.size + 1 →
      (∀ c o, c ≠ z → c ≠ TO → (∀ a ∈ as, c ≠ a.it) → s.heap.get? c = some o → h'.get? c = some o) → Q (.ref s.heap.objs.size) { s with heap := h' }) :
    wpAny (model prog w) A (Builtin.«zip.__next__» ⟨[.ref z], []⟩) (fun fin s' => ∃ v, fin = .done (.ret v) ∧ Q v s') E s := by
  show wpAny _ _ (field (.ref z) 2 >>= _) _ _ _
  refine wpAny_bind (wpAny_field hz rfl (x := .bool false) rfl ?_)
  show wpAny _ _ (field (.ref z) 3 >>= _) _ _ _
  refine wpAny_bind (wpAny_field hz rfl (x := .ref TI) rfl ?_)
  refine wpAny_bind (wpAny_seqItems hTI rfl ?_)
  simp only [refs_em hne, Bool.false_eq_true, if_false]
  show wpAny _ _ (Builtin.SmallTypes.ownedTupleIsFree (.ref z) >>= _) _ _ _
  refine wpAny_bind ?_
  unfold Builtin.SmallTypes.ownedTupleIsFree
  refine wpAny_bind (wpAny_field hz rfl (x := .none) rfl (wpAny_pure ?_))
  simp only [if_true]
  refine wpAny_bind (wpAny_rule ?_)
  refine wpAny_bind (wpAny_field hz rfl (x := .ref TO) rfl ?_)
  refine wpAny_bind (wpAny_setField_rec hz (by simp) fun g1 z1 s1 => ?_)
  replace z1 : IsZip g1 z TI TO .ellipsis := z1
  refine wpAny_bind ?_
  refine wpAny_forIn_list _ (fun rest b s' => ∃ done todo, as = done ++ todo ∧ rest = (refsA todo).zipIdx done.length ∧ b = (none, PUnit.unit) ∧ ∃ h', s' = { s with heap := h' } ∧ IsZip h' z TI TO .ellipsis ∧ h'.objs.size = s.heap.objs.size ∧
    IsTup' h' TO (rowA done k ++ old.drop done.length) ∧ (∀ a ∈ done, ArmAt h' (k + 1) a) ∧ (∀ a ∈ todo, ArmAt h' k a) ∧ ∀ c o, c ≠ z → c ≠ TO → (∀ a ∈ as, c ≠ a.it) → s.heap.get? c = some o → h'.get? c = some o) _ ?_ ?_ _ _
    ⟨[], as, rfl, by simp, rfl, g1, rfl, z1, s1.1, s1.extBut _ _ D.TOz hTO, fun _ h => (nomatch h), fun a h => (ha a h).extBut s1.extBut (D.iz a h) (D.lz a h), fun c o c1 _ _ e => s1.extBut _ _ c1 e⟩
  · rintro ⟨x, kk⟩ rest b s' ⟨done, todo, e1, e2, rfl, h', rfl, z', sz, hTO', hd, ht, hk'⟩
    cases todo with
    | nil => cases e2
    | cons a todo =>
      have e2' : (x, kk) = (Value.ref a.it, done.length) ∧ rest = (refsA todo).zipIdx (done.length + 1) := by
        simp only [refsA, List.map_cons, List.zipIdx_cons, List.cons.injEq] at e2
        exact e2
      obtain ⟨e3, rfl⟩ := e2'
      cases e3
      have hm : a ∈ as := by rw [e1]; simp
      have nd := nd_mid (e1 ▸ D.nd)
      obtain ⟨at1, at2⟩ := ht a (List.mem_cons_self ..)
      obtain ⟨xv, hx⟩ : ∃ xv, a.xs[k]? = some xv := ⟨_, Array.getElem?_eq_getElem (hk a hm)⟩
      refine wpAny_bind (wpAny_onRaise ?_)
      show wpAny _ _ (Builtin.SmallTypes.nextOf (.ref a.it) >>= _) _ _ _
      refine wpAny_bind (nx_item (s := { s with heap := h' }) at1 at2 hx fun g2 a2 s2 => wpAny_pure ?_)
      have t2 : IsTup' g2 TO (rowA done k ++ old.drop done.length) := s2.extBut _ _ (D.iTO a hm).symm hTO'
      have hcs : (rowA done k ++ old.drop done.length).toArray.size ≤ sizeLine := by
        rw [List.size_toArray, List.length_append, rowA_len, List.length_drop, hold]
        have : done.length ≤ as.length := by rw [e1]; simp
        omega
      refine wpAny_bind (wpAny_seqItems t2 rfl ?_)
      refine wpAny_bind (wpAny_updateSeq (hz := hcs) (_hz' := by rw [Array.size_setIfInBounds]; exact Nat.le_trans hcs (Nat.le_succ _)) t2 rfl ?_)
      have t3 := Heap.get?_update_self (Obj.mapSeq (·.setIfInBounds done.length xv)) t2 rfl
      have s3 : Heap.SameBut TO g2 (g2.update TO (Obj.mapSeq (·.setIfInBounds done.length xv))) := Heap.SameBut.update ..
      refine wpAny_bind (wpAny_letGo (wpAny_pure ⟨done ++ [a], todo, by rw [e1]; simp, by simp, rfl, _, rfl, ?_, ?_, ?_, ?_, ?_, ?_⟩))
      · exact s3.extBut _ _ D.TOz.symm (s2.extBut _ _ (D.iz a hm).symm z')
      · exact s3.1.trans (s2.1.trans sz)
      · have hdl : old.drop done.length = old[done.length]'(by rw [hold, e1]; simp) :: old.drop (done.length + 1) := List.drop_eq_getElem_cons _
        have hl : (rowA done k).length = done.length := by simp [rowA]
        refine t3.trans ?_
        show some _ = some _
        congr 1
        simp only [Obj.mapSeq]
        congr 2
        · rw [hdl]
          simp only [List.setIfInBounds_toArray]
          rw [set_mid _ _ _ _ _ hl]
          simp [rowA, hx]
        · simp
      · intro c hc
        rcases List.mem_append.mp hc with hc | hc
        · have hcm : c ∈ as := by rw [e1]; simp [hc]
          exact ((hd c hc).extBut s2.extBut (nd.1 c hc) (D.li c hcm a hm)).extBut s3.extBut (D.iTO c hcm) (D.lTO c hcm)
        · obtain rfl := List.mem_singleton.mp hc
          exact ArmAt.extBut (h := g2) ⟨a2, at2.extBut s2.extBut (D.li c hm c hm)⟩ s3.extBut (D.iTO c hm) (D.lTO c hm)
      · intro c hc
        have hcm : c ∈ as := by rw [e1]; simp [hc]
        exact ((ht c (List.mem_cons_of_mem _ hc)).extBut s2.extBut (nd.2 c hc) (D.li c hcm a hm)).extBut s3.extBut (D.iTO c hcm) (D.lTO c hcm)
      · exact fun c o c1 c2 c3 e => s3.extBut _ _ c2 (s2.extBut _ _ (c3 a hm) (hk' c o c1 c2 c3 e))
  · rintro b s' ⟨done, todo, e1, e2, rfl, h', rfl, z', sz, hTO', hd, ht, hk'⟩
    cases todo with
    | cons a todo => simp [refsA] at e2
    | nil =>
      rw [List.append_nil] at e1
      subst e1
      have hdr : old.drop as.length = [] := by rw [← hold]; simp
      rw [hdr, List.append_nil] at hTO'
      show wpAny _ _ (seqItems? (.ref TO) >>= _) _ _ _
      refine wpAny_bind (wpAny_seqItems hTO' rfl ?_)
      show wpAny _ _ (newTuple (rowA as k).toArray.toList >>= _) _ _ _
      rw [show (rowA as k).toArray.toList = rowA as k from by simp]
      refine wpAny_bind (wpAny_newTuple (hsz := by rw [rowA_len]; exact hfit) ?_)
      show wpAny _ _ (Builtin.SmallTypes.ownedTupleHandOut (.ref z) (.ref h'.objs.size) >>= _) _ _ _
      refine wpAny_bind ?_
      unfold Builtin.SmallTypes.ownedTupleHandOut
      have zlt : z < h'.objs.size := Heap.lt_size z'
      have z6 : IsZip (h'.push { cls := .type "tuple", data := .seq (rowA as k).toArray }) z TI TO .ellipsis := Heap.get?_push_of_some _ z'
      refine wpAny_bind (wpAny_setField_rec z6 (by simp) fun g7 z7 s7 => ?_)
      replace z7 : IsZip g7 z TI TO (rawInt h'.objs.size) := z7
      refine wpAny_setField_rec z7 (by simp) fun g8 z8 s8 => ?_
      replace z8 : IsZip g8 z TI TO (rawInt h'.objs.size) := z8
      have up : ∀ c o, c ≠ z → h'.get? c = some o → g8.get? c = some o := fun c o c1 e => s8.extBut _ _ c1 (s7.extBut _ _ c1 (Heap.get?_push_of_some _ e))
      have t8 : IsTup' g8 h'.objs.size (rowA as k) := s8.extBut _ _ (Nat.ne_of_gt zlt) (s7.extBut _ _ (Nat.ne_of_gt zlt) (Heap.get?_push_size _ rfl))
      have n8 : g8.objs.size = h'.objs.size + 1 := by rw [s8.1, s7.1, Heap.size_push]
      rw [sz] at z8 t8 n8
      refine wpAny_pure ⟨_, rfl, ?_⟩
      show Q (.ref h'.objs.size) _
      rw [sz]
      exact hQ g8 z8 (up _ _ D.TOz hTO') (fun a h => (hd a h).at (fun o e => up _ o (D.iz a h) e) fun o e => up _ o (D.lz a h) e) t8 n8 fun c o c1 c2 c3 e => up c o c1 (hk' c o c1 c2 c3 e)
theorem freeN_end {z TI TO : Addr} {as : List Arm} {k : Nat} {old : List Value} {Q : Fin → Shared → Prop} (hh : A.handled = none) (D : NApart z TI TO as) (hne : as ≠ []) (hfit : as.length ≤ sizeLine)
    (hz : IsZip s.heap z TI TO .none) (hTI : IsTup' s.heap TI (refsA as)) (hTO : IsTup' s.heap TO old) (hold : old.length = as.length) (ha : ∀ a ∈ as, ArmAt s.heap k a) (hk : ∃ a ∈ as, a.xs.size ≤ k)
    (hE : ∀ h' e, (∀ c o, c ≠ z → c ≠ TO → (∀ a ∈ as, c ≠ a.it) → s.heap.get? c = some o → h'.get? c = some o) → (∃ o, h'.get? e = some o ∧ o.cls = .type "StopIteration") → E (.ref e) { s with heap := h' }) :
    wpAny (model prog w) A (Builtin.«zip.__next__» ⟨[.ref z], []⟩) Q E s := by
  show wpAny _ _ (field (.ref z) 2 >>= _) _ _ _
  refine wpAny_bind (wpAny_field hz rfl (x := .bool false) rfl ?_)
  show wpAny _ _ (field (.ref z) 3 >>= _) _ _ _
  refine wpAny_bind (wpAny_field hz rfl (x := .ref TI) rfl ?_)
  refine wpAny_bind (wpAny_seqItems hTI rfl ?_)
  simp only [refs_em hne, Bool.false_eq_true, if_false]
  show wpAny _ _ (Builtin.SmallTypes.ownedTupleIsFree (.ref z) >>= _) _ _ _
  refine wpAny_bind ?_
  unfold Builtin.SmallTypes.ownedTupleIsFree
  refine wpAny_bind (wpAny_field hz rfl (x := .none) rfl (wpAny_pure ?_))
  simp only [if_true]
  refine wpAny_bind (wpAny_rule ?_)
  refine wpAny_bind (wpAny_field hz rfl (x := .ref TO) rfl ?_)
  refine wpAny_bind (wpAny_setField_rec hz (by simp) fun g1 z1 s1 => ?_)
  replace z1 : IsZip g1 z TI TO .ellipsis := z1
  refine wpAny_bind ?_
  refine wpAny_forIn_list _ (fun rest b s' => ∃ done todo, as = done ++ todo ∧ rest = (refsA todo).zipIdx done.length ∧ b = (none, PUnit.unit) ∧ (∃ a ∈ todo, a.xs.size ≤ k) ∧ ∃ h', s' = { s with heap := h' } ∧ IsZip h' z TI TO .ellipsis ∧
    (∃ cur, IsTup' h' TO cur ∧ cur.length = as.length) ∧ (∀ a ∈ todo, ArmAt h' k a) ∧ ∀ c o, c ≠ z → c ≠ TO → (∀ a ∈ as, c ≠ a.it) → s.heap.get? c = some o → h'.get? c = some o) _ ?_ ?_ _ _
    ⟨[], as, rfl, by simp, rfl, hk, g1, rfl, z1, ⟨old, s1.extBut _ _ D.TOz hTO, hold⟩, fun a h => (ha a h).extBut s1.extBut (D.iz a h) (D.lz a h), fun c o c1 _ _ e => s1.extBut _ _ c1 e⟩
  · rintro ⟨x, kk⟩ rest b s' ⟨done, todo, e1, e2, rfl, ⟨d, hd1, hd2⟩, h', rfl, z', ⟨cur, hTO', hcl⟩, ht, hk'⟩
    cases todo with
    | nil => cases e2
    | cons a todo =>
      have e2' : (x, kk) = (Value.ref a.it, done.length) ∧ rest = (refsA todo).zipIdx (done.length + 1) := by
        simp only [refsA, List.map_cons, List.zipIdx_cons, List.cons.injEq] at e2
        exact e2
      obtain ⟨e3, rfl⟩ := e2'
      cases e3
      have hm : a ∈ as := by rw [e1]; simp
      have nd := nd_mid (e1 ▸ D.nd)
      obtain ⟨at1, at2⟩ := ht a (List.mem_cons_self ..)
      refine wpAny_bind (wpAny_onRaise ?_)
      show wpAny _ _ (Builtin.SmallTypes.nextOf (.ref a.it) >>= _) _ _ _
      by_cases hlt : k < a.xs.size
      · obtain ⟨xv, hx⟩ : ∃ xv, a.xs[k]? = some xv := ⟨_, Array.getElem?_eq_getElem hlt⟩
        refine wpAny_bind (nx_item (s := { s with heap := h' }) at1 at2 hx fun g2 a2 s2 => wpAny_pure ?_)
        have t2 : IsTup' g2 TO cur := s2.extBut _ _ (D.iTO a hm).symm hTO'
        have hcs : cur.toArray.size ≤ sizeLine := by rw [List.size_toArray, hcl]; exact hfit
        refine wpAny_bind (wpAny_seqItems t2 rfl ?_)
        refine wpAny_bind (wpAny_updateSeq (hz := hcs) (_hz' := by rw [Array.size_setIfInBounds]; exact Nat.le_trans hcs (Nat.le_succ _)) t2 rfl ?_)
        have t3 := Heap.get?_update_self (Obj.mapSeq (·.setIfInBounds done.length xv)) t2 rfl
        have s3 : Heap.SameBut TO g2 (g2.update TO (Obj.mapSeq (·.setIfInBounds done.length xv))) := Heap.SameBut.update ..
        refine wpAny_bind (wpAny_letGo (wpAny_pure ⟨done ++ [a], todo, by rw [e1]; simp, by simp, rfl, ?_, _, rfl, ?_, ⟨cur.set done.length xv, ?_, by rw [List.length_set]; exact hcl⟩, ?_, ?_⟩))
        · rcases List.mem_cons.mp hd1 with rfl | hd1
          · omega
          · exact ⟨d, hd1, hd2⟩
        · exact s3.extBut _ _ D.TOz.symm (s2.extBut _ _ (D.iz a hm).symm z')
        · refine t3.trans ?_
          simp [Obj.mapSeq]
        · intro c hc
          have hcm : c ∈ as := by rw [e1]; simp [hc]
          exact ((ht c (List.mem_cons_of_mem _ hc)).extBut s2.extBut (nd.2 c hc) (D.li c hcm a hm)).extBut s3.extBut (D.iTO c hcm) (D.lTO c hcm)
        · exact fun c o c1 c2 c3 e => s3.extBut _ _ c2 (s2.extBut _ _ (c3 a hm) (hk' c o c1 c2 c3 e))
      · have hx : a.xs[k]? = none := Array.getElem?_eq_none (by omega)
        refine wpAny_bind (nx_end (s := { s with heap := h' }) hh at1 at2 hx fun g2 e s2 he => ?_)
        obtain ⟨oe, hoe, hce⟩ := he
        have z2 : IsZip g2 z TI TO .ellipsis := s2 _ _ (D.iz a hm).symm z'
        have ez : e ≠ z := fun x => by subst x; rw [z2] at hoe; cases hoe; simp at hce
        refine wpAny_setField_rec z2 (by simp) fun g3 _ s3 => hE g3 e (fun c o c1 c2 c3 x => s3.extBut _ _ c1 (s2 _ _ (c3 a hm) (hk' c o c1 c2 c3 x))) ⟨oe, s3.extBut _ _ ez hoe, hce⟩
  · rintro b s' ⟨done, todo, e1, e2, rfl, ⟨d, hd1, hd2⟩, _⟩
    cases todo with
    | cons a todo => simp [refsA] at e2
    | nil => cases hd1
end
end Pi
end
section
set_option Elab.async false
set_option linter.all false
set_option maxRecDepth 100000
set_option maxHeartbeats 400000
namespace Pi
open PySem PySem.W PySem.Calls PyProof.Rows
/-! ### a new zip of one, two or three -/
abbrev SqA := Bool × Nat × Array Value
def armsFrom : Nat → List SqA → List Arm
  | _, [] => []
  | n, (b, l, xs) :: r => ⟨b, n, l, xs⟩ :: armsFrom (n + 1) r
theorem armsFrom_len : ∀ (n : Nat) (ls : List SqA), (armsFrom n ls).length = ls.length
  | _, [] => rfl
  | n, (b, l, xs) :: r => congrArg (· + 1) (armsFrom_len (n + 1) r)
theorem armsFrom_snoc : ∀ (n : Nat) (ls : List SqA) (b : Bool) (l : Nat) (xs : Array Value), armsFrom n (ls ++ [(b, l, xs)]) = armsFrom n ls ++ [⟨b, n + ls.length, l, xs⟩]
  | _, [], _, _, _ => rfl
  | n, (c, k, ys) :: r, b, l, xs => by
    show _ :: armsFrom (n + 1) (r ++ [(b, l, xs)]) = _ :: (armsFrom (n + 1) r ++ _)
    rw [armsFrom_snoc (n + 1) r b l xs]
    have : n + 1 + r.length = n + (r.length + 1) := by omega
    simp [this]
theorem armsFrom_mem : ∀ {n : Nat} {ls : List SqA} {a : Arm}, a ∈ armsFrom n ls → n ≤ a.it ∧ a.it < n + ls.length ∧ (a.b, a.l, a.xs) ∈ ls
  | n, (b, l, xs) :: r, a, h => by
    rcases List.mem_cons.mp h with rfl | h
    · exact ⟨Nat.le_refl _, by simp, by simp⟩
    · obtain ⟨h1, h2, h3⟩ := armsFrom_mem h
      simp only [List.length_cons]
      exact ⟨by omega, by omega, List.mem_cons_of_mem _ h3⟩
theorem armsFrom_nd : ∀ (n : Nat) (ls : List SqA), ((armsFrom n ls).map (·.it)).Nodup
  | _, [] => List.nodup_nil
  | n, (b, l, xs) :: r => by
    show (n :: (armsFrom (n + 1) r).map (·.it)).Nodup
    rw [List.nodup_cons]
    refine ⟨fun h => ?_, armsFrom_nd (n + 1) r⟩
    obtain ⟨a, h1, h2⟩ := List.mem_map.mp h
    have := (armsFrom_mem h1).1
    omega
theorem SSq.push' {b : Bool} {h : Heap} {l : Addr} {xs : Array Value} (x : SSq b h l xs) (o : Obj) : SSq b (h.push o) l xs := x.at fun _ e => Heap.get?_push_of_some _ e
theorem iter_sq {prog : Program} {w : World} {A : Around} {E : Value → Shared → Prop} {s : Shared} {b : Bool} {l : Addr} {xs : Array Value} {Q : Value → Shared → Prop} (h : SSq b s.heap l xs)
    (hQ : Q (.ref s.heap.objs.size) { s with heap := s.heap.push (itO b l) }) : wpAny (model prog w) A (pyIter (.ref l)) Q E s := by
  cases b with
  | true => exact wpAny_pyIter_list (show s.heap.IsList l xs from h) hQ
  | false => exact wpAny_pyIter_tuple (show s.heap.IsTuple l xs from h) hQ
theorem itO_live (b : Bool) (l : Addr) : (itO b l).isFreed = false := by cases b <;> rfl
def refsL (ls : List SqA) : List Value := ls.map fun a => Value.ref a.2.1
/-- behind the making of a zip -/
def NewZip (h : Heap) (n : Nat) (ls : List SqA) (h' : Heap) : Prop :=
  IsZip h' (n + ls.length + 2) (n + ls.length) (n + ls.length + 1) .none ∧ IsTup' h' (n + ls.length) (refsA (armsFrom n ls)) ∧ (∃ old, old.length = ls.length ∧ IsTup' h' (n + ls.length + 1) old) ∧
  (∀ a ∈ armsFrom n ls, ArmAt h' 0 a) ∧ h'.objs.size = n + ls.length + 3 ∧ ∀ b o, h.get? b = some o → h'.get? b = some o
theorem iterAll_N {prog : Program} {w : World} {A : Around} {E : Value → Shared → Prop} {s : Shared} {ls : List SqA} {Q : List Value → Shared → Prop} (hl : ∀ a ∈ ls, SSq a.1 s.heap a.2.1 a.2.2)
    (hQ : ∀ h', h'.objs.size = s.heap.objs.size + ls.length → (∀ a ∈ armsFrom s.heap.objs.size ls, ArmAt h' 0 a) → (∀ b o, s.heap.get? b = some o → h'.get? b = some o) → Q (refsA (armsFrom s.heap.objs.size ls)) { s with heap := h' }) :
    wpAny (model prog w) A (Builtin.SmallTypes.iterAll (refsL ls)) Q E s := by
  unfold Builtin.SmallTypes.iterAll
  refine wpAny_bind ?_
  refine wpAny_forIn_list _ (fun rest b s' => ∃ done todo, ls = done ++ todo ∧ rest = refsL todo ∧ b = (refsA (armsFrom s.heap.objs.size done)).toArray ∧ ∃ h', s' = { s with heap := h' } ∧ h'.objs.size = s.heap.objs.size + done.length ∧
    (∀ a ∈ armsFrom s.heap.objs.size done, ArmAt h' 0 a) ∧ ∀ b o, s.heap.get? b = some o → h'.get? b = some o) _ ?_ ?_ _ _
    ⟨[], ls, rfl, rfl, rfl, s.heap, rfl, rfl, fun _ h => (nomatch h), fun _ _ e => e⟩
  · rintro x rest b s' ⟨done, todo, e1, e2, rfl, h', rfl, sz, hd, hk⟩
    cases todo with
    | nil => cases e2
    | cons a todo =>
      cases e2
      have hm : a ∈ ls := by rw [e1]; simp
      obtain ⟨b, l, xs⟩ := a
      have q := (hl _ hm).at (hk l)
      refine wpAny_bind (wpAny_holding ?_)
      refine iter_sq (s := { s with heap := h' }) q (wpAny_pure ⟨done ++ [(b, l, xs)], todo, by rw [e1]; simp, rfl, ?_, h'.push (itO b l), rfl, ?_, ?_, fun c o e => Heap.get?_push_of_some _ (hk c o e)⟩)
      · rw [armsFrom_snoc]
        simp [refsA, sz]
      · rw [Heap.size_push, sz]; simp; omega
      · intro c hc
        rw [armsFrom_snoc] at hc
        rcases List.mem_append.mp hc with hc | hc
        · exact (hd c hc).at (fun o e => Heap.get?_push_of_some _ e) fun o e => Heap.get?_push_of_some _ e
        · obtain rfl := List.mem_singleton.mp hc
          refine ⟨SIt.new _ ?_, q.push' _⟩
          show (h'.push (itO b l)).get? (s.heap.objs.size + done.length) = _
          rw [← sz]
          exact Heap.get?_push_size _ (itO_live b l)
  · rintro b s' ⟨done, todo, e1, e2, rfl, h', rfl, sz, hd, hk⟩
    cases todo with
    | cons a todo => cases e2
    | nil =>
      rw [List.append_nil] at e1
      subst e1
      refine wpAny_pure ?_
      rw [show (refsA (armsFrom s.heap.objs.size ls)).toArray.toList = refsA (armsFrom s.heap.objs.size ls) from by simp]
      exact hQ h' sz hd hk
theorem meetsN_new (ls : List SqA) (hfit : ls.length ≤ sizeLine) :
    Meets (Builtin.«zip.__new__» ⟨.type "zip" :: refsL ls, []⟩) (fun _ R s => (∀ a ∈ ls, SSq a.1 s.heap a.2.1 a.2.2) ∧
      ∀ h', NewZip s.heap s.heap.objs.size ls h' → R (.ok (.ret (.ref (s.heap.objs.size + ls.length + 2)))) { s with heap := h' }) :=
  .of_wp fun prog w A R s h => by
    obtain ⟨hl, h⟩ := h
    have hsub := sub_zip
    unfold Builtin.«zip.__new__» Builtin.SmallTypes.newClass
    show wpAny _ _ ((isType (.type "zip") >>= _) >>= _) _ _ _
    refine wpAny_bind (wpAny_bind ?_)
    rw [show isType (.type "zip") = pure true from rfl]
    refine wpAny_pure ?_
    simp only [Bool.not_true, Bool.false_eq_true, if_false]
    rw [hsub]
    refine wpAny_bind (wpAny_pure ?_)
    simp only [Bool.not_true, Bool.false_eq_true, if_false]
    refine wpAny_pure ?_
    show wpAny _ _ (Builtin.SmallTypes.iterAll (refsL ls) >>= _) _ _ _
    refine wpAny_bind (iterAll_N hl fun h1 sz ha hk => ?_)
    refine wpAny_bind (wpAny_newTuple (hsz := by simpa [refsA, armsFrom_len] using hfit) ?_)
    refine wpAny_bind (wpAny_newTuple (hsz := by simpa [refsA, armsFrom_len] using hfit) ?_)
    unfold Builtin.SmallTypes.newRecord
    dsimp only
    refine wpAny_bind (wpAny_newObj_type (hd := by simp only [sizeOk, Builtin.SmallTypes.ownedTupleFields, List.size_toArray, List.length_append, List.length_cons, List.length_nil, sizeLine_eq]; omega) (wpAny_pure ?_))
    have n1 : (h1.push { cls := .type "tuple", data := .seq (refsA (armsFrom s.heap.objs.size ls)).toArray }).objs.size = s.heap.objs.size + ls.length + 1 := by rw [Heap.size_push, sz]
    have n2 : ((h1.push { cls := .type "tuple", data := .seq (refsA (armsFrom s.heap.objs.size ls)).toArray }).push { cls := .type "tuple", data := .seq ((refsA (armsFrom s.heap.objs.size ls)).map fun _ => Value.none).toArray }).objs.size = s.heap.objs.size + ls.length + 2 := by rw [Heap.size_push, n1]
    refine ⟨_, rfl, ?_⟩
    rw [n2]
    refine h _ ⟨?_, ?_, ⟨(refsA (armsFrom s.heap.objs.size ls)).map fun _ => Value.none, by simp [refsA, armsFrom_len], ?_⟩, fun a h => ?_, ?_, fun b o e => ?_⟩
    · have := Heap.get?_push_size ((h1.push { cls := .type "tuple", data := .seq (refsA (armsFrom s.heap.objs.size ls)).toArray }).push { cls := .type "tuple", data := .seq ((refsA (armsFrom s.heap.objs.size ls)).map fun _ => Value.none).toArray }) (o := { cls := .type "zip", dict := none, data := .fields #[.none, .bool false, .bool false, .ref (s.heap.objs.size + ls.length), .ref (s.heap.objs.size + ls.length + 1)], slots := #[] }) rfl
      rw [n2] at this
      rw [n1, sz]
      exact this
    · refine Heap.get?_push_of_some _ (Heap.get?_push_of_some _ ?_)
      rw [← sz]
      exact Heap.get?_push_size _ rfl
    · refine Heap.get?_push_of_some _ ?_
      rw [← n1]
      exact Heap.get?_push_size _ rfl
    · exact (ha a h).at (fun o e => Heap.get?_push_of_some _ (Heap.get?_push_of_some _ (Heap.get?_push_of_some _ e))) fun o e => Heap.get?_push_of_some _ (Heap.get?_push_of_some _ (Heap.get?_push_of_some _ e))
    · rw [Heap.size_push, n2]
    · exact Heap.get?_push_of_some _ (Heap.get?_push_of_some _ (Heap.get?_push_of_some _ (hk b o e)))
theorem typeCall_zip_1 (a : Value) : checkTypeCall "zip" ⟨[a], []⟩ = pure () := by kernel_rfl
theorem typeCall_zip_3 (a b c : Value) : checkTypeCall "zip" ⟨[a, b, c], []⟩ = pure () := by kernel_rfl
theorem newCall_zip_1 (a : Value) : checkBuiltinCall "zip.__new__" ⟨[.type "zip", a], []⟩ = pure () := by kernel_rfl
theorem newCall_zip_3 (a b c : Value) : checkBuiltinCall "zip.__new__" ⟨[.type "zip", a, b, c], []⟩ = pure () := by kernel_rfl
theorem args_init_2 (a b : Value) : argsOk "object.__init__" ⟨[a, b], []⟩ := by
  unfold argsOk; rw [signature?_of (id := "object.__init__") (n := ['_', '_', 't', 'i', 'n', 'i', '_', '_']) (o := ['t', 'c', 'e', 'j', 'b', 'o']) (by kernel_rfl) PySem.F.owner_object]; kernel_rfl
theorem args_init_4 (a b c d : Value) : argsOk "object.__init__" ⟨[a, b, c, d], []⟩ := by
  unfold argsOk; rw [signature?_of (id := "object.__init__") (n := ['_', '_', 't', 'i', 'n', 'i', '_', '_']) (o := ['t', 'c', 'e', 'j', 'b', 'o']) (by kernel_rfl) PySem.F.owner_object]; kernel_rfl
theorem callN_zip {prog : Program} {w : World} {A : Around} {E : Value → Shared → Prop} {s : Shared} {ls : List SqA} {Q : Value → Shared → Prop} (h1 : 1 ≤ ls.length) (h3 : ls.length ≤ 3) (hl : ∀ a ∈ ls, SSq a.1 s.heap a.2.1 a.2.2)
    (h : ∀ h', NewZip s.heap s.heap.objs.size ls h' → Q (.ref (s.heap.objs.size + ls.length + 2)) { s with heap := h' }) :
    wpAny (model prog w) A (call (.type "zip") (refsL ls)) Q E s := by
  have M := meetsN_new ls (Nat.le_trans h3 (by decide))
  match ls, h1, h3, hl, h, M with
  | [a], _, _, hl, h, M =>
    refine callType_new PySem.F.called_zip (by decide) (typeCall_zip_1 _) (newCall_zip_1 _) (fun obj => args_init_2 obj _) PySem.F.entry_zip_new M ⟨hl, fun h' nz => ⟨⟨_, nz.1, rfl⟩, h h' nz⟩⟩
  | [a, b], _, _, hl, h, M =>
    refine callType_new PySem.F.called_zip (by decide) (PySem.F.typeCall_zip_2 _ _) (PySem.F.newCall_zip_2 _ _) (fun obj => PySem.F.args_object_init_3 obj _ _) PySem.F.entry_zip_new M ⟨hl, fun h' nz => ⟨⟨_, nz.1, rfl⟩, h h' nz⟩⟩
  | [a, b, c], _, _, hl, h, M =>
    refine callType_new PySem.F.called_zip (by decide) (typeCall_zip_3 _ _ _) (newCall_zip_3 _ _ _) (fun obj => args_init_4 obj _ _ _) PySem.F.entry_zip_new M ⟨hl, fun h' nz => ⟨⟨_, nz.1, rfl⟩, h h' nz⟩⟩
/-! ### its turns -/
def NSt (z TI TO : Addr) (as : List Arm) (i : Nat) (T : Option Addr) (h : Heap) : Prop :=
  (match T with
    | none => IsZip h z TI TO .none
    | some t => ∃ f, IsZipHeld h z TI TO t f) ∧ IsTup' h TI (refsA as) ∧ (∃ old, old.length = as.length ∧ IsTup' h TO old) ∧ ∀ a ∈ as, ArmAt h i a
def fpN (z TI TO : Addr) (as : List Arm) : List Addr := z :: TI :: TO :: (as.map (·.it) ++ as.map (·.l))
def wrN (z TO : Addr) (as : List Arm) : List Addr := z :: TO :: as.map (·.it)
theorem SIt.lt {b : Bool} {h : Heap} {it l : Addr} {k : Nat} (x : SIt b h it l k) : it < h.objs.size := by
  obtain ⟨o, e, _⟩ := x.obj
  exact Heap.lt_size e
theorem zipN_mkr {prog : Program} {w : World} {z TI TO : Addr} {as : List Arm} {n : Nat} (D : NApart z TI TO as) (hne : as ≠ []) (hfit : as.length ≤ sizeLine) (hn : ∀ a ∈ as, n ≤ a.xs.size) (hx : ∃ a ∈ as, a.xs.size = n) :
    Mkr prog w z (fpN z TI TO as) (wrN z TO as) n (fun i vs => vs = rowA as i) (NSt z TI TO as) where
  mem := by simp [fpN]
  sub := fun b hb => by
    simp only [wrN, List.mem_cons] at hb
    simp only [fpN, List.mem_cons, List.mem_append]
    rcases hb with r | r | r
    · exact .inl r
    · exact .inr (.inr (.inl r))
    · exact .inr (.inr (.inr (.inl r)))
  there := fun i T h st b hb => by
    obtain ⟨hz, hTI, ⟨old, ho, hTO⟩, ha⟩ := st
    have ez : z < h.objs.size := by
      cases T with
      | none => exact Heap.lt_size (show IsZip h z TI TO .none from hz)
      | some t => obtain ⟨f, e⟩ := hz; exact Heap.lt_size e
    simp only [fpN, List.mem_cons, List.mem_append] at hb
    rcases hb with r | r | r | r | r
    · rw [r]; exact ez
    · rw [r]; exact Heap.lt_size hTI
    · rw [r]; exact Heap.lt_size hTO
    · obtain ⟨a, ham, r⟩ := List.mem_map.mp r
      rw [← r]; exact (ha a ham).1.lt
    · obtain ⟨a, ham, r⟩ := List.mem_map.mp r
      rw [← r]; exact (ha a ham).2.lt
  keep := fun i T h h' st k => by
    obtain ⟨hz, hTI, ⟨old, ho, hTO⟩, ha⟩ := st
    refine ⟨?_, k TI (by simp [fpN]) _ hTI, ⟨old, ho, k TO (by simp [fpN]) _ hTO⟩, fun a ham => (ha a ham).at (fun o e => k _ ?_ o e) fun o e => k _ ?_ o e⟩
    · cases T with
      | none => exact k z (by simp [fpN]) _ hz
      | some t => obtain ⟨f, e⟩ := hz; exact ⟨f, k z (by simp [fpN]) _ e⟩
    · simp only [fpN, List.mem_cons, List.mem_append]
      exact .inr (.inr (.inr (.inl (List.mem_map_of_mem ham))))
    · simp only [fpN, List.mem_cons, List.mem_append]
      exact .inr (.inr (.inr (.inr (List.mem_map_of_mem ham))))
  next := fun A E s i T Q hi st hT hQ => by
    obtain ⟨hz, hTI, ⟨old, ho, hTO⟩, ha⟩ := st
    have hk : ∀ a ∈ as, i < a.xs.size := fun a ham => Nat.lt_of_lt_of_le hi (hn a ham)
    have nw : ∀ b, b ∉ wrN z TO as → b ≠ z ∧ b ≠ TO ∧ ∀ a ∈ as, b ≠ a.it := fun b hb => by
      simp only [wrN, List.mem_cons, not_or] at hb
      exact ⟨hb.1, hb.2.1, fun a ham e => hb.2.2 (e ▸ List.mem_map_of_mem ham)⟩
    cases T with
    | none =>
      have hTy : s.TypeIs (.ref z) "zip" := ⟨_, hz, rfl⟩
      unfold pyNext
      refine wpAny_bind (wpAny_attempt (wpAny_callSpecial?_slot (name := Str.ofString "__next__") hTy F.slot_zip_next
        (wpAny_call_entry F.slot_zip_next hTy F.entry_zip_next
          (freeN_item D hne hfit hz hTI hTO ho ha hk fun h' a1 a2 a3 a4 a5 a6 => wpAny_pure ?_) (F.args_zip_next_1 _))))
      exact hQ h' (rowA as i) rfl ⟨⟨false, a1⟩, a6 _ _ D.TIz D.TITO (fun a ham => (D.iTI a ham).symm) hTI, ⟨_, rowA_len as i, a2⟩, a3⟩ a4 a5 fun b o hb e => a6 b o (nw b hb).1 (nw b hb).2.1 (nw b hb).2.2 e
    | some t =>
      obtain ⟨f, hz⟩ := hz
      obtain ⟨ht, oT, eT⟩ := hT t rfl
      have hTy : s.TypeIs (.ref z) "zip" := ⟨_, hz, rfl⟩
      unfold pyNext
      refine wpAny_bind (wpAny_attempt (wpAny_callSpecial?_slot (name := Str.ofString "__next__") hTy F.slot_zip_next
        (wpAny_call_entry F.slot_zip_next hTy F.entry_zip_next
          (heldN_item D hne hfit hz eT hTI ha hk fun h' a1 a3 a4 a5 a6 => wpAny_pure ?_) (F.args_zip_next_1 _))))
      exact hQ h' (rowA as i) rfl ⟨⟨true, a1⟩, a6 _ _ D.TIz (fun a ham => (D.iTI a ham).symm) hTI, ⟨_, ho, a6 _ _ D.TOz (fun a ham => (D.iTO a ham).symm) hTO⟩, a3⟩ a4 a5 fun b o hb e => a6 b o (nw b hb).1 (nw b hb).2.2 e
  done := fun A E s T Q hh st hT hQ => by
    obtain ⟨hz, hTI, ⟨old, ho, hTO⟩, ha⟩ := st
    have hk : ∃ a ∈ as, a.xs.size ≤ n := let ⟨a, h1, h2⟩ := hx; ⟨a, h1, Nat.le_of_eq h2⟩
    have nw : ∀ b, b ∉ wrN z TO as → b ≠ z ∧ b ≠ TO ∧ ∀ a ∈ as, b ≠ a.it := fun b hb => by
      simp only [wrN, List.mem_cons, not_or] at hb
      exact ⟨hb.1, hb.2.1, fun a ham e => hb.2.2 (e ▸ List.mem_map_of_mem ham)⟩
    cases T with
    | none =>
      have hTy : s.TypeIs (.ref z) "zip" := ⟨_, hz, rfl⟩
      unfold pyNext
      refine wpAny_bind (wpAny_attempt (wpAny_callSpecial?_slot (name := Str.ofString "__next__") hTy F.slot_zip_next
        (wpAny_call_entry F.slot_zip_next hTy F.entry_zip_next
          (freeN_end hh D hne hfit hz hTI hTO ho ha hk fun h' e a6 he => ?_) (F.args_zip_next_1 _))))
      obtain ⟨o, ho', hc⟩ := he
      refine wpAny_bind (wpAny_isInstance (T := "StopIteration") (b := true) ⟨o, ho', hc⟩ isSubtype_stop ?_)
      exact wpAny_pure (hQ _ fun b o hb e => a6 b o (nw b hb).1 (nw b hb).2.1 (nw b hb).2.2 e)
    | some t =>
      obtain ⟨f, hz⟩ := hz
      obtain ⟨ht, oT, eT⟩ := hT t rfl
      have hTy : s.TypeIs (.ref z) "zip" := ⟨_, hz, rfl⟩
      unfold pyNext
      refine wpAny_bind (wpAny_attempt (wpAny_callSpecial?_slot (name := Str.ofString "__next__") hTy F.slot_zip_next
        (wpAny_call_entry F.slot_zip_next hTy F.entry_zip_next
          (heldN_end hh D hne hz eT hTI ha hk fun h' e a6 he => ?_) (F.args_zip_next_1 _))))
      obtain ⟨o, ho', hc⟩ := he
      refine wpAny_bind (wpAny_isInstance (T := "StopIteration") (b := true) ⟨o, ho', hc⟩ isSubtype_stop ?_)
      exact wpAny_pure (hQ _ fun b o hb e => a6 b o (nw b hb).1 (nw b hb).2.2 e)
/-- list(z), z a new zip -/
theorem list_zipN {prog : Program} {w : World} {A : Around} {E : Value → Shared → Prop} {s : Shared} {z TI TO : Addr} {as : List Arm} {n : Nat} {Q : Value → Shared → Prop} (D : NApart z TI TO as) (hne : as ≠ []) (hfit : as.length ≤ sizeLine) (hn : ∀ a ∈ as, n ≤ a.xs.size) (hx : ∃ a ∈ as, a.xs.size = n) (hh : A.handled = none)
    (hst : NSt z TI TO as 0 none s.heap) (hnf : n ≤ sizeLine)
    (hQ : ∀ h' tk acc c bs, (∀ b o, b ∉ wrN z TO as → s.heap.get? b = some o → h'.get? b = some o) → h'.get? s.heap.objs.size = some { cls := .type "list", dict := none, data := .seq acc c, slots := #[] } → bs.length = n →
      Mds (fpN z TI TO as) n (fun i vs => vs = rowA as i) h' bs → (∀ a ∈ bs, s.heap.objs.size < a) → acc.toList = bs.map Value.ref → Q (.ref s.heap.objs.size) { s with heap := h', toks := tk }) :
    wpAny (model prog w) A (call (.type "list") [.ref z]) Q E s :=
  mk_list (T := "zip") (zipN_mkr D hne hfit hn hx) hh hst hnf (fun h st => ⟨_, st.1, rfl⟩) (by decide) (by decide) (fun A E s Q st h => wpAny_pyIter_zip (show IsZip s.heap z TI TO .none from st.1) h) (fun A E s Q st h => zip_hint ⟨_, st.1, rfl⟩ h) hQ
end Pi
end
section
set_option Elab.async false
set_option linter.all false
set_option maxRecDepth 100000
set_option maxHeartbeats 1000000
namespace Pi
open PySem PySem.Spec PyProof.Rows L2 StX
section
variable {K : PySem.W.Frag} {H : Hp} {μ : Mu} {st : Sto}
theorem colsL_len (xss : List (List PV)) : ∀ n i, (colsL xss n i).length = n
  | 0, _ => rfl
  | n + 1, i => congrArg (· + 1) (colsL_len xss n (i + 1))
theorem colsL_get (xss : List (List PV)) : ∀ n i j, j < n → (colsL xss n i)[j]? = some (.tup (colL (i + j) xss))
  | 0, _, _, h => absurd h (Nat.not_lt_zero _)
  | n + 1, i, 0, _ => rfl
  | n + 1, i, j + 1, h => by
    show (colsL xss n (i + 1))[j]? = _
    rw [colsL_get xss n (i + 1) j (Nat.lt_of_succ_lt_succ h)]
    have : i + 1 + j = i + (j + 1) := by omega
    rw [this]
theorem lenMin_le : ∀ {xss : List (List PV)}, ∀ xs ∈ xss, lenMin xss ≤ xs.length
  | [x], xs, h => by rw [List.mem_singleton.mp h]; exact Nat.le_refl _
  | x :: y :: r, xs, h => by
    have e : lenMin (x :: y :: r) = min x.length (lenMin (y :: r)) := rfl
    rw [e]
    rcases List.mem_cons.mp h with rfl | h
    · exact Nat.min_le_left _ _
    · exact Nat.le_trans (Nat.min_le_right _ _) (lenMin_le xs h)
theorem lenMin_ex : ∀ {xss : List (List PV)}, xss ≠ [] → ∃ xs ∈ xss, xs.length = lenMin xss
  | [], h => absurd rfl h
  | [x], _ => ⟨x, List.mem_cons_self .., rfl⟩
  | x :: y :: r, _ => by
    have e : lenMin (x :: y :: r) = min x.length (lenMin (y :: r)) := rfl
    obtain ⟨xs, h1, h2⟩ := lenMin_ex (xss := y :: r) (by simp)
    rw [e]
    by_cases h : x.length ≤ lenMin (y :: r)
    · exact ⟨x, by simp, by omega⟩
    · exact ⟨xs, List.mem_cons_of_mem _ h1, by omega⟩
/-- the rows: lists or tuples, as they stand -/
inductive Rows (K : PySem.W.Frag) (H : Hp) (μ : Mu) : List (List PV) → List (Bool × Addr × List V) → Prop
  | nil : Rows K H μ [] []
  | cons {ps : List PV} {b : Bool} {a : Addr} {vs : List V} {pss : List (List PV)} {r : List (Bool × Addr × List V)} : SqB b K H a vs → RVs K H μ ps vs → Rows K H μ pss r → Rows K H μ (ps :: pss) ((b, a, vs) :: r)
theorem rows_of (hr : Hr K H μ st) : ∀ {ps : List PV} {vs : List V} {xss : List (List PV)}, RVs K H μ ps vs → itemsAll st ps = some xss → ∃ rs, Rows K H μ xss rs ∧ vs = rs.map fun r => V.ref r.2.1
  | _, _, _, .nil, e => by
    cases e
    exact ⟨[], .nil, rfl⟩
  | p :: ps, v :: vs, xss, .cons r rs, e => by
    simp only [itemsAll] at e
    split at e
    · rename_i xs yss e1 e2
      cases e
      obtain ⟨a, us, rfl, sq, ru⟩ := items_kb hr r e1
      obtain ⟨rr, h1, h2⟩ := rows_of hr rs e2
      exact ⟨(_, a, us) :: rr, .cons sq ru h1, by rw [h2]; rfl⟩
    · cases e
end
section
variable {X : Cx} {C : Cls} {W : WX} {a : Expr} {ea : Env → Sto → Out PV} {p q sp pos pos2 : Pos}
/-- the rows in the machine's heap -/
theorem rows_sq {pins : List (Addr × Obj)} {σ : L2.St} {H : Hp} {μ : Mu} {s : Shared} (I : Inv X pins σ H s) : ∀ {xss : List (List PV)} {rs : List (Bool × Addr × List V)}, Rows X.K H μ xss rs →
    ∃ ls : List SqA, ls.length = xss.length ∧ refsL ls = rs.map (fun r => Value.ref r.2.1) ∧ (∀ l ∈ ls, SSq l.1 s.heap l.2.1 l.2.2 ∧ l.2.1 < s.heap.objs.size ∧ l.2.2.size ≤ sizeLine) ∧
      Paired (fun (xs : List PV) (l : SqA) => ∃ vs, RVs X.K H μ xs vs ∧ Vals vs l.2.2.toList) xss ls
  | _, _, .nil => ⟨[], rfl, rfl, fun _ h => (nomatch h), .nil⟩
  | _, _, .cons (b := b) (a := a) (vs := vs) sq rv rs => by
    obtain ⟨ls, h1, h2, h3, h4⟩ := rows_sq I rs
    obtain ⟨its, r, p, lt⟩ := sqB_of I sq
    have hz := sqB_le I sq r
    refine ⟨(b, a, its.toArray) :: ls, by simp [h1], by simp [refsL, ← h2], fun l hl => ?_, .cons ⟨vs, rv, by simpa using r⟩ h4⟩
    rcases List.mem_cons.mp hl with rfl | hl
    · exact ⟨p, lt, by simpa using hz⟩
    · exact h3 l hl
theorem pr_mem {α β : Type} {F : α → β → Prop} : ∀ {xs : List α} {ys : List β}, Paired F xs ys → (∀ x ∈ xs, ∃ y ∈ ys, F x y) ∧ ∀ y ∈ ys, ∃ x ∈ xs, F x y
  | _, _, .nil => ⟨fun _ h => (nomatch h), fun _ h => (nomatch h)⟩
  | _, _, .cons (a := a) (b := b) f t => by
    obtain ⟨h1, h2⟩ := pr_mem t
    refine ⟨fun x hx => ?_, fun y hy => ?_⟩
    · rcases List.mem_cons.mp hx with rfl | hx
      · exact ⟨b, List.mem_cons_self .., f⟩
      · obtain ⟨y, k1, k2⟩ := h1 x hx
        exact ⟨y, List.mem_cons_of_mem _ k1, k2⟩
    · rcases List.mem_cons.mp hy with rfl | hy
      · exact ⟨a, List.mem_cons_self .., f⟩
      · obtain ⟨y, k1, k2⟩ := h2 y hy
        exact ⟨y, List.mem_cons_of_mem _ k1, k2⟩
/-- a column -/
theorem col_rel {H : Hp} {μ : Mu} {K : PySem.W.Frag} {i : Nat} : ∀ {xss : List (List PV)} {ls : List SqA} {n : Nat}, Paired (fun (xs : List PV) (l : SqA) => ∃ vs, RVs K H μ xs vs ∧ Vals vs l.2.2.toList) xss ls → (∀ xs ∈ xss, i < xs.length) →
    ∃ ws, RVs K H μ (colL i xss) ws ∧ Vals ws (rowA (armsFrom n ls) i)
  | _, _, _, .nil, _ => ⟨[], .nil, .nil⟩
  | _, _, n, .cons (a := xs) (b := l) ⟨vs, r, rv⟩ t, h => by
    obtain ⟨ws, h1, h2⟩ := col_rel (n := n + 1) t fun x hx => h x (List.mem_cons_of_mem _ hx)
    obtain ⟨b, ad, items⟩ := l
    have hl := h xs (List.mem_cons_self ..)
    obtain ⟨x, hx⟩ : ∃ x, xs[i]? = some x := ⟨_, List.getElem?_eq_getElem hl⟩
    obtain ⟨v, hv, rx⟩ := r.get hx
    obtain ⟨u, hu, ru⟩ := rv.get hv
    refine ⟨v :: ws, ?_, ?_⟩
    · simp only [colL, nth_eq, hx]
      exact .cons rx h1
    · show Vals (v :: ws) ((items[i]?).getD .none :: rowA (armsFrom (n + 1) _) i)
      have : items[i]? = some u := by simpa using hu
      rw [this]
      exact .cons ru h2
theorem g_zipstar {l : Bool} (hc : X.calm = true) (hg : Gl X "list") (hm : X.mg "list" = none) (hg2 : Gl X "zip") (hm2 : X.mg "zip" = none) (ha : PE X a (gE X.K C W ea)) :
    PE X (.Call (.Name "list" p) [.Call (.Name "zip" q) [.Starred a sp] [] pos2] [] pos) (gE X.K C W fun ρ st => (ea ρ st).bind fun x st => match itemsOf st x with
      | some ps => match itemsAll st ps with
        | some xss => bif Nat.ble 1 xss.length && Nat.ble xss.length 3 then mkL l (colsL xss (lenMin xss) 0) st else .stuck
        | none => .stuck
      | none => .stuck) := by
  refine ⟨fun pins s σ H Q I qq => ?_⟩
  refine wpAny_Call_Name_kw (ld_blt I hg hm (u := .type "list") (by decide +kernel) ?_ (by decide) (by decide))
  rw [show starEach [Expr.Call (.Name "zip" q) [.Starred a sp] [] pos2] X.env = [(false, eval (Expr.Call (.Name "zip" q) [.Starred a sp] [] pos2) X.env)] from rfl]
  refine PySem.callWith_type rfl (Calls.evalArgs_plain (Calls.spliced_cons (wpAny_mono (Q := fun v s' => wpAny (model X.prog X.w) X.A (call (.type "list") [v]) (EP X pins σ Q) X.xe s') ?_ (fun _ _ h => Calls.spliced_nil h) fun _ _ e => e)))
  refine wpAny_Call_Name_kw (ld_blt I hg2 hm2 (u := .type "zip") PyProof.Rows.boot_zip ?_ (by decide) (by decide))
  rw [show starEach [Expr.Starred a sp] X.env = [(true, eval a X.env)] from rfl]
  refine PySem.W.ks_call (P := fun _ => True) rfl (fun h _ => ⟨.machine, .inr (.inl rfl), PySem.W.Looks.of_pure rfl⟩) (PySem.W.ks_lone (thn (ha.run pins s σ H _ I (gE.one qq)) fun v s1 ⟨y, H1, I1, ry, q1⟩ => ?_))
  obtain ⟨μ, st, pv, hr, rx, z⟩ := q1
  cases e1 : itemsOf st pv with
  | none => rw [e1] at z; exact z.elim
  | some ps =>
    rw [e1] at z
    dsimp only at z
    cases e2 : itemsAll st ps with
    | none => rw [e2] at z; exact z.elim
    | some xss =>
      rw [e2] at z
      dsimp only at z
      cases e3 : (Nat.ble 1 xss.length && Nat.ble xss.length 3) with
      | false => rw [e3] at z; exact z.elim
      | true =>
        rw [e3] at z
        dsimp only [cond] at z
        simp only [Bool.and_eq_true, Nat.ble_eq] at e3
        obtain ⟨aa, vs, rfl, sq, rvs⟩ := items_kb hr rx e1
        obtain rfl : v = Value.ref aa := ry
        have sq' : SqT X.K H1 aa vs ∨ SqL X.K H1 aa vs := by
          cases hb : kb pv with
          | true => rw [hb] at sq; exact .inr sq
          | false => rw [hb] at sq; exact .inl sq
        refine star_any I1 sq' fun us s2 I2 rv => ⟨trivial, ?_⟩
        obtain ⟨rs, hrs, rfl⟩ := rows_of hr rvs e2
        obtain ⟨ls, hlen, href, hls, prd⟩ := rows_sq I2 hrs
        have hus : us = refsL ls := by
          rw [href]
          have : ∀ {rs : List (Bool × Addr × List V)} {us : List Value}, Vals (rs.map fun r => V.ref r.2.1) us → us = rs.map fun r => Value.ref r.2.1 := by
            intro rs
            induction rs with
            | nil => intro us r; cases r; rfl
            | cons r0 rs ih =>
              intro us r
              cases r with
              | cons h t =>
                rw [List.map_cons, ← ih t]
                exact congrArg (· :: _) h
          exact this rv
        subst hus
        rw [List.nil_append]
        refine callN_zip (by rw [hlen]; exact e3.1) (by rw [hlen]; exact e3.2) (fun l hl => (hls l hl).1) fun h0 nz => ?_
        obtain ⟨hz, hTI, ⟨old, hold, hTO⟩, harm, hsz, hk⟩ := nz
        have itb : ∀ c ∈ armsFrom s2.heap.objs.size ls, s2.heap.objs.size ≤ c.it ∧ c.it < s2.heap.objs.size + ls.length ∧ c.l < s2.heap.objs.size := fun c hc => by
          obtain ⟨k1, k2, k3⟩ := armsFrom_mem hc
          exact ⟨k1, k2, (hls _ k3).2.1⟩
        have D : NApart (s2.heap.objs.size + ls.length + 2) (s2.heap.objs.size + ls.length) (s2.heap.objs.size + ls.length + 1) (armsFrom s2.heap.objs.size ls) := by
          refine ⟨?_, ?_, ?_, fun c hc => ?_, fun c hc => ?_, fun c hc => ?_, fun c hc => ?_, fun c hc => ?_, fun c hc d hd => ?_, armsFrom_nd _ _⟩
          · exact Nat.ne_of_lt (by omega)
          · exact Nat.ne_of_lt (by omega)
          · exact Nat.ne_of_lt (by omega)
          · have := itb c hc; exact Nat.ne_of_lt (by omega)
          · have := itb c hc; exact Nat.ne_of_lt (by omega)
          · have := itb c hc; exact Nat.ne_of_lt (by omega)
          · have := itb c hc; exact Nat.ne_of_lt (by omega)
          · have := itb c hc; exact Nat.ne_of_lt (by omega)
          · have := itb c hc; have := itb d hd; exact Nat.ne_of_lt (by omega)
        have I3 : Inv X pins σ H1 { s2 with heap := h0 } := I2.kept (t' := s2.toks) hk
        have fresh : ∀ (b : Nat) o, s2.heap.get? b = some o → b ∉ wrN (s2.heap.objs.size + ls.length + 2) (s2.heap.objs.size + ls.length + 1) (armsFrom s2.heap.objs.size ls) := fun b o e hm => by
          have hlt : b < s2.heap.objs.size := Heap.lt_size e
          simp only [wrN, List.mem_cons] at hm
          rcases hm with r | r | r
          · have r' : b = s2.heap.objs.size + ls.length + 2 := r
            omega
          · have r' : b = s2.heap.objs.size + ls.length + 1 := r
            omega
          · obtain ⟨c, hc, r⟩ := List.mem_map.mp r
            have := (itb c hc).1
            have r' : c.it = b := r
            omega
        have hmin : ∀ c ∈ armsFrom s2.heap.objs.size ls, lenMin xss ≤ c.xs.size := fun c hc => by
          obtain ⟨xs, hx, vs, k1, k2⟩ := (pr_mem prd).2 _ (armsFrom_mem hc).2.2
          have := lenMin_le xs hx
          have e := k2.length
          rw [← k1.length] at e
          simp only [Array.length_toList] at e
          omega
        have hne : xss ≠ [] := by intro e; rw [e] at e3; simp at e3
        have hmax : lenMin xss ≤ sizeLine := by
          obtain ⟨xs, hx, e⟩ := lenMin_ex hne
          obtain ⟨l0, hl0, vs, k1, k2⟩ := (pr_mem prd).1 xs hx
          have e4 := k2.length
          rw [← k1.length] at e4
          simp only [Array.length_toList] at e4
          have := (hls l0 hl0).2.2
          omega
        have armof : ∀ {n : Nat} {ls : List SqA} {l0 : SqA}, l0 ∈ ls → ∃ c ∈ armsFrom n ls, c.xs = l0.2.2 := by
          intro n ls
          induction ls generalizing n with
          | nil => intro l0 h; cases h
          | cons l1 ls ih =>
            intro l0 h
            obtain ⟨b1, a1, x1⟩ := l1
            rcases List.mem_cons.mp h with rfl | h
            · exact ⟨_, List.mem_cons_self .., rfl⟩
            · obtain ⟨c, k1, k2⟩ := ih (n := n + 1) h
              exact ⟨c, List.mem_cons_of_mem _ k1, k2⟩
        have hex : ∃ c ∈ armsFrom s2.heap.objs.size ls, c.xs.size = lenMin xss := by
          obtain ⟨xs, hx, e⟩ := lenMin_ex hne
          obtain ⟨l0, hl0, vs, k1, k2⟩ := (pr_mem prd).1 xs hx
          have e4 := k2.length
          rw [← k1.length] at e4
          simp only [Array.length_toList] at e4
          obtain ⟨c, k3, k4⟩ := armof hl0
          exact ⟨c, k3, by rw [k4]; omega⟩
        have hane : armsFrom s2.heap.objs.size ls ≠ [] := by
          intro e
          have := congrArg List.length e
          rw [armsFrom_len, hlen] at this
          simp at this
          exact hne this
        refine list_zipN D hane (by rw [armsFrom_len, hlen]; exact Nat.le_trans e3.2 (by decide)) hmin hex (I2.ok.hd hc) ⟨hz, hTI, ⟨old, by rw [hold, armsFrom_len], hTO⟩, harm⟩ hmax fun h' tk acc c bs hkeep hS hblen hG hlo hacc => ?_
        have I4 : Inv X pins σ H1 { s2 with heap := h', toks := tk } := I2.kept (t' := tk) fun b o e => hkeep b o (fresh b o e) (hk b o e)
        have hL : H1 h0.objs.size = none := I3.hok.fresh (Nat.le_refl _)
        have lt0 : s2.heap.objs.size ≤ h0.objs.size := by rw [hsz]; omega
        have fr : ∀ t, t ∈ bs → s2.heap.objs.size ≤ t ∧ H1 t = none := fun t ht => by
          have h3 : s2.heap.objs.size ≤ t := Nat.le_trans lt0 (Nat.le_of_lt (hlo t ht))
          exact ⟨h3, I2.hok.fresh h3⟩
        have tup : ∀ t, t ∈ bs → ∃ i ws, bs[i]? = some t ∧ i < lenMin xss ∧ RVs X.K H1 μ (colL i xss) ws ∧ ∀ H2, ObjOk X.prog X.w H2 h' t (.tup ws) := fun t ht => by
          obtain ⟨i, hi⟩ := List.mem_iff_getElem?.mp ht
          have hil : i < lenMin xss := by rw [← hblen]; exact (List.getElem?_eq_some_iff.mp hi).1
          obtain ⟨us, f1, f3⟩ := hG.at' i t hi
          obtain ⟨ws, k1, k2⟩ := col_rel (i := i) (n := s2.heap.objs.size) prd fun xs hx => Nat.lt_of_lt_of_le hil (lenMin_le xs hx)
          rw [f1] at f3
          refine ⟨i, ws, hi, hil, k1, fun H2 => ⟨?_, _, k2, ⟨_, f3, rfl, _, rfl⟩⟩⟩
          have e := k2.length
          rw [rowA_len, armsFrom_len, hlen] at e
          rw [e]
          exact Nat.le_trans e3.2 (by decide)
        have nd : bs.Nodup := hG.rise.imp fun h => Nat.ne_of_lt h
        obtain ⟨H2, I5, g, tq, kk⟩ := takeM (P := fun t ws => ∃ i, bs[i]? = some t ∧ i < lenMin xss ∧ RVs X.K H1 μ (colL i xss) ws) I2 bs H1 I4 nd fun t ht => by
          obtain ⟨i, ws, k1, k2, k3, k4⟩ := tup t ht
          exact ⟨(fr t ht).1, (fr t ht).2, ws, ⟨i, k1, k2, k3⟩, k4⟩
        have hL2 : H2 h0.objs.size = none := by
          rw [kk _ fun hm => Nat.lt_irrefl _ (hlo _ hm)]
          exact hL
        have x1 := Ext.sub (K := X.K) (μ := μ) g
        have hr2 := hr.sub g
        have rel : RVs X.K H2 μ (colsL xss (lenMin xss) 0) (bs.map V.ref) := RVs.of_get (by rw [colsL_len, List.length_map, hblen]) fun i pp v k1 k2 => by
          rw [List.getElem?_map] at k2
          obtain ⟨t, k3, rfl⟩ := Option.map_eq_some_iff.mp k2
          obtain ⟨ws, ⟨j, m1, m2, m3⟩, m4⟩ := tq t (List.mem_of_getElem? k3)
          have : i = j := (List.getElem?_inj (List.getElem?_eq_some_iff.mp k3).1 nd).mp (k3.trans m1.symm)
          subst this
          rw [colsL_get _ _ _ _ m2, Nat.zero_add] at k1
          cases k1
          exact .tup (SqT.of m4) (m3.ext x1)
        have ok : ∀ H3, ObjOk X.prog X.w H3 h' h0.objs.size (.lst (bs.map V.ref)) := fun H3 => by
          refine ⟨?_, acc.toList, c, by rw [hacc]; exact vals_refs bs, by simpa using hS⟩
          rw [List.length_map, hblen]
          exact hmax
        exact ⟨.ref h0.objs.size, upd H2 h0.objs.size (.lst (bs.map V.ref)), I5.take (h' := h') (t' := tk) (fun b ob _ e => e) (I2.fpOk lt0 hL2) (ok _), rfl, mkL_ok (Th.ext x1 z) hr2 rel hL2⟩
end
end Pi
end
section
set_option Elab.async false
set_option linter.all false
set_option maxRecDepth 100000
set_option maxHeartbeats 1000000
namespace Pi
open PySem PySem.Spec PyProof.Rows L2
/-! ### list(d.values()) -/
/-- the view d.values() at p -/
def valsO (p d : Addr) : HO := .ext fun h => h.IsValuesView p d
theorem valsO_ok {P : Program} {w : World} {H : Hp} {h : Heap} {p d : Addr} (e : h.get? p = some { cls := .type "dict_values", data := .fields #[.ref d] }) : ObjOk P w H h p (valsO p d) :=
  ⟨⟨_, e, rfl, rfl⟩, ⟨_, e⟩, fun h1 h2 x k => let ⟨o, ho, r⟩ := x; ⟨o, k o ho, r⟩⟩
section
variable {prog : Program} {w : World} {A : Around} {E : Value → Shared → Prop} {s : Shared}
theorem meetsValues {d : Addr} {es : Array DictEntry} {ep : Nat} (hd : (d == sysModules) = false) :
    MeetsIn prog w (Builtin.«dict.values» ⟨[.ref d], []⟩) (fun _ R s => s.heap.DictRaw d es ep ∧
      R (.ok (.ret (.ref s.heap.objs.size))) { s with heap := s.heap.push { cls := .type "dict_values", data := .fields #[.ref d] } }) :=
  .of_wp fun A R s ⟨hm, h⟩ => by
    refine wpAny_bind ?_
    unfold Builtin.Dict.noArgs
    refine wpAny_bind (wpAny_notOrdered_dict hm.typeIs ?_)
    show wpAny _ _ (pure d) _ _ s
    refine wpAny_pure ?_
    show wpAny _ _ (Builtin.Dict.showsAll d >>= _) _ _ s
    unfold Builtin.Dict.showsAll
    rw [if_neg (by rw [hd]; exact Bool.false_ne_true)]
    refine wpAny_bind (wpAny_pure ?_)
    exact wpAny_bind (wpAny_newObj_type (wpAny_pure ⟨_, rfl, h⟩))
theorem callValues {d : Addr} {es : Array DictEntry} {ep : Nat} {Q : Value → Shared → Prop} (hd : (d == sysModules) = false) (hm : s.heap.DictRaw d es ep)
    (h : Q (.ref s.heap.objs.size) { s with heap := s.heap.push { cls := .type "dict_values", data := .fields #[.ref d] } }) : wpAny (model prog w) A (call (.builtin "dict.values") [.ref d]) Q E s :=
  call_meetsIn PySem.F.slot_dict_values hm.typeIs PySem.F.entry_dict_values (PySem.F.args_dict_values_1 _) (meetsValues (es := es) (ep := ep) hd) ⟨hm, h⟩
end
/-- values of a dict, as they stand -/
def DV (H : Hp) (d : Addr) (vs : List V) : Prop := (∃ ks : List (Key × V), H d = some (.dK ks) ∧ vs = ks.map (·.2)) ∨ (∃ ks : List (NestedKey × Addr × V), H d = some (dkO d ks) ∧ vs = ks.map (·.2.2))
theorem DV.upd {H : Hp} {d p : Addr} {vs : List V} {o : HO} (h : DV H d vs) (hp : H p = none) : DV (L2.upd H p o) d vs := by
  rcases h with ⟨ks, e, r⟩ | ⟨ks, e, r⟩
  · exact .inl ⟨ks, by rw [upd_ne (ne_of_none e hp)]; exact e, r⟩
  · exact .inr ⟨ks, by rw [upd_ne (ne_of_none e hp)]; exact e, r⟩
section
variable {X : Cx} {pins : List (Addr × Obj)} {σ : L2.St} {H : Hp} {s : Shared}
theorem DV.raw {d : Addr} {vs : List V} (I : Inv X pins σ H s) (h : DV H d vs) : (d == sysModules) = false ∧ ∃ es ep, s.heap.DictRaw d es ep ∧ es.size = vs.length ∧ es.size ≤ sizeLine ∧ ∀ i (hi : i < es.size), ∃ v, vs[i]? = some v ∧ L2.RelV v es[i].val := by
  rcases h with ⟨ks, e, rfl⟩ | ⟨ks, e, rfl⟩
  · obtain ⟨z, hs, ys, kv, dd⟩ := (show ks.length ≤ sizeLine ∧ (d == sysModules) = false ∧ ∃ vs, KV ks vs ∧ s.heap.DictOf (mixKind X.prog X.w) d vs from I.hok d _ e)
    obtain ⟨es, ep, raw, sz, at'⟩ := dd.raw
    have hl : ks.length = ys.length := Paired.length kv
    refine ⟨hs, es, ep, raw, by simp [sz, hl], by omega, fun i hi => ?_⟩
    have hy : i < ys.length := by omega
    obtain ⟨x, hx, f⟩ := DX.pget kv (List.getElem?_eq_getElem hy)
    refine ⟨x.2, by simp [hx], ?_⟩
    have := (at' i hi ys[i].1 ys[i].2 (List.getElem?_eq_getElem hy)).2
    rw [this]
    exact f.2
  · obtain ⟨⟨z, hs, ys, r, o, es, ep, h1, h2, h3, h4, h5⟩, _⟩ := I.hok d _ e
    have hl : ks.length = ys.length := Paired.length r
    have sz : es.size = ys.length := by rw [← Array.length_toList, h4, List.length_map]
    refine ⟨hs, es, ep, ⟨o, h1, h2, h3⟩, by simp [sz, hl], by omega, fun i hi => ?_⟩
    have hy : i < ys.length := by omega
    obtain ⟨x, hx, f⟩ := DX.pget r (List.getElem?_eq_getElem hy)
    refine ⟨x.2.2, by simp [hx], ?_⟩
    have e4 : es.toList[i]? = (ys.map entN)[i]? := by rw [h4]
    rw [List.getElem?_map, List.getElem?_eq_getElem hy, Array.getElem?_toList, Array.getElem?_eq_getElem hi] at e4
    have e5 : es[i] = entN ys[i] := by simpa using e4
    rw [e5]
    exact f.2.2
theorem DV.ty {d : Addr} {vs : List V} (h : DV H d vs) : tyD X.K "dict" (.ref d) H := by
  rcases h with ⟨ks, e, rfl⟩ | ⟨ks, e, rfl⟩
  · exact .inl (.inr (.inr (.inl ⟨rfl, .inl ⟨ks, e⟩⟩)))
  · exact .inr ⟨rfl, d, ks, rfl, e⟩
end
section
variable {X : Cx} {C : Cls} {W : WX} {o a : Expr} {ea : Env → Sto → Out PV} {p apos cpos pos : Pos}
def rVals : V → List V → Hp → VK → Prop := fun x xs H Q => ∃ d vs, x = .ref d ∧ xs = [] ∧ DV H d vs ∧ ∀ p, H p = none → Q (.ref p) (upd H p (valsO p d))
theorem mt_vals : MtR X "dict.values" rVals := by
  intro pins s σ H x xs v us Q I rx rxs h
  obtain ⟨a, vs, rfl, rfl, ha, q⟩ := h
  cases rx
  cases rxs
  obtain ⟨hd, es, ep, raw, _⟩ := ha.raw I
  refine callValues hd raw ?_
  have hf : H s.heap.objs.size = none := I.hok.fresh (Nat.le_refl _)
  exact ⟨.ref s.heap.objs.size, upd H s.heap.objs.size (valsO s.heap.objs.size a), I.laid (t' := s.toks) (fun b u e => Heap.get?_push_of_some _ e) (Nat.le_refl _) (valsO_ok (Heap.get?_push_size _ rfl)), rfl, q _ hf⟩
theorem pe_vals {te : TE} (he : PE X o te) (hb : objB o = true) (hline : (apos.endLine == cpos.line) = true) :
    PE X (.Call (.Attribute o "values" apos) [] [] cpos) (fun σ H Q => te σ H fun x H1 => ∃ d vs, x = .ref d ∧ DV H1 d vs ∧ ∀ p, H1 p = none → Q (.ref p) (upd H1 p (valsO p d))) := by
  refine ⟨fun pins s σ H Q I h => ?_⟩
  refine wpAny_Call_method0_late (obj_base hb) hline (thn (he.run pins s σ H _ I h) fun v s1 ⟨x, H1, I1, r1, d, vs, ex, dv, q1⟩ => ?_)
  subst ex
  obtain ⟨h1, h2⟩ := tyD_is I1 r1 (dv.ty (X := X))
  exact ⟨"dict", "dict.values", PySem.F.plainAttrs_dict, PySem.F.slot_dict_values, PySem.F.type_dict_values, h1, h2, Calls.callWith_builtin rfl (PySem.evalArgs_none (mt_vals pins s1 σ H1 (.ref d) [] v [] Q I1 r1 .nil ⟨d, vs, rfl, rfl, dv, q1⟩))⟩
def rLV : List V → Hp → VK → Prop := fun xs H Q => ∃ p d vs, xs = [.ref p] ∧ H p = some (valsO p d) ∧ DV H d vs ∧ ∀ q, H q = none → Q (.ref q) (upd H q (.lst vs))
theorem cr_lvals (hc : X.calm = true) : CallR X (.type "list") rLV := by
  intro pins s σ H xs us Q I r h
  obtain ⟨p, d, vs, rfl, hp, dv, q⟩ := h
  obtain rfl := Vals.ref1 r
  have view : s.heap.IsValuesView p d := (show ObjOk X.prog X.w H s.heap p (valsO p d) from I.hok p _ hp).1
  obtain ⟨hd, es, ep, raw, sz, hz, at'⟩ := dv.raw I
  have hf : H s.heap.objs.size = none := I.hok.fresh (Nat.le_refl _)
  refine PySem.W.kdl_call (PySem.KdlSrc.rawValues (r := p) (d := d) (es := es) (ep := ep)) (I.ok.hd hc) ⟨view, raw⟩ hz fun h' tk acc c' hk hS hit => ?_
  have rel : Vals vs acc.toList := by
    refine vals_by (by rw [← sz, Array.length_toList, hit.1]) fun i v u e1 e2 => ?_
    rw [Array.getElem?_toList] at e2
    obtain ⟨hi, e3⟩ := hit.2 i u e2
    obtain ⟨v', e4, e5⟩ := at' i hi
    rw [e1] at e4
    cases e4
    rw [e3]
    exact e5
  exact ⟨.ref s.heap.objs.size, upd H s.heap.objs.size (.lst vs), I.laid (t' := tk) hk (Nat.le_refl _) ⟨by rw [← sz]; exact hz, acc.toList, c', rel, by simpa using hS⟩, rfl, q _ hf⟩
where
  vals_by : ∀ {vs : List V} {us : List Value}, vs.length = us.length → (∀ (i : Nat) v u, vs[i]? = some v → us[i]? = some u → L2.RelV v u) → Vals vs us
    | [], [], _, _ => .nil
    | p :: ps, v :: vs, hl, h => .cons (h 0 p v rfl rfl) (vals_by (by simpa using hl) fun i q u e1 e2 => h (i + 1) q u (by simpa using e1) (by simpa using e2))
    | [], _ :: _, hl, _ => by simp at hl
    | _ :: _, [], hl, _ => by simp at hl
section
variable {K : PySem.W.Frag} {H : Hp} {μ : Mu} {st : Sto}
theorem RKs.vals : ∀ {kvs : List (PV × PV)} {ks : List (Key × V)}, RKs K H μ kvs ks → RVs K H μ (kvs.map fun kv => kv.2) (ks.map (·.2))
  | _, _, .nil => .nil
  | _, _, .cons r rs => .cons r rs.vals
theorem RCs.vals : ∀ {kvs : List (PV × PV)} {ks : List (NestedKey × Addr × V)}, RCs K H μ kvs ks → RVs K H μ (kvs.map fun kv => kv.2) (ks.map (·.2.2))
  | _, _, .nil => .nil
  | _, _, .cons _ _ _ r rs => .cons r rs.vals
theorem dv_of {p : PV} {x : V} {b : Bool} {kvs : List (PV × PV)} (hr : Hr K H μ st) (r : RV K H μ p x) (e : dctAt st p = some (b, kvs)) : ∃ d vs, x = .ref d ∧ DV H d vs ∧ RVs K H μ (kvs.map fun kv => kv.2) vs := by
  cases r with
  | @loc n a m =>
    unfold dctAt at e
    dsimp only at e
    split at e
    · rename_i b' kvs' g
      cases e
      obtain ⟨a', e1, e2⟩ := hr.obj n _ g
      rw [m] at e1
      cases e1
      cases b with
      | false =>
        obtain ⟨ks, e3, rs⟩ := e2
        exact ⟨a, _, rfl, .inl ⟨ks, e3, rfl⟩, rs.vals⟩
      | true =>
        obtain ⟨ks, e3, rs⟩ := e2
        exact ⟨a, _, rfl, .inr ⟨ks, e3, rfl⟩, rs.vals⟩
    · cases e
  | _ => cases e
end
theorem g_lvals {l : Bool} (hc : X.calm = true) (hg : Gl X "list") (hm : X.mg "list" = none) (ha : PE X o (gE X.K C W ea)) (hb : objB o = true) (hline : (apos.endLine == cpos.line) = true) :
    PE X (.Call (.Name "list" p) [.Call (.Attribute o "values" apos) [] [] cpos] [] pos) (gE X.K C W fun ρ st => (ea ρ st).bind fun x st => match dctAt st x with
      | some (_, kvs) => mkL l (kvs.map fun kv => kv.2) st
      | none => .stuck) := by
  refine (pe_callTy (T := "list") (cr_lvals hc) hg hm (by decide +kernel) (pa_cons (pe_vals ha hb hline) pa_nil rfl)).imp ?_
  intro σ H Q qq
  refine gE.imp ?_ (gE.one qq)
  rintro x H1 ⟨μ, st, pv, hr, rx, z⟩
  cases e : dctAt st pv with
  | none => rw [e] at z; exact z.elim
  | some bk =>
    obtain ⟨b, kvs⟩ := bk
    rw [e] at z
    dsimp only at z
    obtain ⟨d, vs, rfl, dv, rvs⟩ := dv_of hr rx e
    refine ⟨d, vs, rfl, dv, fun p hp => ⟨p, d, vs, rfl, upd_same, dv.upd hp, fun q hq => ?_⟩⟩
    have x1 := Ext.made (K := X.K) (μ := μ) (o := valsO p d) hp
    exact mkL_ok (Th.ext x1 z) (hr.made hp) (rvs.ext x1) hq
end
end Pi
end
section
set_option Elab.async false
set_option linter.all false
set_option maxRecDepth 100000
set_option maxHeartbeats 1000000
namespace Pi
open PySem PySem.Spec PyProof.Rows L2
/-! ### sets of up to four cells -/
section
variable {P : Program} {w : World} {A : Around} {E : Value → Shared → Prop} {s : Shared}
/-- a walk over ints that answers the same for each -/
theorem intsWalk {ks : List Int} {vs : List Value} (hi : ItemsAre (intKind P w) ks vs) {f : Value → Option Bool × PUnit → Sem (ForInStep (Option Bool × PUnit))} {Q : Option Bool × PUnit → Shared → Prop}
    (hf : ∀ i t, f (.int i t) (none, ⟨⟩) = pure (.yield (none, ⟨⟩))) (h : Q (none, ⟨⟩) s) : wpAny (model P w) A (forIn vs (none, PUnit.unit) f) Q E s := by
  have all := items_int hi
  refine wpAny_forIn_list f (fun rest r s' => r = (none, ⟨⟩) ∧ s' = s ∧ ∀ v ∈ rest, ∃ i t, v = Value.int i t) Q ?_ ?_ vs _ ⟨rfl, rfl, all⟩
  · rintro v rest r s' ⟨rfl, rfl, hall⟩
    obtain ⟨i, t, rfl⟩ := hall v (List.mem_cons_self ..)
    rw [hf]
    exact wpAny_pure ⟨rfl, rfl, fun u hu => hall u (List.mem_cons_of_mem _ hu)⟩
  · rintro r s' ⟨rfl, rfl, _⟩
    exact h
theorem cls_tup {ks : List Int} {b : Addr} {n : Nat} {Q : Bool → Shared → Prop} (hk : IsTupleKey (intKind P w) s.heap ks b) (h : Q false s) : wpAny (model P w) A (ofAClassStatement (n + 1) (.ref b)) Q E s := by
  have ty := hk.typeIs
  obtain ⟨ob, its, m, g, _, gd, hi⟩ := hk
  unfold ofAClassStatement
  refine wpAny_bind (wpAny_typeOf ty ?_)
  have eT : (("tuple" : String) == "tuple") = true := by decide
  simp only [eT, if_true, Bool.not_true, Bool.false_eq_true, if_false]
  refine wpAny_bind (wpAny_pure ?_)
  simp only [Bool.not_true, Bool.false_eq_true, if_false]
  refine wpAny_bind (wpAny_seqItems g gd ?_)
  dsimp only
  refine wpAny_bind ?_
  rw [← Array.forIn_toList]
  refine intsWalk hi (fun i t => ?_) (wpAny_pure h)
  rw [ofAClass_int]
  rfl
theorem cls_cell {k : CK} {b : Addr} {Q : Bool → Shared → Prop} (hk : IsCell P w s.heap k b) (h : Q false s) : wpAny (model P w) A (ofAClassStatement 8 (.ref b)) Q E s := by
  have ty := hk.typeIs
  obtain ⟨ob, its, m, c, t, g, _, gd, hi, hc⟩ := hk
  unfold ofAClassStatement
  refine wpAny_bind (wpAny_typeOf ty ?_)
  have eT : (("tuple" : String) == "tuple") = true := by decide
  simp only [eT, if_true, Bool.not_true, Bool.false_eq_true, if_false]
  refine wpAny_bind (wpAny_pure ?_)
  simp only [Bool.not_true, Bool.false_eq_true, if_false]
  refine wpAny_bind (wpAny_seqItems g gd ?_)
  dsimp only
  refine wpAny_bind ?_
  rw [← Array.forIn_toList, hi]
  simp only [List.forIn_cons, List.forIn_nil]
  rw [ofAClass_int]
  refine wpAny_bind (wpAny_bind (wpAny_pure ?_))
  simp only [Bool.false_eq_true, if_false]
  refine wpAny_pure ?_
  refine wpAny_bind (wpAny_bind (cls_tup (n := 6) hc ?_))
  simp only [Bool.false_eq_true, if_false]
  exact wpAny_pure (wpAny_pure (wpAny_pure h))
theorem hby_tup {ks : List Int} {b : Addr} {n : Nat} {Q : Bool → Shared → Prop} (hk : IsTupleKey (intKind P w) s.heap ks b) (h : Q true s) : wpAny (model P w) A (hashByValue (n + 1) (.ref b)) Q E s := by
  have ty := hk.typeIs
  obtain ⟨ob, its, m, g, _, gd, hi⟩ := hk
  unfold hashByValue
  refine wpAny_bind (wpAny_specialOf ty PySem.F.slot_tuple_hash.lookup ?_)
  show wpAny _ _ (seqItems? (.ref b) >>= _) _ _ s
  refine wpAny_bind (wpAny_seqItems g gd ?_)
  refine wpAny_bind ?_
  show wpAny _ _ (forIn its _ _) _ _ s
  rw [← Array.forIn_toList]
  refine intsWalk hi (fun i t => ?_) (wpAny_pure h)
  rw [hashBy_int]
  rfl
theorem hby_cell {k : CK} {b : Addr} {Q : Bool → Shared → Prop} (hk : IsCell P w s.heap k b) (h : Q true s) : wpAny (model P w) A (hashByValue 8 (.ref b)) Q E s := by
  have ty := hk.typeIs
  obtain ⟨ob, its, m, c, t, g, _, gd, hi, hc⟩ := hk
  unfold hashByValue
  refine wpAny_bind (wpAny_specialOf ty PySem.F.slot_tuple_hash.lookup ?_)
  show wpAny _ _ (seqItems? (.ref b) >>= _) _ _ s
  refine wpAny_bind (wpAny_seqItems g gd ?_)
  refine wpAny_bind ?_
  show wpAny _ _ (forIn its _ _) _ _ s
  rw [← Array.forIn_toList, hi]
  simp only [List.forIn_cons, List.forIn_nil]
  rw [hashBy_int]
  refine wpAny_bind (wpAny_bind (wpAny_pure ?_))
  simp only [Bool.not_true, Bool.false_eq_true, if_false]
  refine wpAny_pure ?_
  refine wpAny_bind (wpAny_bind (hby_tup (n := 6) hc ?_))
  simp only [Bool.not_true, Bool.false_eq_true, if_false]
  exact wpAny_pure (wpAny_pure (wpAny_pure h))
/-- a search among cells is seen by nobody -/
theorem seen_cell {k : CK} {b : Addr} {Q : Bool → Shared → Prop} (hk : IsCell P w s.heap k b) {ys : List Value} (hy : ∀ y ∈ ys, ∃ k' c, y = Value.ref c ∧ IsCell P w s.heap k' c) (h : Q false s) :
    wpAny (model P w) A (searchCouldBeSeen (.ref b) ys) Q E s := by
  unfold searchCouldBeSeen
  refine wpAny_bind ?_
  refine wpAny_forIn_list _ (fun rest r s' => r = (none, PUnit.unit) ∧ s' = s ∧ ∀ y ∈ rest, ∃ k' c, y = Value.ref c ∧ IsCell P w s.heap k' c) _ ?_ ?_ _ _ ⟨rfl, rfl, hy⟩
  · rintro v rest r s' ⟨rfl, rfl, hall⟩
    obtain ⟨k', c, rfl, hc⟩ := hall v (List.mem_cons_self ..)
    have tl := fun u hu => hall u (List.mem_cons_of_mem _ hu)
    dsimp only
    by_cases same : (b == c || (carriedByValue (.ref b) && carriedByValue (.ref c))) = true
    · exact wp_if_pos same (wpAny_pure ⟨rfl, rfl, tl⟩)
    · refine wp_if_neg same ?_
      refine wpAny_bind (quiet_cell hk ?_)
      simp only [Bool.not_true, Bool.false_eq_true, if_false]
      refine wpAny_bind (quiet_cell hc ?_)
      simp only [Bool.not_true, Bool.false_eq_true, if_false]
      refine wpAny_bind (cls_cell hk ?_)
      simp only [Bool.false_eq_true, if_false]
      refine wpAny_bind (cls_cell hc ?_)
      simp only [Bool.false_eq_true, if_false]
      exact wpAny_pure ⟨rfl, rfl, tl⟩
  · rintro r s' ⟨rfl, rfl, _⟩
    exact wpAny_pure h
abbrev entS (p : Addr × CK) : Int × Value := (ckHash p.2, Value.ref p.1)
/-- the set of these cells at a, at most four -/
structure CSet (P : Program) (w : World) (h : Heap) (a : Addr) (L : List (Addr × CK)) (es : Array (Int × Value)) (ep : Nat) (t : SetTable) : Prop where
  ob : ∃ o, h.get? a = some o ∧ o.ExactSet ∧ o.data = .set es ep t
  rows : es.toList = L.map entS
  tab : TabOk t (L.map fun p => ckHash p.2)
  nd : (L.map (·.2)).Nodup
  cel : ∀ p ∈ L, IsCell P w h p.2 p.1
  plain : t.plain = true
  led : w.params.followText "set-order" = true ∨ t.led = true
  m7 : t.mask = 7
  few : L.length ≤ 4
variable {a : Addr} {L : List (Addr × CK)} {es : Array (Int × Value)} {ep : Nat} {t : SetTable}
theorem CSet.size (R : CSet P w s.heap a L es ep t) : es.size = L.length := by
  rw [← Array.length_toList, R.rows, List.length_map]
theorem CSet.fits (R : CSet P w s.heap a L es ep t) : t.fits es.size = true := by
  have h1 := R.tab.sz
  have h2 := R.size
  have h3 := R.few
  rw [List.length_map] at h1
  unfold SetTable.fits SetTable.fill
  rw [R.tab.dm, R.m7, Bool.and_eq_true, beq_iff_eq, decide_eq_true_eq, Array.size_empty]
  omega
theorem CSet.entry (R : CSet P w s.heap a L es ep t) {i : Nat} {p : Addr × CK} (h : L[i]? = some p) : es[i]? = some (entS p) := by
  rw [← Array.getElem?_toList, R.rows, List.getElem?_map, h, Option.map_some]
theorem CSet.gw (R : CSet P w s.heap a L es ep t) : ¬ t.gaveWay = true := by
  unfold SetTable.gaveWay
  rw [R.m7]
  decide
theorem dummy_nth (m : Nat) : ∀ (n : Nat) (p : SetTable.Probe), p.dummy = none → (L2.nth m p n).dummy = none
  | 0, _, h => h
  | n + 1, p, h => dummy_nth m n (adv m p) (by
    unfold adv
    split <;> exact h)
/-- the search for a key, from step c of its way -/
theorem seekC (R : CSet P w s.heap a L es ep t) {x : Addr} {k : CK} (hx : IsCell P w s.heap k x) (hu : A.units + 2 < cLine) {K : Nat} (hKf : K < 10 * SetTable.turns t.mask)
    (hK : way t.mask (ckHash k) K ∉ t.place.toList) (hKb : ∀ c, c < K → way t.mask (ckHash k) c ∈ t.place.toList) {Q : SetFound → Shared → Prop}
    (hin : k ∈ L.map (·.2) → Q (.there none) s) (hout : k ∉ L.map (·.2) → Q (.free (way t.mask (ckHash k) K) false) s) :
    ∀ (f c : Nat) (stand : Option SetTable.Probe), stand.getD (t.probeStart (ckHash k)) = L2.nth t.mask (runAt t.mask (SetTable.bits (ckHash k) % (t.mask + 1)) (SetTable.bits (ckHash k))) c → c ≤ K → K - c < f →
      (∀ (i : Nat) p, L[i]? = some p → p.2 = k → ∃ c', c ≤ c' ∧ c' < K ∧ t.place.toList[i]? = some (way t.mask (ckHash k) c')) →
      wpAny (model P w) A (setSearchFrom a (.ref x) (ckHash k) true f stand) Q E s := by
  intro f
  induction f with
  | zero => intro c stand _ _ hf _; exact absurd hf (Nat.not_lt_zero _)
  | succ f ih =>
    intro c stand hst hc hf hre
    obtain ⟨ob, gob, gex, gdat⟩ := R.ob
    obtain ⟨p0, hp0⟩ : ∃ p0, p0 = runAt t.mask (SetTable.bits (ckHash k) % (t.mask + 1)) (SetTable.bits (ckHash k)) := ⟨_, rfl⟩
    rw [← hp0] at hst
    have wy : ∀ q, (L2.nth t.mask p0 q).j = way t.mask (ckHash k) q := fun q => by rw [hp0]
    rw [setSearchFrom_succ]
    refine wpAny_bind (wpAny_setState_of gob gdat R.fits ?_)
    dsimp only
    refine wp_if_neg R.gw ?_
    have sh : ∀ q, L2.nth t.mask (L2.nth t.mask p0 c) q = L2.nth t.mask p0 (c + q) := fun q => (nth_add t.mask c p0 q).symm
    have shj : ∀ q, (L2.nth t.mask (L2.nth t.mask p0 c) q).j = way t.mask (ckHash k) (c + q) := fun q => by rw [sh, wy]
    have hashAt : ∀ (i : Nat) p, L[i]? = some p → (es[i]?.map (·.1)).getD 0 = ckHash p.2 := fun i p hp => by rw [R.entry hp, Option.map_some, Option.getD_some]
    have spec := go_spec t R.tab.ris R.tab.dm (fun i => (es[i]?.map (·.1)).getD 0) (ckHash k) (10 * SetTable.turns t.mask) (K - c) (L2.nth t.mask p0 c) (dummy_nth _ _ _ (by rw [hp0]; rfl)) (by omega)
      (fun q hq => by rw [shj]; exact hKb (c + q) (by omega)) (by rw [shj, show c + (K - c) = K from by omega]; exact hK)
    rcases spec with ⟨q, i, hq, hi, hh, hno, hpr⟩ | ⟨hno, hpr⟩
    · have probe : t.probe (fun i => (es[i]?.map (·.1)).getD 0) (ckHash k) (stand.getD (t.probeStart (ckHash k))) = some (.candidate (way t.mask (ckHash k) (c + q)) i (L2.nth t.mask p0 (c + (q + 1)))) := by
        rw [hst, ← shj, ← sh]
        exact hpr
      rw [probe]
      dsimp only
      clear probe hpr
      rw [shj] at hi
      have hil : i < L.length := by
        have h1 := (List.getElem?_eq_some_iff.mp hi).1
        have h2 := R.tab.sz
        rw [List.length_map] at h2
        rw [Array.length_toList] at h1
        omega
      obtain ⟨p, hp⟩ : ∃ p, L[i]? = some p := ⟨_, List.getElem?_eq_getElem hil⟩
      have hmem := List.mem_of_getElem? hp
      have hpc := R.cel p hmem
      have tl : wpAny (model P w) A (searchRest a (.ref x) (ckHash k) true f es t (way t.mask (ckHash k) (c + q)) i (L2.nth t.mask p0 (c + (q + 1)))) Q E s := by
        unfold searchRest
        rw [R.entry hp]
        refine wpAny_bind (wpAny_holding (eqBool_cell hu hpc hx ?_))
        refine wpAny_bind (wpAny_setState_of gob gdat R.fits ?_)
        by_cases hkk : p.2 = k
        · exact wp_if_pos (by simp [hkk]) (wpAny_pure (hin (List.mem_map.mpr ⟨p, hmem, hkk⟩)))
        · refine wp_if_neg (by simp [hkk]) ?_
          rw [sameMem]
          have live : t.slot (way t.mask (ckHash k) (c + q)) = .live i := slot_live R.tab.ris hi
          simp only [if_true, live, R.entry hp]
          refine wpAny_bind (wpAny_isSame_ref_self (wpAny_bind (wpAny_pure ?_)))
          simp only [if_true]
          refine wp_if_neg (by simp [hkk]) ?_
          refine ih (c + (q + 1)) (some (L2.nth t.mask p0 (c + (q + 1)))) (by rw [← hp0]; rfl) (by omega) (by omega) fun i0 q0 h0 hk0 => ?_
          obtain ⟨c', a1, a2, a3⟩ := hre i0 q0 h0 hk0
          refine ⟨c', ?_, a2, a3⟩
          rcases Nat.lt_trichotomy c' (c + q) with z | z | z
          · refine absurd ((hashAt i0 q0 h0).trans (congrArg ckHash hk0)) (hno (c' - c) i0 (by omega) ?_)
            rw [shj, show c + (c' - c) = c' from by omega]
            exact a3
          · rw [z] at a3
            have l2 := slot_live R.tab.ris a3
            rw [live] at l2
            injection l2 with l2
            rw [← l2, hp] at h0
            cases h0
            exact absurd hk0 hkk
          · omega
      by_cases hl : t.led = true
      · exact wp_if_neg (by simp [hl]) tl
      · refine wp_if_pos (by simp [hl]) (wpAny_bind (seen_cell hx (fun y hy => ?_) (wp_if_neg (by decide) tl)))
        obtain ⟨e, he, ee⟩ := List.mem_map.mp hy
        have he1 : e ∈ es.toList := by
          have : e ∈ es ∧ e.1 = ckHash k := by simpa using he
          simpa using this.1
        rw [R.rows] at he1
        obtain ⟨p2, hp2, e2⟩ := List.mem_map.mp he1
        exact ⟨p2.2, p2.1, by rw [← ee, ← e2], R.cel p2 hp2⟩
    · have probe : t.probe (fun i => (es[i]?.map (·.1)).getD 0) (ckHash k) (stand.getD (t.probeStart (ckHash k))) = some (.empty (way t.mask (ckHash k) K) none) := by
        have e2 : way t.mask (ckHash k) K = (L2.nth t.mask (L2.nth t.mask p0 c) (K - c)).j := by rw [shj, show c + (K - c) = K from by omega]
        rw [hst, e2]
        exact hpr
      rw [probe]
      refine wpAny_pure (hout fun hm => ?_)
      obtain ⟨q0, h0, hk0⟩ := List.mem_map.mp hm
      obtain ⟨i0, h1⟩ := List.mem_iff_getElem?.mp h0
      obtain ⟨c', a1, a2, a3⟩ := hre i0 q0 h1 hk0
      refine absurd ((hashAt i0 q0 h1).trans (congrArg ckHash hk0)) (hno (c' - c) i0 (by omega) ?_)
      rw [shj, show c + (c' - c) = c' from by omega]
      exact a3
theorem seekC0 (R : CSet P w s.heap a L es ep t) {x : Addr} {k : CK} (hx : IsCell P w s.heap k x) (hu : A.units + 2 < cLine) {Q : SetFound → Shared → Prop} (hin : k ∈ L.map (·.2) → Q (.there none) s)
    (hout : ∀ K, k ∉ L.map (·.2) → way t.mask (ckHash k) K ∉ t.place.toList → (∀ c, c < K → way t.mask (ckHash k) c ∈ t.place.toList) → Q (.free (way t.mask (ckHash k) K) false) s) :
    wpAny (model P w) A (setSearch a (.ref x) (ckHash k) true) Q E s := by
  have few := R.few
  obtain ⟨K, hKf, hK, hKb⟩ := R.tab.first (by rw [List.length_map, R.m7]; omega) (ckHash k)
  have big : K < 100000 := by
    have : 10 * SetTable.turns t.mask ≤ 1420 := by
      unfold SetTable.turns
      rw [R.m7]
      omega
    omega
  unfold setSearch
  refine seekC R hx hu hKf hK hKb hin (fun hn => hout K hn hK hKb) 100000 0 none rfl (Nat.zero_le _) (by omega) fun i p hp hk => ?_
  have hi : (L.map fun p => ckHash p.2)[i]? = some (ckHash k) := by
    rw [List.getElem?_map, hp, Option.map_some, hk]
  have hil : i < t.place.toList.length := by
    have h1 := (List.getElem?_eq_some_iff.mp hp).1
    have h2 := R.tab.sz
    rw [List.length_map] at h2
    rw [Array.length_toList]
    omega
  have hj := List.getElem?_eq_getElem hil
  obtain ⟨c, hc, e⟩ := R.tab.before hK hi hj
  exact ⟨c, Nat.zero_le _, hc, by rw [hj, e]⟩
theorem cell_same {h h' : Heap} {k : CK} {b : Addr} {o : Obj} (x : IsCell P w h k b) (ho : h.get? a = some o) (hd : o.data = .set es ep t) (hs : Heap.SameBut a h h') : IsCell P w h' k b := by
  obtain ⟨ob, its, m, c, tk, g, gc, gd, hi, ⟨ob2, its2, m2, g2, gc2, gd2, hi2⟩⟩ := x
  have n1 : b ≠ a := by
    rintro rfl
    rw [ho] at g
    cases g
    rw [hd] at gd
    cases gd
  have n2 : c ≠ a := by
    rintro rfl
    rw [ho] at g2
    cases g2
    rw [hd] at gd2
    cases gd2
  exact ⟨ob, its, m, c, tk, (hs.2 b n1).trans g, gc, gd, hi, ⟨ob2, its2, m2, (hs.2 c n2).trans g2, gc2, gd2, hi2⟩⟩
theorem cell_keep {h h' : Heap} {k : CK} {b : Addr} (x : IsCell P w h k b) (kp : ∀ c o, h.get? c = some o → h'.get? c = some o) : IsCell P w h' k b := by
  obtain ⟨ob, its, m, c, tk, g, gc, gd, hi, ⟨ob2, its2, m2, g2, gc2, gd2, hi2⟩⟩ := x
  exact ⟨ob, its, m, c, tk, kp _ _ g, gc, gd, hi, ⟨ob2, its2, m2, kp _ _ g2, gc2, gd2, hi2⟩⟩
/-- one is put in -/
theorem putC (R : CSet P w s.heap a L es ep t) {x : Addr} {k : CK} (hx : IsCell P w s.heap k x) (hu : A.units + 2 < cLine) (hfew : k ∉ L.map (·.2) → L.length < 4) {Q : Bool → Shared → Prop}
    (hQ : ∀ b h' L' es' ep' t', Heap.SameBut a s.heap h' → CSet P w h' a L' es' ep' t' → (k ∈ L.map (·.2) → L' = L) → (k ∉ L.map (·.2) → L'.Perm ((x, k) :: L)) → Q b { s with heap := h' }) :
    wpAny (model P w) A (setAddHashed a (.ref x) (ckHash k)) Q E s := by
  obtain ⟨ob, gob, gex, gdat⟩ := R.ob
  have hsl := R.size
  unfold setAddHashed
  refine wpAny_holding ?_
  rw [show (100000 : Nat) = 99999 + 1 from rfl, setAddHashedIn_succ]
  refine wpAny_bind (wpAny_setState_of gob gdat R.fits ?_)
  refine wp_if_neg (by simp [byScan, Value.scannable]) ?_
  refine wpAny_bind (seekC0 R hx hu (fun hm => ?_) fun K hm hK hb => ?_)
  · exact wpAny_pure (hQ false s.heap L es ep t (Heap.SameBut.refl a s.heap) R (fun _ => rfl) fun z => absurd hm z)
  · dsimp only
    refine wpAny_bind (wpAny_setState_of gob gdat R.fits ?_)
    dsimp only
    obtain ⟨q1, q2, q3, q4, q5, q6, q7, q8, q9⟩ := R.tab.put hK hb
    have hp1 : (t.put (way t.mask (ckHash k) K)).1.plain = true := by rw [q6]; exact R.plain
    generalize hpt : t.put (way t.mask (ckHash k) K) = pt at q1 q3 q4 q5 q6 q7 q8 q9 hp1 ⊢
    obtain ⟨t1, pl⟩ := pt
    dsimp only at q1 q3 q4 q5 q6 q7 q8 q9 hp1 ⊢
    subst q1
    generalize hpp : SetTable.below t.place (way t.mask (ckHash k) K) = pl at q2 q3 ⊢
    refine wp_if_pos (by simpa using hp1) (wpAny_bind (hby_cell hx ?_))
    simp only [if_true]
    have pm := put_perm L pl (x, k)
    have rows1 : (SetTable.insertAt es pl (ckHash k, Value.ref x)).toList = (L.take pl ++ (x, k) :: L.drop pl).map entS := by
      rw [SetTable.toList_insertAt, R.rows, List.map_append, List.map_cons, List.map_take, List.map_drop]
    have hhs : (L.take pl ++ (x, k) :: L.drop pl).map (fun p => ckHash p.2) = (L.map fun p => ckHash p.2).take pl ++ ckHash k :: (L.map fun p => ckHash p.2).drop pl := by
      rw [List.map_append, List.map_cons, List.map_take, List.map_drop]
    rw [← hhs] at q3
    generalize L.take pl ++ (x, k) :: L.drop pl = L1 at pm q3 rows1
    have hlen : L1.length = L.length + 1 := pm.length_eq
    have nd1 : (L1.map (·.2)).Nodup := by
      refine (pm.map (·.2)).nodup_iff.mpr ?_
      rw [List.map_cons]
      exact List.nodup_cons.mpr ⟨hm, R.nd⟩
    have hes : (SetTable.insertAt es pl (ckHash k, Value.ref x)).size = L1.length := by rw [← Array.length_toList, rows1, List.length_map]
    generalize SetTable.insertAt es pl (ckHash k, Value.ref x) = es1 at rows1 hes ⊢
    have few1 := hfew hm
    refine wpAny_bind (wpAny_storeSet_of gob gdat ?_ (by rw [hes, hlen, sizeLine_eq]; omega))
    have sb : Heap.SameBut a s.heap (s.heap.update a (Obj.putSet es1 t1)) := Heap.SameBut.update ..
    have ho1 := store_at (es' := es1) (t' := t1) gob gdat
    generalize s.heap.update a (Obj.putSet es1 t1) = h1 at sb ho1 ⊢
    have cel1 : ∀ p ∈ L1, IsCell P w h1 p.2 p.1 := fun p hp => by
      rcases List.mem_cons.mp (pm.mem_iff.mp hp) with e | hp
      · rw [e]; exact cell_same hx gob gdat sb
      · exact cell_same (R.cel p hp) gob gdat sb
    have led1 : w.params.followText "set-order" = true ∨ t1.led = true := by rw [q5]; exact R.led
    have hf : ¬ t1.tooFull = true := by
      unfold SetTable.tooFull
      rw [decide_eq_true_eq, q9, List.length_map, q4, R.m7]
      omega
    refine wp_if_neg (by simp [hf]) ?_
    exact wpAny_pure (hQ true h1 L1 es1 (ep + 1) t1 sb ⟨⟨_, ho1, ⟨gex.1, gex.2.1, gex.2.2⟩, rfl⟩, rows1, q3, nd1, cel1, hp1, led1, by rw [q4]; exact R.m7, by rw [hlen]; omega⟩ (fun z => absurd z hm) fun _ => pm)
end
end Pi
end
section
set_option Elab.async false
set_option linter.all false
set_option maxRecDepth 100000
set_option maxHeartbeats 3200000
namespace Pi
open PySem PySem.Spec PyProof.Rows L2
/-! ### set(xs), xs a list of up to four cells -/
/-- what stands in the set behind the first i cells -/
structure Gath (ks : List (Addr × CK)) (i : Nat) (L : List (Addr × CK)) : Prop where
  sub : ∀ p ∈ L, p ∈ ks.take i
  all : ∀ p ∈ ks.take i, p.2 ∈ L.map (·.2)
  len : L.length ≤ i
theorem tk_next {α : Type} {l : List α} {i : Nat} {x : α} (h : l[i]? = some x) : l.take (i + 1) = l.take i ++ [x] := by
  rw [List.take_add_one, h]
  rfl
theorem Gath.step {ks L L' : List (Addr × CK)} {i : Nat} {x : Addr × CK} (g : Gath ks i L) (h : ks[i]? = some x) (c1 : x.2 ∈ L.map (·.2) → L' = L) (c2 : x.2 ∉ L.map (·.2) → L'.Perm (x :: L)) : Gath ks (i + 1) L' := by
  have gl := g.len
  by_cases c : x.2 ∈ L.map (·.2)
  · rw [c1 c]
    refine ⟨fun p hp => ?_, fun p hp => ?_, by omega⟩
    · rw [tk_next h]; exact List.mem_append_left _ (g.sub p hp)
    · rw [tk_next h] at hp
      rcases List.mem_append.mp hp with z | z
      · exact g.all p z
      · rw [List.mem_singleton.mp z]; exact c
  · have pm := c2 c
    refine ⟨fun p hp => ?_, fun p hp => ?_, by rw [pm.length_eq, List.length_cons]; omega⟩
    · rw [tk_next h]
      rcases List.mem_cons.mp (pm.mem_iff.mp hp) with e | z
      · rw [e]; exact List.mem_append_right _ (List.mem_singleton.mpr rfl)
      · exact List.mem_append_left _ (g.sub p z)
    · rw [(pm.map (·.2)).mem_iff, List.map_cons]
      rw [tk_next h] at hp
      rcases List.mem_append.mp hp with z | z
      · exact List.mem_cons_of_mem _ (g.all p z)
      · rw [List.mem_singleton.mp z]; exact List.mem_cons_self ..
section
variable {P : Program} {w : World} {A : Around} {E : Value → Shared → Prop} {s : Shared}
theorem CSet.keep {h h' : Heap} {a : Addr} {L : List (Addr × CK)} {es : Array (Int × Value)} {ep : Nat} {t : SetTable} (R : CSet P w h a L es ep t) (ha : ∀ o, h.get? a = some o → h'.get? a = some o) (hc : ∀ p ∈ L, IsCell P w h' p.2 p.1) : CSet P w h' a L es ep t :=
  let ⟨o, g, r⟩ := R.ob
  ⟨⟨o, ha o g, r⟩, R.rows, R.tab, R.nd, hc, R.plain, R.led, R.m7, R.few⟩
abbrev newSetO (w : World) : Obj := { cls := .type "set", dict := none, data := .set #[] 0 (.fresh 0 0 (!w.params.followText "set-order")) }
theorem cset_new {h : Heap} {a : Addr} (g : h.get? a = some (newSetO w)) : CSet P w h a [] #[] 0 (.fresh 0 0 (!w.params.followText "set-order")) where
  ob := ⟨_, g, ⟨rfl, rfl, rfl⟩, rfl⟩
  rows := rfl
  tab := ⟨List.Pairwise.nil, rfl, rfl, .inl rfl, fun x hx => (by cases hx), fun i h j hi => (by simp at hi)⟩
  nd := List.nodup_nil
  cel := fun p hp => (by cases hp)
  plain := rfl
  led := by
    show _ ∨ (!w.params.followText "set-order") = true
    cases w.params.followText "set-order"
    · exact .inr rfl
    · exact .inl rfl
  m7 := rfl
  few := by decide
/-- the loop of set.update -/
theorem upd_cells {I : Addr} {fp wr : List Addr} {G : Array GenState → Array GenState → Prop} {n : Nat} {Pv : Nat → Value → Prop} {St : Nat → Shared → Prop} {R : Result → Shared → Prop}
    (W : WalksS P w A.in1 I fp wr G n Pv St) (S : Addr) (hSf : S ∉ fp) (ks : List (Addr × CK)) (hn : n = ks.length) (h4 : ks.length ≤ 4) (hval : ∀ i v, Pv i v → ∃ p, ks[i]? = some p ∧ v = .ref p.1)
    (h0 : Heap) (hk : ∀ p ∈ ks, IsCell P w h0 p.2 p.1) (hS0 : h0.get? S = none) (hw0 : ∀ b ∈ wr, h0.get? b = none) (hu : A.in1.units + 2 < cLine) :
    ∀ (k i : Nat) (s : Shared), n - i = k → i ≤ n → St i s → (∀ b o, h0.get? b = some o → s.heap.get? b = some o) → (∃ L es ep t, CSet P w s.heap S L es ep t ∧ Gath ks i L) →
      (∀ s' L es ep t, Moved (S :: wr) G s s' → CSet P w s'.heap S L es ep t → Gath ks n L → (∀ b o, h0.get? b = some o → s'.heap.get? b = some o) → R (.ok (.ret .none)) s') →
      codeAny (model P w) A (.builtin "set.update.loop" ⟨[.ref S, .ref I], []⟩) R s := by
  have nS : S ∉ wr := fun z => hSf (W.sub _ z)
  have up : ∀ b ∈ wr, b ∈ S :: wr := fun b hb => List.mem_cons_of_mem _ hb
  have kp : ∀ {s s' : Shared}, Moved wr G s s' → (∀ b o, h0.get? b = some o → s.heap.get? b = some o) → ∀ b o, h0.get? b = some o → s'.heap.get? b = some o := fun hm q b o e =>
    hm.heap b o (fun hb => by rw [hw0 b hb] at e; cases e) (q b o e)
  intro k
  induction k with
  | zero =>
    intro i s hk' hi hst q ⟨L, es, ep, t, hS, g⟩ hR
    obtain rfl : i = n := by omega
    refine codeAny_builtin PyProof.Rows.F.entry_set_update_loop ?_
    rw [Around.under_plainId PyProof.Rows.F.plain_set_update_loop _]
    show wpAny _ A.in1 (pyNext (.ref I) >>= _) _ _ s
    refine wpAny_bind (W.done s _ _ hst fun s' hm => ?_)
    have q' := kp hm q
    have inKs : ∀ p ∈ L, p ∈ ks := fun p hp => List.mem_of_mem_take (g.sub p hp)
    exact wpAny_pure (hR s' L es ep t (hm.mono up) (hS.keep (fun o e => hm.heap S o nS e) fun p hp => cell_keep (hk p (inKs p hp)) q') g q')
  | succ k ih =>
    intro i s hk' hi hst q ⟨L, es, ep, t, hS, g⟩ hR
    have hlt : i < n := by omega
    refine codeAny_builtin PyProof.Rows.F.entry_set_update_loop ?_
    rw [Around.under_plainId PyProof.Rows.F.plain_set_update_loop _]
    show wpAny _ A.in1 (pyNext (.ref I) >>= _) _ _ s
    refine wpAny_bind (W.item i s _ _ hlt hst fun v s' hP hst' hm => ?_)
    obtain ⟨p, hp, rfl⟩ := hval i v hP
    have q' := kp hm q
    have inKs : ∀ p ∈ L, p ∈ ks := fun p hp => List.mem_of_mem_take (g.sub p hp)
    have hS' : CSet P w s'.heap S L es ep t := hS.keep (fun o e => hm.heap S o nS e) fun c hc => cell_keep (hk c (inKs c hc)) q'
    have hx : IsCell P w s'.heap p.2 p.1 := cell_keep (hk p (List.mem_of_getElem? hp)) q'
    show wpAny _ A.in1 (holding [Value.ref p.1] (setAdd S (.ref p.1)) >>= _) _ _ s'
    refine wpAny_bind (wpAny_holding ?_)
    unfold setAdd
    refine wpAny_holding (wpAny_bind (pyHash_cell hu hx ?_))
    have gl := g.len
    refine putC (s := { s' with toks := s'.toks + (p.2.2.length + 3) }) hS' hx hu (fun _ => by omega) fun b h' L' es' ep' t' sb hS2 c1 c2 => ?_
    have q2 : ∀ b o, h0.get? b = some o → h'.get? b = some o := fun b o e => (sb.2 b (fun z => by rw [z, hS0] at e; cases e)).trans (q' b o e)
    refine wpAny_pure ⟨plainId_quiet PyProof.Rows.F.plain_set_update_loop _, ih (i + 1) _ (by omega) hlt (W.frame _ s' _ _ hst' (Nat.le_add_right _ _) fun b hb o e => ?_) q2 ⟨L', es', ep', t', hS2, g.step hp c1 c2⟩ fun s'' L2 es2 ep2 t2 hm2 hS3 g2 q3 => ?_⟩
    · rw [sb.2 b (fun z : b = S => hSf (by rw [← z]; exact hb))]; exact e
    · refine hR s'' L2 es2 ep2 t2 (Moved.trans W.gtrans ((hm.mono up).then_heap (Nat.le_add_right _ _) fun b o hb e => ?_) hm2) hS3 g2 q3
      rw [sb.2 b (fun z : b = S => hb (by rw [z]; exact List.mem_cons_self ..))]; exact e
/-- set(xs) -/
theorem set_cells {l : Addr} {items : Array Value} (ks : List (Addr × CK)) {Q : Value → Shared → Prop} (hh : A.handled = none) (hl : s.heap.IsList l items) (hit : items.toList = ks.map fun p => Value.ref p.1)
    (hk : ∀ p ∈ ks, IsCell P w s.heap p.2 p.1) (h4 : ks.length ≤ 4) (hu : A.units + 5 < cLine)
    (h : ∀ (h' : Heap) (tk : Nat) L es ep t, CSet P w h' s.heap.objs.size L es ep t → Gath ks ks.length L → (∀ b o, s.heap.get? b = some o → h'.get? b = some o) → Q (.ref s.heap.objs.size) { s with heap := h', toks := tk }) :
    wpAny (model P w) A (call (.type "set") [.ref l]) Q E s := by
  have hisz : items.size = ks.length := by rw [← Array.length_toList, hit, List.length_map]
  obtain ⟨c, tl, hmro⟩ := PySem.F.called_set.mro
  have f1 := PySem.F.called_set.made
  have f2 := PySem.F.called_set.sub
  have f3 := PySem.F.called_set.notType
  have f4 := PySem.F.called_set.canCreate
  have f5 := PySem.F.typeCall_set_1 (.ref l)
  refine wpAny_call (codeAny_of_tree ?_)
  show wpAny _ _ (callAny (.type "set") _) _ _ _
  refine wpAny_pure ⟨Code.quiet_builtin _ (by decide +kernel), codeAny_builtin PySem.F.entry_type_call ?_⟩
  rw [Around.under_plain (weight_type_call_type "set" [.ref l] []) rfl]
  repeat (any_goals (first | assumption | wp_step))
  refine codeAny_mono (code_set_led1 (.ref l) (E := E) (Q₁ := fun obj s₁ => obj = .ref s.heap.objs.size ∧ s₁ = { s with heap := s.heap.push (newSetO w) }) ⟨rfl, rfl⟩) fun r s₁ hr => ?_
  match r, hr with
  | .error e, hr => exact hr
  | .ok .next, hr => exact hr.elim
  | .ok .brk, hr => exact hr.elim
  | .ok .cont, hr => exact hr.elim
  | .ok (.ret obj), hr =>
    obtain ⟨rfl, rfl⟩ := hr
    have hS : (s.heap.push (newSetO w)).get? s.heap.objs.size = some (newSetO w) := Heap.get?_push_size _ rfl
    have ty : Shared.TypeIs { s with heap := s.heap.push (newSetO w) } (.ref s.heap.objs.size) "set" := ⟨_, hS, rfl⟩
    have f6 := PySem.F.called_set.init.lookup
    have f7 := PySem.F.called_set.init.bind (.ref s.heap.objs.size)
    repeat (any_goals (first | assumption | wp_step))
    refine codeAny_mono (codeAny_call_builtin (R := wants (fun r s₂ => r = .none ∧ ∃ h' tk L es ep t, s₂ = { s with heap := h', toks := tk } ∧ CSet P w h' s.heap.objs.size L es ep t ∧ Gath ks ks.length L ∧
          (∀ b o, s.heap.get? b = some o → h'.get? b = some o)) E) PySem.F.called_set.init.plain PySem.F.entry_set_init (check_set_init_1 ty ?_)) fun r₂ s₂ hr₂ => ?_
    · obtain ⟨⟨ocls, odict, odata, oslots⟩, hol, hcl, nl, hdl⟩ := hl
      simp only at hcl hdl
      subst hcl; subst hdl
      have hol' : (s.heap.push (newSetO w)).get? l = some { cls := .type "list", dict := odict, data := .seq items nl, slots := oslots } := Heap.get?_push_of_some _ hol
      have f8 := PySem.F.sub_list_set
      have f9 := PySem.F.sub_list_frozenset
      have f10 : (Value.type "list" == Value.type "dict") = false := by decide
      have hl1 : (s.heap.push (newSetO w)).IsList l items := ⟨_, hol', rfl, nl, rfl⟩
      unfold Builtin.«set.__init__» noKeywords Builtin.Frozenset.updateFrom
      generalize hPI : pyIter = PI
      wp_walk
      subst hPI
      refine wpAny_pyIter_list hl1 ?_
      refine wpAny_bind (wpAny_runValue ?_)
      have hlS : l < s.heap.objs.size := Heap.lt_size hol
      have hh3 : A.in1.in1.in1.handled = none := by simp [hh]
      have z1 : (s.heap.push (newSetO w)).objs.size = s.heap.objs.size + 1 := Heap.size_push ..
      have nI : l ≠ (s.heap.push (newSetO w)).objs.size := by rw [z1]; exact Nat.ne_of_lt (Nat.lt_succ_of_lt hlS)
      have nF : s.heap.objs.size ∉ [(s.heap.push (newSetO w)).objs.size, l] := by
        rw [z1]
        simp only [List.mem_cons, List.not_mem_nil, or_false, not_or]
        exact ⟨Nat.ne_of_lt (Nat.lt_succ_self _), Nat.ne_of_gt hlS⟩
      have hval : ∀ (i : Nat) (v : Value), items[i]? = some v → ∃ p, ks[i]? = some p ∧ v = .ref p.1 := fun i v hv => by
        rw [← Array.getElem?_toList, hit, List.getElem?_map] at hv
        obtain ⟨p, e1, e2⟩ := Option.map_eq_some_iff.mp hv
        exact ⟨p, e1, e2.symm⟩
      have none_of : ∀ b, s.heap.objs.size ≤ b → s.heap.get? b = none := fun b hb => by
        cases q : s.heap.get? b with
        | none => rfl
        | some o => exact absurd (Nat.lt_of_lt_of_le (Heap.lt_size q) hb) (Nat.lt_irrefl _)
      refine upd_cells ((Walks.list hh3 _ l nI items).toS) s.heap.objs.size nF ks hisz h4 hval s.heap hk (none_of _ (Nat.le_refl _)) (fun b hb => none_of b (by
          rw [List.mem_singleton.mp hb, z1]
          exact Nat.le_succ _)) hu (items.size - 0) 0 _ (by omega) (Nat.zero_le _)
        ⟨⟨_, Heap.get?_push_size _ rfl, rfl, rfl⟩, (hl1.push _)⟩ (fun b o e => Heap.get?_push_of_some _ (Heap.get?_push_of_some _ e)) ⟨[], #[], 0, _, cset_new (Heap.get?_push_of_some _ hS), ⟨fun p h => (by cases h), fun p h => (by simp at h), Nat.le_refl _⟩⟩ ?_
      intro s' L es ep t hm hS' g' q
      obtain ⟨h', g2, d', tk', os'⟩ := s'
      have eg : g2 = s.gens := hm.gens
      have ed : d' = s.drawn := hm.drawn
      have eo : os' = s.os := hm.os
      subst eg; subst ed; subst eo
      rw [hisz] at g'
      exact wpAny_pure (wpAny_pure ⟨rfl, h', tk', L, es, ep, t, rfl, hS', g', q⟩)
    · match r₂, hr₂ with
      | .error e, hr₂ => exact hr₂
      | .ok .next, hr₂ => exact hr₂.elim
      | .ok .brk, hr₂ => exact hr₂.elim
      | .ok .cont, hr₂ => exact hr₂.elim
      | .ok (.ret r), hr₂ =>
        obtain ⟨rfl, h', tk, L, es, ep, t, rfl, hS', g', hk'⟩ := hr₂
        repeat (any_goals (first | assumption | wp_step))
        exact h _ _ _ _ _ _ hS' g' hk'
end
end Pi
end
section
set_option Elab.async false
set_option linter.all false
set_option maxRecDepth 100000
set_option maxHeartbeats 1000000
namespace Pi
open PySem PySem.Spec PyProof.Rows L2
/-! ### the order of cells -/
theorem eqIL_iff : ∀ {xs ys : List Int}, eqIL xs ys = true ↔ xs = ys
  | [], [] => by simp [eqIL]
  | [], _ :: _ => by simp [eqIL]
  | _ :: _, [] => by simp [eqIL]
  | x :: xs, y :: ys => by
    simp only [eqIL]
    by_cases e : x = y
    · subst e; simp [eqIL_iff]
    · simp [e]
theorem ckEq_iff {a b : CK} : ckEq a b = true ↔ a = b := by
  obtain ⟨i, xs⟩ := a
  obtain ⟨j, ys⟩ := b
  unfold ckEq
  by_cases e : i = j
  · subst e; simp [eqIL_iff]
  · simp [e]
theorem ltIL_lex : ∀ xs ys : List Int, ltIL xs ys = HT.lexLt xs ys
  | [], [] => rfl
  | [], _ :: _ => rfl
  | _ :: _, [] => rfl
  | x :: xs, y :: ys => by
    rw [HT.lexLt_cons]
    simp only [ltIL]
    by_cases e : x = y
    · subst e; simp [ltIL_lex]
    · rw [if_neg e, show (x == y) = false from by simpa using e]; rfl
/-- a linear order -/
theorem ltIL_tri : ∀ xs ys : List Int, (ltIL xs ys = true ∧ ltIL ys xs = false ∧ xs ≠ ys) ∨ (ltIL xs ys = false ∧ ltIL ys xs = false ∧ xs = ys) ∨ (ltIL xs ys = false ∧ ltIL ys xs = true ∧ xs ≠ ys)
  | [], [] => by simp [ltIL]
  | [], _ :: _ => by simp [ltIL]
  | _ :: _, [] => by simp [ltIL]
  | x :: xs, y :: ys => by
    simp only [ltIL]
    by_cases e : x = y
    · subst e
      simpa using ltIL_tri xs ys
    · have e' : ¬ y = x := fun z => e z.symm
      simp [e, e']
      omega
theorem ltIL_tr : ∀ xs ys zs : List Int, ltIL xs ys = true → ltIL ys zs = true → ltIL xs zs = true
  | [], [], _, h, _ => by simp [ltIL] at h
  | [], _ :: _, [], _, h => by simp [ltIL] at h
  | [], _ :: _, _ :: _, _, _ => by simp [ltIL]
  | _ :: _, [], _, h, _ => by simp [ltIL] at h
  | _ :: _, _ :: _, [], _, h => by simp [ltIL] at h
  | x :: xs, y :: ys, z :: zs, h1, h2 => by
    simp only [ltIL] at h1 h2 ⊢
    by_cases e : x = y
    · subst e
      by_cases e2 : x = z
      · subst e2
        simp at h1 h2 ⊢
        exact ltIL_tr xs ys zs h1 h2
      · simp [e2] at h1 h2 ⊢
        exact h2
    · by_cases e2 : y = z
      · subst e2
        simp [e] at h1 h2 ⊢
        exact h1
      · simp [e, e2] at h1 h2
        have : ¬ x = z := by omega
        simp [this]
        omega
theorem ckLt_tri (a b : CK) : (ckLt a b = true ∧ ckLt b a = false ∧ a ≠ b) ∨ (ckLt a b = false ∧ ckLt b a = false ∧ a = b) ∨ (ckLt a b = false ∧ ckLt b a = true ∧ a ≠ b) := by
  obtain ⟨i, xs⟩ := a
  obtain ⟨j, ys⟩ := b
  unfold ckLt
  by_cases e : i = j
  · subst e
    have := ltIL_tri xs ys
    simpa using this
  · have e' : ¬ j = i := fun z => e z.symm
    simp [e, e']
    omega
theorem ckLt_tr {a b c : CK} (h1 : ckLt a b = true) (h2 : ckLt b c = true) : ckLt a c = true := by
  obtain ⟨i, xs⟩ := a
  obtain ⟨j, ys⟩ := b
  obtain ⟨k, zs⟩ := c
  unfold ckLt at h1 h2 ⊢
  by_cases e : i = j
  · subst e
    by_cases e2 : i = k
    · subst e2
      simp at h1 h2 ⊢
      exact ltIL_tr _ _ _ h1 h2
    · simp [e2] at h1 h2 ⊢
      exact h2
  · by_cases e2 : j = k
    · subst e2
      simp [e] at h1 h2 ⊢
      exact h1
    · simp [e, e2] at h1 h2
      have : ¬ i = k := by omega
      simp [this]
      omega
theorem swo_ck (k : Value → CK) : SrtO.Swo fun v u => ckLt (k v) (k u) := by
  refine ⟨fun x y h => ?_, fun x y z h1 h2 => ?_⟩
  · rcases ckLt_tri (k x) (k y) with t | t | t
    · exact t.2.1
    · exact t.2.1
    · rw [t.1] at h; cases h
  · -- y ≥ x, z ≥ y
    cases h : ckLt (k z) (k x) with
    | false => rfl
    | true =>
      rcases ckLt_tri (k x) (k y) with t | t | t
      · have := ckLt_tr h t.1
        rw [h2] at this; cases this
      · rw [t.2.2] at h; rw [h2] at h; cases h
      · rw [h1] at t; exact absurd t.2.1 (by simp)
abbrev Up (l : List CK) : Prop := l.Pairwise fun a b => ckLt a b = true
theorem insC_mem {k x : CK} : ∀ {l : List CK}, x ∈ insC k l ↔ x = k ∨ x ∈ l
  | [] => by simp [insC]
  | j :: r => by
    simp only [insC]
    cases e : ckEq k j with
    | true =>
      have := ckEq_iff.mp e
      subst this
      simp
    | false =>
      cases e2 : ckLt k j with
      | true => simp
      | false =>
        simp only [cond_false, List.mem_cons, insC_mem (l := r)]
        constructor
        · rintro (h | h | h) <;> simp [h]
        · rintro (h | h | h) <;> simp [h]
theorem insC_up {k : CK} : ∀ {l : List CK}, Up l → Up (insC k l)
  | [], _ => List.pairwise_singleton _ _
  | j :: r, h => by
    have h' := List.pairwise_cons.mp h
    simp only [insC]
    cases e : ckEq k j with
    | true => exact h
    | false =>
      have ne : k ≠ j := fun z => by rw [ckEq_iff.mpr z] at e; cases e
      cases e2 : ckLt k j with
      | true => exact List.pairwise_cons.mpr ⟨fun x hx => by
          rcases List.mem_cons.mp hx with rfl | hx
          · exact e2
          · exact ckLt_tr e2 (h'.1 x hx), h⟩
      | false =>
        refine List.pairwise_cons.mpr ⟨fun x hx => ?_, insC_up h'.2⟩
        rcases insC_mem.mp hx with rfl | hx
        · rcases ckLt_tri x j with t | t | t
          · rw [t.1] at e2; cases e2
          · exact absurd t.2.2 ne
          · exact t.2.1
        · exact h'.1 x hx
theorem srtC_mem {x : CK} : ∀ {l : List CK}, x ∈ srtC l ↔ x ∈ l
  | [] => by simp [srtC]
  | k :: r => by simp [srtC, insC_mem, srtC_mem (l := r)]
theorem srtC_up : ∀ l : List CK, Up (srtC l)
  | [] => List.Pairwise.nil
  | k :: r => insC_up (srtC_up r)
theorem up_eq : ∀ {l m : List CK}, Up l → Up m → (∀ x, x ∈ l ↔ x ∈ m) → l = m
  | [], [], _, _, _ => rfl
  | [], y :: m, _, _, h => absurd ((h y).mpr (List.mem_cons_self ..)) (by simp)
  | x :: l, [], _, _, h => absurd ((h x).mp (List.mem_cons_self ..)) (by simp)
  | x :: l, y :: m, hl, hm, h => by
    have hl' := List.pairwise_cons.mp hl
    have hm' := List.pairwise_cons.mp hm
    have irr : ∀ a : CK, ckLt a a = false := fun a => by
      rcases ckLt_tri a a with t | t | t
      · exact absurd rfl t.2.2
      · exact t.1
      · exact t.1
    have e : x = y := by
      rcases List.mem_cons.mp ((h x).mp (List.mem_cons_self ..)) with e | e
      · exact e
      · rcases List.mem_cons.mp ((h y).mpr (List.mem_cons_self ..)) with e2 | e2
        · exact e2.symm
        · have := ckLt_tr (hm'.1 x e) (hl'.1 y e2)
          rw [irr] at this
          cases this
    subst e
    rw [up_eq hl'.2 hm'.2 fun z => ?_]
    have hz := h z
    constructor
    · intro hz1
      rcases List.mem_cons.mp (hz.mp (List.mem_cons_of_mem _ hz1)) with e | e
      · subst e
        have := hl'.1 z hz1
        rw [irr] at this; cases this
      · exact e
    · intro hz1
      rcases List.mem_cons.mp (hz.mpr (List.mem_cons_of_mem _ hz1)) with e | e
      · subst e
        have := hm'.1 z hz1
        rw [irr] at this; cases this
      · exact e
/-! ### sorted of a set of cells -/
section
variable {P : Program} {w : World} {A : Around} {E : Value → Shared → Prop} {s : Shared}
theorem cell_cmp {vs : List Value} {k : Value → CK} (hu : A.units + 2 < cLine) (hp : ∀ v ∈ vs, ∃ a, v = .ref a ∧ IsCell P w s.heap (k v) a) : SrtO.Cmp P w A s (tuples' true) (fun p => p.1 ∈ vs) (SrtO.lt2 fun v u => ckLt (k v) (k u)) := by
  intro p q hm hm'
  obtain ⟨a, ea, ca⟩ := hp _ hm
  obtain ⟨b, eb, cb⟩ := hp _ hm'
  show wpAny (model P w) A (keyLt' (tuples' true) p.1 q.1) (fun r s' => s' = s ∧ r = ckLt (k p.1) (k q.1)) (fun _ _ => False) s
  unfold ckLt
  generalize k p.1 = c1 at ca ⊢
  generalize k q.1 = c2 at cb ⊢
  obtain ⟨i, xs⟩ := c1
  obtain ⟨j, ys⟩ := c2
  obtain ⟨oa, ia, na, xa, ta, ga, gca, gda, hia, hka⟩ := ca
  obtain ⟨ob, ib, nb, xb, tb, gb, gcb, gdb, hib, hkb⟩ := cb
  rw [ea, eb]
  refine PySem.W.kat_lt ga gda gb gdb ?_
  rw [hia, hib]
  show PySem.W.KatLex P w A true _ _ [(Value.int i ta, Value.int j tb), (Value.ref xa, Value.ref xb)] 0 s
  refine PySem.W.kat_cons (SeqAt.EqAt.int_int i ta j tb P w _ _ ?_)
  refine PySem.W.kat_go (fun e1 => ?_) (fun e1 => ?_)
  · have ex : i = j := by simpa using e1
    subst ex
    refine PySem.W.kat_yes (PySem.W.kat_cons (wpAny_eqBool_tuple (by omega) hka hkb ?_))
    refine PySem.W.kat_go (fun e2 => ?_) (fun e2 => ?_)
    · have ey : xs = ys := by simpa using e2
      subst ey
      refine PySem.W.kat_yes (PySem.W.kat_nil ⟨rfl, ?_⟩)
      have hz : decide (ia.size < ib.size) = false := by
        have e3 : ia.size = 2 := by rw [← Array.length_toList, hia]; rfl
        have e4 : ib.size = 2 := by rw [← Array.length_toList, hib]; rfl
        rw [e3, e4]; rfl
      rw [hz]
      simp only [beq_self_eq_true, cond_true]
      rcases ltIL_tri xs xs with t | t | t
      · exact absurd rfl t.2.2
      · exact t.1.symm
      · exact t.1.symm
    · obtain ⟨oc, ic, nc, gc, gcc, gdc, hic⟩ := hka
      obtain ⟨od, id', nd, gd, gcd, gdd, hid⟩ := hkb
      refine PySem.W.kat_no (PySem.W.kat_one _ _ (HT.lt_tupInts (ns := xs) (ms := ys) ⟨oc, gc, gcc, _, gdc⟩ ⟨od, gd, gcd, _, gdd⟩ (ints_of_items hic) (ints_of_items hid) (by omega) (show _ ∧ _ from ⟨rfl, by simp [ltIL_lex]⟩)))
  · have ex : ¬ i = j := by simpa using e1
    exact PySem.W.kat_no (PyProof.Rows.oneLt_int ⟨rfl, by simp [e1]⟩)
theorem cell_firsts {h : Heap} {k : Value → CK} : ∀ {vs : List Value}, (∀ v ∈ vs, ∃ a, v = .ref a ∧ IsCell P w h (k v) a) → ∃ fs : List Value, PySem.W.KatTups h vs fs ∧ fs.length = vs.length ∧ ∀ f ∈ fs, ∃ x t, f = Value.int x t
  | [], _ => ⟨[], PySem.W.KatTups.nil, rfl, fun _ hm => by simp at hm⟩
  | v :: vs, hp => by
    obtain ⟨fs, h1, h2, h3⟩ := cell_firsts (vs := vs) fun u hm => hp u (List.mem_cons_of_mem _ hm)
    obtain ⟨a, e, oa, ia, na, xa, ta, ga, gca, gda, hia, hka⟩ := hp v (List.mem_cons_self ..)
    subst e
    have f0 : ia[0]? = some (Value.int (k (.ref a)).1 ta) := by rw [← Array.getElem?_toList, hia]; rfl
    refine ⟨_ :: fs, PySem.W.KatTups.cons ga gca gda f0 h1, by rw [List.length_cons, List.length_cons, h2], fun f hm => ?_⟩
    rcases List.mem_cons.mp hm with rfl | hm
    · exact ⟨_, _, rfl⟩
    · exact h3 f hm
theorem cell_sortable {a : Addr} {vs : List Value} {k : Value → CK} (hu : A.units + 2 < cLine) (h0 : 0 < vs.length) (hp : ∀ v ∈ vs, ∃ b, v = .ref b ∧ IsCell P w s.heap (k v) b) (ha : ∀ o, s.heap.get? a = some o → o.cls ≠ .type "tuple") : SrtO.SortableO P w A s a vs fun v u => ckLt (k v) (k u) := by
  intro h' kp
  have hp' : ∀ v ∈ vs, ∃ b, v = .ref b ∧ IsCell P w h' (k v) b := fun v hm => by
    obtain ⟨b, e, ob, its, m, c, tk, g, gc, gd, hi, ⟨ob2, its2, m2, g2, gc2, gd2, hi2⟩⟩ := hp v hm
    exact ⟨b, e, ob, its, m, c, tk, kp _ _ (fun z => by subst z; exact ha ob g gc) g, gc, gd, hi, ⟨ob2, its2, m2, kp _ _ (fun z => by subst z; exact ha ob2 g2 gc2) g2, gc2, gd2, hi2⟩⟩
  obtain ⟨fs, h1, h2, h3⟩ := cell_firsts hp'
  refine ⟨tuples' true, fun Q E hq => ?_, cell_cmp (s := { s with heap := h' }) hu hp'⟩
  refine PySem.W.kat_kind (T := .type "int") h1 (by omega) (fun f hm => ?_) (by rfl) ?_
  · obtain ⟨x, t, rfl⟩ := h3 f hm
    exact PySem.W.Looks.now
  · have e : (Value.type "int" != Value.type "tuple") = true := by decide
    rw [e]
    exact hq
/-- sorted(set) -/
theorem sorted_cset {a : Addr} {L : List (Addr × CK)} {es : Array (Int × Value)} {ep : Nat} {t : SetTable} {Q : Value → Shared → Prop} (R : CSet P w s.heap a L es ep t) (hh : A.handled = none) (hu : A.units + 8 < cLine)
    (hQ : ∀ s' p (out : Array Value) (c : Nat) (bs : List Addr), (∀ b o, s.heap.get? b = some o → s'.heap.get? b = some o) → s'.gens = s.gens → s'.os = s.os → s.heap.objs.size ≤ p →
      s'.heap.get? p = some (seqObj "list" out c) → out.toList = bs.map Value.ref → Paired (fun (b : Addr) (k : CK) => (b, k) ∈ L) bs (srtC (L.map (·.2))) → Q (.ref p) s') :
    wpAny (model P w) A (call (.builtin "sorted") [.ref a]) Q E s := by
  obtain ⟨ob, gob, gex, gdat⟩ := R.ob
  have hsz := R.size
  have few := R.few
  refine Calls.call_function_entry kind_sorted plain_sorted entry_sorted (args_sorted1 _) ?_
  unfold Builtin.«sorted»
  refine wpAny_bind (m := checkCount "sorted" 1 1 _) (wpAny_pure ?_)
  refine wpAny_bind (collect_set (A := A.in1) hh ⟨ob, gob, gex.1, gdat⟩ R.fits (by unfold scanBound; omega) R.tab.ris R.led fun s1 vs k1 hz g1 o1 pm => ?_)
  have hes : es.toList.map (·.2) = L.map fun q => Value.ref q.1 := by
    rw [R.rows, List.map_map]
    rfl
  rw [hes] at pm
  have hvl : vs.length ≤ 4 := by rw [pm.length_eq, List.length_map]; exact few
  -- a key to each value
  obtain ⟨kf, hkf⟩ : ∃ kf : Value → CK, ∀ q ∈ L, kf (.ref q.1) = q.2 := by
    refine ⟨fun v => ((L.find? fun q => Value.ref q.1 == v).map (·.2)).getD (0, []), fun q hq => ?_⟩
    cases e : L.find? fun p => Value.ref p.1 == Value.ref q.1 with
    | none =>
      have := List.find?_eq_none.mp e q hq
      simp at this
    | some p =>
      have h1 := List.find?_some e
      have h2 := List.mem_of_find?_eq_some e
      have h3 : p.1 = q.1 := by simpa using h1
      have c1 := R.cel p h2
      have c2 := R.cel q hq
      rw [h3] at c1
      simpa [e] using c1.inj c2
  have hv : ∀ v ∈ vs, ∃ q ∈ L, v = Value.ref q.1 := fun v hm => by
    obtain ⟨q, hq, e⟩ := List.mem_map.mp (pm.mem_iff.mp hm)
    exact ⟨q, hq, e.symm⟩
  refine wpAny_bind (wpAny_newList ?_ (by rw [sizeLine_eq]; omega))
  have hoL : (s1.heap.push (seqObj "list" vs.toArray 0)).get? s1.heap.objs.size = some (seqObj "list" vs.toArray 0) := Heap.get?_push_size _ rfl
  have kp2 : ∀ b o, s.heap.get? b = some o → (s1.heap.push (seqObj "list" vs.toArray 0)).get? b = some o := fun b o e => Heap.get?_push_of_some _ (k1 b o e)
  have cel2 : ∀ v ∈ vs, ∃ b, v = .ref b ∧ IsCell P w (s1.heap.push (seqObj "list" vs.toArray 0)) (kf v) b := fun v hm => by
    obtain ⟨q, hq, e⟩ := hv v hm
    subst e
    exact ⟨q.1, rfl, by rw [hkf q hq]; exact cell_keep (R.cel q hq) kp2⟩
  refine wpAny_bind (wpAny_holding (wpAny_call_entry slot_list_sort ⟨_, hoL, rfl⟩ entry_list_sort (SrtO.list_sort_ord (s := { s1 with heap := s1.heap.push (seqObj "list" vs.toArray 0) }) (swo_ck kf) hoL (by rw [sizeLine_eq]; omega) (fun h2 => ?_) fun out a1 a2 => ⟨_, rfl, ?_⟩) (args_list_sort _)))
  · refine cell_sortable (s := { s1 with heap := s1.heap.push (seqObj "list" vs.toArray 0) }) (by show A.in1.in1.units + 2 < cLine; have : A.in1.in1.units ≤ A.units + 2 := Nat.le_refl _; omega) (by omega) cel2 fun o e => ?_
    have e' : some o = some (seqObj "list" vs.toArray 0) := e.symm.trans hoL
    cases e'
    intro c
    exact absurd (Value.type.inj c) (by decide)
  · obtain ⟨c, hc⟩ := sortedHeap_at (vs := vs) (out := out.toArray) hoL
    have pout : out.Perm vs := a2.perm
    have hvo : ∀ v ∈ out, ∃ q ∈ L, v = Value.ref q.1 := fun v hm => hv v (pout.mem_iff.mp hm)
    -- the addresses
    have ex : ∀ {out : List Value}, (∀ v ∈ out, ∃ q ∈ L, v = Value.ref q.1) → ∃ bs : List Addr, out = bs.map Value.ref ∧ Paired (fun (b : Addr) (k : CK) => (b, k) ∈ L) bs (out.map kf) := by
      intro out
      induction out with
      | nil => intro _; exact ⟨[], rfl, .nil⟩
      | cons v vs ih =>
        intro hv
        obtain ⟨q, hq, e⟩ := hv v (List.mem_cons_self ..)
        obtain ⟨bs, e1, p1⟩ := ih fun u hu => hv u (List.mem_cons_of_mem _ hu)
        subst e
        refine ⟨q.1 :: bs, by rw [e1]; rfl, .cons ?_ p1⟩
        rw [hkf q hq]
        exact hq
    obtain ⟨bs, e1, p1⟩ := ex hvo
    have kout : out.map kf = srtC (L.map (·.2)) := by
      have pk : (out.map kf).Perm (L.map (·.2)) := by
        have q1 := (pout.trans pm).map kf
        rw [List.map_map] at q1
        have : L.map (kf ∘ fun q => Value.ref q.1) = L.map (·.2) := List.map_congr_left fun q hq => hkf q hq
        rwa [this] at q1
      refine up_eq ?_ (srtC_up _) fun x => by rw [srtC_mem, pk.mem_iff]
      have nd : (out.map kf).Nodup := pk.nodup_iff.mpr R.nd
      have a3 : (out.map kf).Pairwise fun x y => ckLt y x = false := List.pairwise_map.mpr a1
      refine (List.Pairwise.and a3 nd).imp fun {x y} ⟨h1, h2⟩ => ?_
      rcases ckLt_tri x y with t | t | t
      · exact t.1
      · exact absurd t.2.2 h2
      · rw [t.2.1] at h1; cases h1
    rw [kout] at p1
    refine wpAny_pure ⟨_, rfl, hQ _ s1.heap.objs.size out.toArray c bs (fun b u e => ?_) g1 o1 hz hc (by simpa using e1) p1⟩
    have q := k1 b u e
    have hlt := Heap.lt_size q
    show (sortedHeap (s1.heap.push (seqObj "list" vs.toArray 0)) s1.heap.objs.size vs out.toArray).get? b = some u
    rw [sortedHeap_old (Nat.ne_of_lt hlt) (by rw [Heap.size_push]; exact Nat.lt_succ_of_lt hlt)]
    exact Heap.get?_push_of_some _ q
end
end Pi
end
section
set_option Elab.async false
set_option linter.all false
set_option maxRecDepth 100000
set_option maxHeartbeats 1000000
namespace Pi
open PySem PySem.Spec PyProof.Rows L2
theorem ckOf_eq {p : PV} {k : CK} (h : ckOf p = some k) : p = ckP k := by
  unfold ckOf at h
  split at h
  · split at h
    · rename_i is e
      cases h
      rw [intsOf_eq e]
      rfl
    · cases h
  · cases h
/-! ### sorted(set(xs)), xs a list of up to four cells -/
section
variable {K : PySem.W.Frag} {H : Hp} {μ : Mu} {st : Sto}
theorem cks_rel : ∀ {ps : List PV} {vs : List V} {ks : List CK}, RVs K H μ ps vs → cksOf ps = some ks → ∃ bs : List Addr, vs = bs.map V.ref ∧ bs.length = ks.length ∧ ps = ks.map ckP ∧ ∀ p ∈ bs.zip ks, RV K H μ (ckP p.2) (.ref p.1)
  | _, _, _, .nil, e => by
    cases e
    exact ⟨[], rfl, rfl, rfl, fun _ h => (nomatch h)⟩
  | p :: ps, v :: vs, ks, .cons r rs, e => by
    simp only [cksOf] at e
    split at e
    · rename_i k kr e1 e2
      cases e
      obtain ⟨bs, h1, h2, h3, h4⟩ := cks_rel rs e2
      obtain rfl := ckOf_eq e1
      have r' := r
      unfold ckP at r'
      cases r' with
      | @tup b _ _ _ _ =>
        refine ⟨b :: bs, by rw [h1]; rfl, by simp [h2], by rw [h3]; rfl, fun q hq => ?_⟩
        rcases List.mem_cons.mp (show q ∈ (b, k) :: bs.zip kr from hq) with rfl | hq
        · exact r
        · exact h4 q hq
    · cases e
end
section
variable {X : Cx} {C : Cls} {W : WX} {a : Expr} {ea : Env → Sto → Out PV} {p q pos pos2 : Pos}
end
end Pi
end
section
set_option Elab.async false
set_option linter.all false
set_option maxRecDepth 100000
set_option maxHeartbeats 1000000
namespace Pi
open PySem PySem.Spec PyProof.Rows L2
/-! ### {elt for t0 in i0 for t1 in i1 if ..}, elt an int -/
abbrev sc2X (elt t0 i0 t1 i1 : Expr) (ifs : List Expr) (scope : Scope) (pos : Pos) : Expr := .SetComp elt [⟨t0, i0, [], 0⟩, ⟨t1, i1, ifs, 0⟩] scope pos
theorem turnS_out (elt t0 i0 t1 i1 : Expr) (ifs : List Expr) (scope : Scope) (pos : Pos) (it acc : Value) (env : PySem.Env) :
    PySem.compTurn (sc2X elt t0 i0 t1 i1 ifs scope pos) 0 it acc env = (do
      standAt i0.pos
      match ← pyNext it with
      | none => pure (.done .next)
      | some v =>
        letOwnedTupleGo t0 it v
        assign t0 env v
        let y ← eval i1 env
        standAt i1.pos
        let y ← foldedSetIterable i1 env y
        let _ ← runOwn (.compStart (sc2X elt t0 i0 t1 i1 ifs scope pos) 1 (← holding [y] (pyIter y)) acc env) env
        again (.compLoop (sc2X elt t0 i0 t1 i1 ifs scope pos) 0 it acc env)) := by rfl
theorem turnS_in (elt t0 i0 t1 i1 : Expr) (ifs : List Expr) (scope : Scope) (pos : Pos) (it acc : Value) (env : PySem.Env) :
    PySem.compTurn (sc2X elt t0 i0 t1 i1 ifs scope pos) 1 it acc env = (do
      standAt i1.pos
      match ← pyNext it with
      | none => pure (.done .next)
      | some v =>
        letOwnedTupleGo t1 it v
        assign t1 env v
        let mut good := true
        for c in ifs do
          if good then good ← isTrue c env (eval c env)
        if good then
          (do let y ← eval elt env; standAt elt.pos; let _ ← call (.builtin "set.add") [acc, y])
        again (.compLoop (sc2X elt t0 i0 t1 i1 ifs scope pos) 1 it acc env)) := by rfl
section
variable {P : Program} {w : World} {A : Around} {R : Result → Shared → Prop} {s : Shared} {elt t0 i0 t1 i1 : Expr} {ifs : List Expr} {scope : Scope} {pos : Pos} {it acc : Value} {env : PySem.Env}
abbrev NB (P : Program) (w : World) (A : Around) (env : PySem.Env) (R : Result → Shared → Prop) : Value → Shared → Prop := notedBy (model P w) A env fun e s' => R (.error e) s'
theorem loopS_out (hs : ∀ y, foldedSetIterable i1 env y = pure y) (J : Nat → Shared → Prop)
    (turn : ∀ n s, J n s → wpAny (model P w) A (pyNext it) (fun r s1 => match r with
      | none => R (.ok .next) s1
      | some v => wpAny (model P w) A (letOwnedTupleGo t0 it v) (fun _ s2 => wpAny (model P w) A (assign t0 env v) (fun _ s3 => wpAny (model P w) A (eval i1 env) (fun y s4 => wpAny (model P w) A (pyIter y) (fun itv s5 =>
          codeAny (model P w) A (.compStart (sc2X elt t0 i0 t1 i1 ifs scope pos) 1 itv acc env) (fun r s' => match r with
            | .ok _ => ∃ m, m < n ∧ J m s'
            | .error _ => False) s5) (NB P w A env R) s4) (NB P w A env R) s3) (NB P w A env R) s2) (NB P w A env R) s1) (NB P w A env R) s)
    (n : Nat) (h : J n s) : codeAny (model P w) A (.compLoop (sc2X elt t0 i0 t1 i1 ifs scope pos) 0 it acc env) R s := by
  refine codeAny_loop rfl J (fun n s hJ => ?_) n h
  show wpAny _ A ((PySem.compTurn (sc2X elt t0 i0 t1 i1 ifs scope pos) 0 it acc env).onRaise (fun x => do noteFrame x env; theTreesLotGoes x)) _ _ s
  refine wpAny_noted ?_
  rw [turnS_out]
  refine wpAny_bind (wpAny_standAt (wpAny_bind (wpAny_mono (turn n s hJ) (fun r s1 h1 => ?_) fun _ _ z => z)))
  cases r with
  | none => exact wpAny_pure h1
  | some v =>
    refine wpAny_bind (wpAny_mono h1 (fun _ s2 h2 => wpAny_bind (wpAny_mono h2 (fun _ s3 h3 => wpAny_bind (wpAny_mono h3 (fun y s4 h4 => ?_) fun _ _ z => z)) fun _ _ z => z)) fun _ _ z => z)
    refine wpAny_bind (wpAny_standAt (wpAny_bind (wpAny_of_eq (hs y) (wpAny_bind (wpAny_holding (wpAny_mono h4 (fun itv s5 h5 => ?_) fun _ _ z => z))))))
    refine wpAny_bind (wpAny_runOwn ?_)
    rw [Around.mark_none]
    refine codeAny_mono h5 fun r s' hr => ?_
    cases r with
    | ok f => exact wpAny_pure ⟨rfl, hr⟩
    | error e => exact hr.elim
theorem loopS_in (J : Nat → Shared → Prop)
    (turn : ∀ n s, J n s → wpAny (model P w) A (pyNext it) (fun r s1 => match r with
      | none => R (.ok .next) s1
      | some v => wpAny (model P w) A (letOwnedTupleGo t1 it v) (fun _ s2 => wpAny (model P w) A (assign t1 env v) (fun _ s3 =>
          wpAny (model P w) A (forIn ifs true fun c r => if r = true then do let ok ← isTrue c env (eval c env); pure (ForInStep.yield ok) else pure (ForInStep.yield r)) (fun good s4 =>
            if good = true then wpAny (model P w) A (eval elt env) (fun y s5 =>
              wpAny (model P w) A (call (.builtin "set.add") [acc, y]) (fun _ s6 => ∃ m, m < n ∧ J m s6) (NB P w A env R) s5) (NB P w A env R) s4
            else ∃ m, m < n ∧ J m s4) (NB P w A env R) s3) (NB P w A env R) s2) (NB P w A env R) s1) (NB P w A env R) s)
    (n : Nat) (h : J n s) : codeAny (model P w) A (.compLoop (sc2X elt t0 i0 t1 i1 ifs scope pos) 1 it acc env) R s := by
  refine codeAny_loop rfl J (fun n s hJ => ?_) n h
  show wpAny _ A ((PySem.compTurn (sc2X elt t0 i0 t1 i1 ifs scope pos) 1 it acc env).onRaise (fun x => do noteFrame x env; theTreesLotGoes x)) _ _ s
  refine wpAny_noted ?_
  rw [turnS_in]
  refine wpAny_bind (wpAny_standAt (wpAny_bind (wpAny_mono (turn n s hJ) (fun r s1 h1 => ?_) fun _ _ z => z)))
  cases r with
  | none => exact wpAny_pure h1
  | some v =>
    refine wpAny_bind (wpAny_mono h1 (fun _ s2 h2 => ?_) fun _ _ z => z)
    refine wpAny_bind (wpAny_mono h2 (fun _ s3 h3 => wpAny_bind (wpAny_mono h3 (fun good s4 h4 => ?_) fun _ _ z => z)) fun _ _ z => z)
    cases good with
    | false => exact wpAny_pure ⟨rfl, h4⟩
    | true => exact wpAny_bind (wpAny_bind (wpAny_mono h4 (fun y s5 h5 => wpAny_bind (wpAny_standAt (wpAny_bind (wpAny_mono h5 (fun _ s6 h6 => wpAny_pure (wpAny_pure ⟨rfl, h6⟩)) fun _ _ z => z)))) fun _ _ z => z))
theorem startS_1 (h0 : codeAny (model P w) A (.compLoop (sc2X elt t0 i0 t1 i1 ifs scope pos) 1 it acc env) R s)
    (h : wpAny (model P w) A (pyIter it) (fun itv s' => codeAny (model P w) A (.compLoop (sc2X elt t0 i0 t1 i1 ifs scope pos) 1 itv acc env) R s') (NB P w A env R) s) :
    codeAny (model P w) A (.compStart (sc2X elt t0 i0 t1 i1 ifs scope pos) 1 it acc env) R s := by
  refine codeAny_of_tree ?_
  show wpAny _ _ ((compStart (sc2X elt t0 i0 t1 i1 ifs scope pos) 1 it acc env).onRaise (fun x => do noteFrame x env; standAt theWindowsPlace)) _ _ s
  refine wpAny_notedAt ?_
  unfold compStart
  show wpAny _ _ (ask >>= _) _ _ s
  refine wpAny_bind (wpAny_askSetting (wpAny_ite ?_))
  split
  · exact wpAny_pure (And.intro rfl h0)
  · refine wpAny_bind (wpAny_rule ?_)
    show wpAny _ _ (standAt i1.pos >>= _) _ _ s
    exact wpAny_bind (wpAny_standAt (wpAny_bind (wpAny_mono h (fun itv s' z => wpAny_pure (And.intro rfl z)) fun _ _ z => z)))
end
section
variable {X : Cx}
theorem addI_ok {pins : List (Addr × Obj)} {σ : L2.St} {H : Hp} {s : Shared} {E : Value → Shared → Prop} {D : Addr} {S : Int → Bool} {n : Nat} {k : Int} {tk : Tok} {Q : Value → Shared → Prop} (I : Inv X pins σ H s) (hD : H D = some (SetO X.w D S n)) (room : n + 1 < scanBound)
    (h : ∀ s', Inv X pins σ (upd H D (SetO X.w D (fun j => S j || decide (j = k)) (if S k = true then n else n + 1))) s' → Q .none s') : wpAny (model X.prog X.w) X.A (call (.builtin "set.add") [.ref D, .int k tk]) Q E s := by
  refine setR_add (setO_get I hD) room fun h' sb new => h _ (I.write (e := D) (t' := s.toks + 1) (by rw [hD]; trivial) (.inl rfl) (fun b u hb hu => (sb.2 b hb).trans hu) ?_ (setO_new new))
  have ⟨o, _, _, _, ho, _⟩ := new
  exact ⟨o, ho⟩
/-- the set D of ints is filled -/
def tSc2 (w : World) (wi : TI) (g : TG) (wi1 : TI) (g1 : TG) (tt1 : TT) (te : TE) (vs vs1 : List Nat) : TE := fun σ H Q => wi σ H fun J H1 => ∀ D, H1 D = none → ∃ W : Nat → Nat → Hp → Prop, (∃ m, W 0 m (upd H1 D (SetO w D (fun _ => false) 0))) ∧ ∀ i m H, W i m H →
  (J.stop i H ∧ Q (.ref D) H) ∨ (J.go i H ∧ ∃ Nx : Hp → Prop, (∀ H', Nx H' → ∃ m', m' < m ∧ W (i + 1) m' H') ∧ ∀ x H', J.yld i H x H' → g x (wipe σ vs) H' fun σ2 H2 => wipe σ2 vs = wipe σ vs ∧
    wi1 σ2 H2 fun J1 H4 => ∃ W1 : Nat → Nat → Hp → Prop, (∃ m, W1 0 m H4) ∧ ∀ j k H, W1 j k H →
      (J1.stop j H ∧ Nx H) ∨ (J1.go j H ∧ ∃ Nx1 : Hp → Prop, (∀ H', Nx1 H' → ∃ k', k' < k ∧ W1 (j + 1) k' H') ∧ ∀ x H', J1.yld j H x H' → g1 x (wipe σ2 vs1) H' fun σ3 H5 => wipe σ3 vs1 = wipe σ2 vs1 ∧ tt1 σ3 H5 fun b H6 =>
        if b = true then te σ3 H6 fun y H7 => ∃ c S n, y = V.int c ∧ H7 D = some (SetO w D S n) ∧ n + 1 < scanBound ∧ Nx1 (upd H7 D (SetO w D (fun j => S j || decide (j = c)) (if S c = true then n else n + 1))) else Nx1 H6))
theorem pe_sc2 {elt tg iter tg1 iter1 : Expr} {ifs : List Expr} {scope : Scope} {own : List (Str × Nat)} {vs1 : List Nat} {pos : Pos} {wi wi1 : TI} {g g1 : TG} {tt1 : TT} {te : TE} (hc : X.calm = true) (hN : X.N.Nodup) (hi : PI X tg iter wi) (ok : BlkOk X.N X.env.scope scope own) (hv : ∀ i ∈ vs1, i ∈ own.map (·.2))
    (hg : ∀ (s : Shared) (H : Hp) (C : Addr) (cl : List (Str × Addr)) (fp : List Addr), PG (X.blk s H scope (compEnvC scope cl C X.env) fp) tg g)
    (hi1 : ∀ (s : Shared) (H : Hp) (C : Addr) (cl : List (Str × Addr)) (fp : List Addr), PI (X.blk s H scope (compEnvC scope cl C X.env) fp) tg1 iter1 wi1)
    (hg1 : ∀ (s : Shared) (H : Hp) (C : Addr) (cl : List (Str × Addr)) (fp : List Addr), PG (X.blk s H scope (compEnvC scope cl C X.env) fp) tg1 g1)
    (ht1 : ∀ (s : Shared) (H : Hp) (C : Addr) (cl : List (Str × Addr)) (fp : List Addr), PTs (X.blk s H scope (compEnvC scope cl C X.env) fp) ifs tt1)
    (he : ∀ (s : Shared) (H : Hp) (C : Addr) (cl : List (Str × Addr)) (fp : List Addr), PE (X.blk s H scope (compEnvC scope cl C X.env) fp) elt te)
    (hs : ∀ x, foldedSetIterable iter X.env x = pure x) (hs1 : ∀ env x, foldedSetIterable iter1 env x = pure x) :
    PE X (sc2X elt tg iter tg1 iter1 ifs scope pos) (tSc2 X.w wi g wi1 g1 tt1 te (own.map (·.2)) vs1) := by
  refine ⟨fun pins s σ H Q I h => ?_⟩
  rw [show eval (sc2X elt tg iter tg1 iter1 ifs scope pos) X.env = comprehension (sc2X elt tg iter tg1 iter1 ifs scope pos) scope X.env iter.pos (newSet (.type "set")) false (eval iter X.env) from rfl]
  have hfree : ∀ y ∈ scope.names, y.2 = .free → ∃ c, X.env.cells.lookup y.1 = some c := fun y hy e => (ok.free y hy e).elim (fun k => I.ok.has _ (.inl k)) fun k => I.ok.has _ (.inr k)
  refine wpAny_comprehension_free (use := none) rfl hs (closure_ok hfree) ok.kind (fun y hy e => by rw [ok.uniq y hy, e]) (thn (hi.run pins s σ H _ I h) fun xv s1 hx => thn hx fun itv s2 h2 => ?_)
  obtain ⟨it, fp, tn, J, H2, e, I2, T, st2, f2, q⟩ := h2
  subst e
  refine PpSet.newSet_ok (newEnv_comp ?_)
  generalize hD : s2.heap.objs.size = D
  have hDn : H2 D = none := I2.hok.fresh (Nat.le_of_eq hD)
  obtain ⟨W, ⟨m0, w0⟩, turn⟩ := q D hDn
  generalize hs3 : ({ s2 with heap := s2.heap.push (newSetO X.w) } : Shared) = s3
  have h3 : s3.heap = s2.heap.push (newSetO X.w) := by rw [← hs3]
  have I3 : Inv X pins σ (upd H2 D (SetO X.w D (fun _ => false) 0)) s3 := by
    rw [← hs3]
    refine I2.laid (t' := s2.toks) (fun b o e => Heap.get?_push_of_some _ e) (Nat.le_of_eq hD) ?_
    rw [← hD]
    exact setO_new (setR_fresh X.w)
  have f3 : ∀ b ∈ fp, FpOk X pins (upd H2 D (SetO X.w D (fun _ => false) 0)) b ∧ b < s3.heap.objs.size := fun b hb => by
    obtain ⟨o, eo, _⟩ := T.obj _ _ st2 b hb
    have hlt : b < s2.heap.objs.size := Heap.lt_size eo
    refine ⟨⟨?_, (f2 b hb).2⟩, by rw [h3, Heap.size_push]; exact Nat.lt_succ_of_lt hlt⟩
    rw [upd_ne (by rw [← hD]; exact Nat.ne_of_lt hlt)]
    exact (f2 b hb).1
  have st3 : tn 0 s3.heap := T.keep _ _ _ st2 fun b _ o e => by rw [h3]; exact Heap.get?_push_of_some _ e
  have I4 := block_start I3 ok hN f3
  obtain ⟨cl, hcl⟩ : ∃ cl, cl = cellsFrom (s3.heap.objs.size + 1) scope.names (cloFrom X.env.cells scope.names []) := ⟨_, rfl⟩
  have pg := hg s3 (upd H2 D (SetO X.w D (fun _ => false) 0)) s3.heap.objs.size cl fp
  have pe := he s3 (upd H2 D (SetO X.w D (fun _ => false) 0)) s3.heap.objs.size cl fp
  have pi1 := hi1 s3 (upd H2 D (SetO X.w D (fun _ => false) 0)) s3.heap.objs.size cl fp
  have pg1 := hg1 s3 (upd H2 D (SetO X.w D (fun _ => false) 0)) s3.heap.objs.size cl fp
  have pt1 := ht1 s3 (upd H2 D (SetO X.w D (fun _ => false) 0)) s3.heap.objs.size cl fp
  show codeAny _ _ (.compStart (sc2X elt tg iter tg1 iter1 ifs scope pos) 0 (.ref it) (.ref D) (compEnvC scope (cellsFrom (s3.heap.objs.size + 1) scope.names (cloFrom X.env.cells scope.names [])) s3.heap.objs.size X.env)) _ { s3 with heap := pushCells (s3.heap.push { cls := .type "dict", data := .dict #[] }) scope.names }
  rw [← hcl] at I4 ⊢
  have nfp : ∀ b ∈ fp, (upd H2 D (SetO X.w D (fun _ => false) 0)) b = none := fun b hb => (f3 b hb).1.1
  generalize hce : compEnvC scope cl s3.heap.objs.size X.env = ce at I4 pg pe pi1 pg1 pt1 ⊢
  have cL : ce.locals = s3.heap.objs.size := by subst hce; rfl
  generalize hH3 : upd H2 D (SetO X.w D (fun _ => false) 0) = H3 at I3 I4 pg pe pi1 pg1 pt1 w0 nfp f3
  generalize hs4 : ({ s3 with heap := pushCells (s3.heap.push { cls := .type "dict", data := .dict #[] }) scope.names } : Shared) = s4 at I4 ⊢
  have st4 : tn 0 s4.heap := T.keep _ _ _ st3 fun b _ o e => by rw [← hs4]; exact pushCells_keeps _ _ _ _ (Heap.get?_push_of_some _ e)
  have stat : ∀ {σ' : L2.St} {H' : Hp} {s' : Shared}, Inv (X.blk s3 H3 scope ce fp) [] σ' H' s' → (∀ b ∈ fp, H' b = none) → ∀ b ∈ fp, FpOk (X.blk s3 H3 scope ce fp) [] H' b := fun I' hn b hb =>
    ⟨hn b hb, (I'.ok.exf b hb).1, I'.ok.exfs b hb, .inl hb, fun x c e => (I'.ok.exf b hb).2 x c e, fun p hp => absurd (show p ∈ ([] : List (Addr × Obj)) ++ [] from hp) (by simp)⟩
  have loop : codeAny (model X.prog X.w) X.A (.compLoop (sc2X elt tg iter tg1 iter1 ifs scope pos) 0 (.ref it) (.ref D) ce) (compPost (model X.prog X.w) X.A X.xe none (EP X pins σ Q) (.ref D) s3.heap.objs.size) s4 := by
    refine loopS_out (hs1 ce) (fun n s' => ∃ i H', Inv (X.blk s3 H3 scope ce fp) [] (wipe σ (own.map (·.2))) H' s' ∧ tn i s'.heap ∧ (∀ b ∈ fp, H' b = none) ∧ W i n H') ?_ m0 ⟨0, H3, I4, st4, nfp, w0⟩
    rintro n s5 ⟨i, H5, I5, st5, n5, w5⟩
    rcases turn i n H5 w5 with ⟨stop, qq⟩ | ⟨go, Nx, hNx, step⟩
    · refine thnF (T.done (X.blk s3 H3 scope ce fp) rfl rfl rfl hc i [] s5 _ H5 (fun _ _ => False) I5 (stat I5 n5) st5 stop) fun r s6 ⟨hr, I6⟩ => ?_
      subst hr
      have I7 : Inv X pins σ H5 s6 := I3.call' (ch := fp) I6.os I6.base I6.hok I6.bare fun b hb => ⟨(f3 b hb).1.2.2.2.1, (f3 b hb).1.2.1, (f3 b hb).1.2.2.2.2.1, (f3 b hb).1.2.2.2.2.2⟩
      have nC : H5 s3.heap.objs.size = none := by rw [← cL]; exact I6.free
      obtain ⟨m, hn, _⟩ := I6.loc
      have hn : s6.heap.Ns ce.locals m := hn
      rw [cL] at hn
      obtain ⟨f0, f1, f2, f3, f4, f5⟩ := I3.fpOk (Nat.le_refl s3.heap.objs.size) nC
      exact ⟨m, hn, fun h'' sb => ⟨.ref D, H5, I7.turned (t' := s6.toks) (fun b o hb e => (sb.2 b hb).trans e) f0 f1 f3 f4 f5, rfl, qq⟩⟩
    · refine thnF (T.item (X.blk s3 H3 scope ce fp) rfl rfl rfl hc i [] s5 _ H5 (fun _ _ => False) I5 (stat I5 n5) st5 go) fun r s6 ⟨u, hr, h6⟩ => ?_
      subst hr
      refine thnF h6 fun _ s7 ⟨x, H7, I7, r7, y7, st7, n7⟩ => ?_
      have I7' := I7.pinned (stat I7 n7) (T.obj _ _ st7)
      refine thnF (pg.run _ s7 _ H7 x u _ I7' r7 (step x H7 y7)) fun _ s8 ⟨σ8, H8, I8, hw8, q8⟩ => ?_
      -- behind the inner loop
      have fin : ∀ {σ9 : L2.St} {s' : Shared} {H' : Hp}, Inv (X.blk s3 H3 scope ce fp) ([] ++ pinsAt fp s7.heap) σ9 H' s' → (wipe σ (own.map (·.2))).length = σ9.length → (∀ (j : Nat) v, (wipe σ (own.map (·.2)))[j]? = some (some v) → σ9[j]? = some (some v)) → Nx H' →
          ∃ m, m < n ∧ ∃ i H', Inv (X.blk s3 H3 scope ce fp) [] (wipe σ (own.map (·.2))) H' s' ∧ tn i s'.heap ∧ (∀ b ∈ fp, H' b = none) ∧ W i m H' := fun {σ9 s' H'} I' hl hk nx => by
        obtain ⟨m', hm, w'⟩ := hNx H' nx
        have pin' : ∀ b ∈ fp, ∀ o, s7.heap.get? b = some o → s'.heap.get? b = some o ∧ H' b = none := fun b hb o e =>
          let z := I'.pin (b, o) (List.mem_append_right _ (List.mem_append_right _ (mem_pinsAt hb e)))
          ⟨z.1, z.2.1⟩
        refine ⟨m', hm, i + 1, H', (I'.unpinned (pins := [])).weak hl hk, T.keep _ _ _ st7 fun b hb o e => (pin' b hb o e).1, fun b hb => ?_, w'⟩
        obtain ⟨o, e, _⟩ := T.obj _ _ st7 b hb
        exact (pin' b hb o e).2
      have hl8 : (wipe σ (own.map (·.2))).length = σ8.length := by rw [← hw8, wipe_length]
      have hk9 : ∀ (j : Nat) v, (wipe σ (own.map (·.2)))[j]? = some (some v) → (wipe σ8 vs1)[j]? = some (some v) := fun j v e => by
        rw [← hw8] at e
        obtain ⟨e1, e2⟩ := wipe_some e
        rw [wipe_out fun z => e2 (hv j z)]
        exact e1
      refine thnF (pi1.run _ s8 σ8 H8 _ I8 q8) fun xv s10 hx => thnF hx fun itv s11 h11 => ?_
      obtain ⟨it1, fp1, tn1, J1, H11, e1, I11, T1, st11, f11, W1, ⟨m1, w1⟩, turn1⟩ := h11
      subst e1
      have stat1 : ∀ {H' : Hp}, (∀ b ∈ fp1, H' b = none) → ∀ b ∈ fp1, FpOk (X.blk s3 H3 scope ce fp) ([] ++ pinsAt fp s7.heap) H' b := fun hn b hb => ⟨hn b hb, (f11 b hb).2⟩
      have inner : codeAny (model X.prog X.w) X.A (.compLoop (sc2X elt tg iter tg1 iter1 ifs scope pos) 1 (.ref it1) (.ref D) ce)
          (fun r s' => match r with
            | .ok _ => ∃ m, m < n ∧ ∃ i H', Inv (X.blk s3 H3 scope ce fp) [] (wipe σ (own.map (·.2))) H' s' ∧ tn i s'.heap ∧ (∀ b ∈ fp, H' b = none) ∧ W i m H'
            | .error _ => False) s11 := by
        refine loopS_in (fun k s' => ∃ j H', Inv (X.blk s3 H3 scope ce fp) ([] ++ pinsAt fp s7.heap) (wipe σ8 vs1) H' s' ∧ tn1 j s'.heap ∧ (∀ b ∈ fp1, H' b = none) ∧ W1 j k H') ?_ m1 ⟨0, H11, I11.weak (wipe_length _ _) (fun j v e => (wipe_some e).1), st11, fun b hb => (f11 b hb).1, w1⟩
        rintro k s12 ⟨j, H12, I12, st12, n12, w12⟩
        rcases turn1 j k H12 w12 with ⟨stop1, nx1⟩ | ⟨go1, Nx1, hNx1, step1⟩
        · refine thnF (T1.done (X.blk s3 H3 scope ce fp) rfl rfl rfl hc j _ s12 (wipe σ8 vs1) H12 (fun _ _ => False) I12 (stat1 n12) st12 stop1) fun r s13 ⟨hr, I13⟩ => ?_
          subst hr
          exact fin I13 (hl8.trans (wipe_length σ8 vs1).symm) hk9 nx1
        · refine thnF (T1.item (X.blk s3 H3 scope ce fp) rfl rfl rfl hc j _ s12 (wipe σ8 vs1) H12 (fun _ _ => False) I12 (stat1 n12) st12 go1) fun r s13 ⟨u1, hr, h13⟩ => ?_
          subst hr
          refine thnF h13 fun _ s14 ⟨x1, H14, I14, r14, y14, st14, n14⟩ => ?_
          have I14' := I14.pinned (stat1 n14) (T1.obj _ _ st14)
          refine thnF (pg1.run _ s14 (wipe σ8 vs1) H14 x1 u1 _ I14' r14 (step1 x1 H14 y14)) fun _ s15 ⟨σ15, H15, I15, hw15, q15⟩ => ?_
          refine thnF (pt1.run _ s15 σ15 H15 _ I15 q15) fun b1 s16 ⟨H16, I16, q16⟩ => ?_
          have fin1 : ∀ {s' : Shared} {H' : Hp}, Inv (X.blk s3 H3 scope ce fp) (([] ++ pinsAt fp s7.heap) ++ pinsAt fp1 s14.heap) σ15 H' s' → Nx1 H' → ∃ m, m < k ∧ ∃ j H', Inv (X.blk s3 H3 scope ce fp) ([] ++ pinsAt fp s7.heap) (wipe σ8 vs1) H' s' ∧ tn1 j s'.heap ∧ (∀ b ∈ fp1, H' b = none) ∧ W1 j m H' := fun {s' H'} I' nx => by
            obtain ⟨m', hm, w'⟩ := hNx1 H' nx
            have pin' : ∀ b ∈ fp1, ∀ o, s14.heap.get? b = some o → s'.heap.get? b = some o ∧ H' b = none := fun b hb o e =>
              let z := I'.pin (b, o) (List.mem_append_right _ (List.mem_append_right _ (mem_pinsAt hb e)))
              ⟨z.1, z.2.1⟩
            refine ⟨m', hm, j + 1, H', I'.unpinned.weak (by rw [← hw15, wipe_length]) (fun j v e => by rw [← hw15] at e; exact (wipe_some e).1), T1.keep _ _ _ st14 fun b hb o e => (pin' b hb o e).1, fun b hb => ?_, w'⟩
            obtain ⟨o, e, _⟩ := T1.obj _ _ st14 b hb
            exact (pin' b hb o e).2
          cases b1 with
          | false =>
            simp only [Bool.false_eq_true, if_false] at q16 ⊢
            exact fin1 I16 q16
          | true =>
            simp only [if_true] at q16 ⊢
            refine thnF (pe.run _ s16 σ15 H16 _ I16 q16) fun z s17 ⟨yv, H17, I17, r17, cc, S, nn, ey, hD17, hz17, nx⟩ => ?_
            subst ey
            obtain ⟨tk, rfl⟩ := (show ∃ tk, z = Value.int cc tk from r17)
            exact addI_ok (X := X.blk s3 H3 scope ce fp) I17 hD17 hz17 fun s18 I18 => fin1 I18 nx
      exact startS_1 inner (T1.self X.A 0 _ _ _ st11 inner)
  exact PpSet.codeAny_compStart_set loop (T.self X.A 0 _ _ _ st4 loop)
end
end Pi
end
section
set_option Elab.async false
set_option linter.all false
set_option maxRecDepth 100000
set_option maxHeartbeats 1000000
namespace Pi
open PySem PySem.Spec PyProof.Rows L2
/-! ### sorted({elt for t1 in e1 for t2 in e2 if ..}), elt an int -/
abbrev UpI (l : List Int) : Prop := l.Pairwise (· < ·)
theorem insI_mem {k x : Int} : ∀ {l : List Int}, x ∈ insI k l ↔ x = k ∨ x ∈ l
  | [] => by simp [insI]
  | j :: r => by
    simp only [insI]
    by_cases e : k = j
    · subst e; simp
    · rw [show (k == j) = false from by simpa using e]
      by_cases e2 : k < j
      · simp [e2]
      · simp only [cond_false, e2, decide_false, List.mem_cons, insI_mem (l := r)]
        constructor
        · rintro (h | h | h) <;> simp [h]
        · rintro (h | h | h) <;> simp [h]
theorem insI_up {k : Int} : ∀ {l : List Int}, UpI l → UpI (insI k l)
  | [], _ => List.pairwise_singleton _ _
  | j :: r, h => by
    have h' := List.pairwise_cons.mp h
    simp only [insI]
    by_cases e : k = j
    · subst e; simpa using h
    · rw [show (k == j) = false from by simpa using e]
      by_cases e2 : k < j
      · simp only [cond_false, e2, decide_true, cond_true]
        exact List.pairwise_cons.mpr ⟨fun x hx => by
          rcases List.mem_cons.mp hx with rfl | hx
          · exact e2
          · exact Int.lt_trans e2 (h'.1 x hx), h⟩
      · simp only [cond_false, e2, decide_false]
        refine List.pairwise_cons.mpr ⟨fun x hx => ?_, insI_up h'.2⟩
        rcases insI_mem.mp hx with rfl | hx
        · omega
        · exact h'.1 x hx
theorem insI_len {k : Int} : ∀ {l : List Int}, UpI l → (insI k l).length = if k ∈ l then l.length else l.length + 1
  | [], _ => by simp [insI]
  | j :: r, h => by
    have h' := List.pairwise_cons.mp h
    simp only [insI]
    by_cases e : k = j
    · subst e; simp
    · rw [show (k == j) = false from by simpa using e]
      by_cases e2 : k < j
      · have : k ∉ r := fun hm => by have := h'.1 k hm; omega
        simp [e2, e, this]
      · have ih := insI_len (k := k) h'.2
        simp only [cond_false, e2, decide_false, List.length_cons, ih, List.mem_cons, e, false_or]
        split <;> rfl
theorem upI_eq : ∀ {l m : List Int}, UpI l → UpI m → (∀ x, x ∈ l ↔ x ∈ m) → l = m
  | [], [], _, _, _ => rfl
  | [], y :: m, _, _, h => absurd ((h y).mpr (List.mem_cons_self ..)) (by simp)
  | x :: l, [], _, _, h => absurd ((h x).mp (List.mem_cons_self ..)) (by simp)
  | x :: l, y :: m, hl, hm, h => by
    have hl' := List.pairwise_cons.mp hl
    have hm' := List.pairwise_cons.mp hm
    have e : x = y := by
      rcases List.mem_cons.mp ((h x).mp (List.mem_cons_self ..)) with e | e
      · exact e
      · rcases List.mem_cons.mp ((h y).mpr (List.mem_cons_self ..)) with e2 | e2
        · exact e2.symm
        · have := hm'.1 x e; have := hl'.1 y e2; omega
    subst e
    rw [upI_eq hl'.2 hm'.2 fun z => ?_]
    have hz := h z
    constructor
    · intro hz1
      rcases List.mem_cons.mp (hz.mp (List.mem_cons_of_mem _ hz1)) with e | e
      · have := hl'.1 z hz1; omega
      · exact e
    · intro hz1
      rcases List.mem_cons.mp (hz.mpr (List.mem_cons_of_mem _ hz1)) with e | e
      · have := hm'.1 z hz1; omega
      · exact e
def mI (l : List Int) : Int → Bool := fun k => decide (k ∈ l)
theorem mI_ins {k : Int} {l : List Int} : (fun j => mI l j || decide (j = k)) = mI (insI k l) := by
  funext j
  unfold mI
  have := insI_mem (k := k) (x := j) (l := l)
  by_cases e : j = k
  · simp [e, insI_mem]
  · by_cases e2 : j ∈ l <;> simp [e, e2, insI_mem]
section
variable {X : Cx} {C : Cls} {W : WX} {R : Ops} {t1 t2 : TV} {ifs : List E} {elt e1 e2 : E} {l : Bool}
abbrev ownL (t1 t2 : TV) : List Nat := slotsT (.tup [t1, t2])
theorem in_own1 {i : Nat} (h : i ∈ slotsT t1) : i ∈ ownL t1 t2 := by simp [ownL, slotsT, slotsTs, h]
theorem in_own2 {i : Nat} (h : i ∈ slotsT t2) : i ∈ ownL t1 t2 := by simp [ownL, slotsT, slotsTs, h]
/-- what is known of the set D at a turn -/
structure AtSet (X : Cx) (H1 : Hp) (μ1 : Mu) (D : Addr) (H' : Hp) (μ' : Mu) (acc : List Int) (st : Sto) : Prop where
  ex : Ext X.K H1 μ1 H' μ'
  hr : Hr X.K H' μ' st
  pr : μ'.p D
  at' : H' D = some (SetO X.w D (mI acc) acc.length)
  up : UpI acc
theorem AtSet.go {H1 H' H2 : Hp} {μ1 μ' μ2 : Mu} {D : Addr} {acc : List Int} {st st2 : Sto} (a : AtSet X H1 μ1 D H' μ' acc st) (e : Ext X.K H' μ' H2 μ2) (h : Hr X.K H2 μ2 st2) : AtSet X H1 μ1 D H2 μ2 acc st2 :=
  ⟨a.ex.trans e, h, (e.prv D a.pr).1, (e.prv D a.pr).2 _ a.at', a.up⟩
theorem Exw.grow {K : PySem.W.Frag} {H1 H : Hp} {μ1 μ : Mu} {D : Addr} {u u' : HO} (x : Exw K H1 μ1 H μ) (p : μ.p D) (eD : H D = some u) (c : Chg u) : Exw K H1 μ1 (upd H D u') μ := by
  have g := Wk.grow (K := K) (u' := u') p eD c
  refine x.trans ⟨g, fun a o w q => ?_⟩
  have ne : a ≠ D := fun z => by
    subst z
    rw [eD] at q
    cases q
    exact c
  rw [upd_ne ne]
  exact q
abbrev fin2 (l : Bool) : List Int → Sto → Out PV := fun acc st => mkL l (acc.map PV.int) st
theorem sc2_core {σ : L2.St} {H : Hp} {Q Q2 : VK} (hQ : ∀ D μ' acc st' H1 μ1 H', AtSet X H1 μ1 D H' μ' acc st' → acc.length ≤ 61 → Th X.K C W (RV X.K) (fin2 l acc st') σ H1 μ1 Q → Q2 (.ref D) H')
    (h : ∃ μ ρ st, Hr X.K H μ st ∧ RE X.K H μ ρ σ ∧ Th X.K C W (RV X.K) (sc2All R l t1 e1 t2 e2 ifs elt ρ st) σ H μ Q) :
    tSc2 X.w (gI X.K C W (evSrc R .it [e1])) (gG X.K t1) (gI X.K C W0 (evSrc R .it [e2])) (gG X.K t2) (gT X.K C W0 (evTs R ifs)) (gE X.K C W0 (R.e elt)) (ownL t1 t2) (slotsT t2) σ H Q2 := by
  obtain ⟨μ, ρ, st, hr, hE, z⟩ := h
  refine ⟨μ, ρ, st, hr, hE, (Th.bind (rel := fun H' μ' src J => RJ X.K src H' μ' J) z).imp ?_⟩
  rintro J H1 ⟨μ1, src, st1, x1, hr1, rj, z1⟩ D nD
  cases src with
  | dyn kk ps => exact z1.elim
  | vals xs =>
    dsimp only at z1
    cases hf : fitLen xs.length with
    | false => rw [hf] at z1; exact z1.elim
    | true =>
      rw [hf] at z1
      dsimp only [cond] at z1
      have hE1 := hE.ext x1
      refine ⟨fun i m H' => ∃ μ' acc st', AtSet X H1 μ1 D H' μ' acc st' ∧ acc.length ≤ 61 ∧ m = xs.length - i ∧ i ≤ xs.length ∧
          Th X.K C W (RV X.K) ((sc2 R (ownL t1 t2) t1 e2 t2 ifs elt ρ (xs.drop i) acc st').bind (fin2 l)) σ H1 μ1 Q,
        ⟨xs.length, muPrv μ1 D, [], st1, ⟨Ext.priv hr1 nD, hr1.priv nD trivial, .inl rfl, upd_same, List.Pairwise.nil⟩, Nat.zero_le _, by simp, Nat.zero_le _, z1⟩, ?_⟩
      rintro i m H' ⟨μ', acc, st', a, hl, rfl, hi, z3⟩
      have j := rj H' μ' st' a.ex a.hr i hi
      simp only [Src.at] at j
      rw [nth_eq] at j
      cases ed : xs.drop i with
      | nil =>
        have hge : xs.length ≤ i := by
          have := congrArg List.length ed
          simp at this
          omega
        rw [List.getElem?_eq_none hge] at j
        rw [ed] at z3
        exact .inl ⟨j, hQ D μ' acc st' H1 μ1 H' a hl z3⟩
      | cons x r =>
        have hlt : i < xs.length := by
          have := congrArg List.length ed
          simp at this
          omega
        have hx : xs[i]? = some x := by
          have : (xs.drop i)[0]? = some x := by rw [ed]; rfl
          simpa using this
        have hrr : r = xs.drop (i + 1) := by
          have := congrArg List.tail ed
          simpa using this.symm
        rw [hx] at j
        rw [ed] at z3
        subst hrr
        refine .inr ⟨j.1, fun H2 => ∃ μ2 acc2 st2, AtSet X H1 μ1 D H2 μ2 acc2 st2 ∧ acc2.length ≤ 61 ∧
          Th X.K C W (RV X.K) ((sc2 R (ownL t1 t2) t1 e2 t2 ifs elt ρ (xs.drop (i + 1)) acc2 st2).bind (fin2 l)) σ H1 μ1 Q, fun H2 ⟨μ2, acc2, st2, b1, b2, b3⟩ => ⟨xs.length - (i + 1), by omega, μ2, acc2, st2, b1, b2, rfl, hlt, b3⟩, ?_⟩
        intro y H2 hy
        obtain ⟨μ2, ex2, hr2, r2⟩ := j.2 y H2 hy
        have a2 := a.go ex2 hr2
        simp only [sc2] at z3
        cases eb : bindT t1 x (wipeE ρ (ownL t1 t2)) with
        | none => rw [eb] at z3; exact z3.elim
        | some ρ' =>
          rw [eb] at z3
          dsimp only at z3
          cases es : evSrc R .it [e2] ρ' st' with
          | exc c fs st2 => rw [es] at z3; exact z3.elim
          | stuck => rw [es] at z3; exact z3.elim
          | ok src2 st2 =>
            rw [es] at z3
            simp only [noExc, Out.bind] at z3
            refine ⟨μ2, wipeE ρ (ownL t1 t2), x, ρ', (hE1.ext a2.ex).wipe _, r2, eb, fun σ2 he2 hl2 hs2 => ⟨wipe_same (by rw [hl2]) (fun i hi => hs2 i fun q => hi (in_own1 q)), μ2, ρ', st', hr2, he2, ?_⟩⟩
            rw [es]
            intro H3 μ3 J2 ex3 hr3 rj2
            have a3 := a2.go ex3 hr3
            cases src2 with
            | dyn kk ps => exact z3.elim
            | vals ys =>
              dsimp only at z3
              cases hf2 : fitLen ys.length with
              | false => rw [hf2] at z3; exact z3.elim
              | true =>
                rw [hf2] at z3
                dsimp only [cond] at z3
                have z4 : Th X.K C W (RV X.K) ((scVals R t2 ifs elt ρ' ys acc st2).bind fun acc st => (sc2 R (ownL t1 t2) t1 e2 t2 ifs elt ρ (xs.drop (i + 1)) acc st).bind (fin2 l)) σ H1 μ1 Q := by
                  cases ev : scVals R t2 ifs elt ρ' ys acc st2 with
                  | ok a' s' => rw [ev] at z3; exact z3
                  | exc c fs s' => rw [ev] at z3; exact z3
                  | stuck => rw [ev] at z3; exact z3
                have hE3 := he2.ext ex3
                refine ⟨fun j m H' => ∃ μ' acc st', AtSet X H1 μ1 D H' μ' acc st' ∧ Exw X.K H3 μ3 H' μ' ∧ acc.length ≤ 61 ∧ m = ys.length - j ∧ j ≤ ys.length ∧
                    Th X.K C W (RV X.K) ((scVals R t2 ifs elt ρ' (ys.drop j) acc st').bind fun acc st => (sc2 R (ownL t1 t2) t1 e2 t2 ifs elt ρ (xs.drop (i + 1)) acc st).bind (fin2 l)) σ H1 μ1 Q,
                  ⟨ys.length, μ3, acc, st2, a3, Ext.refl.w, hl, by simp, Nat.zero_le _, z4⟩, ?_⟩
                rintro j k H4 ⟨μ4, acc4, st4, a4, ex4, hl4, rfl, hj, z5⟩
                have j5 := rj2 H4 μ4 st4 ex4 a4.hr j hj
                simp only [Src.at] at j5
                rw [nth_eq] at j5
                cases ed2 : ys.drop j with
                | nil =>
                  have hge : ys.length ≤ j := by
                    have := congrArg List.length ed2
                    simp at this
                    omega
                  rw [List.getElem?_eq_none hge] at j5
                  rw [ed2] at z5
                  exact .inl ⟨j5, μ4, acc4, st4, a4, hl4, z5⟩
                | cons x2 r2' =>
                  have hlt2 : j < ys.length := by
                    have := congrArg List.length ed2
                    simp at this
                    omega
                  have hx2 : ys[j]? = some x2 := by
                    have : (ys.drop j)[0]? = some x2 := by rw [ed2]; rfl
                    simpa using this
                  have hrr2 : r2' = ys.drop (j + 1) := by
                    have := congrArg List.tail ed2
                    simpa using this.symm
                  rw [hx2] at j5
                  rw [ed2] at z5
                  subst hrr2
                  refine .inr ⟨j5.1, fun H5 => ∃ μ5 acc5 st5, AtSet X H1 μ1 D H5 μ5 acc5 st5 ∧ Exw X.K H3 μ3 H5 μ5 ∧ acc5.length ≤ 61 ∧
                    Th X.K C W (RV X.K) ((scVals R t2 ifs elt ρ' (ys.drop (j + 1)) acc5 st5).bind fun acc st => (sc2 R (ownL t1 t2) t1 e2 t2 ifs elt ρ (xs.drop (i + 1)) acc st).bind (fin2 l)) σ H1 μ1 Q,
                    fun H5 ⟨μ5, acc5, st5, b1, b2, b3, b4⟩ => ⟨ys.length - (j + 1), by omega, μ5, acc5, st5, b1, b2, b3, rfl, hlt2, b4⟩, ?_⟩
                  intro y2 H5 hy2
                  obtain ⟨μ5, ex5, hr5, r5⟩ := j5.2 y2 H5 hy2
                  have a5 := a4.go ex5 hr5
                  have ex35 := ex4.trans ex5.w
                  simp only [scVals] at z5
                  unfold scTurn at z5
                  cases eb2 : bindT t2 x2 (wipeE ρ' (slotsT t2)) with
                  | none => rw [eb2] at z5; exact z5.elim
                  | some ρ2 =>
                    rw [eb2] at z5
                    dsimp only at z5
                    cases et : evTs R ifs ρ2 st4 with
                    | exc c fs st2 => rw [et] at z5; exact z5.elim
                    | stuck => rw [et] at z5; exact z5.elim
                    | ok b st5 =>
                      rw [et] at z5
                      simp only [noExc, Out.bind] at z5
                      refine ⟨μ5, wipeE ρ' (slotsT t2), x2, ρ2, (hE3.wk ex35.toWk).wipe _, r5, eb2, fun σ3 he3 hl3 hs3 => ⟨wipe_same (by rw [hl3]) hs3, μ5, ρ2, st4, hr5, he3, ?_⟩⟩
                      rw [et]
                      intro H6 μ6 b' ex6 hr6 rb
                      obtain rfl : b = b' := rb
                      have a6 := a5.go ex6 hr6
                      have ex36 := ex35.trans ex6.w
                      cases b with
                      | false =>
                        rw [if_neg (by simp)]
                        exact ⟨μ6, acc4, st5, a6, ex36, hl4, z5⟩
                      | true =>
                        rw [if_pos rfl]
                        dsimp only at z5
                        cases ee : R.e elt ρ2 st5 with
                        | exc c fs st3 => rw [ee] at z5; exact z5.elim
                        | stuck => rw [ee] at z5; exact z5.elim
                        | ok k st6 =>
                          rw [ee] at z5
                          dsimp only at z5
                          refine ⟨μ6, ρ2, st5, hr6, he3.ext ex6, ?_⟩
                          rw [ee]
                          intro H7 μ7 y7 ex7 hr7 r7
                          have a7 := a6.go ex7 hr7
                          have ex37 := ex36.trans ex7.w
                          cases r7 with
                          | int c =>
                            dsimp only at z5
                            cases hb : Nat.ble acc4.length 60 with
                            | false => rw [hb] at z5; exact z5.elim
                            | true =>
                              rw [hb] at z5
                              dsimp only [cond] at z5
                              have hl60 : acc4.length ≤ 60 := Nat.le_of_ble_eq_true hb
                              have hlen := insI_len (k := c) a7.up
                              have hn : (if mI acc4 c = true then acc4.length else acc4.length + 1) = (insI c acc4).length := by
                                rw [hlen]
                                simp [mI]
                              refine ⟨c, mI acc4, acc4.length, rfl, a7.at', by unfold scanBound; omega, μ7, insI c acc4, st6, ?_, ?_, by rw [hlen]; split <;> omega, z5⟩
                              · exact ⟨a7.ex.grow nD a7.pr a7.at' trivial hr1, a7.hr.grow a7.pr a7.at' trivial trivial, a7.pr, by rw [upd_same, mI_ins, hn], insI_up a7.up⟩
                              · exact ex37.grow a7.pr a7.at' trivial
                          | _ => exact z5.elim
theorem g_srtcomp {ex tg iter tg1 iter1 : Expr} {xs : List Expr} {scope : Scope} {own : List (Str × Nat)} {p pos pos2 : Pos} (hc : X.calm = true) (hN : X.N.Nodup) (hgl : Gl X "sorted") (hm : X.mg "sorted" = none) (hi : PI X tg iter (gI X.K C W (evSrc R .it [e1]))) (ok : BlkOk X.N X.env.scope scope own) (ho : own.map (·.2) = ownL t1 t2)
    (hg : ∀ (s : Shared) (H : Hp) (A : Addr) (cl : List (Str × Addr)) (fp : List Addr), PG (X.blk s H scope (compEnvC scope cl A X.env) fp) tg (gG X.K t1))
    (hi1 : ∀ (s : Shared) (H : Hp) (A : Addr) (cl : List (Str × Addr)) (fp : List Addr), PI (X.blk s H scope (compEnvC scope cl A X.env) fp) tg1 iter1 (gI X.K C W0 (evSrc R .it [e2])))
    (hg1 : ∀ (s : Shared) (H : Hp) (A : Addr) (cl : List (Str × Addr)) (fp : List Addr), PG (X.blk s H scope (compEnvC scope cl A X.env) fp) tg1 (gG X.K t2))
    (ht1 : ∀ (s : Shared) (H : Hp) (A : Addr) (cl : List (Str × Addr)) (fp : List Addr), PTs (X.blk s H scope (compEnvC scope cl A X.env) fp) xs (gT X.K C W0 (evTs R ifs)))
    (he : ∀ (s : Shared) (H : Hp) (A : Addr) (cl : List (Str × Addr)) (fp : List Addr), PE (X.blk s H scope (compEnvC scope cl A X.env) fp) ex (gE X.K C W0 (R.e elt)))
    (hs : ∀ x, foldedSetIterable iter X.env x = pure x) (hs1 : ∀ env x, foldedSetIterable iter1 env x = pure x) :
    PE X (.Call (.Name "sorted" p) [sc2X ex tg iter tg1 iter1 xs scope pos2] [] pos) (gE X.K C W fun ρ st => sc2All R l t1 e1 t2 e2 ifs elt ρ st) := by
  refine (pe_callB (cr_sortedSet hc) hgl hm (by decide +kernel) (pa_cons (pe_sc2 (vs1 := slotsT t2) hc hN hi ok (fun i q => by rw [ho]; exact in_own2 q) hg hi1 hg1 ht1 he hs hs1) pa_nil rfl)).imp ?_
  intro σ H Q q
  rw [ho]
  refine sc2_core (C := C) (W := W) (l := l) (Q := Q) (Q2 := fun v H1 => rSortedSet X.w [v] H1 Q) (fun D μ' acc st' H1 μ1 H' a hl z => ?_) q
  refine ⟨D, mI acc, acc.length, rfl, a.at', by omega, fun ns pp hup hmem hlen hp => ?_⟩
  obtain rfl : ns = acc := upI_eq hup a.up fun x => by rw [hmem]; simp [mI]
  exact mkL_ok (Th.ext a.ex z) a.hr (RVs.of_ints ns) hp
end
end Pi
end
section
set_option Elab.async false
set_option linter.all false
set_option maxRecDepth 100000
set_option maxHeartbeats 1000000
namespace Pi
open PySem PySem.Spec PyProof.Rows L2
/-! ### [elt for t1 in e1 for t2 in e2 if ..] -/
section
variable {X : Cx} {C : Cls} {W : WX} {R : Ops} {t1 t2 : TV} {ifs : List E} {elt e1 e2 : E} {l : Bool}
/-- what is known of the list D at a turn -/
structure AtLst (X : Cx) (H1 : Hp) (μ1 : Mu) (D : Addr) (H' : Hp) (μ' : Mu) (acc : List PV) (vs : List V) (st : Sto) : Prop where
  ex : Ext X.K H1 μ1 H' μ'
  hr : Hr X.K H' μ' st
  pr : μ'.p D
  at' : H' D = some (.lst vs)
  rs : RVs X.K H' μ' acc.reverse vs
theorem AtLst.go {H1 H' H2 : Hp} {μ1 μ' μ2 : Mu} {D : Addr} {acc : List PV} {vs : List V} {st st2 : Sto} (a : AtLst X H1 μ1 D H' μ' acc vs st) (e : Ext X.K H' μ' H2 μ2) (h : Hr X.K H2 μ2 st2) : AtLst X H1 μ1 D H2 μ2 acc vs st2 :=
  ⟨a.ex.trans e, h, (e.prv D a.pr).1, (e.prv D a.pr).2 _ a.at', a.rs.ext e⟩
theorem lc2_core {σ : L2.St} {H : Hp} {Q : VK}
    (h : ∃ μ ρ st, Hr X.K H μ st ∧ RE X.K H μ ρ σ ∧ Th X.K C W (RV X.K) (lc2All R l t1 e1 t2 e2 ifs elt ρ st) σ H μ Q) :
    tLc2 (gI X.K C W (evSrc R .it [e1])) (gG X.K t1) (gT X.K C W0 (evTs R [])) (gI X.K C W0 (evSrc R .it [e2])) (gG X.K t2) (gT X.K C W0 (evTs R ifs)) (gE X.K C W0 (R.e elt)) (ownL t1 t2) (slotsT t2) σ H Q := by
  obtain ⟨μ, ρ, st, hr, hE, z⟩ := h
  refine ⟨μ, ρ, st, hr, hE, (Th.bind (rel := fun H' μ' src J => RJ X.K src H' μ' J) z).imp ?_⟩
  rintro J H1 ⟨μ1, src, st1, x1, hr1, rj, z1⟩ D nD
  cases src with
  | dyn kk ps => exact z1.elim
  | vals xs =>
    dsimp only at z1
    cases hf : fitLen xs.length with
    | false => rw [hf] at z1; exact z1.elim
    | true =>
      rw [hf] at z1
      dsimp only [cond] at z1
      have hE1 := hE.ext x1
      refine ⟨fun i m H' => ∃ μ' acc vs st', AtLst X H1 μ1 D H' μ' acc vs st' ∧ m = xs.length - i ∧ i ≤ xs.length ∧
          Th X.K C W (RV X.K) ((lc2 R (ownL t1 t2) t1 e2 t2 ifs elt ρ (xs.drop i) acc st').bind fun acc st => mkL l acc.reverse st) σ H1 μ1 Q,
        ⟨xs.length, muPrv μ1 D, [], [], st1, ⟨Ext.priv hr1 nD, hr1.priv nD trivial, .inl rfl, upd_same, .nil⟩, by simp, Nat.zero_le _, z1⟩, ?_⟩
      rintro i m H' ⟨μ', acc, vs, st', a, rfl, hi, z3⟩
      have j := rj H' μ' st' a.ex a.hr i hi
      simp only [Src.at] at j
      rw [nth_eq] at j
      cases ed : xs.drop i with
      | nil =>
        have hge : xs.length ≤ i := by
          have := congrArg List.length ed
          simp at this
          omega
        rw [List.getElem?_eq_none hge] at j
        rw [ed] at z3
        exact .inl ⟨j, made_ok z3 hr1 nD a.ex a.hr a.pr a.at' a.rs⟩
      | cons x r =>
        have hlt : i < xs.length := by
          have := congrArg List.length ed
          simp at this
          omega
        have hx : xs[i]? = some x := by
          have : (xs.drop i)[0]? = some x := by rw [ed]; rfl
          simpa using this
        have hrr : r = xs.drop (i + 1) := by
          have := congrArg List.tail ed
          simpa using this.symm
        rw [hx] at j
        rw [ed] at z3
        subst hrr
        refine .inr ⟨j.1, fun H2 => ∃ μ2 acc2 vs2 st2, AtLst X H1 μ1 D H2 μ2 acc2 vs2 st2 ∧
          Th X.K C W (RV X.K) ((lc2 R (ownL t1 t2) t1 e2 t2 ifs elt ρ (xs.drop (i + 1)) acc2 st2).bind fun acc st => mkL l acc.reverse st) σ H1 μ1 Q, fun H2 ⟨μ2, acc2, vs2, st2, b1, b3⟩ => ⟨xs.length - (i + 1), by omega, μ2, acc2, vs2, st2, b1, rfl, hlt, b3⟩, ?_⟩
        intro y H2 hy
        obtain ⟨μ2, ex2, hr2, r2⟩ := j.2 y H2 hy
        have a2 := a.go ex2 hr2
        simp only [lc2] at z3
        cases eb : bindT t1 x (wipeE ρ (ownL t1 t2)) with
        | none => rw [eb] at z3; exact z3.elim
        | some ρ' =>
          rw [eb] at z3
          dsimp only at z3
          cases es : evSrc R .it [e2] ρ' st' with
          | exc c fs st2 => rw [es] at z3; exact z3.elim
          | stuck => rw [es] at z3; exact z3.elim
          | ok src2 st2 =>
            rw [es] at z3
            simp only [noExc, Out.bind] at z3
            refine ⟨μ2, wipeE ρ (ownL t1 t2), x, ρ', (hE1.ext a2.ex).wipe _, r2, eb, fun σ2 he2 hl2 hs2 => ⟨wipe_same (by rw [hl2]) (fun i hi => hs2 i fun q => hi (in_own1 q)), μ2, ρ', st', hr2, he2, ?_⟩⟩
            show Th X.K C W0 relB (Out.ok true st') σ2 H2 μ2 _
            intro H2' μ2' b0 ex2' hr2' rb0
            obtain rfl : true = b0 := rb0
            rw [if_pos rfl]
            have a2' := a2.go ex2' hr2'
            have he2' := he2.ext ex2'
            refine ⟨μ2', ρ', st', hr2', he2', ?_⟩
            rw [es]
            intro H3 μ3 J2 ex3 hr3 rj2
            have a3 := a2'.go ex3 hr3
            cases src2 with
            | dyn kk ps => exact z3.elim
            | vals ys =>
              dsimp only at z3
              cases hf2 : fitLen (acc.length + ys.length) with
              | false => rw [hf2] at z3; exact z3.elim
              | true =>
                rw [hf2] at z3
                dsimp only [cond] at z3
                have hz := fitB hf2
                have z4 : Th X.K C W (RV X.K) ((compVals R t2 (slotsT t2) ifs elt ρ' ys acc st2).bind fun acc st => (lc2 R (ownL t1 t2) t1 e2 t2 ifs elt ρ (xs.drop (i + 1)) acc st).bind fun acc st => mkL l acc.reverse st) σ H1 μ1 Q := by
                  cases ev : compVals R t2 (slotsT t2) ifs elt ρ' ys acc st2 with
                  | ok a' s' => rw [ev] at z3; exact z3
                  | exc c fs s' => rw [ev] at z3; exact z3
                  | stuck => rw [ev] at z3; exact z3
                have hE3 := he2'.ext ex3
                refine ⟨fun j m H' => ∃ μ' acc' vs' st', AtLst X H1 μ1 D H' μ' acc' vs' st' ∧ Exw X.K H3 μ3 H' μ' ∧ acc'.length ≤ acc.length + j ∧ m = ys.length - j ∧ j ≤ ys.length ∧
                    Th X.K C W (RV X.K) ((compVals R t2 (slotsT t2) ifs elt ρ' (ys.drop j) acc' st').bind fun acc st => (lc2 R (ownL t1 t2) t1 e2 t2 ifs elt ρ (xs.drop (i + 1)) acc st).bind fun acc st => mkL l acc.reverse st) σ H1 μ1 Q,
                  ⟨ys.length, μ3, acc, vs, st2, a3, Ext.refl.w, Nat.le_refl _, by simp, Nat.zero_le _, z4⟩, ?_⟩
                rintro j k H4 ⟨μ4, acc4, vs4, st4, a4, ex4, hl4, rfl, hj, z5⟩
                have j5 := rj2 H4 μ4 st4 ex4 a4.hr j hj
                simp only [Src.at] at j5
                rw [nth_eq] at j5
                cases ed2 : ys.drop j with
                | nil =>
                  have hge : ys.length ≤ j := by
                    have := congrArg List.length ed2
                    simp at this
                    omega
                  rw [List.getElem?_eq_none hge] at j5
                  rw [ed2] at z5
                  exact .inl ⟨j5, μ4, acc4, vs4, st4, a4, z5⟩
                | cons x2 r2' =>
                  have hlt2 : j < ys.length := by
                    have := congrArg List.length ed2
                    simp at this
                    omega
                  have hx2 : ys[j]? = some x2 := by
                    have : (ys.drop j)[0]? = some x2 := by rw [ed2]; rfl
                    simpa using this
                  have hrr2 : r2' = ys.drop (j + 1) := by
                    have := congrArg List.tail ed2
                    simpa using this.symm
                  rw [hx2] at j5
                  rw [ed2] at z5
                  subst hrr2
                  refine .inr ⟨j5.1, fun H5 => ∃ μ5 acc5 vs5 st5, AtLst X H1 μ1 D H5 μ5 acc5 vs5 st5 ∧ Exw X.K H3 μ3 H5 μ5 ∧ acc5.length ≤ acc.length + (j + 1) ∧
                    Th X.K C W (RV X.K) ((compVals R t2 (slotsT t2) ifs elt ρ' (ys.drop (j + 1)) acc5 st5).bind fun acc st => (lc2 R (ownL t1 t2) t1 e2 t2 ifs elt ρ (xs.drop (i + 1)) acc st).bind fun acc st => mkL l acc.reverse st) σ H1 μ1 Q,
                    fun H5 ⟨μ5, acc5, vs5, st5, b1, b2, b3, b4⟩ => ⟨ys.length - (j + 1), by omega, μ5, acc5, vs5, st5, b1, b2, b3, rfl, hlt2, b4⟩, ?_⟩
                  intro y2 H5 hy2
                  obtain ⟨μ5, ex5, hr5, r5⟩ := j5.2 y2 H5 hy2
                  have a5 := a4.go ex5 hr5
                  have ex35 := ex4.trans ex5.w
                  simp only [compVals] at z5
                  unfold compTurn at z5
                  cases eb2 : bindT t2 x2 (wipeE ρ' (slotsT t2)) with
                  | none => rw [eb2] at z5; exact z5.elim
                  | some ρ2 =>
                    rw [eb2] at z5
                    dsimp only at z5
                    cases et : evTs R ifs ρ2 st4 with
                    | exc c fs st2 => rw [et] at z5; exact z5.elim
                    | stuck => rw [et] at z5; exact z5.elim
                    | ok b st5 =>
                      rw [et] at z5
                      simp only [noExc, Out.bind] at z5
                      refine ⟨μ5, wipeE ρ' (slotsT t2), x2, ρ2, (hE3.wk ex35.toWk).wipe _, r5, eb2, fun σ3 he3 hl3 hs3 => ⟨wipe_same (by rw [hl3]) hs3, μ5, ρ2, st4, hr5, he3, ?_⟩⟩
                      rw [et]
                      intro H6 μ6 b' ex6 hr6 rb
                      obtain rfl : b = b' := rb
                      have a6 := a5.go ex6 hr6
                      have ex36 := ex35.trans ex6.w
                      cases b with
                      | false =>
                        rw [if_neg (by simp)]
                        exact ⟨μ6, acc4, vs4, st5, a6, ex36, by omega, z5⟩
                      | true =>
                        rw [if_pos rfl]
                        dsimp only at z5
                        cases ee : R.e elt ρ2 st5 with
                        | exc c fs st3 => rw [ee] at z5; exact z5.elim
                        | stuck => rw [ee] at z5; exact z5.elim
                        | ok k st6 =>
                          rw [ee] at z5
                          dsimp only at z5
                          refine ⟨μ6, ρ2, st5, hr6, he3.ext ex6, ?_⟩
                          rw [ee]
                          intro H7 μ7 y7 ex7 hr7 r7
                          have a7 := a6.go ex7 hr7
                          have ex37 := ex36.trans ex7.w
                          have hlen : vs4.length = acc4.length := by
                            rw [← a7.rs.length, List.length_reverse]
                          refine ⟨vs4, a7.at', by omega, μ7, k :: acc4, vs4 ++ [y7], st6, ?_, ?_, by simp; omega, z5⟩
                          · refine ⟨a7.ex.grow nD a7.pr a7.at' trivial hr1, a7.hr.grow a7.pr a7.at' trivial trivial, a7.pr, upd_same, ?_⟩
                            rw [List.reverse_cons]
                            exact RVs.wk (Wk.grow a7.pr a7.at' trivial) (a7.rs.append (.cons r7 .nil))
                          · exact ex37.grow a7.pr a7.at' trivial
section
variable {ex tg iter tg1 iter1 : Expr} {xs : List Expr} {scope : Scope} {own : List (Str × Nat)} {pos : Pos}
theorem g_lc2 (hc : X.calm = true) (hN : X.N.Nodup) (hi : PI X tg iter (gI X.K C W (evSrc R .it [e1]))) (ok : BlkOk X.N X.env.scope scope own) (ho : own.map (·.2) = ownL t1 t2)
    (hg : ∀ (s : Shared) (H : Hp) (A : Addr) (cl : List (Str × Addr)) (fp : List Addr), PG (X.blk s H scope (compEnvC scope cl A X.env) fp) tg (gG X.K t1))
    (hi1 : ∀ (s : Shared) (H : Hp) (A : Addr) (cl : List (Str × Addr)) (fp : List Addr), PI (X.blk s H scope (compEnvC scope cl A X.env) fp) tg1 iter1 (gI X.K C W0 (evSrc R .it [e2])))
    (hg1 : ∀ (s : Shared) (H : Hp) (A : Addr) (cl : List (Str × Addr)) (fp : List Addr), PG (X.blk s H scope (compEnvC scope cl A X.env) fp) tg1 (gG X.K t2))
    (ht1 : ∀ (s : Shared) (H : Hp) (A : Addr) (cl : List (Str × Addr)) (fp : List Addr), PTs (X.blk s H scope (compEnvC scope cl A X.env) fp) xs (gT X.K C W0 (evTs R ifs)))
    (he : ∀ (s : Shared) (H : Hp) (A : Addr) (cl : List (Str × Addr)) (fp : List Addr), PE (X.blk s H scope (compEnvC scope cl A X.env) fp) ex (gE X.K C W0 (R.e elt)))
    (hs : ∀ x, foldedSetIterable iter X.env x = pure x) (hs1 : ∀ env x, foldedSetIterable iter1 env x = pure x) : PE X (.ListComp ex [⟨tg, iter, [], 0⟩, ⟨tg1, iter1, xs, 0⟩] scope pos) (gE X.K C W fun ρ st => lc2All R l t1 e1 t2 e2 ifs elt ρ st) := by
  refine (pe_lc2 (vs1 := slotsT t2) hc hN hi ok (fun i q => by rw [ho]; exact in_own2 q) hg (tt := gT X.K C W0 (evTs R [])) (fun s H A cl fp => g_tests0 (X := X.blk s H scope (compEnvC scope cl A X.env) fp)) hi1 hg1 ht1 he hs hs1).imp fun σ H Q q => ?_
  rw [ho]
  exact lc2_core q
theorem s_setLc2 {i : Nat} {y : Str} {py spos : Pos} (hc : X.calm = true) (hN : X.N.Nodup) (hy : X.N[i]? = some y) (hyl : X.env.scope.names.lookup y = some .local)
    (hsw : swapsWith (.ListComp ex [⟨tg, iter, [], 0⟩, ⟨tg1, iter1, xs, 0⟩] scope pos) (some (.Name y py)) spos.line X.env = pure true) (hi : PI X tg iter (gI X.K C W (evSrc R .it [e1]))) (ok : BlkOk X.N X.env.scope scope own) (ho : own.map (·.2) = ownL t1 t2)
    (hg : ∀ (s : Shared) (H : Hp) (A : Addr) (cl : List (Str × Addr)) (fp : List Addr), PG (X.blk s H scope (compEnvC scope cl A X.env) fp) tg (gG X.K t1))
    (hi1 : ∀ (s : Shared) (H : Hp) (A : Addr) (cl : List (Str × Addr)) (fp : List Addr), PI (X.blk s H scope (compEnvC scope cl A X.env) fp) tg1 iter1 (gI X.K C W0 (evSrc R .it [e2])))
    (hg1 : ∀ (s : Shared) (H : Hp) (A : Addr) (cl : List (Str × Addr)) (fp : List Addr), PG (X.blk s H scope (compEnvC scope cl A X.env) fp) tg1 (gG X.K t2))
    (ht1 : ∀ (s : Shared) (H : Hp) (A : Addr) (cl : List (Str × Addr)) (fp : List Addr), PTs (X.blk s H scope (compEnvC scope cl A X.env) fp) xs (gT X.K C W0 (evTs R ifs)))
    (he : ∀ (s : Shared) (H : Hp) (A : Addr) (cl : List (Str × Addr)) (fp : List Addr), PE (X.blk s H scope (compEnvC scope cl A X.env) fp) ex (gE X.K C W0 (R.e elt)))
    (hs : ∀ x, foldedSetIterable iter X.env x = pure x) (hs1 : ∀ env x, foldedSetIterable iter1 env x = pure x) :
    PS X (.Assign [.Name y py] (.ListComp ex [⟨tg, iter, [], 0⟩, ⟨tg1, iter1, xs, 0⟩] scope pos) spos) (gS X.K C W fun ρ st => (lc2All R l t1 e1 t2 e2 ifs elt ρ st).fl ρ fun v st => .nx (setN ρ i (some v)) st) := by
  refine (ps_setLc2 (vs1 := slotsT t2) hc hN hy hyl hsw hi ok (fun i q => by rw [ho]; exact in_own2 q) hg (tt := gT X.K C W0 (evTs R [])) (fun s H A cl fp => g_tests0 (X := X.blk s H scope (compEnvC scope cl A X.env) fp)) hi1 hg1 ht1 he hs hs1).imp ?_
  rintro D σ H ⟨μ, ρ, st, hr, hE, z⟩
  rw [ho]
  refine lc2_core (C := C) (W := W) ⟨μ, ρ, st, hr, hE, (fl_of (rel := RV X.K) hE rfl z).imp ?_⟩
  rintro v H1 ⟨μ1, p, st1, e1, hr1, r1, z1⟩
  exact z1 H1 μ1 (σ.set i (some v)) .refl hr1 ((hE.ext e1).set r1) (by simp)
end
end
end Pi
end
section
set_option Elab.async false
set_option linter.all false
set_option maxRecDepth 100000
set_option maxHeartbeats 1000000
namespace Pi
open PySem PySem.Spec PyProof.Rows L2
/-! ### sorted of a list of pairs of ints -/
abbrev leP (p q : Int × Int) : Prop := SrtO.lexB q p = false
theorem ltPr_eq (p q : Int × Int) : ltPr p q = SrtO.lexB p q := by
  unfold ltPr SrtO.lexB
  by_cases e : p.1 = q.1
  · rw [if_pos e, e]
    simp
  · rw [if_neg e, beq_eq_false_iff_ne.mpr e]
    simp
theorem leP_anti {p q : Int × Int} (h1 : leP p q) (h2 : leP q p) : p = q := by
  have a := SrtO.lexB_no.mp h1
  have b := SrtO.lexB_no.mp h2
  obtain ⟨p1, p2⟩ := p
  obtain ⟨q1, q2⟩ := q
  simp only at a b
  have e1 : p1 = q1 := by omega
  have e2 : p2 = q2 := by omega
  rw [e1, e2]
theorem insPr_perm (p : Int × Int) : ∀ l, (insPr p l).Perm (p :: l)
  | [] => List.Perm.refl _
  | q :: r => by
    simp only [insPr]
    cases ltPr q p with
    | true => exact ((insPr_perm p r).cons q).trans (List.Perm.swap p q r)
    | false => exact List.Perm.refl _
theorem srtPr_perm : ∀ l, (srtPr l).Perm l
  | [] => List.Perm.refl _
  | p :: r => (insPr_perm p _).trans ((srtPr_perm r).cons p)
theorem leP_trans {p q r : Int × Int} (h1 : leP p q) (h2 : leP q r) : leP p r := by
  have a := SrtO.lexB_no.mp h1
  have b := SrtO.lexB_no.mp h2
  exact SrtO.lexB_no.mpr (by omega)
theorem insPr_up (p : Int × Int) : ∀ {l}, l.Pairwise leP → (insPr p l).Pairwise leP
  | [], _ => List.pairwise_singleton _ _
  | q :: r, h => by
    have h' := List.pairwise_cons.mp h
    simp only [insPr]
    cases e : ltPr q p with
    | true =>
      rw [ltPr_eq] at e
      have e2 : leP q p := by
        have := SrtO.lexB_iff.mp e
        exact SrtO.lexB_no.mpr (by omega)
      refine List.pairwise_cons.mpr ⟨fun x hx => ?_, insPr_up p h'.2⟩
      rcases List.mem_cons.mp ((insPr_perm p r).mem_iff.mp hx) with rfl | hx
      · exact e2
      · exact h'.1 x hx
    | false =>
      rw [ltPr_eq] at e
      exact List.pairwise_cons.mpr ⟨fun x hx => by
        rcases List.mem_cons.mp hx with rfl | hx
        · exact e
        · exact leP_trans (show leP p q from e) (h'.1 x hx), h⟩
theorem srtPr_up : ∀ l, (srtPr l).Pairwise leP
  | [] => List.Pairwise.nil
  | p :: r => insPr_up p (srtPr_up r)
theorem leP_uniq : ∀ {l m : List (Int × Int)}, l.Pairwise leP → m.Pairwise leP → l.Perm m → l = m
  | [], m, _, _, h => (List.Perm.eq_nil h.symm).symm
  | x :: l, [], _, _, h => absurd h.length_eq (by simp)
  | x :: l, y :: m, hl, hm, h => by
    have hl' := List.pairwise_cons.mp hl
    have hm' := List.pairwise_cons.mp hm
    have e : x = y := by
      rcases List.mem_cons.mp (h.mem_iff.mp (List.mem_cons_self (a := x) (l := l))) with e | hx
      · exact e
      · rcases List.mem_cons.mp (h.mem_iff.mpr (List.mem_cons_self (a := y) (l := m))) with e | hy
        · exact e.symm
        · exact leP_anti (hl'.1 y hy) (hm'.1 x hx)
    subst e
    rw [leP_uniq hl'.2 hm'.2 h.cons_inv]
theorem pairsOf_eq : ∀ {xs : List PV} {ps : List (Int × Int)}, pairsOf xs = some ps → xs = ps.map pairP
  | [], ps, h => by cases h; rfl
  | x :: xs, ps, h => by
    unfold pairsOf at h
    split at h
    · rename_i e; cases e
    · rename_i i j r e
      cases e
      cases hr : pairsOf xs with
      | none => rw [hr] at h; cases h
      | some qs =>
        rw [hr] at h
        cases h
        rw [pairsOf_eq hr]
        rfl
    · cases h
section
variable {h : Heap}
theorem pair_det {v : Value} {x y x' y' : Int} (p : Srt.IsPair h v x y) (q : Srt.IsPair h v x' y') : x = x' ∧ y = y' := by
  obtain ⟨a, o, t, u, n, e, ho, hc, hd⟩ := p
  obtain ⟨a', o', t', u', n', e', ho', hc', hd'⟩ := q
  subst e
  cases e'
  rw [ho] at ho'
  cases ho'
  rw [hd] at hd'
  injection hd' with e1 _
  have e2 := congrArg Array.toList e1
  injection e2 with e3 e4
  injection e4 with e4 _
  injection e3 with e3 _
  injection e4 with e4 _
  exact ⟨e3, e4⟩
open Classical in
/-- the ints of a pair -/
noncomputable def keyPr (h : Heap) (v : Value) : Int × Int := if z : ∃ p : Int × Int, Srt.IsPair h v p.1 p.2 then z.choose else (0, 0)
theorem keyPr_of {v : Value} {x y : Int} (p : Srt.IsPair h v x y) : keyPr h v = (x, y) := by
  have z : ∃ p : Int × Int, Srt.IsPair h v p.1 p.2 := ⟨(x, y), p⟩
  unfold keyPr
  rw [dif_pos z]
  obtain ⟨e1, e2⟩ := pair_det z.choose_spec p
  exact Prod.ext e1 e2
end
section
variable {X : Cx} {C : Cls} {W : WX}
theorem pair_of {pins : List (Addr × Obj)} {σ : L2.St} {H : Hp} {s : Shared} {μ : Mu} (I : Inv X pins σ H s) {p : Int × Int} {v : V} (r : RV X.K H μ (pairP p) v) : ∃ a, v = .ref a ∧ Srt.IsPair s.heap (.ref a) p.1 p.2 := by
  unfold pairP at r
  cases r with
  | @tup a vs _ hs rs =>
    have e := RVs.ints (ns := [p.1, p.2]) rs
    subst e
    obtain ⟨its, rr, ⟨o, ho, hc, n, hd⟩, _⟩ := I.tuple hs
    obtain ⟨u1, u2, rfl, ri, rj⟩ := vals2 rr
    obtain ⟨t1, rfl⟩ := ri
    obtain ⟨t2, rfl⟩ := rj
    exact ⟨a, rfl, a, o, t1, t2, n, rfl, ho, hc, hd⟩
theorem pairs_of {pins : List (Addr × Obj)} {σ : L2.St} {H : Hp} {s : Shared} {μ : Mu} (I : Inv X pins σ H s) : ∀ {ps : List (Int × Int)} {vs : List V} {us : List Value}, RVs X.K H μ (ps.map pairP) vs → Vals vs us →
    us.map (keyPr s.heap) = ps ∧ ∀ u ∈ us, ∃ a, u = Value.ref a ∧ Srt.IsPair s.heap u (keyPr s.heap u).1 (keyPr s.heap u).2 ∧ RV X.K H μ (pairP (keyPr s.heap u)) (.ref a)
  | [], _, _, .nil, .nil => ⟨rfl, fun u hu => absurd hu (by simp)⟩
  | p :: ps, _, _, .cons r rs, .cons (b := u) q qs => by
    obtain ⟨h1, h2⟩ := pairs_of I rs qs
    obtain ⟨a, rfl, hp⟩ := pair_of I r
    obtain rfl : u = Value.ref a := q
    have hk := keyPr_of hp
    refine ⟨by rw [List.map_cons, h1, hk], fun u hu => ?_⟩
    rcases List.mem_cons.mp hu with rfl | hu
    · rw [hk]
      exact ⟨a, rfl, hp, r⟩
    · exact h2 u hu
theorem rvs_back {K : PySem.W.Frag} {H : Hp} {μ : Mu} {k : Value → Int × Int} : ∀ {us : List Value}, (∀ u ∈ us, ∃ a, u = Value.ref a ∧ RV K H μ (pairP (k u)) (.ref a)) → RVs K H μ ((us.map k).map pairP) (us.map backV)
  | [], _ => .nil
  | u :: us, h => by
    obtain ⟨a, e, r⟩ := h u List.mem_cons_self
    subst e
    exact .cons r (rvs_back fun y hy => h y (List.mem_cons_of_mem _ hy))
theorem cr_sortedPr (l : Bool) : CallR X (.builtin "sorted") (fun vs H Q => ∃ σ μ st p x, vs = [x] ∧ Hr X.K H μ st ∧ RV X.K H μ p x ∧ Th X.K C W (RV X.K) (sortedV l p st) σ H μ Q) := by
  rintro pins s σ' H vs us Q I r ⟨σ, μ, st, p, x, rfl, hr, r1, z⟩
  unfold sortedV at z
  cases e : listOf st p with
  | none => rw [e] at z; exact z.elim
  | some xs =>
    rw [e] at z
    dsimp only at z
    cases e2 : pairsOf xs with
    | none => rw [e2] at z; exact z.elim
    | some ps =>
      rw [e2] at z
      dsimp only at z
      obtain ⟨a, ws, rfl, h1, r2⟩ := list_of hr r1 e
      rw [pairsOf_eq e2] at r2
      obtain ⟨its, rv, hl, hz⟩ := I.list h1.sq
      obtain ⟨u, rfl, ru⟩ := vals1 r
      obtain rfl : u = Value.ref a := ru
      obtain ⟨k1, k2⟩ := pairs_of I r2 rv
      refine SrtO.sorted_pairsO (k := keyPr s.heap) hl.isList (by rw [← rv.length]; exact hz) (fun v hv => ?_) fun h' d out h3 h4 kp hd hn => ?_
      · obtain ⟨b, _, hp, _⟩ := k2 v hv
        exact hp
      · have hm : ∀ u ∈ out, u ∈ its := fun u hu => h4.perm.mem_iff.mp hu
        have h5 : ∀ u ∈ out, ∃ a, u = Value.ref a := fun u hu => by
          obtain ⟨b, e, _⟩ := k2 u (hm u hu)
          exact ⟨b, e⟩
        obtain ⟨n, hn⟩ := hn
        have es : out.map (keyPr s.heap) = srtPr ps := by
          refine leP_uniq (List.pairwise_map.mpr h3) (srtPr_up _) ?_
          rw [← k1]
          exact (h4.perm.map _).trans (srtPr_perm _).symm
        have rel : RVs X.K H μ ((srtPr ps).map pairP) (out.map backV) := by
          rw [← es]
          exact rvs_back fun u hu => by
            obtain ⟨b, e, _, q⟩ := k2 u (hm u hu)
            exact ⟨b, e, q⟩
        have np := I.hok.fresh hd
        refine ⟨.ref d, upd H d (.lst (out.map backV)), I.laid (t' := s.toks) kp hd ⟨?_, out, n, vals_back h5, hn⟩, rfl, mkL_ok z hr rel np⟩
        have := h4.len
        rw [List.length_map, this, ← rv.length]
        exact hz
theorem g_sorted {l : Bool} {p pos : Pos} {e : Expr} {ev : Env → Sto → Out (List PV)} (hg : Gl X "sorted") (hm : X.mg "sorted" = none) (ha : PA X [e] (gA X.K C W ev))
    (he : starEach [e] X.env = [(false, eval e X.env)]) : PE X (.Call (.Name "sorted" p) [e] [] pos) (gE X.K C W fun ρ st => (ev ρ st).bind fun vs st => biG l .sorted vs st) := by
  refine (pe_callB (cr_sortedPr (C := C) (W := W) l) hg hm (by decide +kernel) ha (by decide) (by decide) he rfl).imp fun σ H Q q => gA.imp ?_ (gE.args q)
  rintro vs H1 ⟨μ, st, ps, hr, rs, z⟩
  cases rs with
  | nil => exact z.elim
  | cons r1 rs =>
    cases rs with
    | cons _ rs =>
      exfalso
      cases rs with
      | nil => simp [biG, biV, bi2, Th] at z
      | cons _ _ => simp [biG, biV, Th] at z
    | nil => exact ⟨_, μ, st, _, _, rfl, hr, r1, z⟩
end
end Pi
end
section
set_option Elab.async false
set_option linter.all false
set_option maxRecDepth 100000
set_option maxHeartbeats 1000000
/-! ### t[::2], t a tuple of three -/
namespace HT
open PySem PySem.Spec PyProof.Rows
section
variable {prog : Program} {w : World} {A : Around} {E : Value → Shared → Prop} {s : Shared}
theorem sliceApplied_two {sl : Addr} {vl vu vk : Value} {Q : Int × Int × Nat → Shared → Prop} (hs : s.heap.IsSliceOf sl vl vu vk) (pl : IsPart vl none) (pu : IsPart vu none) (pk : IsPart vk (some 2))
    (h : Q (0, 2, 2) s) : wpAny (model prog w) A (Builtin.Slice.sliceApplied (.ref sl) (pure ((3 : Nat) : Int))) Q E s := by
  obtain ⟨os, hos, hcs, hds⟩ := id hs
  unfold Builtin.Slice.sliceApplied Builtin.Slice.sliceFields
  refine wpAny_bind (wpAny_bind (wpAny_field hos hds (x := vl) rfl (wpAny_bind (wpAny_field hos hds (x := vu) rfl (wpAny_bind (wpAny_field hos hds (x := vk) rfl (wpAny_pure ?_)))))))
  refine wpAny_bind (slicePart_ pk ?_)
  show wpAny _ _ (if ((2 : Int) == 0) = true then _ else _) _ _ s
  rw [if_neg (by decide)]
  refine wpAny_bind (slicePart_ pl (wpAny_bind (slicePart_ pu (wpAny_bind (wpAny_pure ?_)))))
  exact wpAny_pure h
theorem getItem_tuple_two {t sl : Addr} {x y z : Value} {vl vu vk : Value} {Q : Value → Shared → Prop} (ht : IsTup s.heap t #[x, y, z]) (hs : s.heap.IsSliceOf sl vl vu vk) (pl : IsPart vl none) (pu : IsPart vu none) (pk : IsPart vk (some 2))
    (h : Q (.ref s.heap.objs.size) { s with heap := s.heap.push { cls := .type "tuple", data := .seq #[x, z] } }) : wpAny (model prog w) A (getItem (.ref t) (.ref sl)) Q E s := by
  have htake : sizeOk (.seq #[x, z]) := by
    show 2 ≤ sizeLine
    decide
  obtain ⟨os, hos, hcs, hds⟩ := id hs
  have hTs : s.TypeIs (.ref sl) "slice" := ⟨os, hos, hcs⟩
  unfold getItem
  try with_reducible refine wpAny_holding ?_
  first | refine wpAny_bind (wpAny_pure ?_) | skip
  refine wpAny_bind (wpAny_sequenceKey ht.typeIs (by decide) ?_)
  refine wpAny_bind (wpAny_callSpecial?_slot (name := Str.ofString "__getitem__") ht.typeIs PyProof.Rows.slot_tuple_getitem
    (wpAny_call_entry PyProof.Rows.slot_tuple_getitem ht.typeIs entry_tuple_getitem ?_ (args_tuple_getitem _ _)))
  show wpAny _ _ (Builtin.Tuple.tupleItemsOf (.ref t) >>= _) _ _ s
  refine wpAny_bind (tupleItemsOf_ ht ?_)
  refine wpAny_bind (wpAny_typeOf hTs ?_)
  rw [if_pos (by decide)]
  refine wpAny_bind (sliceApplied_two hs pl pu pk ?_)
  show wpAny _ _ (if ((0 : Int) == 0 && (2 : Int) == 1 && (2 : Nat) == 3) = true then _ else _) _ _ s
  rw [if_neg (by decide)]
  have e : ((List.range 2).filterMap fun (k : Nat) => #[x, y, z][((0 : Int) + (k : Int) * 2).toNat]?).toArray = #[x, z] := rfl
  rw [e]
  first
    | exact wpAny_bind (m := Builtin.Tuple.tupleExact _) (wpAny_newObj_type (wpAny_pure ⟨_, rfl, wpAny_pure h⟩) htake)
    | exact wpAny_bind (m := Builtin.Tuple.tupleExact _) (wpAny_newObj_type (wpAny_bind (wpAny_pure (wpAny_pure ⟨_, rfl, wpAny_pure h⟩))) htake)
    | exact wpAny_bind (wpAny_bind (m := Builtin.Tuple.tupleExact _) (wpAny_newObj_type (wpAny_pure (wpAny_pure ⟨_, rfl, wpAny_pure h⟩)) htake))
    | exact wpAny_bind (wpAny_bind (m := Builtin.Tuple.tupleExact _) (wpAny_newObj_type (wpAny_pure ⟨_, rfl, wpAny_pure h⟩) htake))
end
end HT
namespace Pi
open PySem PySem.Spec PyProof.Rows L2
section
variable {X : Cx} {C : Cls} {W : WX}
def tTwo (K : PySem.W.Frag) (te : TE) : TE := fun σ H Q => te σ H fun x H1 => ∃ a u v w, x = .ref a ∧ SqT K H1 a [u, v, w] ∧ ∀ p, H1 p = none → Q (.ref p) (upd H1 p (.tup [u, w]))
theorem pe_two {e : Expr} {te : TE} {k : Nat} {p1 p3 pos : Pos} (he : PE X e te) : PE X (.Subscript e (.Slice none none (some (.Constant (.int 2) k p1)) p3) pos) (tTwo X.K te) := by
  refine ⟨fun pins s σ H Q I h => ?_⟩
  refine Subscript_ (thn (he.run pins s σ H _ I h) fun v s1 ⟨x, H1, I1, r1, q1⟩ => ?_)
  obtain ⟨a, x1, x2, x3, ex, hx, q⟩ := q1
  subst ex
  cases r1
  have hst : PO X (some (.Constant (.int 2) k p1)) (tPart (tC (.int 2))) := po_some pe_int
  refine wpAny_Slice (thn (po_none.run pins s1 σ H1 (fun o H2 => o = none ∧ H2 = H1) I1 ⟨rfl, rfl⟩) fun vl s2 ⟨l, H2, I2, pl, el, e2⟩ => ?_)
  subst el e2
  refine thn (po_none.run pins s2 σ H2 (fun o H3 => o = none ∧ H3 = H2) I2 ⟨rfl, rfl⟩) fun vu s3 ⟨u, H3, I3, pu, eu, e3⟩ => ?_
  subst eu e3
  refine thn (hst.run pins s3 σ H3 (fun o H4 => o = some 2 ∧ H4 = H3) I3 ⟨2, rfl, rfl, rfl⟩) fun vs s4 ⟨o, H4, I4, ps, eo, e4⟩ => ?_
  subst eo e4
  have I5 : Inv X pins σ H4 { s4 with heap := s4.heap.push { cls := .type "slice", data := .fields #[vl, vu, vs] } } := I4.kept (t' := s4.toks) fun b ob q => Heap.get?_push_of_some _ q
  obtain ⟨its, r, ht, hz⟩ := I5.tuple hx
  obtain ⟨u1, u2, u3, rfl, r1', r2', r3'⟩ : ∃ u1 u2 u3, its = [u1, u2, u3] ∧ L2.RelV x1 u1 ∧ L2.RelV x2 u2 ∧ L2.RelV x3 u3 := by
    cases r with
    | cons p q =>
      cases q with
      | cons p' q' =>
        cases q' with
        | cons p'' q'' =>
          cases q''
          exact ⟨_, _, _, rfl, p, p', p''⟩
  show wpAny (model X.prog X.w) X.A (subscriptTail e (.Slice none none (some (.Constant (.int 2) k p1)) p3) (.ref a) (.ref s4.heap.objs.size)) (EP X pins σ Q) X.xe { s4 with heap := s4.heap.push { cls := .type "slice", data := .fields #[vl, vu, vs] } }
  refine tail_any (ops := [.ref a, .ref s4.heap.objs.size]) ht.typeIs (PyProof.Rows.slot_tuple_getitem.lookup) ?_ (by with_unfolding_all rfl)
  refine HT.getItem_tuple_two ht (Heap.IsSliceOf.new _ vl vu vs) pl pu ps ?_
  refine ⟨.ref _, _, I5.laid (t' := s4.toks) (o := .tup [x1, x3]) (fun b ob q => Heap.get?_push_of_some _ q) (Nat.le_refl _) ?_, rfl, q _ (I5.hok.fresh (Nat.le_refl _))⟩
  exact ⟨by show 2 ≤ sizeLine; decide, [u1, u3], .cons r1' (.cons r3' .nil), _, Heap.get?_push_size _ rfl, rfl, _, rfl⟩
theorem g_two {a : Expr} {ea : Env → Sto → Out PV} {k : Nat} {p1 p3 pos : Pos} (ha : PE X a (gE X.K C W ea)) :
    PE X (.Subscript a (.Slice none none (some (.Constant (.int 2) k p1)) p3) pos) (gE X.K C W fun ρ st => (ea ρ st).bind fun x st => match x with
      | .tup [p, _, r] => .ok (.tup [p, r]) st
      | _ => .stuck) := by
  refine (pe_two ha).imp ?_
  intro σ H Q q
  refine gE.imp ?_ (gE.one q)
  rintro x H1 ⟨μ, st, p, hr, r, z⟩
  cases r with
  | @tup b vs ps hs rs =>
    cases rs with
    | nil => exact z.elim
    | cons r1 rs =>
      cases rs with
      | nil => exact z.elim
      | cons r2 rs =>
        cases rs with
        | nil => exact z.elim
        | cons r3 rs =>
          cases rs with
          | cons _ _ => exact z.elim
          | nil => exact ⟨b, _, _, _, rfl, hs, fun p np => z _ _ _ (Ext.made np) (hr.made np) (RV.tupMade (st := st) np (.cons r1 (.cons r3 .nil)))⟩
  | _ => exact z.elim
end
end Pi
end
section
set_option Elab.async false
set_option linter.all false
set_option maxRecDepth 100000
set_option maxHeartbeats 1000000
namespace Pi
open PySem PySem.Spec PyProof.Rows L2
/-! ### d.values() in a comprehension, the keys ints or tuples -/
/-- the values of a locked dict whose keys are tuples -/
def ItN (d : Addr) (o : Obj) (ks : List (NestedKey × Addr × V)) : It :=
  ⟨fun i H => H d = some (.frz o (dkO d ks)) ∧ i < ks.length, fun i H x H' => H' = H ∧ ∃ k b, ks[i]? = some (k, b, x), fun i H => H d = some (.frz o (dkO d ks)) ∧ ks.length ≤ i⟩
theorem frzN {X : Cx} {pins : List (Addr × Obj)} {σ : L2.St} {H : Hp} {s : Shared} {d : Addr} {o : Obj} {ks : List (NestedKey × Addr × V)} (I : Inv X pins σ H s) (h : H d = some (.frz o (dkO d ks))) :
    (d == sysModules) = false ∧ ∃ es ep, o.data = .dict es ep ∧ s.heap.DictRaw d es ep ∧ es.size = ks.length ∧ ∀ i (hi : i < es.size), ∃ k b v, ks[i]? = some (k, b, v) ∧ L2.RelV v es[i].val := by
  obtain ⟨hd, ⟨z, hs, ys, r, o', es, ep, h1, h2, h3, h4, h5⟩, _⟩ := I.hok d _ h
  rw [hd] at h1
  cases h1
  have hl : ks.length = ys.length := Paired.length r
  have sz : es.size = ys.length := by rw [← Array.length_toList, h4, List.length_map]
  refine ⟨hs, es, ep, h3, ⟨o, hd, h2, h3⟩, by omega, fun i hi => ?_⟩
  have hy : i < ys.length := by omega
  obtain ⟨x, hx, f⟩ := DX.pget r (List.getElem?_eq_getElem hy)
  refine ⟨x.1, x.2.1, x.2.2, by rw [hx], ?_⟩
  have e4 : es.toList[i]? = (ys.map entN)[i]? := by rw [h4]
  rw [List.getElem?_map, List.getElem?_eq_getElem hy, Array.getElem?_toList, Array.getElem?_eq_getElem hi] at e4
  have e5 : es[i] = entN ys[i] := by simpa using e4
  rw [e5]
  exact f.2.2
theorem turn_valsN {P : Program} {w : World} {K : PySem.W.Frag} {tg : Expr} {d : Addr} {o : Obj} {es : Array DictEntry} {ep : Nat} {ks : List (NestedKey × Addr × V)} (it : Addr) (hod : o.data = .dict es ep) : Turn P w K tg (ItN d o ks) [it] it (fun i h => h.IsValIter it d i ks.length ep) where
  mem := by simp
  obj := fun i h st b hb => by
    have e : b = it := by simpa using hb
    subst e
    obtain ⟨oi, e, c, dd⟩ := st
    exact ⟨oi, e, fun v z => by rw [dd] at z; cases z⟩
  keep := fun i h h' st k => st.at fun oi e => k it (by simp) oi e
  item := by
    intro X hP hw hK hc i pins s σ H E I hf st hg
    subst hP hw hK
    obtain ⟨hd, hi⟩ := hg
    obtain ⟨f0, f1, f2, f3, f4, f5⟩ := hf it (by simp)
    obtain ⟨hs, es', ep', hdt, raw, sz, at'⟩ := frzN I hd
    obtain ⟨rfl, rfl⟩ := dict_ep hod hdt
    rw [← sz] at st hi
    obtain ⟨k, b, v, hk, ru⟩ := at' i hi
    refine PySem.wpAny_pyNext_values_item_raw st raw hi fun h' st' sb => ?_
    have I1 : Inv X pins σ H { s with heap := h' } := I.turned (t' := s.toks) (fun b ob hb e => (sb.2 b hb).trans e) f0 f1 f3 f4 f5
    obtain ⟨oi, e, c, dd⟩ := id st'
    refine ⟨es'[i].val, rfl, go_of (s := { s with heap := h' }) e c dd (by decide) ⟨v, H, I1, ru, ⟨rfl, k, b, hk⟩, ?_, fun b hb => (hf b hb).1⟩⟩
    show h'.IsValIter it d (i + 1) ks.length _
    rw [← sz]
    exact st'
  done := by
    intro X hP hw hK hc i pins s σ H E I hf st hg
    subst hP hw hK
    obtain ⟨hd, hi⟩ := hg
    obtain ⟨f0, f1, f2, f3, f4, f5⟩ := hf it (by simp)
    obtain ⟨hs, es', ep', hdt, raw, sz, at'⟩ := frzN I hd
    obtain ⟨rfl, rfl⟩ := dict_ep hod hdt
    rw [← sz] at st hi
    exact PySem.wpAny_pyNext_values_end_raw (I.ok.hd hc) st raw hi fun h' eb => ⟨rfl, I.turned (t' := s.toks) (fun b ob hb e => eb b ob hb e) f0 f1 f3 f4 f5⟩
  self := fun A i s Q E st h => wpAny_pyIter_valiter st h
section
variable {K : PySem.W.Frag} {H : Hp} {μ : Mu} {st : Sto} {n : Nat} {a : Addr}
theorem valsN_get : ∀ {kvs : List (PV × PV)} {ks : List (NestedKey × Addr × V)} {i : Nat} {p : PV}, RCs K H μ kvs ks → nth (kvs.map fun kv => kv.2) i = some p → ∃ k b v, ks[i]? = some (k, b, v) ∧ RV K H μ p v
  | _, _, 0, p, .cons _ _ _ r rs, e => by
    simp only [List.map_cons, nth, Option.some.injEq] at e
    subst e
    exact ⟨_, _, _, rfl, r⟩
  | _, _, i + 1, p, .cons _ _ _ r rs, e => by
    simp only [List.map_cons, nth] at e
    obtain ⟨k, b, v, h1, h2⟩ := valsN_get rs e
    exact ⟨k, b, v, by simpa using h1, h2⟩
  | _, _, _, _, .nil, e => by simp [nth] at e
theorem rj_valsN {kvs : List (PV × PV)} {ks : List (NestedKey × Addr × V)} {ob : Obj} (rk : RCs K H μ kvs ks) (e : H a = some (.frz ob (dkO a ks))) : RJ K (.vals (kvs.map fun kv => kv.2)) H μ (ItN a ob ks) := by
  intro H' μ' st' ex hr i hl
  have e' := ex.frz a ob _ e
  have rk' := rk.wk ex.toWk
  have hlen := rk'.length
  show match some (nth (kvs.map fun kv => kv.2) i) with | none => True | some none => _ | some (some p) => _
  cases z : nth (kvs.map fun kv => kv.2) i with
  | none =>
    rw [nth_eq] at z
    have := List.getElem?_eq_none_iff.mp z
    rw [List.length_map, hlen] at this
    exact ⟨e', this⟩
  | some p =>
    obtain ⟨k, b, v, h1, h2⟩ := valsN_get rk' z
    refine ⟨⟨e', ?_⟩, fun x H2 ⟨q1, k2, b2, q2⟩ => ?_⟩
    · exact (List.getElem?_eq_some_iff.mp h1).1
    · subst q1
      rw [h1] at q2
      cases q2
      exact ⟨μ', .refl, hr, h2⟩
end
section
variable {X : Cx} {C : Cls} {W : WX} {R : Ops} {e : Expr} {a : E} {tg : Expr} {apos cpos : Pos}
/-- the dict, locked, of either kind -/
def iValsN (td : TE) : TI := fun σ H Rc => td σ H fun x H1 => ∃ d o, x = .ref d ∧ ((∃ ks, H1 d = some (.frz o (.dK ks)) ∧ Rc (Itd d o ks) H1) ∨ ∃ ks, H1 d = some (.frz o (dkO d ks)) ∧ Rc (ItN d o ks) H1)
theorem pi_valsN {td : TE} (he : PE X e td) (hb : objB e = true) (hl : (apos.endLine == cpos.line) = true) : PI X tg (.Call (.Attribute e "values" apos) [] [] cpos) (iValsN td) := by
  refine ⟨fun pins s σ H Rc I h => ?_⟩
  refine wpAny_Call_method0_late (obj_base hb) hl (thn (he.run pins s σ H _ I h) fun u s1 ⟨x, H1, I1, rx, d, o, ex, q⟩ => ?_)
  subst ex
  obtain rfl : u = Value.ref d := rx
  have view : ({ s1 with heap := s1.heap.push { cls := .type "dict_values", data := .fields #[.ref d] } } : Shared).heap.IsValuesView s1.heap.objs.size d := ⟨_, Heap.get?_push_size _ rfl, rfl, rfl⟩
  have I2 : Inv X pins σ H1 { s1 with heap := s1.heap.push { cls := .type "dict_values", data := .fields #[.ref d] } } := I1.kept (t' := s1.toks) fun b ob q => Heap.get?_push_of_some _ q
  rcases q with ⟨ks, hd, q⟩ | ⟨ks, hd, q⟩
  · obtain ⟨hs, hgd, hx, es, ep, vs, hdt, hsz, kv, hm⟩ := I1.frzK hd
    have raw : s1.heap.DictRaw d es ep := ⟨o, hgd, hx, hdt⟩
    have raw2 : ({ s1 with heap := s1.heap.push { cls := .type "dict_values", data := .fields #[.ref d] } } : Shared).heap.DictRaw d es ep := ⟨o, Heap.get?_push_of_some _ hgd, hx, hdt⟩
    refine ⟨"dict", "dict.values", PySem.F.plainAttrs_dict, PySem.F.slot_dict_values, PySem.F.type_dict_values, raw.typeIs, fun b z => by cases z; exact ⟨o, hgd, hx.2.1⟩, Calls.callWith_builtin rfl (PySem.evalArgs_none (callValues hs raw ?_))⟩
    refine PySem.wpAny_pyIter_values_raw view raw2 (pi_one (tk := s1.toks) I2 _ (turn_vals _ hdt) ⟨_, Heap.get?_push_size _ rfl, rfl, ?_⟩ q)
    rw [hsz] <;> rfl
  · obtain ⟨hs, es, ep, hdt, raw, sz, at'⟩ := frzN I1 hd
    obtain ⟨o', g1, g2, g3⟩ := id raw
    have raw2 : ({ s1 with heap := s1.heap.push { cls := .type "dict_values", data := .fields #[.ref d] } } : Shared).heap.DictRaw d es ep := ⟨o', Heap.get?_push_of_some _ g1, g2, g3⟩
    refine ⟨"dict", "dict.values", PySem.F.plainAttrs_dict, PySem.F.slot_dict_values, PySem.F.type_dict_values, raw.typeIs, fun b z => by cases z; exact ⟨o', g1, g2.2.1⟩, Calls.callWith_builtin rfl (PySem.evalArgs_none (callValues hs raw ?_))⟩
    refine PySem.wpAny_pyIter_values_raw view raw2 (pi_one (tk := s1.toks) I2 _ (turn_valsN _ hdt) ⟨_, Heap.get?_push_size _ rfl, rfl, ?_⟩ q)
    rw [sz] <;> rfl
theorem g_valsN (he : PE X e (gE X.K C W (R.e a))) (hb : objB e = true) (hl : (apos.endLine == cpos.line) = true) : PI X tg (.Call (.Attribute e "values" apos) [] [] cpos) (gI X.K C W (evSrc R .vals [a])) := by
  refine ⟨fun pins s σ H Rc I q => (pi_valsN (pe_frz he) hb hl).run pins s σ H Rc I ?_⟩
  obtain ⟨μ, ρ, st, hr, hE, z⟩ := q
  have z' : Th X.K C W (fun H' μ' src J => RJ X.K src H' μ' J) ((R.e a ρ st).bind fun v st => match v with
    | .loc n => match st.get n with
      | some (.dct _ kvs) => .ok (.vals (kvs.map fun kv => kv.2)) (st.del n)
      | _ => .stuck
    | _ => .stuck) σ H μ Rc := z
  refine ⟨μ, ρ, st, hr, hE, (Th.bind (rel := RV X.K) z').imp ?_⟩
  rintro x H1 ⟨μ1, p, st1, e1, hr1, r1, z1⟩
  cases r1 with
  | @loc n ad m =>
    dsimp only at z1
    split at z1
    · rename_i b kvs g
      obtain ⟨a', e2, ro⟩ := hr1.obj n _ g
      rw [m] at e2
      cases e2
      cases b with
      | false =>
        obtain ⟨ks, e3, rk⟩ := ro
        refine ⟨ad, .dK ks, rfl, e3, trivial, fun ob => ⟨ad, ob, rfl, .inl ⟨ks, upd_same, ?_⟩⟩⟩
        have x2 := Ext.put (u := .frz ob (.dK ks)) hr1 m e3 trivial
        exact z1 _ _ _ x2 (hr1.del m e3 trivial) (rj_vals (rk.wk x2.toWk) upd_same)
      | true =>
        obtain ⟨ks, e3, rk⟩ := ro
        refine ⟨ad, dkO ad ks, rfl, e3, trivial, fun ob => ⟨ad, ob, rfl, .inr ⟨ks, upd_same, ?_⟩⟩⟩
        have x2 := Ext.put (u := .frz ob (dkO ad ks)) hr1 m e3 trivial
        exact z1 _ _ _ x2 (hr1.del m e3 trivial) (rj_valsN (rk.wk x2.toWk) upd_same)
    · exact z1.elim
  | _ => exact z1.elim
end
end Pi
end
section
set_option Elab.async false
set_option linter.all false
set_option maxRecDepth 100000
set_option maxHeartbeats 1000000
namespace Pi
open PySem PySem.Spec PyProof.Rows L2
/-! ### xs.index(k), a list of ints -/
theorem posI_spec {k : Int} : ∀ {l : List Int} {n j : Nat}, posI k l n = some j → ∃ i, j = n + i ∧ l[i]? = some k ∧ ∀ m z, m < i → l[m]? = some z → (z == k) = false
  | [], _, _, h => by cases h
  | x :: r, n, j, h => by
    simp only [posI] at h
    cases e : x == k with
    | true =>
      rw [e] at h
      cases h
      exact ⟨0, rfl, by rw [eq_of_beq e]; rfl, fun m z hm => absurd hm (Nat.not_lt_zero _)⟩
    | false =>
      rw [e] at h
      obtain ⟨i, h1, h2, h3⟩ := posI_spec (l := r) h
      refine ⟨i + 1, by omega, h2, fun m z hm hz => ?_⟩
      cases m with
      | zero => cases hz; exact e
      | succ m => exact h3 m z (by omega) hz
section
variable {X : Cx} {C : Cls} {W : WX} {o e : Expr} {ea eb : Env → Sto → Out PV} {p2 pos : Pos}
theorem g_index (ha : PE X o (gE X.K C W ea)) (hb : PE X e (gE X.K C W eb)) (ho : objB o = true) (hl : (p2.endLine == pos.line) = true) (hs : notStar e = true) :
    PE X (.Call (.Attribute o "index" p2) [e] [] pos) (gE X.K C W fun ρ st => (ea ρ st).bind fun x st => match listOf st x with
      | some _ => (eb ρ st).bind fun y st => Out.of (indexV st x y) st
      | none => .stuck) := by
  refine (pe_bmD PySem.F.plainAttrs_list PySem.F.slot_list_index PySem.F.type_list_index mt_index ha (pa_cons hb pa_nil (star_of hs)) (obj_base ho) (by cases e <;> first | rfl | cases hs) hl (star_of hs) (by rfl)).imp ?_
  rintro σ H Q ⟨μ, ρ, st, hr, hE, z⟩
  refine ⟨μ, ρ, st, hr, hE, (Th.bind (rel := RV X.K) z).imp ?_⟩
  rintro x H1 ⟨μ1, p, st1, e1, hr1, r1, z1⟩
  cases el : listOf st1 p with
  | none => rw [el] at z1; exact z1.elim
  | some xs =>
    rw [el] at z1
    obtain ⟨a, vs, rfl, sx, rs⟩ := list_of hr1 r1 el
    refine ⟨.inl (.inl ⟨rfl, vs, sx.sq⟩), μ1, ρ, st1, hr1, hE.ext e1, (Th.bind (rel := RV X.K) z1).imp ?_⟩
    rintro y H2 ⟨μ2, q, st2, e2, hr2, r2, z2⟩
    cases ei : indexV st2 p q with
    | none => rw [ei] at z2; exact z2.elim
    | some w =>
      rw [ei] at z2
      unfold indexV at ei
      split at ei
      · rename_i xs2 k el2
        split at ei
        · rename_i is eis
          cases ep : posI k is 0 with
          | none => rw [ep] at ei; cases ei
          | some j =>
            rw [ep] at ei
            cases ei
            obtain ⟨i, rfl, h2, h3⟩ := posI_spec ep
            obtain ⟨a', ws, ea', sx2, rs2⟩ := list_of hr2 (r1.ext e2) el2
            cases ea'
            rw [intsOf_eq eis] at rs2
            obtain rfl := RVs.ints rs2
            cases r2
            refine ⟨a, is.map V.int, .int k, 0 + i, .int k, rfl, rfl, sx2.sq, rfl, ?_, ?_, ?_, fun m z' hm hz => ?_, z2.ok hr2 (.int _)⟩
            · rw [List.all_map]
              exact List.all_eq_true.mpr fun _ _ => rfl
            · rw [Nat.zero_add, List.getElem?_map, h2]
              rfl
            · show (k == k) = true
              exact beq_self_eq_true k
            · rw [Nat.zero_add] at hm
              rw [List.getElem?_map] at hz
              cases eq : is[m]? with
              | none => rw [eq] at hz; cases hz
              | some u =>
                rw [eq] at hz
                cases hz
                exact h3 m u hm eq
        · cases ei
      · cases ei
end
end Pi
end
section
set_option Elab.async false
set_option linter.all false
set_option maxRecDepth 100000
set_option maxHeartbeats 3200000
namespace Pi
open PySem PySem.Spec PyProof.Rows L2
/-! ### sorted(set(xs)), xs a list of cells or of ints -/
theorem srtI_mem {x : Int} : ∀ {l : List Int}, x ∈ srtI l ↔ x ∈ l
  | [] => by simp [srtI]
  | k :: r => by rw [srtI, insI_mem, srtI_mem, List.mem_cons]
theorem srtI_up : ∀ l : List Int, UpI (srtI l)
  | [] => List.Pairwise.nil
  | k :: r => insI_up (srtI_up r)
theorem ints_at : ∀ {us : List Value} {ns : List Int} {i : Nat} {v : Value}, IntsAre us ns → us[i]? = some v → ∃ k t, ns[i]? = some k ∧ v = .int k t
  | _, _, i, _, .nil, e => by simp at e
  | _, _, 0, _, .cons n t h, e => by simp at e; exact ⟨n, t, rfl, e.symm⟩
  | _, _, i + 1, _, .cons n t h, e => by simpa using ints_at h (by simpa using e)
section
variable {P : Program} {w : World} {A : Around} {E : Value → Shared → Prop} {s : Shared}
/-- set(xs), xs a list of ints -/
theorem set_intsL {l : Addr} {items : Array Value} (ks : List Int) {Q : Value → Shared → Prop} (hh : A.handled = none) (hl : s.heap.IsList l items) (hit : IntsAre items.toList ks) (h4 : ks.length + 1 < scanBound)
    (h : ∀ (h' : Heap) (tk c : Nat), SetR w h' s.heap.objs.size (fun j => decide (j ∈ ks)) c → c ≤ ks.length → (∀ b o, s.heap.get? b = some o → h'.get? b = some o) → Q (.ref s.heap.objs.size) { s with heap := h', toks := tk }) :
    wpAny (model P w) A (call (.type "set") [.ref l]) Q E s := by
  have hisz : items.size = ks.length := by
    have q := IntsAre.length hit
    rw [Array.length_toList] at q
    exact q
  obtain ⟨c, tl, hmro⟩ := PySem.F.called_set.mro
  have f1 := PySem.F.called_set.made
  have f2 := PySem.F.called_set.sub
  have f3 := PySem.F.called_set.notType
  have f4 := PySem.F.called_set.canCreate
  have f5 := PySem.F.typeCall_set_1 (.ref l)
  refine wpAny_call (codeAny_of_tree ?_)
  show wpAny _ _ (callAny (.type "set") _) _ _ _
  refine wpAny_pure ⟨Code.quiet_builtin _ (by decide +kernel), codeAny_builtin PySem.F.entry_type_call ?_⟩
  rw [Around.under_plain (weight_type_call_type "set" [.ref l] []) rfl]
  repeat (any_goals (first | assumption | wp_step))
  refine codeAny_mono (code_set_led1 (.ref l) (E := E) (Q₁ := fun obj s₁ => obj = .ref s.heap.objs.size ∧ s₁ = { s with heap := s.heap.push (newSetO w) }) ⟨rfl, rfl⟩) fun r s₁ hr => ?_
  match r, hr with
  | .error e, hr => exact hr
  | .ok .next, hr => exact hr.elim
  | .ok .brk, hr => exact hr.elim
  | .ok .cont, hr => exact hr.elim
  | .ok (.ret obj), hr =>
    obtain ⟨rfl, rfl⟩ := hr
    have hS : (s.heap.push (newSetO w)).get? s.heap.objs.size = some (newSetO w) := Heap.get?_push_size _ rfl
    have ty : Shared.TypeIs { s with heap := s.heap.push (newSetO w) } (.ref s.heap.objs.size) "set" := ⟨_, hS, rfl⟩
    have f6 := PySem.F.called_set.init.lookup
    have f7 := PySem.F.called_set.init.bind (.ref s.heap.objs.size)
    repeat (any_goals (first | assumption | wp_step))
    refine codeAny_mono (codeAny_call_builtin (R := wants (fun r s₂ => r = .none ∧ ∃ h' tk c, s₂ = { s with heap := h', toks := tk } ∧ SetR w h' s.heap.objs.size (fun j => decide (j ∈ ks)) c ∧ c ≤ ks.length ∧
          (∀ b o, s.heap.get? b = some o → h'.get? b = some o)) E) PySem.F.called_set.init.plain PySem.F.entry_set_init (check_set_init_1 ty ?_)) fun r₂ s₂ hr₂ => ?_
    · obtain ⟨⟨ocls, odict, odata, oslots⟩, hol, hcl, nl, hdl⟩ := hl
      simp only at hcl hdl
      subst hcl; subst hdl
      have hol' : (s.heap.push (newSetO w)).get? l = some { cls := .type "list", dict := odict, data := .seq items nl, slots := oslots } := Heap.get?_push_of_some _ hol
      have f8 := PySem.F.sub_list_set
      have f9 := PySem.F.sub_list_frozenset
      have f10 : (Value.type "list" == Value.type "dict") = false := by decide
      have hl1 : (s.heap.push (newSetO w)).IsList l items := ⟨_, hol', rfl, nl, rfl⟩
      unfold Builtin.«set.__init__» noKeywords Builtin.Frozenset.updateFrom
      generalize hPI : pyIter = PI
      wp_walk
      subst hPI
      refine wpAny_pyIter_list hl1 ?_
      refine wpAny_bind (wpAny_runValue ?_)
      have hlS : l < s.heap.objs.size := Heap.lt_size hol
      have hh3 : A.in1.in1.in1.handled = none := by simp [hh]
      have z1 : (s.heap.push (newSetO w)).objs.size = s.heap.objs.size + 1 := Heap.size_push ..
      have nI : l ≠ (s.heap.push (newSetO w)).objs.size := by rw [z1]; exact Nat.ne_of_lt (Nat.lt_succ_of_lt hlS)
      have nF : s.heap.objs.size ∉ [(s.heap.push (newSetO w)).objs.size, l] := by
        rw [z1]
        simp only [List.mem_cons, List.not_mem_nil, or_false, not_or]
        exact ⟨Nat.ne_of_lt (Nat.lt_succ_self _), Nat.ne_of_gt hlS⟩
      have hval : ∀ (i : Nat) (v : Value), items[i]? = some v → ∃ k t, ks[i]? = some k ∧ v = .int k t := fun i v hv => by
        rw [← Array.getElem?_toList] at hv
        exact ints_at hit hv
      have none_of : ∀ b, s.heap.objs.size ≤ b → s.heap.get? b = none := fun b hb => by
        cases q : s.heap.get? b with
        | none => rfl
        | some o => exact absurd (Nat.lt_of_lt_of_le (Heap.lt_size q) hb) (Nat.lt_irrefl _)
      refine set_update_ints ((Walks.list hh3 _ l nI items).toS) s.heap.objs.size nF ks hisz h4 hval (items.size - 0) 0 _ (by omega) (Nat.zero_le _)
        ⟨⟨_, Heap.get?_push_size _ rfl, rfl, rfl⟩, (hl1.push _)⟩ ⟨0, Nat.le_refl _, setR_new_at (Heap.get?_push_of_some _ hS)⟩ ?_
      intro s' c2 hm hc2 hS'
      have q : ∀ b o, s.heap.get? b = some o → s'.heap.get? b = some o := fun b o e => hm.heap b o (fun hb => by
        rcases List.mem_cons.mp hb with z | z
        · rw [z, none_of _ (Nat.le_refl _)] at e; cases e
        · rw [List.mem_singleton.mp z, none_of _ (by rw [z1]; exact Nat.le_succ _)] at e; cases e) (Heap.get?_push_of_some _ (Heap.get?_push_of_some _ e))
      obtain ⟨h', g2, d', tk', os'⟩ := s'
      have eg : g2 = s.gens := hm.gens
      have ed : d' = s.drawn := hm.drawn
      have eo : os' = s.os := hm.os
      subst eg; subst ed; subst eo
      rw [hisz] at hc2
      exact wpAny_pure (wpAny_pure ⟨rfl, h', tk', c2, rfl, hS', hc2, q⟩)
    · match r₂, hr₂ with
      | .error e, hr₂ => exact hr₂
      | .ok .next, hr₂ => exact hr₂.elim
      | .ok .brk, hr₂ => exact hr₂.elim
      | .ok .cont, hr₂ => exact hr₂.elim
      | .ok (.ret r), hr₂ =>
        obtain ⟨rfl, h', tk, c2, rfl, hS', g', hk'⟩ := hr₂
        repeat (any_goals (first | assumption | wp_step))
        exact h _ _ _ hS' g' hk'
end
section
variable {X : Cx} {C : Cls} {W : WX} {a : Expr} {ea : Env → Sto → Out PV} {p q pos pos2 : Pos}
theorem g_srtset {l : Bool} (hc : X.calm = true) (hu : X.A.units + 64 < cLine) (hg : Gl X "sorted") (hm : X.mg "sorted" = none) (hg2 : Gl X "set") (hm2 : X.mg "set" = none) (ha : PE X a (gE X.K C W ea)) (h1 : notStar a = true) :
    PE X (.Call (.Name "sorted" p) [.Call (.Name "set" q) [a] [] pos2] [] pos) (gE X.K C W fun ρ st => (ea ρ st).bind fun x st => match listOf st x with
      | some xs => match cksOf xs with
        | some ks => bif Nat.ble ks.length 4 then mkL l ((srtC ks).map ckP) st else .stuck
        | none => match intsOf xs with
          | some is => bif Nat.ble is.length 60 then mkL l ((srtI is).map PV.int) st else .stuck
          | none => .stuck
      | none => .stuck) := by
  refine ⟨fun pins s σ H Q I qq => ?_⟩
  refine wpAny_Call_Name_kw (ld_blt I hg hm (u := .builtin "sorted") (by decide +kernel) ?_ (by decide) (by decide))
  rw [show starEach [Expr.Call (.Name "set" q) [a] [] pos2] X.env = [(false, eval (Expr.Call (.Name "set" q) [a] [] pos2) X.env)] from rfl]
  refine Calls.callWith_builtin rfl (Calls.evalArgs_plain (Calls.spliced_cons (wpAny_mono (Q := fun v s' => wpAny (model X.prog X.w) X.A (call (.builtin "sorted") [v]) (EP X pins σ Q) X.xe s') ?_ (fun _ _ h => Calls.spliced_nil h) fun _ _ e => e)))
  refine wpAny_Call_Name_kw (ld_blt I hg2 hm2 (u := .type "set") (by decide +kernel) ?_ (by decide) (by decide))
  rw [star_of h1, show starEach [] X.env = [] from rfl]
  refine PySem.callWith_type rfl (Calls.evalArgs_plain (Calls.spliced_cons (wpAny_mono (thn (ha.run pins s σ H _ I (gE.one qq)) fun v s1 ⟨y, H1, I1, ry, q1⟩ => ?_) (fun _ _ h => Calls.spliced_nil h) fun _ _ e => e)))
  obtain ⟨μ, st, pv, hr, rx, z⟩ := q1
  cases e1 : listOf st pv with
  | none => rw [e1] at z; exact z.elim
  | some ps =>
    rw [e1] at z
    dsimp only at z
    cases e2 : cksOf ps with
    | none =>
      rw [e2] at z
      dsimp only at z
      cases e3 : intsOf ps with
      | none => rw [e3] at z; exact z.elim
      | some is =>
        rw [e3] at z
        dsimp only at z
        cases e4 : Nat.ble is.length 60 with
        | false => rw [e4] at z; exact z.elim
        | true =>
          rw [e4] at z
          dsimp only [cond] at z
          have h60 : is.length ≤ 60 := Nat.le_of_ble_eq_true e4
          obtain ⟨aa, vs, rfl, sq, rvs⟩ := list_of hr rx e1
          obtain rfl : v = Value.ref aa := ry
          obtain rfl := intsOf_eq e3
          obtain rfl := rvs.ints
          obtain ⟨its, rv, pl, hz⟩ := I1.list sq.sq
          refine set_intsL is (I1.ok.hd hc) pl.isList (by simpa using ints_of_vals rv) (by unfold scanBound; omega) fun h' tk c R1 hcn k => ?_
          have hn : H1 s1.heap.objs.size = none := I1.hok.fresh (Nat.le_refl _)
          have I2 := I1.laid (t' := tk) (a := s1.heap.objs.size) (o := SetO X.w s1.heap.objs.size (fun j => decide (j ∈ is)) c) k (Nat.le_refl _) (setO_new R1)
          refine cr_sortedSet hc pins _ σ _ [.ref s1.heap.objs.size] [.ref s1.heap.objs.size] Q I2 (.cons rfl .nil) ⟨s1.heap.objs.size, _, c, rfl, upd_same, by omega, fun ns pp hp hm hl hnp => ?_⟩
          have x1 := Ext.made (K := X.K) (μ := μ) (o := SetO X.w s1.heap.objs.size (fun j => decide (j ∈ is)) c) hn
          have ens : ns = srtI is := upI_eq hp (srtI_up _) fun x => by rw [hm, decide_eq_true_eq, srtI_mem]
          rw [ens]
          exact mkL_ok (Th.ext x1 z) (hr.made hn) (RVs.of_ints _) hnp
    | some ks =>
      rw [e2] at z
      dsimp only at z
      cases e3 : Nat.ble ks.length 4 with
      | false => rw [e3] at z; exact z.elim
      | true =>
        rw [e3] at z
        dsimp only [cond] at z
        have h4 : ks.length ≤ 4 := Nat.le_of_ble_eq_true e3
        obtain ⟨aa, vs, rfl, sq, rvs⟩ := list_of hr rx e1
        obtain rfl : v = Value.ref aa := ry
        obtain ⟨bs, rfl, hbl, hps, hcell⟩ := cks_rel rvs e2
        obtain ⟨its, rv, pl, hz⟩ := I1.list sq.sq
        have hit : its = bs.map Value.ref := by
          have : ∀ {bs : List Addr} {us : List Value}, Vals (bs.map V.ref) us → us = bs.map Value.ref := by
            intro bs
            induction bs with
            | nil => intro us r; cases r; rfl
            | cons b bs ih =>
              intro us r
              cases r with
              | cons h t => rw [List.map_cons, ← ih t]; exact congrArg (· :: _) h
          exact this rv
        have hlen : (bs.zip ks).length = ks.length := by rw [List.length_zip, hbl]; omega
        have hfst : (bs.zip ks).map (·.1) = bs := List.map_fst_zip (by omega)
        have hsnd : (bs.zip ks).map (·.2) = ks := List.map_snd_zip (by omega)
        refine set_cells (bs.zip ks) (I1.ok.hd hc) pl.isList (by
            rw [hit]
            have : (bs.zip ks).map (fun p => Value.ref p.1) = ((bs.zip ks).map (·.1)).map Value.ref := by rw [List.map_map]; rfl
            rw [this, hfst]) (fun p hp => cell_of I1 (hcell p hp)) (by omega) (by omega) fun h' tk L es ep t R g hk => ?_
        have hL : ∀ p ∈ L, p ∈ bs.zip ks := fun p hp => List.mem_of_mem_take (g.sub p hp)
        have hLk : ∀ x, x ∈ L.map (·.2) ↔ x ∈ ks := fun x => by
          constructor
          · intro hx
            obtain ⟨p, hp, e⟩ := List.mem_map.mp hx
            rw [← e, ← hsnd]
            exact List.mem_map_of_mem (hL p hp)
          · intro hx
            rw [← hsnd] at hx
            obtain ⟨p, hp, e⟩ := List.mem_map.mp hx
            rw [← e]
            exact g.all p (by rw [List.take_length]; exact hp)
        have hsame : srtC (L.map (·.2)) = srtC ks := up_eq (srtC_up _) (srtC_up _) fun x => by rw [srtC_mem, srtC_mem, hLk]
        refine sorted_cset R (I1.ok.hd hc) (by omega) fun s' pp out c cs k2 g2 o2 hp2 hg3 hout pr => ?_
        rw [hsame] at pr
        have hle : s1.heap.objs.size ≤ pp := Nat.le_trans (by
          obtain ⟨o, ho, _⟩ := R.ob
          exact Nat.le_of_lt (Heap.lt_size ho)) hp2
        have hn : H1 pp = none := I1.hok.fresh hle
        have kk : ∀ b o, s1.heap.get? b = some o → s'.heap.get? b = some o := fun b o e => k2 b o (hk b o e)
        have rel : RVs X.K H1 μ ((srtC ks).map ckP) (cs.map V.ref) := by
          have : ∀ {cs : List Addr} {l : List CK}, Paired (fun (b : Addr) (k : CK) => (b, k) ∈ L) cs l → RVs X.K H1 μ (l.map ckP) (cs.map V.ref) := by
            intro cs l pr
            induction pr with
            | nil => exact .nil
            | cons h t ih => exact .cons (hcell _ (hL _ h)) ih
          exact this pr
        have vv : ∀ bs : List Addr, Vals (bs.map V.ref) (bs.map Value.ref) := vals_refs
        have fl : (cs.map V.ref).length ≤ sizeLine := by
          have l1 := rel.length
          rw [List.length_map] at l1
          have l2 : (srtC ks).length ≤ ks.length := by
            have : ∀ ks : List CK, (srtC ks).length ≤ ks.length := by
              intro ks
              induction ks with
              | nil => exact Nat.le_refl _
              | cons k r ih =>
                have : ∀ l : List CK, (insC k l).length ≤ l.length + 1 := by
                  intro l
                  induction l with
                  | nil => exact Nat.le_refl _
                  | cons j r ih =>
                    simp only [insC]
                    cases ckEq k j with
                    | true => exact Nat.le_succ _
                    | false =>
                      cases ckLt k j with
                      | true => exact Nat.le_refl _
                      | false => exact Nat.succ_le_succ ih
                exact Nat.le_trans (this _) (Nat.succ_le_succ ih)
            exact this ks
          rw [← l1, sizeLine_eq]
          omega
        have J : Inv X pins σ (upd H1 pp (.lst (cs.map V.ref))) { s1 with heap := s'.heap, gens := s'.gens, drawn := s'.drawn, toks := s'.toks } :=
          I1.call (ch := []) (Un.laid kk hle hn) (I1.hok.laid kk hle ⟨fl, out.toList, c, by rw [hout]; exact vv cs, hg3⟩) (by rw [g2]; exact I1.bare) (fun _ z => nomatch z)
        have es' : s' = { s1 with heap := s'.heap, gens := s'.gens, drawn := s'.drawn, toks := s'.toks } := by
          cases s'
          cases s1
          cases o2
          rfl
        rw [es']
        exact ⟨.ref pp, _, J, rfl, mkL_ok z hr rel hn⟩
end
end Pi
end
section
set_option Elab.async false
set_option linter.all false
set_option maxRecDepth 100000
set_option maxHeartbeats 4000000
namespace Pi
open PySem PySem.Spec PyProof.Rows L2
section
variable {P : Program} {w : World} {K : PySem.W.Frag} {mg : Str → Option Value} {k : Nat} {N : List Str} {C : Cls} {D : Dat} {R : Ops} {cl : Nat → List PV → Sto → Out PV} {F : Nat}
abbrev AllE (P : Program) (w : World) (K : PySem.W.Frag) (mg : Str → Option Value) (k : Nat) (N : List Str) (C : Cls) (D : Dat) (R : Ops) : Prop := ∀ X sc fs W, GQ P w K mg k N X sc fs W → SoundE X C W D N sc R
abbrev AllT (P : Program) (w : World) (K : PySem.W.Frag) (mg : Str → Option Value) (k : Nat) (N : List Str) (C : Cls) (D : Dat) (R : Ops) : Prop := ∀ X sc fs W, GQ P w K mg k N X sc fs W → SoundT X C W D N sc R
theorem cr_of (X : Cx) (W : WX) (l : Bool) (hc : X.calm = true) : ∀ b : BI, biOk b = true → ∃ v, bootBuiltins (biName b) = some v ∧ ((∃ id, v = .builtin id) ∨ (∃ id, v = .type id)) ∧ CallR X v (rBi X.K C W l b)
  | .len, _ => ⟨.builtin "len", by decide +kernel, .inl ⟨_, rfl⟩, cr_len l⟩
  | .tuple, _ => ⟨.type "tuple", by decide +kernel, .inr ⟨_, rfl⟩, cr_tuple l⟩
  | .list, _ => ⟨.type "list", by decide +kernel, .inr ⟨_, rfl⟩, cr_list l⟩
  | .sum, _ => ⟨.builtin "sum", by decide +kernel, .inl ⟨_, rfl⟩, cr_sumP l hc⟩
  | .any, _ => ⟨.builtin "any", by decide +kernel, .inl ⟨_, rfl⟩, cr_anyB l hc⟩
  | .all, _ => ⟨.builtin "all", by decide +kernel, .inl ⟨_, rfl⟩, cr_allB l hc⟩
  | .max, _ => ⟨.builtin "max", by decide +kernel, .inl ⟨_, rfl⟩, cr_maxP l hc⟩
  | .min, _ => ⟨.builtin "min", by decide +kernel, .inl ⟨_, rfl⟩, cr_minP l hc⟩
  | .abs, _ => ⟨.builtin "abs", by decide +kernel, .inl ⟨_, rfl⟩, cr_absP l⟩
  | .int, _ => ⟨.type "int", by decide +kernel, .inr ⟨_, rfl⟩, cr_intP l⟩
theorem bi_plain {b : BI} (h : biOk b = true) : biName b ∈ bltNames ∧ biName b ≠ "__name__" ∧ (biName b == ("__debug__" : Str)) = false ∧ ∀ l vs st, biG l b vs st = biV l b vs st := by
  cases b <;> first | exact ⟨by decide, by decide, by decide, fun l vs st => rfl⟩ | cases h
theorem glob_ok {X : Cx} {W : WX} {n : Str} {v : PV} {pos : Pos} {u : Value} {y : V} (hg : Gl X n) (hd : (n == ("__debug__" : Str)) = false) (hm : X.mg n = some u) (r : L2.RelV y u) (hr : ∀ H μ, RV X.K H μ v y) : PE X (.Name n pos) (gE X.K C W fun _ st => .ok v st) := by
  refine (pe_glob hg hm r hd).imp ?_
  rintro σ H Q ⟨μ, ρ, st, h, he, z⟩
  exact z.ok h (hr H μ)
/-- how a built-in is called -/
theorem g_bi {X : Cx} {W : WX} {l : Bool} {b : BI} {p pos : Pos} {e : Expr} {xs : List Expr} {ev : Env → Sto → Out (List PV)} (hc : X.calm = true) (hb : biOk b = true) (hg : Gl X (biName b)) (hm : X.mg (biName b) = none) (ha : PA X (e :: xs) (gA X.K C W ev))
    (he : starEach (e :: xs) X.env = (false, eval e X.env) :: starEach xs X.env) (hpl : (backTo pos (starEach xs X.env)).any (·.1) = false) : PE X (.Call (.Name (biName b) p) (e :: xs) [] pos) (gE X.K C W fun ρ st => (ev ρ st).bind fun vs st => biG l b vs st) := by
  obtain ⟨h1, h2, h3, h4⟩ := bi_plain hb
  obtain ⟨v, e1, e2, e3⟩ := cr_of (C := C) X W l hc b hb
  have q : (fun (ρ : Env) (st : Sto) => (ev ρ st).bind fun vs st => biG l b vs st) = fun ρ st => (ev ρ st).bind fun vs st => biV l b vs st := by
    funext ρ st
    congr 1
    funext vs st
    exact h4 l vs st
  rw [q]
  rcases e2 with ⟨id, rfl⟩ | ⟨id, rfl⟩
  · exact g_biB e3 hg hm e1 ha h2 h3 he hpl
  · exact g_biT e3 hg hm e1 ha h2 h3 he hpl
theorem ex_cons {sc : Scope} {es : List E} {xs : List Expr} (h : chkEs D N sc es xs = true) (hn : (!es.isEmpty) = true) : ∃ y ys, xs = y :: ys := by
  cases es with
  | nil => simp at hn
  | cons e es => exact chkEs_ex h
theorem chkO_ok {X : Cx} {sc : Scope} {W : WX} (S : SoundE X C W D N sc R) : ∀ {o : Option E} {x : Option Expr}, chkO D N sc o x = true → PO X x (gO X.K C W (evO (o.map R.e)))
  | none, x, h => by
    cases x with
    | some _ => simp [chkO] at h
    | none => exact po_P0
  | some e, x, h => by
    cases x with
    | none => simp [chkO] at h
    | some y => exact po_P (S e y (by simpa [chkO] using h))
/-- iterators -/
theorem chkI_ok (hN : Nms D K mg) {X : Cx} {sc fs : Scope} {W : WX} (G : GQ P w K mg k N X sc fs W) (S : SoundE X C W D N sc R) {kk : SK} {tg it : Expr} {es : List E} (h : chkI D N sc kk tg es it = true) : PI X tg it (gI X.K C W (evSrc R kk es)) := by
  have nm : ∀ n, n ∈ bltNames → X.mg n = none := fun n hn => by rw [G.em]; exact hN.blt n hn
  cases es with
  | nil => simp [chkI] at h
  | cons e es =>
    unfold chkI at h
    split at h
    · exact g_it (S e it h)
    · simp only [Bool.and_eq_true, decide_eq_true_eq] at h
      obtain ⟨⟨⟨⟨rfl, h2⟩, h3⟩, h4⟩, h5⟩ := h
      cases tg <;> first | (simp [isTuple] at h3; done) | exact g_enum (G.gl h2) (nm _ (by decide)) (S e _ h5) (star_of h4)
    · simp only [Bool.and_eq_true, decide_eq_true_eq] at h
      obtain ⟨⟨⟨rfl, h2⟩, h4⟩, h5⟩ := h
      exact g_rev (G.gl h2) (nm _ (by decide)) (S e _ h5) (star_of h4)
    · simp only [Bool.and_eq_true, decide_eq_true_eq] at h
      obtain ⟨⟨⟨rfl, h2⟩, h4⟩, h5⟩ := h
      exact g_range1 (G.gl h2) (nm _ (by decide)) (S e _ h5) (star_of h4)
    · simp only [Bool.and_eq_true, decide_eq_true_eq] at h
      obtain ⟨⟨⟨⟨⟨rfl, h2⟩, h3⟩, h4⟩, h5⟩, h6⟩ := h
      exact g_range2 (G.gl h2) (nm _ (by decide)) (S e _ h5) (S _ _ h6) (by rw [star_of h3, star_of h4]; rfl) (by rw [star_of h4]; rfl)
    · simp only [Bool.and_eq_true, decide_eq_true_eq] at h
      obtain ⟨⟨⟨rfl, h2⟩, h3⟩, h4⟩ := h
      exact g_valsN (S e _ h4) h2 h3
    · simp only [Bool.and_eq_true, decide_eq_true_eq] at h
      obtain ⟨⟨⟨⟨⟨⟨rfl, h2⟩, h3⟩, h4⟩, h5⟩, h6⟩, h7⟩ := h
      cases tg <;> first | (simp [isTuple] at h3; done) | exact g_zip (G.gl h2) (nm _ (by decide)) (S e _ h6) (S _ _ h7) h4 h5
    · cases h
theorem chkIf_ok {X : Cx} {sc : Scope} {W : WX} (S : SoundT X C W D N sc R) : ∀ {es : List E} {xs : List Expr}, chkIf D N sc es xs = true → PTs X xs (gT X.K C W (evTs R es))
  | [], xs, h => by
    cases xs with
    | cons _ _ => simp [chkIf] at h
    | nil => exact g_tests0
  | e :: es, xs, h => by
    unfold chkIf at h
    split at h
    · simp only [Bool.and_eq_true] at h
      exact g_tests1 (S e _ h.2 h.1)
    · cases h
theorem chkKs_nil {sc : Scope} {xs : List (Option Expr)} (h : chkKs D N sc [] xs = true) : xs = [] := by
  cases xs with
  | nil => rfl
  | cons _ _ => simp [chkKs] at h
theorem chkKs_ps {sc : Scope} : ∀ {ks vs : List E} {xs : List (Option Expr)} {ys : List Expr}, chkKs D N sc ks xs = true → chkEs D N sc vs ys = true → ks.length = vs.length → chkPs D N sc ks vs xs ys = true
  | [], [], xs, ys, h1, h2, _ => by
    obtain rfl := chkKs_nil h1
    obtain rfl := chkEs_nil h2
    rfl
  | k :: ks, v :: vs, xs, ys, h1, h2, h3 => by
    obtain ⟨y, ys', rfl⟩ := chkEs_ex h2
    obtain ⟨a, b, c⟩ := chkEs_cons h2
    cases xs with
    | nil => simp [chkKs] at h1
    | cons x xs =>
      cases x with
      | none => simp [chkKs] at h1
      | some x =>
        simp only [chkKs, Bool.and_eq_true] at h1
        simp only [chkPs, Bool.and_eq_true]
        exact ⟨⟨h1.1, b⟩, chkKs_ps h1.2 c (by simpa using h3)⟩
  | [], _ :: _, _, _, _, _, h3 => by simp at h3
  | _ :: _, [], _, _, _, _, h3 => by simp at h3
theorem own_map {t : TV} : (ownOf N t).map (·.2) = slotsT t := by
  unfold ownOf
  rw [List.map_map]
  exact List.map_id _
theorem fs_ok {it : Expr} {env : PySem.Env} (h : fsB it = true) : ∀ y, foldedSetIterable it env y = pure y := by
  intro y
  cases it <;> first | rfl | cases h
theorem step_e (hN : Nms D K mg) (hD : ∀ i fi, D.fns[i]? = some fi → Def P w K mg C k (cl i) fi.ar fi.name) (hR : R.call = cl) (SE : AllE P w K mg k N C D R) (ST : AllT P w K mg k N C D R) : AllE P w K mg k N C D ⟨stepE R, stepS R, cl, F⟩ := by
  intro X sc fs W G e x h
  have S := SE X sc fs W G
  have T := ST X sc fs W G
  have nm : ∀ n, n ∈ bltNames → X.mg n = none := fun n hn => by rw [G.em]; exact hN.blt n hn
  have hu := G.room.units
  have hu2 := G.room.un
  show PE X x (gE X.K C W (stepE R e))
  cases e with
  | bad => exact ⟨fun pins s σ H Q I ⟨μ, ρ, st, hr, he, z⟩ => z.elim⟩
  | var i =>
    unfold chkE at h
    split at h
    · simp only [Bool.and_eq_true, decide_eq_true_eq] at h
      exact g_var (by rw [G.nm]; exact h.1) (G.scr.vis h.2)
    · cases h
  | cst v =>
    unfold chkE at h
    split at h
    · exact g_cst h
    · cases h
  | glob v =>
    unfold chkE at h
    split at h
    · simp only [Bool.and_eq_true] at h
      obtain ⟨u, y, e1, e2, e3⟩ := hN.glb _ _ (glbB_mem h.2)
      exact glob_ok (G.gl h.1) (G.scr.gl h.1).2 (by rw [G.em]; exact e1) e2 (by rw [G.eK]; exact e3)
    · cases h
  | tup es =>
    unfold chkE at h
    split at h
    · exact g_tup (g_args S h)
    · cases h
  | lst l es =>
    unfold chkE at h
    split at h
    · exact g_lst (g_args S h)
    · cases h
  | bin l op a b =>
    unfold chkE at h
    split at h
    · simp only [Bool.and_eq_true, decide_eq_true_eq] at h
      obtain ⟨⟨rfl, h1⟩, h2⟩ := h
      exact g_bin (S a _ h1) (S b _ h2)
    · cases h
  | neg a =>
    unfold chkE at h
    split at h
    · exact g_neg (S a _ h)
    · cases h
  | cmp op a b =>
    unfold chkE at h
    split at h
    · simp only [Bool.and_eq_true, decide_eq_true_eq] at h
      obtain ⟨⟨rfl, h1⟩, h2⟩ := h
      exact g_cmp hu (S a _ h1) (S b _ h2)
    · cases h
  | chain o1 o2 a b c =>
    unfold chkE at h
    split at h
    · simp only [Bool.and_eq_true, decide_eq_true_eq] at h
      obtain ⟨⟨⟨⟨rfl, rfl⟩, h1⟩, h2⟩, h3⟩ := h
      exact g_chain hu (S a _ h1) (S b _ h2) (S c _ h3)
    · cases h
  | is n a v =>
    unfold chkE at h
    split at h
    · simp only [Bool.and_eq_true, decide_eq_true_eq] at h
      obtain ⟨⟨rfl, h1⟩, h2⟩ := h
      exact g_is (S a _ h2) h1
    · cases h
  | mem n a b =>
    unfold chkE at h
    split at h
    · simp only [Bool.and_eq_true, decide_eq_true_eq, beq_iff_eq] at h
      obtain ⟨⟨⟨rfl, h0⟩, h1⟩, h2⟩ := h
      exact g_mem (by omega) (S a _ h1) (S b _ h2) h0
    · cases h
  | and es =>
    unfold chkE at h
    split at h
    · simp only [Bool.and_eq_true] at h
      exact g_and S h.1 (by intro z; rw [z] at h; simp at h)
    · cases h
  | or es =>
    unfold chkE at h
    split at h
    · simp only [Bool.and_eq_true] at h
      exact g_or S h.1 (by intro z; rw [z] at h; simp at h)
    · cases h
  | ifx c a b =>
    unfold chkE at h
    split at h
    · simp only [Bool.and_eq_true] at h
      obtain ⟨⟨⟨h0, h1⟩, h2⟩, h3⟩ := h
      exact g_ifx (T c _ h1 h0) (S a _ h2) (S b _ h3)
    · cases h
  | call f es =>
    unfold chkE at h
    split at h
    · rename_i n p xs pos
      simp only [Bool.and_eq_true] at h
      obtain ⟨⟨h0, h1⟩, h2⟩ := h
      split at h0
      · rename_i fi ef
        obtain rfl := of_decide_eq_true h0
        have dd := hD f fi ef
        rw [← G.eP, ← G.ew, ← G.eK, ← G.em] at dd
        have g := g_args S h2
        have hd := (G.scr.gl h1).2
        show PE X _ (gE X.K C W fun ρ st => (evEs R es ρ st).bind fun vs st => R.call f vs st)
        rw [hR]
        cases es with
        | nil =>
          obtain rfl := chkEs_nil h2
          exact g_call0 (W := W) (p := p) (pos := pos) dd G.quiet G.room G.tk (G.gl h1) hd
        | cons e es =>
          obtain ⟨y, ys, rfl⟩ := chkEs_ex h2
          obtain ⟨s1, s2, s3⟩ := chkEs_cons h2
          exact g_call (W := W) (p := p) (pos := pos) dd G.quiet G.room G.tk (G.gl h1) g hd (star_of s1) (stars_of s3)
      · cases h0
    · cases h
  | bi l b es =>
    unfold chkE at h
    split at h
    · simp only [Bool.and_eq_true, decide_eq_true_eq, Bool.or_eq_true] at h
      obtain ⟨⟨⟨⟨rfl, h1⟩, h2⟩, h3⟩, h4⟩ := h
      obtain ⟨y, ys, rfl⟩ := ex_cons h2 h3
      have g := g_args S h2
      cases es with
      | nil => simp at h3
      | cons e es =>
        obtain ⟨s1, s2, s3⟩ := chkEs_cons h2
        rcases h4 with (h4 | h4) | h4
        · exact g_bi G.calm h4 (G.gl h1) (nm _ (bi_plain h4).1) g (star_of s1) (stars_of s3)
        · obtain ⟨h5, h6⟩ := h4
          cases b <;> first | (cases h6; done) | exact g_biF (cr_gcdP l) (G.gl h1) (by rw [G.em]; exact hN.gcd h5) g (by decide) (star_of s1) (stars_of s3)
        · cases es with
          | cons _ _ => cases b <;> simp at h4
          | nil =>
            obtain rfl := chkEs_nil s3
            cases b <;> first | (cases h4; done) | exact g_repr G.quiet hu (G.gl h1) (nm _ (by decide)) g (star_of s1) | exact g_sorted (G.gl h1) (nm _ (by decide)) g (star_of s1)
    · cases h
  | isi a t =>
    unfold chkE at h
    split at h
    · simp only [Bool.and_eq_true, decide_eq_true_eq] at h
      obtain ⟨⟨⟨⟨⟨rfl, h1⟩, rfl⟩, h2⟩, h3⟩, h4⟩ := h
      exact g_isi (t := t) (G.gl h1) (nm _ (by decide)) (by decide +kernel) (G.gl h2) (nm _ (by cases t <;> decide)) (by cases t <;> decide +kernel) (by cases t <;> decide) (by cases t <;> decide) (S a _ h4) h3
    · cases h
  | idx o i =>
    unfold chkE at h
    split at h
    · simp only [Bool.and_eq_true] at h
      exact g_idxA (by omega) h.1.1 (S o _ h.1.2) (S i _ h.2)
    · cases h
  | slc l o lo hi =>
    unfold chkE at h
    split at h
    · simp only [Bool.and_eq_true] at h
      exact g_slc (S o _ h.1.1) (chkO_ok S h.1.2) (chkO_ok S h.2)
    · cases h
  | not a =>
    unfold chkE at h
    split at h
    · refine (pe_notT (S a _ h)).imp fun σ H Q q => gE.imp ?_ (gE.one q)
      rintro x H1 ⟨μ, st, p, hr, r, z⟩
      cases e : tru st p with
      | none => rw [e] at z; exact z.elim
      | some k => rw [e] at z; exact ⟨k, tru_of hr r e, z.ok hr (.bl _)⟩
    · cases h
  | meth m o es =>
    unfold chkE at h
    split at h
    · simp only [Bool.and_eq_true, decide_eq_true_eq] at h
      obtain ⟨⟨⟨⟨⟨rfl, h1⟩, h2⟩, h3⟩, h4⟩, h5⟩ := h
      have S1 := S o _ h4
      cases es with
      | nil =>
        obtain rfl := chkEs_nil h5
        cases m <;> first | (cases h3; done) | exact g_meth0 (m := .pop) PySem.F.plainAttrs_list PySem.F.slot_list_pop PySem.F.type_list_pop mt_popP rfl S1 h1 h2
      | cons e es =>
        obtain ⟨y, ys, rfl⟩ := chkEs_ex h5
        have hl : decide (ys.length < 20) = true := by
          have := chkEs_len h5
          simp only [List.length_cons] at this h3
          have h6 : es.length ≤ 1 := by
            cases m <;> (simp only [methOk] at h3; try split at h3) <;> first | omega | cases h3
          exact decide_eq_true (by omega)
        cases m <;> first
          | (simp [methOk] at h3; done)
          | exact g_meth (m := .append) PySem.F.plainAttrs_list PySem.F.slot_list_append PySem.F.type_list_append mt_appendP S1 S h5 hl h1 h2
          | exact g_meth (m := .extend) PySem.F.plainAttrs_list PySem.F.slot_list_extend PySem.F.type_list_extend mt_extendP S1 S h5 hl h1 h2
          | exact g_meth (m := .setdefault) PySem.F.plainAttrs_dict PySem.F.slot_dict_setdefault PySem.F.type_dict_setdefault (mt_setdefaultP (by omega)) S1 S h5 hl h1 h2
    · cases h
  | comp l t kk es ifs elt =>
    unfold chkE at h
    split at h
    · rename_i y c scope pos
      obtain ⟨tg, it, conds, z⟩ := c
      simp only [Bool.and_eq_true, decide_eq_true_eq] at h
      obtain ⟨⟨⟨⟨⟨⟨rfl, h1⟩, h2⟩, h3⟩, h4⟩, h5⟩, h6⟩ := h
      refine g_comp (own := ownOf N t) G.calm G.nd (chkI_ok hN G S h1) (BlkOk.of G.scr (by rw [G.nm]; exact blkOk_by h3)) own_map (fun s H A cl fp => ?_) (fun s H A cl fp => ?_) (fun s H A cl fp => ?_) (fs_ok h2)
      · have G' := G.blk s H A cl fp scope
        exact g_tg G'.gt (chkT_of G'.scr h4)
      · exact chkIf_ok (ST _ _ _ _ (G.blk s H A cl fp scope)) h5
      · exact SE _ _ _ _ (G.blk s H A cl fp scope) elt y h6
    · cases h
  | lzip l a b =>
    unfold chkE at h
    split at h
    · simp only [Bool.and_eq_true, decide_eq_true_eq] at h
      obtain ⟨⟨⟨⟨⟨⟨⟨rfl, h1⟩, rfl⟩, h2⟩, h3⟩, h4⟩, h5⟩, h6⟩ := h
      exact g_lzip G.calm (G.gl h1) (nm _ (by decide)) (G.gl h2) (nm _ (by decide)) (S a _ h5) (S b _ h6) h3 h4
    · cases h
  | lrange l a =>
    unfold chkE at h
    split at h
    · simp only [Bool.and_eq_true, decide_eq_true_eq] at h
      obtain ⟨⟨⟨⟨⟨rfl, h1⟩, rfl⟩, h2⟩, h3⟩, h4⟩ := h
      exact g_lrange G.calm (G.gl h1) (nm _ (by decide)) (G.gl h2) (nm _ (by decide)) (S a _ h4) h3
    · cases h
  | dct deep ks vs =>
    unfold chkE at h
    split at h
    · rename_i xs ys pos
      simp only [Bool.and_eq_true, decide_eq_true_eq, beq_iff_eq, Bool.or_eq_true, Bool.not_eq_true'] at h
      obtain ⟨⟨⟨⟨h1, h2⟩, h3⟩, h4⟩, h5⟩ := h
      cases ks with
      | nil =>
        have hv : vs = [] := List.eq_nil_of_length_eq_zero h3.symm
        subst hv
        obtain rfl := chkKs_nil h1
        obtain rfl := chkEs_nil h2
        cases deep with
        | true => exact g_dctC
        | false =>
          refine (g_dct0 (C := C) (W := W)).imp ?_
          rintro σ H Q ⟨μ, ρ, st, hr, he, z⟩
          exact ⟨μ, ρ, st, hr, he, z⟩
      | cons e es =>
        have hd : deep = false := by
          rcases h5 with h5 | h5
          · exact h5
          · simp at h5
        subst hd
        exact g_dct S (chkKs_ps h1 h2 h3) (by simp) (decide_eq_true h4)
    · cases h
  | dcomp t kk es ifs ke ve =>
    unfold chkE at h
    split at h
    · rename_i y1 y2 c scope pos
      obtain ⟨tg, it, conds, z⟩ := c
      simp only [Bool.and_eq_true, decide_eq_true_eq] at h
      obtain ⟨⟨⟨⟨⟨⟨⟨rfl, h1⟩, h2⟩, h3⟩, h4⟩, h5⟩, h6⟩, h7⟩ := h
      refine g_dcomp (own := ownOf N t) G.calm G.nd (chkI_ok hN G S h1) (BlkOk.of G.scr (by rw [G.nm]; exact blkOk_by h3)) own_map (fun s H A cl fp => ?_) (fun s H A cl fp => ?_) (fun s H A cl fp => ?_) (fun s H A cl fp => ?_) (fs_ok h2)
      · have G' := G.blk s H A cl fp scope
        exact g_tg G'.gt (chkT_of G'.scr h4)
      · exact chkIf_ok (ST _ _ _ _ (G.blk s H A cl fp scope)) h5
      · exact SE _ _ _ _ (G.blk s H A cl fp scope) ke y1 h6
      · exact SE _ _ _ _ (G.blk s H A cl fp scope) ve y2 h7
    · cases h
  | zipstar l a =>
    unfold chkE at h
    split at h
    · simp only [Bool.and_eq_true, decide_eq_true_eq] at h
      obtain ⟨⟨⟨⟨rfl, h1⟩, rfl⟩, h2⟩, h3⟩ := h
      exact g_zipstar G.calm (G.gl h1) (nm _ (by decide)) (G.gl h2) (nm _ (by decide)) (S a _ h3)
    · cases h
  | lvals l a =>
    unfold chkE at h
    split at h
    · simp only [Bool.and_eq_true, decide_eq_true_eq] at h
      obtain ⟨⟨⟨⟨⟨rfl, h1⟩, rfl⟩, h2⟩, h3⟩, h4⟩ := h
      exact g_lvals G.calm (G.gl h1) (nm _ (by decide)) (S a _ h4) h2 h3
    · cases h
  | srtset l a =>
    unfold chkE at h
    split at h
    · simp only [Bool.and_eq_true, decide_eq_true_eq] at h
      obtain ⟨⟨⟨⟨⟨rfl, h1⟩, rfl⟩, h2⟩, h3⟩, h4⟩ := h
      exact g_srtset G.calm hu (G.gl h1) (nm _ (by decide)) (G.gl h2) (nm _ (by decide)) (S a _ h4) h3
    · cases h
  | srtcomp l t1 e1 t2 e2 ifs elt =>
    unfold chkE at h
    split at h
    · rename_i n p y c1 c2 scope pos2 pos
      obtain ⟨tg, it, conds, z⟩ := c1
      obtain ⟨tg1, it1, conds1, z1⟩ := c2
      simp only [Bool.and_eq_true, decide_eq_true_eq] at h
      obtain ⟨⟨⟨⟨⟨⟨⟨⟨⟨⟨⟨⟨⟨rfl, h1⟩, rfl⟩, rfl⟩, h4⟩, h5⟩, h6⟩, h7⟩, h8⟩, h9⟩, h10⟩, h11⟩, h12⟩, h13⟩ := h
      obtain rfl : conds = [] := by simpa using h4
      refine g_srtcomp (own := ownOf N (.tup [t1, t2])) G.calm G.nd (G.gl h1) (nm _ (by decide)) (chkI_ok hN G S (show chkI D N sc .it tg [e1] it = true from by simpa [chkI] using h5)) (BlkOk.of G.scr (by rw [G.nm]; exact blkOk_by h8)) own_map (fun s H A cl fp => ?_) (fun s H A cl fp => ?_) (fun s H A cl fp => ?_) (fun s H A cl fp => ?_) (fun s H A cl fp => ?_) (fs_ok h6) (fun env => fs_ok h7)
      · have G' := G.blk s H A cl fp scope
        exact g_tg G'.gt (chkT_of G'.scr h9)
      · exact chkI_ok hN (G.blk s H A cl fp scope) (SE _ _ _ _ (G.blk s H A cl fp scope)) (show chkI D N scope .it tg1 [e2] it1 = true from by simpa [chkI] using h10)
      · have G' := G.blk s H A cl fp scope
        exact g_tg G'.gt (chkT_of G'.scr h11)
      · exact chkIf_ok (ST _ _ _ _ (G.blk s H A cl fp scope)) h12
      · exact SE _ _ _ _ (G.blk s H A cl fp scope) elt y h13
    · cases h
  | lidx o a =>
    unfold chkE at h
    split at h
    · simp only [Bool.and_eq_true, decide_eq_true_eq] at h
      obtain ⟨⟨⟨⟨⟨rfl, h1⟩, h2⟩, h3⟩, h4⟩, h5⟩ := h
      exact g_index (S o _ h4) (S a _ h5) h1 h2 h3
    · cases h
  | two a =>
    unfold chkE at h
    split at h
    · simp only [Bool.and_eq_true, decide_eq_true_eq] at h
      obtain ⟨rfl, h1⟩ := h
      exact g_two (S a _ h1)
    · cases h
  | comp2 l t1 e1 t2 e2 ifs elt =>
    unfold chkE at h
    split at h
    · rename_i y c1 c2 scope pos2
      obtain ⟨tg, it, conds, z⟩ := c1
      obtain ⟨tg1, it1, conds1, z1⟩ := c2
      simp only [Bool.and_eq_true, decide_eq_true_eq] at h
      obtain ⟨⟨⟨⟨⟨⟨⟨⟨⟨⟨⟨rfl, rfl⟩, h4⟩, h5⟩, h6⟩, h7⟩, h8⟩, h9⟩, h10⟩, h11⟩, h12⟩, h13⟩ := h
      obtain rfl : conds = [] := by simpa using h4
      refine g_lc2 (own := ownOf N (.tup [t1, t2])) G.calm G.nd (chkI_ok hN G S (show chkI D N sc .it tg [e1] it = true from by simpa [chkI] using h5)) (BlkOk.of G.scr (by rw [G.nm]; exact blkOk_by h8)) own_map (fun s H A cl fp => ?_) (fun s H A cl fp => ?_) (fun s H A cl fp => ?_) (fun s H A cl fp => ?_) (fun s H A cl fp => ?_) (fs_ok h6) (fun env => fs_ok h7)
      · have G' := G.blk s H A cl fp scope
        exact g_tg G'.gt (chkT_of G'.scr h9)
      · exact chkI_ok hN (G.blk s H A cl fp scope) (SE _ _ _ _ (G.blk s H A cl fp scope)) (show chkI D N scope .it tg1 [e2] it1 = true from by simpa [chkI] using h10)
      · have G' := G.blk s H A cl fp scope
        exact g_tg G'.gt (chkT_of G'.scr h11)
      · exact chkIf_ok (ST _ _ _ _ (G.blk s H A cl fp scope)) h12
      · exact SE _ _ _ _ (G.blk s H A cl fp scope) elt y h13
    · cases h
  | _ => simp [chkE] at h
where
  chkEs_len {D : Dat} {N : List Str} {sc : Scope} : ∀ {es : List E} {xs : List Expr}, chkEs D N sc es xs = true → xs.length = es.length
    | [], xs, h => by rw [chkEs_nil h]; rfl
    | e :: es, xs, h => by
      obtain ⟨y, ys, rfl⟩ := chkEs_ex h
      obtain ⟨_, _, h3⟩ := chkEs_cons h
      simp [chkEs_len h3]
end
end Pi
end
section
set_option Elab.async false
set_option linter.all false
set_option maxRecDepth 100000
set_option maxHeartbeats 4000000
namespace Pi
open PySem PySem.Spec PyProof.Rows L2
section
variable {P : Program} {w : World} {K : PySem.W.Frag} {mg : Str → Option Value} {k : Nat} {N : List Str} {C : Cls} {D : Dat} {R : Ops} {cl : Nat → List PV → Sto → Out PV} {F : Nat}
def plainX : Expr → Bool
  | .Name _ _ => true
  | .Call _ _ _ _ => true
  | .Subscript _ _ _ => true
  | _ => false
theorem plain_test {X : Cx} {W : WX} {e : E} {x : Expr} {R' : Ops} (h : plainX x = true) (p : PE X x (gE X.K C W (R'.e e))) : PT X x (gT X.K C W (evT R' e)) := by
  refine g_test (fun whole => ?_) p
  cases x <;> first | rfl | cases h
theorem step_t (hN : Nms D K mg) (hD : ∀ i fi, D.fns[i]? = some fi → Def P w K mg C k (cl i) fi.ar fi.name) (hR : R.call = cl) (SE : AllE P w K mg k N C D R) (ST : AllT P w K mg k N C D R) : AllT P w K mg k N C D ⟨stepE R, stepS R, cl, F⟩ := by
  intro X sc fs W G e x h ht
  have S := SE X sc fs W G
  have T := ST X sc fs W G
  have hu := G.room.units
  have hu2 := G.room.un
  have V := step_e (F := F) hN hD hR SE ST X sc fs W G e x h
  cases e with
  | bad => exact ⟨fun pins s σ H Q I ⟨μ, ρ, st, hr, he, z⟩ => z.elim⟩
  | cmp op a b =>
    unfold chkE at h
    split at h
    · simp only [Bool.and_eq_true, decide_eq_true_eq] at h
      obtain ⟨⟨rfl, h1⟩, h2⟩ := h
      exact g_cmpT hu (S a _ h1) (S b _ h2)
    · cases h
  | chain o1 o2 a b c =>
    unfold chkE at h
    split at h
    · simp only [Bool.and_eq_true, decide_eq_true_eq] at h
      obtain ⟨⟨⟨⟨rfl, rfl⟩, h1⟩, h2⟩, h3⟩ := h
      exact g_chainT hu (S a _ h1) (S b _ h2) (S c _ h3)
    · cases h
  | is n a v =>
    unfold chkE at h
    split at h
    · simp only [Bool.and_eq_true, decide_eq_true_eq] at h
      obtain ⟨⟨rfl, h1⟩, h2⟩ := h
      exact g_isT (S a _ h2) h1
    · cases h
  | mem n a b =>
    unfold chkE at h
    split at h
    · simp only [Bool.and_eq_true, decide_eq_true_eq, beq_iff_eq] at h
      obtain ⟨⟨⟨rfl, h0⟩, h1⟩, h2⟩ := h
      exact g_memT (by omega) (S a _ h1) (S b _ h2) h0
    · cases h
  | and es =>
    unfold chkE at h
    split at h
    · simp only [Bool.and_eq_true] at h
      exact (g_andT T h.1 (by simpa [tstB] using ht) (by intro z; rw [z] at h; simp at h)).pt
    · cases h
  | or es =>
    unfold chkE at h
    split at h
    · simp only [Bool.and_eq_true] at h
      exact (g_orT T h.1 (by simpa [tstB] using ht) (by intro z; rw [z] at h; simp at h)).pt
    · cases h
  | not a =>
    unfold chkE at h
    split at h
    · exact g_notT (T a _ h (by simpa [tstB] using ht))
    · cases h
  | var i => unfold chkE at h; split at h <;> first | exact plain_test rfl V | cases h
  | glob i => unfold chkE at h; split at h <;> first | exact plain_test rfl V | cases h
  | call f es => unfold chkE at h; split at h <;> first | exact plain_test rfl V | cases h
  | bi l b es => unfold chkE at h; split at h <;> first | exact plain_test rfl V | cases h
  | isi a t => unfold chkE at h; split at h <;> first | exact plain_test rfl V | cases h
  | meth m o es => unfold chkE at h; split at h <;> first | exact plain_test rfl V | cases h
  | idx o i => unfold chkE at h; split at h <;> first | exact plain_test rfl V | cases h
  | slc l o lo hi => unfold chkE at h; split at h <;> first | exact plain_test rfl V | cases h
  | cst v => unfold chkE at h; split at h <;> first | (simp [tstB] at ht; done) | cases h
  | tup es => unfold chkE at h; split at h <;> first | (simp [tstB] at ht; done) | cases h
  | lst l es => unfold chkE at h; split at h <;> first | (simp [tstB] at ht; done) | cases h
  | bin l op a b => unfold chkE at h; split at h <;> first | (simp [tstB] at ht; done) | cases h
  | neg a => unfold chkE at h; split at h <;> first | (simp [tstB] at ht; done) | cases h
  | ifx c a b => unfold chkE at h; split at h <;> first | (simp [tstB] at ht; done) | cases h
  | comp l t kk es ifs elt => unfold chkE at h; split at h <;> first | (simp [tstB] at ht; done) | cases h
  | lzip l a b => unfold chkE at h; split at h <;> first | exact plain_test rfl V | cases h
  | lrange l a => unfold chkE at h; split at h <;> first | exact plain_test rfl V | cases h
  | dct deep ks vs => unfold chkE at h; split at h <;> first | (simp [tstB] at ht; done) | cases h
  | dcomp t kk es ifs ke ve => unfold chkE at h; split at h <;> first | (simp [tstB] at ht; done) | cases h
  | zipstar l a => unfold chkE at h; split at h <;> first | exact plain_test rfl V | cases h
  | lvals l a => unfold chkE at h; split at h <;> first | exact plain_test rfl V | cases h
  | srtset l a => unfold chkE at h; split at h <;> first | exact plain_test rfl V | cases h
  | srtcomp l t1 e1 t2 e2 ifs elt => unfold chkE at h; split at h <;> first | exact plain_test rfl V | cases h
  | lidx o a => unfold chkE at h; split at h <;> first | exact plain_test rfl V | cases h
  | two a => unfold chkE at h; split at h <;> first | exact plain_test rfl V | cases h
  | comp2 l t1 e1 t2 e2 ifs elt => unfold chkE at h; split at h <;> first | (simp [tstB] at ht; done) | cases h
  | _ => simp [chkE] at h
/-- no fuel, no promise -/
theorem zero_e : AllE P w K mg k N C D (opsF F cl 0) := fun X sc fs W G e x h => ⟨fun pins s σ H Q I ⟨μ, ρ, st, hr, he, z⟩ => z.elim⟩
theorem zero_t : AllT P w K mg k N C D (opsF F cl 0) := fun X sc fs W G e x h ht => ⟨fun pins s σ H Q I ⟨μ, ρ, st, hr, he, z⟩ => z.elim⟩
theorem call_cl : ∀ n, (opsF F cl n).call = cl
  | 0 => rfl
  | _ + 1 => rfl
/-- all expressions, all fuels. (The interpreter without fuel calls nothing) -/
theorem sound_et (hN : Nms D K mg) (hD : ∀ i fi, D.fns[i]? = some fi → Def P w K mg C k (cl i) fi.ar fi.name) : ∀ n, AllE P w K mg k N C D (opsF F cl n) ∧ AllT P w K mg k N C D (opsF F cl n)
  | 0 => ⟨zero_e, zero_t⟩
  | n + 1 => by
    obtain ⟨h1, h2⟩ := sound_et hN hD n
    exact ⟨step_e hN hD (call_cl n) h1 h2, step_t hN hD (call_cl n) h1 h2⟩
end
end Pi
end
section
set_option Elab.async false
set_option linter.all false
set_option maxRecDepth 100000
set_option maxHeartbeats 4000000
namespace Pi
open PySem PySem.Spec PyProof.Rows L2
/-! ### which assignments are stored from the right -/
def scF (sc : Scope) : Bool := decide (sc.kind = .function)
def swp2 (sc : Scope) (x y : Str) (px py : Pos) (a b : Expr) : Bool :=
  scF sc && decide (sc.names.lookup x = some .local) && decide (sc.names.lookup y = some .local) && (py.line == px.line) && !(x == y) && notStar a && notStar b && !(foldedForSure 8 a && foldedForSure 8 b) && !(constantsAlone 8 a && constantsAlone 8 b)
def swp3 (sc : Scope) (x y z : Str) (px py pz : Pos) (a b c : Expr) : Bool :=
  scF sc && decide (sc.names.lookup x = some .local) && decide (sc.names.lookup y = some .local) && decide (sc.names.lookup z = some .local) && (py.line == px.line) && (pz.line == px.line) && !(x == y) && !(x == z) && !(y == z) && notStar a && notStar b && notStar c &&
    !(foldedForSure 8 a && foldedForSure 8 b && foldedForSure 8 c) && !(constantsAlone 8 a && constantsAlone 8 b && constantsAlone 8 c)
theorem bk_of {env : PySem.Env} (h : env.scope.kind = .function) : env.blockKind = .function := by
  unfold Env.blockKind
  rw [h]
  rfl
theorem sw_two {env : PySem.Env} {sc : Scope} (hs : env.scope = sc) {x y : Str} {px py pt pt2 : Pos} {a b : Expr} {k k2 : Nat} (h : swp2 sc x y px py a b = true) : swappedStores [.Tuple [.Name x px, .Name y py] k pt] (.Tuple [a, b] k2 pt2) env = pure (some [x, y]) := by
  unfold swp2 scF at h
  simp only [Bool.and_eq_true, decide_eq_true_eq, Bool.not_eq_true'] at h
  obtain ⟨⟨⟨⟨⟨⟨⟨⟨h1, h2⟩, h3⟩, h4⟩, h5⟩, h6⟩, h7⟩, h8⟩, h9⟩ := h
  subst hs
  have hk := bk_of h1
  have e5 : ¬ x = y := by simpa using h5
  have e5' : ¬ y = x := fun z => e5 z.symm
  have hx : env.kindOf x = some NameKind.local := h2
  have hy : env.kindOf y = some NameKind.local := h3
  have h4' : py.line = px.line := by simpa using h4
  unfold swappedStores
  simp [hk, List.filterMap_cons, hx, hy, h4', Expr.pos, List.eraseDups_cons, e5, e5', h8, h9]
  intro q
  exfalso
  rcases q with q | q
  · cases a <;> first | (cases q; done) | cases h6
  · cases b <;> first | (cases q; done) | cases h7
theorem sw_three {env : PySem.Env} {sc : Scope} (hs : env.scope = sc) {x y z : Str} {px py pz pt pt2 : Pos} {a b c : Expr} {k k2 : Nat} (h : swp3 sc x y z px py pz a b c = true) : swappedStores [.Tuple [.Name x px, .Name y py, .Name z pz] k pt] (.Tuple [a, b, c] k2 pt2) env = pure (some [x, y, z]) := by
  unfold swp3 scF at h
  simp only [Bool.and_eq_true, decide_eq_true_eq, Bool.not_eq_true'] at h
  obtain ⟨⟨⟨⟨⟨⟨⟨⟨⟨⟨⟨⟨⟨h1, h2⟩, h3⟩, g3⟩, h4⟩, g4⟩, h5⟩, g5⟩, q5⟩, h6⟩, h7⟩, g7⟩, h8⟩, h9⟩ := h
  subst hs
  have hk := bk_of h1
  have e1 : ¬ x = y := by simpa using h5
  have e1' : ¬ y = x := fun z => e1 z.symm
  have e2 : ¬ x = z := by simpa using g5
  have e2' : ¬ z = x := fun z => e2 z.symm
  have e3 : ¬ y = z := by simpa using q5
  have e3' : ¬ z = y := fun z => e3 z.symm
  have hx : env.kindOf x = some NameKind.local := h2
  have hy : env.kindOf y = some NameKind.local := h3
  have hz : env.kindOf z = some NameKind.local := g3
  have h4' : py.line = px.line := by simpa using h4
  have g4' : pz.line = px.line := by simpa using g4
  unfold swappedStores
  simp [hk, List.filterMap_cons, hx, hy, hz, h4', g4', Expr.pos, List.eraseDups_cons, e1, e1', e2, e2', e3, e3', h8, h9, ← Bool.and_assoc]
  intro q
  exfalso
  rcases q with q | q | q
  · cases a <;> first | (cases q; done) | cases h6
  · cases b <;> first | (cases q; done) | cases h7
  · cases c <;> first | (cases q; done) | cases g7
/-- not stored from the right -/
def nsw (ts : List Expr) (v : Expr) : Bool := match v with
  | .Tuple vs _ _ => vs.all (foldedForSure 8) || (match ts with
    | [.Subscript _ _ _, .Subscript _ _ _] => true
    | _ => false)
  | _ => true
theorem nsw_none {ts : List Expr} {v : Expr} {k : Nat} {pt : Pos} {env : PySem.Env} (h : nsw ts v = true) : swappedStores [.Tuple ts k pt] v env = pure none := by
  unfold nsw at h
  split at h
  · rename_i vs k2 p2
    simp only [Bool.or_eq_true] at h
    rcases h with h | h
    · unfold swappedStores
      simp only [h]
      simp only [if_true, ite_self]
    · split at h
      · unfold swappedStores
        simp [List.filterMap_cons]
      · cases h
  · rename_i hn
    unfold swappedStores
    cases v <;> first | rfl | exact absurd rfl (hn _ _ _)
theorem sws_tup {ts : List Expr} {v : Expr} {k ln : Nat} {pt : Pos} {env : PySem.Env} : swapsWithSole [.Tuple ts k pt] v ln env = pure false := by
  unfold swapsWithSole swapsWith
  cases v <;> rfl
end Pi
end
section
set_option Elab.async false
set_option linter.all false
set_option maxRecDepth 100000
set_option maxHeartbeats 4000000
namespace Pi
open PySem PySem.Spec PyProof.Rows L2
section
variable {X : Cx} {C : Cls} {W : WX} {a b c : Expr} {ev : Env → Sto → Out (List PV)} {pos p p2 : Pos} {D : Dat} {N : List Str} {sc : Scope} {R : Ops}
/-! ### x, y = a, b -/
theorem s_par2 {i j : Nat} {x y : Str} {px py pt pt2 : Pos} {k k2 : Nat} (hc : X.calm = true) (hN : X.N.Nodup) (hi : X.N[i]? = some x) (hj : X.N[j]? = some y) (hij : i ≠ j) (hx : X.env.scope.names.lookup x = some .local) (hy : X.env.scope.names.lookup y = some .local)
    (ha : PA X [a, b] (gA X.K C W ev)) (hw : swappedStores [.Tuple [.Name x px, .Name y py] k pt] (.Tuple [a, b] k2 pt2) X.env = pure (some [x, y])) :
    PS X (.Assign [.Tuple [.Name x px, .Name y py] k pt] (.Tuple [a, b] k2 pt2) pos) (gS X.K C W fun ρ st => (ev ρ st).fl ρ fun vs st => match bindTs [.var i, .var j] vs ρ with
      | some ρ' => .nx ρ' st
      | none => .stuck) := by
  refine (ps_par hc hN hi hj hij hx hy ha hw sws_tup).imp ?_
  rintro D σ H ⟨μ, ρ, st, hr, hE, z⟩
  refine ⟨μ, ρ, st, hr, hE, (fl_of (rel := RVs X.K) hE rfl z).imp ?_⟩
  rintro vs H1 ⟨μ1, ps, st1, e1, hr1, rs, z1⟩
  cases rs with
  | nil => exact z1.elim
  | cons r1 rs =>
    cases rs with
    | nil => exact z1.elim
    | cons r2 rs =>
      cases rs with
      | cons _ _ => exact z1.elim
      | nil => exact ⟨_, _, rfl, z1 H1 μ1 _ .refl hr1 (((hE.ext e1).set r1).set r2) (by simp)⟩
theorem s_par3 {i j l : Nat} {x y z : Str} {px py pz pt pt2 : Pos} {k k2 : Nat} (hc : X.calm = true) (hN : X.N.Nodup) (hi : X.N[i]? = some x) (hj : X.N[j]? = some y) (hl : X.N[l]? = some z) (hij : i ≠ j) (hil : i ≠ l) (hjl : j ≠ l)
    (hx : X.env.scope.names.lookup x = some .local) (hy : X.env.scope.names.lookup y = some .local) (hz : X.env.scope.names.lookup z = some .local)
    (ha : PA X [a, b, c] (gA X.K C W ev)) (hw : swappedStores [.Tuple [.Name x px, .Name y py, .Name z pz] k pt] (.Tuple [a, b, c] k2 pt2) X.env = pure (some [x, y, z])) :
    PS X (.Assign [.Tuple [.Name x px, .Name y py, .Name z pz] k pt] (.Tuple [a, b, c] k2 pt2) pos) (gS X.K C W fun ρ st => (ev ρ st).fl ρ fun vs st => match bindTs [.var i, .var j, .var l] vs ρ with
      | some ρ' => .nx ρ' st
      | none => .stuck) := by
  refine (ps_par3 hc hN hi hj hl hij hil hjl hx hy hz ha hw sws_tup).imp ?_
  rintro D σ H ⟨μ, ρ, st, hr, hE, z⟩
  refine ⟨μ, ρ, st, hr, hE, (fl_of (rel := RVs X.K) hE rfl z).imp ?_⟩
  rintro vs H1 ⟨μ1, ps, st1, e1, hr1, rs, z1⟩
  cases rs with
  | nil => exact z1.elim
  | cons r1 rs =>
    cases rs with
    | nil => exact z1.elim
    | cons r2 rs =>
      cases rs with
      | nil => exact z1.elim
      | cons r3 rs =>
        cases rs with
        | cons _ _ => exact z1.elim
        | nil => exact ⟨_, _, _, rfl, z1 H1 μ1 _ .refl hr1 ((((hE.ext e1).set r1).set r2).set r3) (by simp)⟩
end
/-! ### the checker of statements -/
def noCmp : Expr → Bool
  | .ListComp _ _ _ _ => false
  | .SetComp _ _ _ _ => false
  | .DictComp _ _ _ _ _ => false
  | _ => true
theorem noCmp_sw {v : Expr} {t : Option Expr} {ln : Nat} {env : PySem.Env} (h : noCmp v = true) : swapsWith v t ln env = pure false := by
  unfold swapsWith
  cases v <;> first | rfl | cases h
/-- a name that a comprehension uses is a cell: no swap -/
def cellB (sc : Scope) (n : Str) : Bool := decide (sc.names.lookup n = some .cell)
theorem cell_sw {sc : Scope} {n : Str} {p2 : Pos} {v : Expr} {ln : Nat} {env : PySem.Env} (hs : env.scope = sc) (h : cellB sc n = true) : swapsWith v (some (.Name n p2)) ln env = pure false := by
  subst hs
  have e : env.kindOf n = some .cell := of_decide_eq_true h
  have e2 : (env.kindOf n == some NameKind.local) = false := by rw [e]; rfl
  unfold swapsWith
  cases v <;> first | rfl | (dsimp only; rw [e2, Bool.and_false, Bool.false_and, Bool.false_and]; done)
theorem fm_lt {α β : Type} {f : α → Option β} : ∀ {l : List α}, (∃ x ∈ l, f x = none) → (l.filterMap f).length < l.length
  | [], h => by obtain ⟨x, hx, _⟩ := h; cases hx
  | a :: l, ⟨x, hx, hf⟩ => by
    rcases List.mem_cons.mp hx with rfl | hx
    · rw [List.filterMap_cons, hf]
      exact Nat.lt_succ_of_le (List.length_filterMap_le f l)
    · have ih := fm_lt (f := f) ⟨x, hx, hf⟩
      rw [List.filterMap_cons]
      cases f a with
      | none => exact Nat.lt_succ_of_lt ih
      | some b => exact Nat.succ_lt_succ ih
/-- a name among the targets that is a cell -/
def cellsB (sc : Scope) (ts : List Expr) : Bool := ts.any fun t => match t with
  | .Name n _ => cellB sc n
  | _ => false
theorem cells_none {sc : Scope} {ts : List Expr} {v : Expr} {k : Nat} {pt : Pos} {env : PySem.Env} (hs : env.scope = sc) (h : cellsB sc ts = true) : swappedStores [.Tuple ts k pt] v env = pure none := by
  subst hs
  have lt : ∀ line : Nat, (ts.filterMap fun x => match x with
      | .Name id pos => if env.kindOf id == some .local && pos.line == line then some id else none
      | _ => none).length < ts.length := fun line => fm_lt (by
    obtain ⟨x, hx, q⟩ := List.any_eq_true.mp h
    refine ⟨x, hx, ?_⟩
    cases x with
    | Name n p =>
      have e : env.kindOf n = some .cell := of_decide_eq_true q
      have e2 : (env.kindOf n == some NameKind.local) = false := by rw [e]; rfl
      dsimp only
      rw [e2]
      rfl
    | _ => cases q)
  unfold swappedStores
  cases v with
  | Tuple vs k2 p2 =>
    dsimp only
    have l1 := lt ((ts.head?.map (·.pos.line)).getD 0)
    split
    · rfl
    · split
      · rfl
      · rw [if_pos ?_]
        rw [Bool.or_eq_true]
        left
        simp only [bne_iff_ne, ne_eq]
        exact Nat.ne_of_lt l1
  | _ => rfl
/-- y = [.. for ..] that is made in y's place -/
def lcB (sc : Scope) (n : Str) (p2 : Pos) : Expr → Bool
  | .ListComp _ _ scope pos => scF sc && decide (sc.names.lookup n = some .local) && (p2.line == pos.line) && !(scope.names.any fun y => y.1 == n && (y.2 == NameKind.local || y.2 == NameKind.cell))
  | .DictComp _ _ _ scope pos => scF sc && decide (sc.names.lookup n = some .local) && (p2.line == pos.line) && !(scope.names.any fun y => y.1 == n && (y.2 == NameKind.local || y.2 == NameKind.cell))
  | _ => false
theorem lcB_sw {sc : Scope} {n : Str} {p2 : Pos} {x : Expr} {gs : List Comprehension} {scope : Scope} {pos : Pos} {ln : Nat} {env : PySem.Env} (hs : env.scope = sc) (h : lcB sc n p2 (.ListComp x gs scope pos) = true) : swapsWith (.ListComp x gs scope pos) (some (.Name n p2)) ln env = pure true := by
  unfold lcB scF at h
  simp only [Bool.and_eq_true, decide_eq_true_eq, Bool.not_eq_true'] at h
  obtain ⟨⟨⟨h1, h2⟩, h3⟩, h4⟩ := h
  subst hs
  have hk := bk_of h1
  unfold swapsWith
  show (pure (env.blockKind == .function && env.kindOf n == some .local && p2.line == pos.line && !(scope.names.any fun y => y.1 == n && (y.2 == .local || y.2 == .cell))) : Sem Bool) = pure true
  rw [hk, show env.kindOf n = some .local from h2, h3, h4]
  rfl
theorem lcB_swD {sc : Scope} {n : Str} {p2 : Pos} {x1 x2 : Expr} {gs : List Comprehension} {scope : Scope} {pos : Pos} {ln : Nat} {env : PySem.Env} (hs : env.scope = sc) (h : lcB sc n p2 (.DictComp x1 x2 gs scope pos) = true) : swapsWith (.DictComp x1 x2 gs scope pos) (some (.Name n p2)) ln env = pure true := by
  unfold lcB scF at h
  simp only [Bool.and_eq_true, decide_eq_true_eq, Bool.not_eq_true'] at h
  obtain ⟨⟨⟨h1, h2⟩, h3⟩, h4⟩ := h
  subst hs
  have hk := bk_of h1
  unfold swapsWith
  show (pure (env.blockKind == .function && env.kindOf n == some .local && p2.line == pos.line && !(scope.names.any fun y => y.1 == n && (y.2 == .local || y.2 == .cell))) : Sem Bool) = pure true
  rw [hk, show env.kindOf n = some .local from h2, h3, h4]
  rfl
/-- the class that a name is of -/
def clsB (D : Dat) (c : Nat) (n : Str) : Bool := match D.cls[c]? with
  | some (m, [_]) => decide (n = m)
  | _ => false
mutual
def chkS (D : Dat) (N : List Str) (sc : Scope) : S → Stmt → Bool
  | .bad, _ => true
  | .asg i e, x => match x with
    | .Assign [.Name n p2] v pos => decide (N[i]? = some n) && locB sc sc n && chkE D N sc e v && (noCmp v || lcB sc n p2 v || cellB sc n)
    | _ => false
  | .asgT ts e, x => match x with
    | .Assign [.Tuple es k p2] v pos => chkT N sc sc (.tup ts) (.Tuple es k p2) && chkE D N sc e v && (nsw es v || cellsB sc es)
    | _ => false
  | .par is es, x => match is, x with
    | [i, j], .Assign [.Tuple [.Name n1 p1, .Name n2 p2] k pt] (.Tuple [a, b] k2 pt2) pos => decide (N[i]? = some n1) && decide (N[j]? = some n2) && swp2 sc n1 n2 p1 p2 a b && chkEs D N sc es [a, b]
    | [i, j, l], .Assign [.Tuple [.Name n1 p1, .Name n2 p2, .Name n3 p3] k pt] (.Tuple [a, b, c] k2 pt2) pos => decide (N[i]? = some n1) && decide (N[j]? = some n2) && decide (N[l]? = some n3) && swp3 sc n1 n2 n3 p1 p2 p3 a b c && chkEs D N sc es [a, b, c]
    | _, _ => false
  | .aug i op e, x => match x with
    | .AugAssign (.Name n _) o v _ => decide (N[i]? = some n) && locB sc sc n && augOk op && decide (o = opOf op) && chkE D N sc e v
    | _ => false
  | .sub o i e, x => match x with
    | .Assign [.Subscript y z _] v _ => ixB z && chkE D N sc o y && chkE D N sc i z && chkE D N sc e v
    | _ => false
  | .asubs ts e, x => match ts, x with
    | [(o, i), (o2, i2)], .Assign [.Tuple [.Subscript y z _, .Subscript y2 z2 _] _ _] v _ => ixB z && ixB z2 && chkE D N sc o y && chkE D N sc i z && chkE D N sc o2 y2 && chkE D N sc i2 z2 && chkE D N sc e v
    | _, _ => false
  | .expr e, x => match x with
    | .Expr v _ => noCmp v && chkE D N sc e v
    | _ => false
  | .ite c a b, x => match x with
    | .If t xs ys _ => tstB t && chkE D N sc c t && chkSs D N sc a xs && chkSs D N sc b ys
    | _ => false
  | .loop t k es body, x => match x with
    | .For tg it xs [] _ => chkI D N sc k tg es it && fsB it && chkT N sc sc t tg && chkSs D N sc body xs
    | _ => false
  | .whl c body, x => match x with
    | .While t xs [] _ => tstB t && chkE D N sc c t && chkSs D N sc body xs
    | _ => false
  | .ret e, x => match x with
    | .Return (some v) _ => chkE D N sc e v
    | _ => false
  | .retn, x => match x with
    | .Return none _ => true
    | _ => false
  | .brk, x => match x with
    | .Break _ => true
    | _ => false
  | .cont, x => match x with
    | .Continue _ => true
    | _ => false
  | .pass, x => match x with
    | .Pass _ => true
    | _ => false
  | .raise c es, x => match es, x with
    | [e], .Raise (some (.Call (.Name n _) [y] [] _)) none _ => clsB D c n && glB sc n && notStar y && chkE D N sc e y
    | _, _ => false
  | .tryc body cs nm hd, x => match cs, nm, hd, x with
    | [c], some j, [.asg i _], .Try bs [.ExceptHandler (some (.Name m _)) (some en) [.Assign [.Name n _] (.List [.Attribute (.Name e2 _) f _] _) _] _] [] [] _ =>
      clsB D c m && decide ((D.cls[c]?.map (·.2)) = some [f]) && glB sc m && decide (N[i]? = some n) && decide (N[j]? = some en) && decide (e2 = en) && !(n == en) && decide (sc.names.lookup n = some .local) && decide (sc.names.lookup en = some .local) && !(en == ("__debug__" : Str)) && !(en == ("__classdict__" : Str)) && chkSs D N sc body bs
    | _, _, _, _ => false
def chkSs (D : Dat) (N : List Str) (sc : Scope) : List S → List Stmt → Bool
  | [], xs => match xs with
    | [] => true
    | _ => false
  | s :: ss, xs => match xs with
    | x :: xs => chkS D N sc s x && chkSs D N sc ss xs
    | _ => false
end
theorem chkSs_L {D : Dat} {N : List Str} {sc : Scope} : ∀ {ss : List S} {xs : List Stmt}, chkSs D N sc ss xs = true → chkL (chkS D N sc) ss xs = true
  | [], xs, h => by
    cases xs with
    | nil => rfl
    | cons _ _ => simp [chkSs] at h
  | s :: ss, xs, h => by
    cases xs with
    | nil => simp [chkSs] at h
    | cons x xs =>
      simp only [chkSs, Bool.and_eq_true] at h
      simp only [chkL, Bool.and_eq_true]
      exact ⟨h.1, chkSs_L h.2⟩
section
variable {P : Program} {w : World} {K : PySem.W.Frag} {mg : Str → Option Value} {k : Nat} {N : List Str} {C : Cls} {D : Dat} {R : Ops} {cl : Nat → List PV → Sto → Out PV} {F : Nat}
/-- a def's own frame -/
abbrev FrX (X : Cx) : Prop := X.stack = X.env :: X.outer ∧ X.env.frame = some X.env.locals
abbrev AllS (P : Program) (w : World) (K : PySem.W.Frag) (mg : Str → Option Value) (k : Nat) (N : List Str) (C : Cls) (D : Dat) (R : Ops) : Prop := ∀ X sc W, GQ P w K mg k N X sc sc W → X.env.scope = sc → FrX X → SoundS X C W (chkS D N sc) R
/-- y = [..] -/
def AllLc (P : Program) (w : World) (K : PySem.W.Frag) (mg : Str → Option Value) (k : Nat) (N : List Str) (C : Cls) (D : Dat) (R : Ops) : Prop := ∀ X sc W, GQ P w K mg k N X sc sc W → X.env.scope = sc → ∀ i e n p2 v pos, N[i]? = some n → chkE D N sc e v = true → lcB sc n p2 v = true →
  PS X (.Assign [.Name n p2] v pos) (gS X.K C W fun ρ st => (R.e e ρ st).fl ρ fun v st => .nx (setN ρ i (some v)) st)
theorem zero_lc : AllLc P w K mg k N C D (opsF F cl 0) := fun X sc W G hs i e n p2 v pos hi h hl => ⟨fun pins s σ H D I ⟨μ, ρ, st, hr, he, z⟩ => z.elim⟩
theorem step_lc (hN : Nms D K mg) (SE : AllE P w K mg k N C D R) (ST : AllT P w K mg k N C D R) : AllLc P w K mg k N C D ⟨stepE R, stepS R, cl, F⟩ := by
  intro X sc W G hs i e n p2 v pos hi h hl
  have S := SE X sc sc W G
  have hl2 : X.env.scope.names.lookup n = some .local := by
    unfold lcB at hl
    split at hl
    · simp only [Bool.and_eq_true, decide_eq_true_eq] at hl
      rw [hs]
      exact hl.1.1.2
    · simp only [Bool.and_eq_true, decide_eq_true_eq] at hl
      rw [hs]
      exact hl.1.1.2
    · cases hl
  cases e with
  | bad => exact ⟨fun pins s σ H D I ⟨μ, ρ, st, hr, he, z⟩ => z.elim⟩
  | comp l t kk es ifs elt =>
    unfold chkE at h
    split at h
    · rename_i y' c scope pos'
      obtain ⟨tg, it, conds, z⟩ := c
      simp only [Bool.and_eq_true, decide_eq_true_eq] at h
      obtain ⟨⟨⟨⟨⟨⟨rfl, h1⟩, h2⟩, h3⟩, h4⟩, h5⟩, h6⟩ := h
      refine s_setLc (own := ownOf N t) G.calm G.nd (by rw [G.nm]; exact hi) hl2 (lcB_sw hs hl) (chkI_ok hN G S h1) (BlkOk.of G.scr (by rw [G.nm]; exact blkOk_by h3)) own_map (fun s H A cl fp => ?_) (fun s H A cl fp => ?_) (fun s H A cl fp => ?_) (fs_ok h2)
      · have G' := G.blk s H A cl fp scope
        exact g_tg G'.gt (chkT_of G'.scr h4)
      · exact chkIf_ok (ST _ _ _ _ (G.blk s H A cl fp scope)) h5
      · exact SE _ _ _ _ (G.blk s H A cl fp scope) elt y' h6
    · cases h
  | comp2 l t1 e1 t2 e2 ifs elt =>
    unfold chkE at h
    split at h
    · rename_i y' c1 c2 scope pos2
      obtain ⟨tg, it, conds, z⟩ := c1
      obtain ⟨tg1, it1, conds1, z1⟩ := c2
      simp only [Bool.and_eq_true, decide_eq_true_eq] at h
      obtain ⟨⟨⟨⟨⟨⟨⟨⟨⟨⟨⟨rfl, rfl⟩, h4⟩, h5⟩, h6⟩, h7⟩, h8⟩, h9⟩, h10⟩, h11⟩, h12⟩, h13⟩ := h
      obtain rfl : conds = [] := by simpa using h4
      refine s_setLc2 (own := ownOf N (.tup [t1, t2])) G.calm G.nd (by rw [G.nm]; exact hi) hl2 (lcB_sw hs hl) (chkI_ok hN G S (show chkI D N sc .it tg [e1] it = true from by simpa [chkI] using h5)) (BlkOk.of G.scr (by rw [G.nm]; exact blkOk_by h8)) own_map (fun s H A cl fp => ?_) (fun s H A cl fp => ?_) (fun s H A cl fp => ?_) (fun s H A cl fp => ?_) (fun s H A cl fp => ?_) (fs_ok h6) (fun env => fs_ok h7)
      · have G' := G.blk s H A cl fp scope
        exact g_tg G'.gt (chkT_of G'.scr h9)
      · exact chkI_ok hN (G.blk s H A cl fp scope) (SE _ _ _ _ (G.blk s H A cl fp scope)) (show chkI D N scope .it tg1 [e2] it1 = true from by simpa [chkI] using h10)
      · have G' := G.blk s H A cl fp scope
        exact g_tg G'.gt (chkT_of G'.scr h11)
      · exact chkIf_ok (ST _ _ _ _ (G.blk s H A cl fp scope)) h12
      · exact SE _ _ _ _ (G.blk s H A cl fp scope) elt y' h13
    · cases h
  | dcomp t kk es ifs ke ve =>
    unfold chkE at h
    split at h
    · rename_i y1 y2 c scope pos'
      obtain ⟨tg, it, conds, z⟩ := c
      simp only [Bool.and_eq_true, decide_eq_true_eq] at h
      obtain ⟨⟨⟨⟨⟨⟨⟨rfl, h1⟩, h2⟩, h3⟩, h4⟩, h5⟩, h6⟩, h7⟩ := h
      refine s_setDc (own := ownOf N t) G.calm G.nd (by rw [G.nm]; exact hi) hl2 (lcB_swD hs hl) (chkI_ok hN G S h1) (BlkOk.of G.scr (by rw [G.nm]; exact blkOk_by h3)) own_map (fun s H A cl fp => ?_) (fun s H A cl fp => ?_) (fun s H A cl fp => ?_) (fun s H A cl fp => ?_) (fs_ok h2)
      · have G' := G.blk s H A cl fp scope
        exact g_tg G'.gt (chkT_of G'.scr h4)
      · exact chkIf_ok (ST _ _ _ _ (G.blk s H A cl fp scope)) h5
      · exact SE _ _ _ _ (G.blk s H A cl fp scope) ke y1 h6
      · exact SE _ _ _ _ (G.blk s H A cl fp scope) ve y2 h7
    · cases h
  | var i => unfold chkE at h; split at h <;> first | (cases hl; done) | cases h
  | cst i => unfold chkE at h; split at h <;> first | (cases hl; done) | cases h
  | glob i => unfold chkE at h; split at h <;> first | (cases hl; done) | cases h
  | tup es => unfold chkE at h; split at h <;> first | (cases hl; done) | cases h
  | lst l es => unfold chkE at h; split at h <;> first | (cases hl; done) | cases h
  | bin l op a b => unfold chkE at h; split at h <;> first | (cases hl; done) | cases h
  | neg a => unfold chkE at h; split at h <;> first | (cases hl; done) | cases h
  | cmp op a b => unfold chkE at h; split at h <;> first | (cases hl; done) | cases h
  | chain o1 o2 a b c => unfold chkE at h; split at h <;> first | (cases hl; done) | cases h
  | is n a v => unfold chkE at h; split at h <;> first | (cases hl; done) | cases h
  | mem n a b => unfold chkE at h; split at h <;> first | (cases hl; done) | cases h
  | and es => unfold chkE at h; split at h <;> first | (cases hl; done) | cases h
  | or es => unfold chkE at h; split at h <;> first | (cases hl; done) | cases h
  | not a => unfold chkE at h; split at h <;> first | (cases hl; done) | cases h
  | ifx c a b => unfold chkE at h; split at h <;> first | (cases hl; done) | cases h
  | call f es => unfold chkE at h; split at h <;> first | (cases hl; done) | cases h
  | bi l b es => unfold chkE at h; split at h <;> first | (cases hl; done) | cases h
  | isi a t => unfold chkE at h; split at h <;> first | (cases hl; done) | cases h
  | meth m o es => unfold chkE at h; split at h <;> first | (cases hl; done) | cases h
  | idx o i => unfold chkE at h; split at h <;> first | (cases hl; done) | cases h
  | slc l o lo hi => unfold chkE at h; split at h <;> first | (cases hl; done) | cases h
  | lzip l a b => unfold chkE at h; split at h <;> first | (cases hl; done) | cases h
  | lrange l a => unfold chkE at h; split at h <;> first | (cases hl; done) | cases h
  | zipstar l a => unfold chkE at h; split at h <;> first | (cases hl; done) | cases h
  | lvals l a => unfold chkE at h; split at h <;> first | (cases hl; done) | cases h
  | srtset l a => unfold chkE at h; split at h <;> first | (cases hl; done) | cases h
  | srtcomp l t1 e1 t2 e2 ifs elt => unfold chkE at h; split at h <;> first | (cases hl; done) | cases h
  | dct deep ks vs => unfold chkE at h; split at h <;> first | (cases hl; done) | cases h
  | lidx o a => unfold chkE at h; split at h <;> first | (cases hl; done) | cases h
  | two a => unfold chkE at h; split at h <;> first | (cases hl; done) | cases h
  | _ => simp [chkE] at h
end
end Pi
end
section
set_option Elab.async false
set_option linter.all false
set_option maxRecDepth 100000
set_option maxHeartbeats 4000000
/-! exceptions of own classes as values: made by their own __init__, their fields, isinstance -/
namespace Own
open PySem PySem.Spec PyProof.Rows L2

/-- an exception of the class at C stands at a, its fields are fs -/
def XAt (H : Hp) (a C : Addr) (fs : List (Str × V)) : Prop := ∃ d, H a = some (exo a C (some d)) ∧ H d = some (exd d fs)
theorem XAt.same {H H' : Hp} {a C : Addr} {fs : List (Str × V)} (s : Same H H') (x : XAt H a C fs) : XAt H' a C fs := by
  obtain ⟨d, h1, h2⟩ := x
  exact ⟨d, s _ _ h1, s _ _ h2⟩
/-- an exception without a dict of its own -/
def X0At (H : Hp) (a C : Addr) : Prop := H a = some (exo a C none)

/-- what is asked of an own exception's class, beside OexC -/
structure XC (K : PySem.W.Frag) (C : Addr) : Prop where
  o : OexC K C
  e : ExcC K C

section
variable {prog : Program} {w : World} {A : Around} {E : Value → Shared → Prop} {s : Shared} {K : PySem.W.Frag} {x D : Addr} {ox : Obj} {od : Option Obj}
theorem find_cls (C : ExcC K D) : PySem.W.findObj K D od "__class__" = some (.bind (.builtin "getset_descriptor.__get__") (.builtin "object.__class__")) := by
  have hc : (PySem.W.clsIn K D).isSome = true := by
    obtain ⟨cd, h, _⟩ := PySem.W.any_some C.hd
    rw [h]
    rfl
  cases od with
  | none => exact PySem.W.findObj_dataN hc C.ha C.hn C.ht
  | some o => exact PySem.W.findObj_data hc C.ha C.hn C.ht
/-- x.__class__, as isinstance asks it -/
theorem cls_of {Q : Option Value → Shared → Prop} (C : ExcC K D) (X : K.In s.heap) (I : PySem.W.InstAt s.heap x ox D od) (h : Q (some (.ref D)) { s with toks := s.toks + 1 }) :
    wpAny (model prog w) A (getAttr? (.ref x) "__class__") Q E s := by
  have hf := find_cls (od := od) C
  obtain ⟨hp, g, d, t, os⟩ := s
  have T0 := I.type (M := model prog w)
  have T1 := PySem.W.looks_findIn (M := model prog w) X C.hg
  have T2 := PySem.W.looks_findIn (M := model prog w) X C.hk
  have T3 := PySem.W.looks_find (M := model prog w) X I hf
  have up : PySem.W.Looks (model prog w) hp (isInstance (.ref x) (.type "BaseException")) true := T0.andThen (PySem.W.looks_subIn X C.hs)
  have n2 : (Value.builtin "BaseException.__getattribute__" == Value.builtin "object.__getattribute__") = false := by decide +kernel
  have n1 : (onTheHeap (Value.ref D) && Value.builtin "BaseException.__getattribute__" == Value.builtin "object.__getattribute__") = false := by rw [n2]; rfl
  have n0 : (false && onTheHeap (Value.builtin "BaseException.__getattribute__")) = false := rfl
  unfold getAttr? getAttrBy? getAttrBy
  refine wpAny_bind (wpAny_mkText (wpAny_bind (wpAny_attempt (wpAny_holding (wpAny_bind (T0.at (wpAny_bind (T1.at ?_))))))))
  show wpAny _ _ (if (onTheHeap (Value.ref D) && Value.builtin "BaseException.__getattribute__" == Value.builtin "object.__getattribute__") = true then _ else _) _ _ _
  rw [n1, if_neg Bool.false_ne_true]
  unfold getAttrByItsOwn hookBefore
  refine wpAny_bind ?_
  rw [if_pos (show onTheHeap (Value.ref D) = true from rfl)]
  refine T2.at ?_
  refine wpAny_bind (wpAny_attempt (wpAny_holding ?_))
  unfold callGetattribute
  rw [n0, if_neg Bool.false_ne_true]
  unfold boundAndCalled
  rw [PySem.F.excAttr_ValueError.ga.bind (.ref x)]
  refine wpAny_bind (wpAny_pure ?_)
  show wpAny _ _ (call (.builtin "BaseException.__getattribute__") [.ref x, .str "__class__" t]) _ _ _
  refine wpAny_call (codeAny_call_builtin PySem.F.excAttr_ValueError.ga.plain PySem.F.entry_bexc_ga ?_)
  refine @PySem.W.check_slot (model prog w) _ _ ⟨hp, g, d, t + 1, os⟩ "BaseException.__getattribute__" "BaseException" "__getattribute__" (.ref x) [.str "__class__" t] [] _ (by decide +kernel) (by decide +kernel) up (PySem.F.args_bexc_ga (.ref x) (.str "__class__" t)) ?_
  unfold Builtin.«object.__getattribute__»
  refine wpAny_bind (wpAny_of_eq (a := ((Value.ref x : Value), [Value.str "__class__" t])) (by first | rfl | (simp only [slotArgs]; rfl)) ?_)
  refine wpAny_bind (wpAny_pure (wpAny_bind (T0.at (wpAny_bind (T3.at ?_)))))
  show wpAny _ _ (holding [Value.builtin "object.__class__"] (call (.builtin "getset_descriptor.__get__") [.builtin "object.__class__", .ref x, .ref D]) >>= ret) _ _ _
  refine wpAny_bind (wpAny_holding (wpAny_call (PySem.W.class_get (s := ⟨hp, g, d, t + 1, os⟩) (ox := ox) (od := od) X I C.hm ?_)))
  refine wpAny_pure ?_
  show wpAny _ _ (handedOut (.ref D)) _ _ _
  rw [PySem.W.handedOut_of (v := .ref D) rfl]
  first
    | exact wpAny_pure (wpAny_pure h)
    | exact wpAny_pure h
    | exact wpAny_pure (wpAny_bind (wpAny_pure (wpAny_pure h)))
theorem kitx_x (C : ExcC K D) : PySem.W.KitX K (.ref x) (.ref D) (fun h => PySem.W.InstAt h x ox D od) := by
  obtain ⟨cd, hcd, _⟩ := PySem.W.any_some C.hd
  have old := PySem.W.handS_kitx_exc (x := x) (ox := ox) C.hg C.hk C.hs C.hd C.ha C.hn C.ht C.hm
  have it : ∀ (M : Model) (h : Heap), K.In h → PySem.W.Looks M h (isType (.ref D)) true := by
    intro M h X
    unfold PySem.W.clsIn at hcd
    split at hcd
    · rename_i c' d' cd' sl' ho
      intro A' Q' E' s' k q
      unfold isType loadHead
      exact wpAny_bind (wpAny_loadPart (k _ _ (X _ _ ho)) (wpAny_pure q))
    · cases hcd
  exact ⟨fun _ _ _ I => I.type, fun M h X _ => it M h X, old.ne, fun X I k => cls_of C X I k⟩
end

section
variable {X : Cx} {pins : List (Addr × Obj)} {σ : L2.St} {H : Hp} {s : Shared} {a C : Addr}
theorem inst_x {fs : List (Str × V)} (I : Inv X pins σ H s) (h : XAt H a C fs) : ∃ ox od, PySem.W.InstAt s.heap a ox C (some od) ∧ ∃ mA : Str → Option Value, (∀ name, PySem.W.lookIn name od = some (mA name)) ∧ ∀ f, RelO (fs.lookup f) (mA f) := by
  obtain ⟨d, h1, h2⟩ := h
  obtain ⟨t, ho⟩ := exo_at I.hok h1
  obtain ⟨mA, hn, hr⟩ := exd_at I.hok h2
  obtain ⟨od, hd, hl⟩ := lookIn_ns hn
  exact ⟨_, od, ⟨ho, rfl, rfl, hd⟩, mA, hl, hr⟩
theorem inst_x0 (I : Inv X pins σ H s) (h : X0At H a C) : ∃ ox, PySem.W.InstAt s.heap a ox C none := by
  obtain ⟨t, ho⟩ := exo_at I.hok h
  exact ⟨_, ⟨ho, rfl, rfl, trivial⟩⟩
end
/-- isinstance(x, c), x such an exception -/
def rIsX (K : PySem.W.Frag) : List V → Hp → VK → Prop := fun xs H Q => ∃ (a C : Addr) (c : V) (u : Value) (b : Bool), xs = [.ref a, c] ∧ ((∃ fs, XAt H a C fs) ∨ X0At H a C) ∧ ExcC K C ∧ ClsV c u ∧ PySem.W.kitOne K (.ref C) u = some b ∧ Q (.bl b) H
theorem call_isX {X : Cx} : CallR X (.builtin "isinstance") (rIsX X.K) := by
  intro pins s σ H xs us Q I r h
  obtain ⟨a, C, c, u, b, rfl, hx, hC, k, e, q⟩ := h
  obtain ⟨u1, u2, rfl, r1, r2⟩ := vals2 r
  have e2 := k.eq r2
  subst e2
  cases (show u1 = Value.ref a from r1)
  rcases hx with ⟨fs, hx⟩ | hx
  · obtain ⟨ox, od, J, _⟩ := inst_x I hx
    exact PySem.W.kia_one (kitx_x hC) I.kIn J e (fun z => nomatch z) fun tk => ⟨.bl b, H, I.tok tk, rfl, q⟩
  · obtain ⟨ox, J⟩ := inst_x0 I hx
    exact PySem.W.kia_one (kitx_x hC) I.kIn J e (fun z => nomatch z) fun tk => ⟨.bl b, H, I.tok tk, rfl, q⟩
/-- x.f -/
def tXf (K : PySem.W.Frag) (te : TE) (f : Str) : TE := fun σ H Q => te σ H fun x H1 => ∃ (a C : Addr) (fs : List (Str × V)) (v : V), x = .ref a ∧ XAt H1 a C fs ∧ ExcC K C ∧ PySem.W.findIn K (.ref C) f = some none ∧ fs.lookup f = some v ∧ Q v H1
theorem pe_xf {X : Cx} {e : Expr} {te : TE} {f : Str} {pos : Pos} (he : PE X e te) (hb : attributeBase e f X.env (eval e X.env) = eval e X.env := by rfl) : PE X (.Attribute e f pos) (tXf X.K te f) := by
  constructor
  intro pins s σ H Q I h
  refine attr_of hb (thn (he.run pins s σ H _ I h) fun u s1 ⟨x, H1, I1, rx, a, C, fs, v, ex, hx, hC, hno, hl, q⟩ => ?_)
  subst ex
  cases (show u = Value.ref a from rx)
  obtain ⟨ox, od, J, mA, hm, hr⟩ := inst_x I1 hx
  obtain ⟨u, hu, ru⟩ := RelO.some_of (v := v) (o := mA f) (by rw [← hl]; exact hr f)
  exact HandSPX.exc_get I1.kIn J hC.hg hC.hk hC.hs (PySem.W.findObj_own hC.hd hno rfl (by rw [hm, hu])) (handed_of ru) ⟨v, H1, I1.tok _, ru, q⟩
end Own
end
section
set_option Elab.async false
set_option linter.all false
set_option maxRecDepth 100000
set_option maxHeartbeats 4000000
/-! an own exception class called with keywords -/
namespace Own
open PySem PySem.Spec HandSPX
open Builtin Builtin.ObjectAttr
section
variable {M : Model} {A : Around} {E : Value → Shared → Prop} {h : Heap} {g : Array GenState} {d : Drawn} {t : Nat} {os : OsState}
variable {nm q : Str} {C N : Addr} {bs bm bmB : List Value} {hdct : Bool} {sn : List Str} {sub : List Value} {ab : Bool} {col : Option Bool} {dd : Option Addr} {k0 k1 k2 k3 k5 : Option Value} {B newId initId : String}
theorem check_newK (F : ExcBaseFacts B newId initId bmB) (hT : ∀ X : String, bm.contains (.type X) = bmB.contains (.type X)) {rest : List Value} {kw : List (Str × Value)} {Q : Unit → Shared → Prop}
    (hC : h.get? C = some (excClassObj nm q C N bs bm hdct sn sub ab col dd k0 k1 k2 k3 k5 newId)) (hq : Q () ⟨h, g, d, t, os⟩) : wpAny M A (checkBuiltinCall newId ⟨.ref C :: rest, kw⟩) Q E ⟨h, g, d, t, os⟩ := by
  have c1 : (Value.ref C :: bm).contains (.type B) = true := by rw [List.contains_cons, hT, F.hasB, Bool.or_true]
  have c2 := F.noStar
  simp only [checkBuiltinCall, F.newKind, F.newSplit, F.newRow]
  repeat (first | refine wpAny_loadPart_at hC ?_ | (refine wpAny_isSubtype_exc hC ?_; rw [c1]) | refine wpAny_staticBase_exc hC ?_ | refine wpAny_madeBy_exc hC ?_ | simp only [bne_self_eq_false, Bool.false_eq_true, if_false] | wp_step)
  exact hq
end
section
variable {prog : Program} {w : World} {A : Around} {E : Value → Shared → Prop} {R : Result → Shared → Prop} {h : Heap} {g : Array GenState} {d : Drawn} {t : Nat} {os : OsState}
variable {nm q : Str} {C N : Addr} {bs bm bmB : List Value} {hdct : Bool} {sn : List Str} {sub : List Value} {ab : Bool} {col : Option Bool} {dd : Option Addr} {k0 k1 k2 k3 k5 : Option Value} {B newId initId : String}
theorem newK (F : ExcBaseFacts B newId initId bmB) (hT : ∀ X : String, bm.contains (.type X) = bmB.contains (.type X)) {rest : List Value} {kw : List (Str × Value)}
    (hC : h.get? C = some (excClassObj nm q C N bs bm hdct sn sub ab col dd k0 k1 k2 k3 k5 newId))
    (hq : R (.ok (.ret (.ref (h.objs.size + 1)))) ⟨(h.push (W.kdv_tup rest)).push (excO C h.objs.size), g, d, t, os⟩) (hrest : rest.length ≤ sizeLine) :
    codeAny (model prog w) A (.builtin newId ⟨.ref C :: rest, kw⟩) R ⟨h, g, d, t, os⟩ := by
  have c0 := F.ends
  have c1 : (Value.ref C :: bm).contains (.type B) = true := by rw [List.contains_cons, hT, F.hasB, Bool.or_true]
  have c2 : (Value.ref C :: bm).contains (.type "AttributeError") = false := by rw [List.contains_cons, hT, F.noAttr]; rfl
  have c3 : (Value.ref C :: bm).contains (.type "NameError") = false := by rw [List.contains_cons, hT, F.noName]; rfl
  refine codeAny_builtinAt F.entry ?_
  unfold Builtin.«BaseException.__new__»
  refine PySem.wpAt_bind ?_
  show PySem.wpAt _ _ _ (stack >>= _) _ _ _
  refine PySem.wpAt_bind (wpAt_stack fun p below => wpAt_of_wpAny ?_)
  wp_walk
  refine wpAt_of_wpAny ?_
  rw [F.owner]
  repeat (first | with_reducible refine wpAny_madeHere_exc F.canon hC ?_ | with_reducible refine wpAny_loadPart_at hC ?_ | (with_reducible refine wpAny_isSubtype_exc hC ?_; first | rw [c1] | rw [c2] | rw [c3]) | wp_step)
  show R _ _
  rw [Heap.size_push]
  exact hq
theorem typeCallK (F : ExcBaseFacts B newId initId bmB) (hT : ∀ X : String, bm.contains (.type X) = bmB.contains (.type X)) {rest : List Value} {kw : List (Str × Value)} {fI : Addr} {Q : Fin → Shared → Prop}
    (hC : h.get? C = some (excClassObj nm q C N bs bm hdct sn sub ab col dd k0 k1 k2 k3 k5 newId))
    (hi : W.Looks (model prog w) h (typeLookup (.ref C) "__init__") (some (.ref fI))) (hb : ∀ self, W.Looks (model prog w) h (bindSpecial (.ref fI) self) (.ref fI, [self])) (hrest : rest.length ≤ sizeLine)
    (hq : codeAny (model prog w) A (.call (.ref fI) ⟨.ref (h.objs.size + 1) :: rest, kw⟩)
      (fun r s' => match r with | .ok (.ret v) => v = .none ∧ Q (.done (.ret (.ref (h.objs.size + 1)))) s' | .ok _ => False | .error e => E e s')
      ⟨(h.push (W.kdv_tup rest)).push (excO C h.objs.size), g, d, t, os⟩) :
    wpAny (model prog w) A (Builtin.«type.__call__» ⟨.ref C :: rest, kw⟩) Q E ⟨h, g, d, t, os⟩ := by
  repeat (first | with_reducible refine wpAny_loadPart_at hC ?_ | with_reducible refine wpAny_madeBy_exc hC ?_ | wp_step)
  refine codeAny_call_builtin_code (Code.quiet_builtin _ F.quiet) (check_newK F hT hC ?_)
  refine newK F hT hC ?_ hrest
  show wpAny _ _ _ _ _ _
  have k : ∀ b o, h.get? b = some o → ((h.push (W.kdv_tup rest)).push (excO C h.objs.size)).get? b = some o := fun b o e => Heap.get?_push_of_some _ (Heap.get?_push_of_some _ e)
  have hC1 := k _ _ hC
  have hx : ((h.push (W.kdv_tup rest)).push (excO C h.objs.size)).get? (h.objs.size + 1) = some (excO C h.objs.size) := by heap_get
  have hcC : (Value.ref C :: bm).contains (.ref C) = true := by simp
  have i1 := hi.keeps k
  have b1 := (hb (.ref (h.objs.size + 1))).keeps k
  unfold isInstance
  repeat (first | with_reducible refine wpAny_loadPart_at hx ?_ | (with_reducible refine wpAny_isSubtype_exc hC1 ?_; rw [hcC]) | wp_step)
  show wpAny _ _ (typeLookup (.ref C) _) _ _ _
  refine i1.at ?_
  refine wpAny_holding (wpAny_bind (b1.at ?_))
  refine wpAny_bind (wpAny_call (codeAny_mono hq fun r s' z => ?_))
  rcases r with e | (v | _ | _ | _) <;> first | exact z | exact z.elim | skip
  obtain ⟨rfl, z⟩ := z
  first
    | exact wpAny_pure (wpAny_pure z)
    | (wp_walk; exact z)
theorem callK (F : ExcBaseFacts B newId initId bmB) (hT : ∀ X : String, bm.contains (.type X) = bmB.contains (.type X)) {rest : List Value} {kw : List (Str × Value)} {fI : Addr}
    (hC : h.get? C = some (excClassObj nm q C N bs bm hdct sn sub ab col dd k0 k1 k2 k3 k5 newId))
    (hi : W.Looks (model prog w) h (typeLookup (.ref C) "__init__") (some (.ref fI))) (hb : ∀ self, W.Looks (model prog w) h (bindSpecial (.ref fI) self) (.ref fI, [self])) (hrest : rest.length ≤ sizeLine) (hty : W.Looks (model prog w) h (isInstance (.ref C) (.type "type")) true)
    (hq : codeAny (model prog w) (A.under (.builtin "type.__call__" ⟨.ref C :: rest, kw⟩)) (.call (.ref fI) ⟨.ref (h.objs.size + 1) :: rest, kw⟩) (W.InitBack (h.objs.size + 1) R)
      ⟨(h.push (W.kdv_tup rest)).push (excO C h.objs.size), g, d, t, os⟩) :
    codeAny (model prog w) A (.call (.ref C) ⟨rest, kw⟩) R ⟨h, g, d, t, os⟩ := by
  have f1 := tc_lookup
  have f2 := tc_bind (.ref C)
  have hTy : (⟨h, g, d, t, os⟩ : Shared).TypeIs (.ref C) "type" := ⟨_, hC, rfl⟩
  refine codeAny_of_tree ?_
  show wpAny _ _ (callAny (.ref C) _) _ _ _
  repeat (any_goals (first | assumption | with_reducible refine wpAny_loadPart_at hC ?_ | wp_step))
  refine ⟨rfl, ?_⟩
  refine codeAny_call_builtin_at (Code.quiet_builtin _ (by decide +kernel)) entry_typeCall ?_
  refine W.check_slot (s := ⟨h, g, d, t, os⟩) tc_kind tc_split hty (W.tc_args _ _ _) ?_
  refine typeCallK F hT hC hi hb hrest ?_
  refine codeAny_mono hq fun r s' z => ?_
  rcases r with e | (v | _ | _ | _) <;> exact z
end
end Own
end
section
set_option Elab.async false
set_option linter.all false
set_option maxRecDepth 100000
set_option maxHeartbeats 4000000
namespace Own
open PySem PySem.Spec PyProof.Rows L2

/-- the class at C, its __init__ at fI -/
structure XM (K : PySem.W.Frag) (C fI : Addr) : Prop extends XC K C where
  ini : PySem.W.findIn K (.ref C) "__init__" = some (some (.ref fI))
  tyI : PySem.W.typeIn K (.ref fI) = some (.type "function")
theorem looks_inst {K : PySem.W.Frag} {M : Model} {h : Heap} {C : Addr} (X : K.In h) (e : PySem.W.typeIn K (.ref C) = some (.type "type")) : PySem.W.Looks M h (isInstance (.ref C) (.type "type")) true :=
  (PySem.W.looks_typeIn X e).andThen (PySem.W.Looks.of_pure (by kernel_rfl))
/-- an exception that is made and kept: from the arguments' values; kw by names -/
def rMkX (C : Addr) (sp : Sp) (args : List V) (H : Hp) (Q : VK) : Prop := ∀ a, H a = none → sp (.ref a :: args) (upd H a (exo a C none)) (fun v H2 => v = .non ∧ Q (.ref a) H2) E0
section
variable {X : Cx} {k : Nat} {f C fI : Addr} {fd : FuncData} {ps : List Str} {sp : Sp} {x : Str} {p pos : Pos} {e : Expr} {es : List Expr} {t tk : TA}
theorem run_mkx {pins : List (Addr × Obj)} {σ : L2.St} {H : Hp} {s : Shared} {Q : VK} {us : List Value} {kw : List (Str × Value)} {vs : List V} {ws : List Value} (T : XM X.K C fI)
    (G : FnOk X.prog X.w X.K X.mg X.base CX0 k fI fd ps sp) (hr : Room (k + 1) X.A) (I : Inv X pins σ H s) (hl : us.length ≤ sizeLine) (r : Vals vs ws)
    (hb : ∀ (s' : Shared) (self : Value), X.K.In s'.heap → ws.length + 1 = ps.length → BindsTo s' fd ⟨self :: us, kw⟩ (ps.zip (self :: ws))) (h : rMkX C sp vs H Q) :
    wpAny (model X.prog X.w) X.A (call (.ref C) us kw) (EP X pins σ Q) X.xe s := by
  obtain ⟨nm, q, N, bs, bm, sn, sub, ab, col, dd, k0, k1, k2, k3, k5, hC, hbm⟩ := T.o.cls
  obtain ⟨hp, g, dr, tk, os⟩ := s
  have hsz : hp.objs.size ≤ hp.objs.size + 1 := Nat.le_succ _
  have hq := h (hp.objs.size + 1) (I.hok.fresh hsz)
  have kk : ∀ b o, hp.get? b = some o → ((hp.push (PySem.W.kdv_tup us)).push (PySem.HandSPX.excO C hp.objs.size)).get? b = some o := fun b o z => Heap.get?_push_of_some _ (Heap.get?_push_of_some _ z)
  have hget : ((hp.push (PySem.W.kdv_tup us)).push (PySem.HandSPX.excO C hp.objs.size)).get? (hp.objs.size + 1) = some (PySem.HandSPX.excO C hp.objs.size) := by heap_get
  have J : Inv X pins σ (upd H (hp.objs.size + 1) (exo (hp.objs.size + 1) C none)) ⟨(hp.push (PySem.W.kdv_tup us)).push (PySem.HandSPX.excO C hp.objs.size), g, dr, tk, os⟩ :=
    I.laid (t' := tk) (a := hp.objs.size + 1) (o := exo (hp.objs.size + 1) C none) (h' := (hp.push (PySem.W.kdv_tup us)).push (PySem.HandSPX.excO C hp.objs.size)) kk hsz (exo_ok hget)
  have r2 : Vals (V.ref (hp.objs.size + 1) :: vs) (Value.ref (hp.objs.size + 1) :: ws) := .cons rfl r
  have el : ws.length + 1 = ps.length := (r2.length).symm.trans (G.len _ _ _ _ hq)
  refine wpAny_call (callK F.excBase_ValueError (fun Y => PySem.HandSPX.refsVE_contains Y bm hbm) (I.kIn _ _ hC) (PySem.W.looks_findIn I.kIn T.ini) (fun self => PySem.W.bind_fn I.kIn self T.tyI) hl (looks_inst I.kIn T.o.tyC)
    (codeAny_mono (G.run _ X.stack _ _ ⟨Value.ref (hp.objs.size + 1) :: us, kw⟩ (Value.ref (hp.objs.size + 1) :: ws) _ _ E0 (hr.make C us kw) (J.env0.make C us kw) (hb _ _ J.kIn el) r2 hq) fun r s' z => ?_))
  match r, z with
  | .error _, z => exact z.elim
  | .ok .next, z => exact z.elim
  | .ok .brk, z => exact z.elim
  | .ok .cont, z => exact z.elim
  | .ok (.ret u), z =>
    obtain ⟨v, H2, J2, rv, ev, q2⟩ := J.after z
    subst ev
    exact ⟨rv, V.ref (hp.objs.size + 1), H2, J2, rfl, q2⟩
/-- C(e, ..) by place -/
theorem pe_mkx (T : XM X.K C fI) (G : FnOk X.prog X.w X.K X.mg X.base CX0 k fI fd ps sp) (hr : Room (k + 1) X.A) (hb : Binds X.K fd ps []) (hg : Gl X x) (hm : X.mg x = some (.ref C)) (ha : PA X (e :: es) t) (hl : es.length ≤ 100)
    (hdb : (x == ("__debug__" : Str)) = false := by decide) (he : starEach (e :: es) X.env = (false, eval e X.env) :: starEach es X.env := by rfl) (hpl : (backTo pos (starEach es X.env)).any (·.1) = false := by rfl) :
    PE X (.Call (.Name x p) (e :: es) [] pos) (fun σ H Q => t σ H fun vs H1 => vs.length ≤ 1000 ∧ rMkX C sp vs H1 Q) := by
  constructor
  intro pins s σ H Q I h
  refine wpAny_Call_Name_kw (ld_glob I hg hm ?_ hdb)
  refine PySem.W.callWith_K (h₀ := X.base) I.ok.mod.kin T.o.kC (thn (ha.run pos pins s σ H _ I h) fun us s1 ⟨vs, H1, I1, r, lv, q⟩ => ⟨I1.kIn, ?_⟩) he hpl
  refine run_mkx (ws := us) T G hr I1 (by show us.length ≤ sizeLine; rw [← Paired.length r, sizeLine_eq]; omega) r (fun s' self hK el => ?_) q
  have z := hb s' (self :: us) hK (by rw [List.append_nil]; exact el)
  rw [List.append_nil] at z
  exact z
/-- C() -/
theorem pe_mkx0 (T : XM X.K C fI) (G : FnOk X.prog X.w X.K X.mg X.base CX0 k fI fd ps sp) (hr : Room (k + 1) X.A) (hb : Binds X.K fd ps []) (hg : Gl X x) (hm : X.mg x = some (.ref C))
    (hdb : (x == ("__debug__" : Str)) = false := by decide) : PE X (.Call (.Name x p) [] [] pos) (fun σ H Q => rMkX C sp [] H Q) := by
  constructor
  intro pins s σ H Q I h
  refine wpAny_Call_Name_kw (ld_glob I hg hm ?_ hdb)
  refine PySem.W.callWith_K0 I.kIn T.o.kC ?_
  refine run_mkx (us := []) (ws := []) (vs := []) T G hr I (by rw [sizeLine_eq]; decide) .nil (fun s' self hK el => ?_) h
  have z := hb s' [self] hK (by rw [List.append_nil]; exact el)
  rw [List.append_nil] at z
  exact z
/-- C(k = e, ..) by names: ks the names as written, ga what stands at the places of the parameters -/
theorem pe_mkxK {kws : List Keyword} {ks : List Str} {ga : {α : Type} → List α → List α} (T : XM X.K C fI) (G : FnOk X.prog X.w X.K X.mg X.base CX0 k fI fd ps sp) (hr : Room (k + 1) X.A)
    (hb : ∀ (s' : Shared) (self : Value) (us : List Value), us.length = ks.length → BindsTo s' fd ⟨[self], ks.zip us⟩ (ps.zip (self :: ga us))) (hga : ∀ {vs : List V} {us : List Value}, Vals vs us → vs.length = ks.length → Vals (ga vs) (ga us))
    (hg : Gl X x) (hm : X.mg x = some (.ref C)) (hkw : PK X kws tk)
    (hall : (backToKw pos (keywordEach kws X.env)).all (·.1.isSome) = true := by rfl) (hks : (backToKw pos (keywordEach kws X.env)).filterMap (·.1) = ks := by rfl) (hdb : (x == ("__debug__" : Str)) = false := by decide)
    (hpl : ((backTo pos (starEach [] X.env)).any (·.1) || (backToKw pos (keywordEach kws X.env)).any (·.1.isNone)) = false := by rfl) :
    PE X (.Call (.Name x p) [] kws pos) (fun σ H Q => tk σ H fun vs H1 => vs.length = ks.length ∧ rMkX C sp (ga vs) H1 Q) := by
  constructor
  intro pins s σ H Q I h
  refine wpAny_Call_Name_kw (ld_glob I hg hm ?_ hdb)
  refine PySem.W.callWith_KW0 (h₀ := X.base) I.ok.mod.kin T.o.kC hall ?_ hpl
  refine thn (hkw.run pos pins s σ H _ I h) fun us s1 ⟨vs, H1, I1, r, lv, q⟩ => ⟨I1.kIn, ?_⟩
  rw [hks]
  exact run_mkx (us := []) (ws := ga us) T G hr I1 (by rw [sizeLine_eq]; decide) (hga r lv) (fun s' self hK el => hb s' self us ((Paired.length r).symm.trans lv)) q
end
/-! ### __init__ of such a class -/
/-- one field -/
def spI1 (C : Addr) (f : Str) : Sp := fun vs H Q _ => ∃ (a : Addr) (v : V), vs = [.ref a, v] ∧ H a = some (exo a C none) ∧ ∀ d, H d = none → d ≠ a → Q .non (upd (upd H d (exd d [(f, v)])) a (exo a C (some d)))
/-- two fields: f is stored first, g then -/
def spI2 (C : Addr) (f g : Str) : Sp := fun vs H Q _ => ∃ (a : Addr) (v u : V), vs = [.ref a, v, u] ∧ H a = some (exo a C none) ∧ ∀ H' d, H d = none → d ≠ a → H' a = some (exo a C (some d)) → H' d = some (exd d [(g, u), (f, v)]) → (∀ b, b ≠ a → b ≠ d → H' b = H b) → Q .non H'
/-- none -/
def spI0 (C : Addr) : Sp := fun vs H Q _ => ∃ (a : Addr), vs = [.ref a] ∧ H a = some (exo a C none) ∧ Q .non H
theorem mk1 {C : Addr} {f : Str} {v : V} {H : Hp} {Q : VK} (h : ∀ a H', H a = none → Same H H' → XAt H' a C [(f, v)] → Q (.ref a) H') : rMkX C (spI1 C f) [v] H Q := by
  intro a ha
  refine ⟨a, v, rfl, upd_same, fun d hd hda => ⟨rfl, h a _ ha (fun b o e => ?_) ⟨d, upd_same, ?_⟩⟩⟩
  · have h1 : b ≠ a := ne_of_none e ha
    rw [upd_ne hda] at hd
    have h2 : b ≠ d := ne_of_none e hd
    rw [upd_ne h1, upd_ne h2, upd_ne h1]
    exact e
  · rw [upd_ne hda, upd_same]
theorem mk2 {C : Addr} {f g : Str} {v u : V} {H : Hp} {Q : VK} (h : ∀ a H', H a = none → Same H H' → XAt H' a C [(g, u), (f, v)] → Q (.ref a) H') : rMkX C (spI2 C f g) [v, u] H Q := by
  intro a ha
  refine ⟨a, v, u, rfl, upd_same, fun H' d hd hda h1 h2 h3 => ⟨rfl, h a _ ha (fun b o e => ?_) ⟨d, h1, h2⟩⟩⟩
  have n1 : b ≠ a := ne_of_none e ha
  rw [upd_ne hda] at hd
  rw [h3 b n1 (ne_of_none e hd), upd_ne n1]
  exact e
theorem mk0 {C : Addr} {H : Hp} {Q : VK} (h : ∀ a H', H a = none → Same H H' → X0At H' a C → Q (.ref a) H') : rMkX C (spI0 C) [] H Q := by
  intro a ha
  refine ⟨a, rfl, upd_same, rfl, h a _ ha (fun b o e => ?_) upd_same⟩
  rw [upd_ne (ne_of_none e ha)]
  exact e
end Own
end
section
set_option Elab.async false
set_option linter.all false
set_option maxRecDepth 100000
set_option maxHeartbeats 4000000
namespace Pi
open PySem PySem.Spec PyProof.Rows L2
/-! ### exceptions: raise, try -/
theorem clsB_of {D : Dat} {c : Nat} {n : Str} (h : clsB D c n = true) : ∃ m f, D.cls[c]? = some (m, [f]) ∧ n = m := by
  unfold clsB at h
  split at h
  · rename_i m f e
    exact ⟨m, f, e, of_decide_eq_true h⟩
  · cases h
/-- what is known of a class that is raised: one field, stored by its __init__ -/
structure ClsI (P : Program) (w : World) (K : PySem.W.Frag) (mg : Str → Option Value) (x f : Str) (A : Addr × List Str) : Prop where
  fs : A.2 = [f]
  nm : mg x = some (.ref A.1)
  ini : ∃ (fI : Addr) (fd : FuncData), Own.XM K A.1 fI ∧ Binds K fd ["self", f] [] ∧ ∀ base, FnOk P w K mg base CX0 1 fI fd ["self", f] (Own.spI1 A.1 f)
  xf : XfC K A.1
  no : PySem.W.findIn K (.ref A.1) f = some none
  ex : PySem.W.exmOne K (.ref A.1) (.ref A.1) = some true
structure ClsOk (P : Program) (w : World) (K : PySem.W.Frag) (mg : Str → Option Value) (C : Cls) (D : Dat) : Prop where
  all : ∀ c x f, D.cls[c]? = some (x, [f]) → ClsI P w K mg x f (C c)
/-- an exception of the class at C is made of v -/
theorem raise1 {C : Addr} {f : Str} {v : V} {H1 : Hp} {Q : XK} (h : ∀ d H', H1 d = none → (∀ b o, H1 b = some o → H' b = some o) → H' = upd H1 d (.xd [(f, v)]) → Q (.ref C) (some d) H') :
    ([v] : List V).length ≤ 1000 ∧ ∀ a, H1 a = none → Own.spI1 C f (.ref a :: ([v] ++ [])) (upd H1 a (exo a C none)) (fun u H2 => u = .non ∧ ∃ (d : Addr) (fs : List (Str × V)), H2 a = some (exo a C (some d)) ∧ H2 d = some (exd d fs) ∧ H1 d = none ∧ Q (.ref C) (some d) (upd (del H2 a) d (.xd fs))) (fun _ _ _ => False) := by
  refine ⟨Nat.le_of_ble_eq_true rfl, fun a na => ⟨a, v, rfl, upd_same, fun d nd hda => ⟨rfl, d, [(f, v)], upd_same, ?_, ?_, ?_⟩⟩⟩
  · rw [upd_ne hda, upd_same]
  · rw [upd_ne hda] at nd
    exact nd
  · rw [upd_ne hda] at nd
    have e : upd (del (upd (upd (upd H1 a (exo a C none)) d (exd d [(f, v)])) a (exo a C (some d))) a) d (.xd [(f, v)]) = upd H1 d (.xd [(f, v)]) := by
      funext b
      by_cases h1 : b = d
      · subst h1
        rw [upd_same, upd_same]
      · rw [upd_ne h1, upd_ne h1]
        by_cases h2 : b = a
        · subst h2
          rw [del_same, na]
        · rw [del_ne h2, upd_ne h2, upd_ne h1, upd_ne h2]
    rw [e]
    exact h d _ nd (fun b o q => by rw [upd_ne (ne_of_none q nd)]; exact q) rfl
section
variable {P : Program} {w : World} {K : PySem.W.Frag} {mg : Str → Option Value} {k : Nat} {N : List Str} {X : Cx} {sc fs : Scope} {W : WX} {C : Cls} {D : Dat}
theorem ClsOk.of (h : ClsOk P w K mg C D) (G : GQ P w K mg k N X sc fs W) {c : Nat} {x f : Str} (e : D.cls[c]? = some (x, [f])) : ClsI X.prog X.w X.K X.mg x f (C c) := by
  have := h.all c x f e
  rw [← G.eP, ← G.ew, ← G.eK, ← G.em] at this
  exact this
theorem GQ.tr (G : GQ P w K mg k N X sc fs W) {W' : WX} {pn : List (Addr × Obj)} {xe : Value → Shared → Prop} (tk : Takes (X.tr pn xe) W') (po : PassesOwn (model X.prog X.w) X.A X.env xe) : GQ P w K mg k N (X.tr pn xe) sc fs W' :=
  ⟨G.eP, G.ew, G.eK, G.em, G.nm, G.nd, G.scr, G.fn, G.calm, G.quiet, G.room, tk, po⟩
end
section
variable {X : Cx} {C : Cls} {W : WX} {c i j : Nat} {m n en f : Str} {y : Expr} {p1 p2 p3 p4 p5 p6 p7 p8 pos pos' : Pos} {ev : Env → Sto → Out (List PV)} {ex : Env → Sto → Fl} {body : List Stmt}
theorem s_raise1 (hC : ClsI X.prog X.w X.K X.mg m f (C c)) (hc : X.calm = true) (hr : Room 2 X.A) (tk : Takes X W) (hg : Gl X m) (hdb : (m == ("__debug__" : Str)) = false) (ha : PA X [y] (gA X.K C W ev)) (he : starEach [y] X.env = (false, eval y X.env) :: starEach [] X.env) :
    PS X (.Raise (some (.Call (.Name m p1) [y] [] p2)) none pos) (gS X.K C W fun ρ st => (ev ρ st).fl ρ fun vs st => match vs with
    | [v] => .exc c [v] ρ st
    | _ => .stuck) := by
  obtain ⟨fI, fd, XX, hb, F⟩ := hC.ini
  refine (ps_raise hc tk (pmk_oex XX.o XX.ini XX.tyI (F X.base) hr hb .nil (fun _ _ _ _ _ _ _ h => h.elim) hg hC.nm ha hdb he)).imp ?_
  rintro D σ H ⟨μ, ρ, st, hr, hE, z⟩
  refine ⟨μ, ρ, st, hr, hE, (fl_of (rel := RVs X.K) hE rfl z).imp ?_⟩
  rintro vs H1 ⟨μ1, ps, st1, e1, hr1, rs, z1⟩
  cases rs with
  | nil => exact z1.elim
  | @cons q v ps vs r1 rs =>
    cases rs with
    | cons _ _ => exact z1.elim
    | nil =>
      refine raise1 (Q := fun cls d H' => W cls d σ H') fun d H' nd _ hH => ?_
      subst hH
      have x1 := Ext.made (K := X.K) (μ := μ1) (o := .xd [(f, v)]) nd
      refine z1 _ μ1 σ d [v] x1 (hr1.made nd) ((hE.ext e1).ext x1) rfl (RVs.cons (r1.ext x1) .nil) ?_
      rw [upd_same, hC.fs]
      rfl
theorem RE.none {K : PySem.W.Frag} {H : Hp} {μ : Mu} {ρ : Env} {σ : L2.St} {i : Nat} (h : RE K H μ ρ σ) : RE K H μ (setN ρ i none) (σ.set i none) := by
  rw [setN_eq]
  refine ⟨by simp [h.1], fun j q e => ?_⟩
  by_cases hj : i = j
  · subst hj
    by_cases hl : i < ρ.length
    · rw [List.getElem?_set_self hl] at e
      cases e
    · rw [List.getElem?_eq_none (by simpa using hl)] at e; cases e
  · rw [List.getElem?_set_ne hj] at e
    rw [List.getElem?_set_ne hj]
    exact h.2 j q e
theorem set_swap {α : Type} {σ : List α} {i j : Nat} {a b c : α} (h : i ≠ j) : ((σ.set j a).set i b).set j c = (σ.set i b).set j c := by
  rw [List.set_comm _ _ h, List.set_set, List.set_comm _ _ (Ne.symm h)]
theorem s_tryw (hC : ClsI X.prog X.w X.K X.mg m f (C c)) (hs : X.stack = X.env :: X.outer) (hf : X.env.frame = some X.env.locals) (hN : X.N.Nodup) (hi : X.N[i]? = some n) (hj : X.N[j]? = some en) (hij : i ≠ j)
    (hln : X.env.scope.names.lookup n = some .local) (hle : X.env.scope.names.lookup en = some .local) (hg : Gl X m) (hdb : (m == ("__debug__" : Str)) = false) (he1 : (en == ("__debug__" : Str)) = false) (he2 : (en == ("__classdict__" : Str)) = false) (tk : Takes X W)
    (hb : ∀ (W' : WX) (pn : List (Addr × Obj)) (xe : Value → Shared → Prop), Takes (X.tr pn xe) W' → PassesOwn (model X.prog X.w) X.A X.env xe → PSs (X.tr pn xe) body (gS X.K C W' ex)) :
    PS X (.Try body [.ExceptHandler (some (.Name m p1)) (some en) [.Assign [.Name n p2] (.List [.Attribute (.Name en p3) f p4] p5) p6] p7] [] [] p8) (gS X.K C W fun ρ st => tryO c i j (ex ρ st)) := by
  refine (ps_try_as (i := j) (c := .ref (C c).1) hs hf hN hj hle ⟨hg, hdb, .inl hC.nm⟩ tk hb
    (fun a oe cls d pn hz hfd => pss_one (ps_set (i := i) hN hi (.inl hln) (pe_lst (pa_cons (L2.pe_xf hC.xf hC.no hz hfd (pe_var (i := j) (X := X.suite a ((a, oe) :: pn)) hj (.inl hle) he1 he2)) pa_nil)) (by rfl) (.inr hln)))).imp ?_
  rintro D σ H ⟨μ, ρ, st, hr, hE, z⟩
  refine ⟨μ, ρ, st, hr, hE, ?_⟩
  replace z : ThS X.K C W (tryO c i j (ex ρ st)) σ.length H μ D := z
  cases e : ex ρ st with
  | nx ρ1 st1 => rw [e] at z; exact z
  | ret v st1 => rw [e] at z; exact z
  | brk ρ1 st1 => rw [e] at z; exact z
  | cont ρ1 st1 => rw [e] at z; exact z
  | stuck => rw [e] at z; exact z
  | exc c' fs ρ1 st1 =>
    rw [e] at z
    cases fs with
    | nil => exact z.elim
    | cons v fs =>
      cases fs with
      | cons _ _ => exact z.elim
      | nil =>
        intro H' μ' σ' d xs e1 hr1 hE1 hl rs hd
        cases rs with
        | @cons _ x _ xs r1 rs =>
          cases rs
          unfold tryO at z
          dsimp only at z
          cases hb : Nat.beq c' c && Nat.blt j ρ1.length with
          | false => rw [hb] at z; exact z.elim
          | true =>
            rw [hb] at z
            rw [Bool.and_eq_true] at hb
            obtain rfl := Nat.eq_of_beq_eq_true hb.1
            have hjl : j < σ'.length := by rw [← hE1.1]; exact Nat.lt_of_lt_of_le (Nat.lt_succ_self _) (Nat.le_of_ble_eq_true hb.2)
            rw [hC.fs] at hd
            refine ⟨true, hC.ex, fun _ a ha => ⟨.ref a, List.getElem?_set_self hjl, rfl, rfl, d, _, x, rfl, hd, by simp [List.lookup], Nat.le_of_ble_eq_true rfl, fun p hp => ?_⟩, fun q => by cases q⟩
            show D.nx (((σ'.set j (some (.ref a))).set i (some (.ref p))).set j none) _
            rw [set_swap hij]
            have x1 := Ext.made (K := X.K) (μ := μ') (o := .lst [x]) hp
            refine (show ∀ H' μ' σ', Ext X.K H μ H' μ' → Hr X.K H' μ' st1 → RE X.K H' μ' (setN (setN ρ1 i (some (.lst [v]))) j none) σ' → σ'.length = σ.length → D.nx σ' H' from z) _ μ' _ (e1.trans x1) (hr1.made hp) (RE.none ((hE1.ext x1).set (RV.lstMade hr1 hp (RVs.cons r1 .nil)))) (by simp [hl])
end
end Pi
end
section
set_option Elab.async false
set_option linter.all false
set_option maxRecDepth 100000
set_option maxHeartbeats 4000000
namespace Pi
open PySem PySem.Spec PyProof.Rows L2
section
variable {P : Program} {w : World} {K : PySem.W.Frag} {mg : Str → Option Value} {k : Nat} {N : List Str} {C : Cls} {D : Dat} {R : Ops} {cl : Nat → List PV → Sto → Out PV} {F : Nat}
theorem loc_sc {X : Cx} {sc : Scope} {W : WX} (G : GQ P w K mg k N X sc sc W) {n : Str} (h : locB sc sc n = true) : Loc X.env.scope n ∧ (X.fn n = true ∨ X.env.scope.names.lookup n = some .local) :=
  loc_of G.gt (G.scr.loc h)
theorem ne_slots {N : List Str} {i j : Nat} {x y : Str} (hi : N[i]? = some x) (hj : N[j]? = some y) (h : (x == y) = false) : i ≠ j := by
  intro e
  subst e
  rw [hi] at hj
  cases hj
  simp at h
theorem s_stuck {X : Cx} {W : WX} {x : Stmt} {ex : Env → Sto → Fl} (h : ∀ ρ st, ex ρ st = .stuck) : PS X x (gS X.K C W ex) := ⟨fun pins s σ H D I ⟨μ, ρ, st, hr, he, z⟩ => by rw [h] at z; exact z.elim⟩
theorem step_s (hN : Nms D K mg) (hC : ClsOk P w K mg C D) (hk : 2 ≤ k) (SE : AllE P w K mg k N C D R) (ST : AllT P w K mg k N C D R) (SS : AllS P w K mg k N C D R) (SL : AllLc P w K mg k N C D R) : AllS P w K mg k N C D ⟨stepE R, stepS R, cl, F⟩ := by
  intro X sc W G hs hfr s x h
  have S := SE X sc sc W G
  have T := ST X sc sc W G
  have hu := G.room.un
  have B : ∀ {ss : List Pi.S} {xs : List Stmt}, chkSs D N sc ss xs = true → PSs X xs (gS X.K C W (exSs R ss)) := fun h => s_block (SS X sc W G hs hfr) (chkSs_L h)
  show PS X x (gS X.K C W (stepS R s))
  cases s with
  | bad => exact s_stuck fun _ _ => rfl
  | asg i e =>
    unfold chkS at h
    split at h
    · rename_i n p2 v pos
      simp only [Bool.and_eq_true, decide_eq_true_eq, Bool.or_eq_true] at h
      obtain ⟨⟨⟨h1, h2⟩, h3⟩, h4⟩ := h
      rcases h4 with (h4 | h4) | h4
      · obtain ⟨l1, l2⟩ := loc_sc G h2
        exact s_asg G.nd (by rw [G.nm]; exact h1) l1 l2 (S e v h3) (noCmp_sw h4)
      · exact SL X sc W G hs i e n p2 v pos h1 h3 h4
      · obtain ⟨l1, l2⟩ := loc_sc G h2
        exact s_asg G.nd (by rw [G.nm]; exact h1) l1 l2 (S e v h3) (cell_sw hs h4)
    · cases h
  | asgT ts e =>
    unfold chkS at h
    split at h
    · rename_i es k2 p2 v pos
      simp only [Bool.and_eq_true] at h
      obtain ⟨⟨h1, h2⟩, h3⟩ := h
      rcases Bool.or_eq_true _ _ ▸ h3 with h3 | h3
      · exact s_asgT G.gt (chkT_of G.scr h1) (S e v h2) sws_tup (nsw_none h3)
      · exact s_asgT G.gt (chkT_of G.scr h1) (S e v h2) sws_tup (cells_none hs h3)
    · cases h
  | par is es =>
    unfold chkS at h
    split at h
    · rename_i i j n1 p1 n2 p2 k1 pt a b k2 pt2 pos
      simp only [Bool.and_eq_true, decide_eq_true_eq] at h
      obtain ⟨⟨⟨h1, h2⟩, h3⟩, h4⟩ := h
      have h3' := h3
      unfold swp2 at h3'
      simp only [Bool.and_eq_true, decide_eq_true_eq, Bool.not_eq_true'] at h3'
      have q1 := h3'.1.1.1.1.1.1.1.2
      have q2 := h3'.1.1.1.1.1.1.2
      have q3 := h3'.1.1.1.1.2
      rw [← hs] at q1 q2
      exact s_par2 G.calm G.nd (by rw [G.nm]; exact h1) (by rw [G.nm]; exact h2) (ne_slots h1 h2 q3) q1 q2 (g_args S h4) (sw_two hs h3)
    · rename_i i j l n1 p1 n2 p2 n3 p3 k1 pt a b c k2 pt2 pos
      simp only [Bool.and_eq_true, decide_eq_true_eq] at h
      obtain ⟨⟨⟨⟨h1, h2⟩, h2'⟩, h3⟩, h4⟩ := h
      have h3' := h3
      unfold swp3 at h3'
      simp only [Bool.and_eq_true, decide_eq_true_eq, Bool.not_eq_true'] at h3'
      obtain ⟨⟨⟨⟨⟨⟨⟨⟨⟨⟨⟨⟨⟨_, q1⟩, q2⟩, q3⟩, _⟩, _⟩, e1⟩, e2⟩, e3⟩, _⟩, _⟩, _⟩, _⟩, _⟩ := h3'
      rw [← hs] at q1 q2 q3
      exact s_par3 G.calm G.nd (by rw [G.nm]; exact h1) (by rw [G.nm]; exact h2) (by rw [G.nm]; exact h2') (ne_slots h1 h2 e1) (ne_slots h1 h2' e2) (ne_slots h2 h2' e3) q1 q2 q3 (g_args S h4) (sw_three hs h3)
    · cases h
  | aug i op e =>
    unfold chkS at h
    split at h
    · simp only [Bool.and_eq_true, decide_eq_true_eq] at h
      obtain ⟨⟨⟨⟨h1, h2⟩, h3⟩, rfl⟩, h4⟩ := h
      obtain ⟨l1, l2⟩ := loc_sc G h2
      exact s_aug h3 G.nd (by rw [G.nm]; exact h1) l1 l2 (S e _ h4)
    · cases h
  | sub o i e =>
    unfold chkS at h
    split at h
    · simp only [Bool.and_eq_true] at h
      obtain ⟨⟨⟨h1, h2⟩, h3⟩, h4⟩ := h
      exact s_sub h1 (by omega) (S e _ h4) (S o _ h2) (S i _ h3)
    · cases h
  | asubs ts e =>
    unfold chkS at h
    split at h
    · simp only [Bool.and_eq_true] at h
      obtain ⟨⟨⟨⟨⟨⟨h1, h2⟩, h3⟩, h4⟩, h5⟩, h6⟩, h7⟩ := h
      exact s_sub2 h1 h2 G.calm (by omega) (S e _ h7) (S _ _ h3) (S _ _ h4) (S _ _ h5) (S _ _ h6) (nsw_none (by unfold nsw; split <;> simp)) sws_tup
    · cases h
  | expr e =>
    unfold chkS at h
    split at h
    · simp only [Bool.and_eq_true] at h
      exact s_expr (S e _ h.2) (noCmp_sw h.1)
    · cases h
  | ite c a b =>
    unfold chkS at h
    split at h
    · simp only [Bool.and_eq_true] at h
      obtain ⟨⟨⟨h1, h2⟩, h3⟩, h4⟩ := h
      exact s_if (T c _ h2 h1) (B h3) (B h4)
    · cases h
  | loop t kk es body =>
    unfold chkS at h
    split at h
    · simp only [Bool.and_eq_true] at h
      obtain ⟨⟨⟨h1, h2⟩, h3⟩, h4⟩ := h
      exact s_for G.po G.calm (chkI_ok hN G S h1) (g_tg G.gt (chkT_of G.scr h3)) (B h4) (fs_ok h2)
    · cases h
  | whl c body =>
    unfold chkS at h
    split at h
    · simp only [Bool.and_eq_true] at h
      obtain ⟨⟨h1, h2⟩, h3⟩ := h
      exact s_whl G.po (T c _ h2 h1) (B h3)
    · cases h
  | ret e =>
    unfold chkS at h
    split at h
    · exact s_ret (S e _ h)
    · cases h
  | retn =>
    unfold chkS at h
    split at h
    · exact s_retn
    · cases h
  | brk =>
    unfold chkS at h
    split at h
    · exact s_brk
    · cases h
  | cont =>
    unfold chkS at h
    split at h
    · exact s_cont
    · cases h
  | pass =>
    unfold chkS at h
    split at h
    · exact s_pass
    · cases h
  | raise c es =>
    unfold chkS at h
    split at h
    · simp only [Bool.and_eq_true] at h
      obtain ⟨⟨⟨h1, h2⟩, h3⟩, h4⟩ := h
      obtain ⟨m, f, e1, rfl⟩ := clsB_of h1
      refine s_raise1 (hC.of G e1) G.calm (G.room.mono hk) G.tk (G.gl h2) (by have := G.scr.gl h2; exact this.2) ?_ (star_of h3)
      exact g_args S (show chkEs D N sc [_] [_] = true by simp [chkEs, h3, h4])
    · cases h
  | tryc body cs nm hd =>
    unfold chkS at h
    split at h
    · simp only [Bool.and_eq_true, decide_eq_true_eq, Bool.not_eq_true'] at h
      obtain ⟨⟨⟨⟨⟨⟨⟨⟨⟨⟨⟨h1, h1f⟩, h2⟩, h3⟩, h4⟩, rfl⟩, h5⟩, h6⟩, h7⟩, h8⟩, h9⟩, h10⟩ := h
      obtain ⟨m, f, e1, rfl⟩ := clsB_of h1
      rw [e1] at h1f
      cases (show some [f] = some _ from h1f)
      exact s_tryw (hC.of G e1) hfr.1 hfr.2 G.nd (by rw [G.nm]; exact h3) (by rw [G.nm]; exact h4) (ne_slots h3 h4 h5) (by rw [hs]; exact h6) (by rw [hs]; exact h7) (G.gl h2) (G.scr.gl h2).2 h8 h9 G.tk
        fun W' pn xe tk po => s_block (SS (X.tr pn xe) sc W' (G.tr tk po) hs hfr) (chkSs_L h10)
    · cases h
theorem zero_s : AllS P w K mg k N C D (opsF F cl 0) := fun X sc W G hs hfr s x h => s_stuck fun _ _ => rfl
theorem sound_s (hN : Nms D K mg) (hC : ClsOk P w K mg C D) (hk : 2 ≤ k) (hD : ∀ i fi, D.fns[i]? = some fi → Def P w K mg C k (cl i) fi.ar fi.name) : ∀ n, AllS P w K mg k N C D (opsF F cl n) ∧ AllLc P w K mg k N C D (opsF F cl n)
  | 0 => ⟨zero_s, zero_lc⟩
  | n + 1 => by
    obtain ⟨h1, h2⟩ := sound_s hN hC hk hD n
    obtain ⟨g1, g2⟩ := sound_et (F := F) (N := N) hN hD n
    exact ⟨step_s hN hC hk g1 g2 h1 h2, step_lc hN g1 g2⟩
end
end Pi
end
section
set_option Elab.async false
set_option linter.all false
set_option maxRecDepth 100000
set_option maxHeartbeats 4000000
namespace Pi
open PySem PySem.Spec PyProof.Rows L2
/-! ### defs -/
theorem Hr.cut {K : PySem.W.Frag} {H : Hp} {μ : Mu} {st : Sto} {n : Nat} (h : Hr K H μ st) : Hr K H μ (st.cut n) :=
  ⟨h.inj, h.trk, h.low, h.des.drop, h.prv, h.prT, fun m o e => h.obj m o (getO_drop h.des e)⟩
theorem nones_get : ∀ (n i : Nat) (p : PV), (nones n)[i]? ≠ some (some p)
  | 0, i, p => by simp [nones]
  | n + 1, 0, p => by simp [nones]
  | n + 1, i + 1, p => by simp only [nones, List.getElem?_cons_succ]; exact nones_get n i p
theorem nones_len : ∀ n, (nones n).length = n
  | 0 => rfl
  | n + 1 => by simp [nones, nones_len n]
theorem env_ok {K : PySem.W.Frag} {H : Hp} {μ : Mu} {N : List Str} : ∀ {ps : List PV} {vs : List V}, RVs K H μ ps vs → ps.length ≤ N.length → RE K H μ (envOf ps N.length) (L2.start N vs) := by
  intro ps vs r
  unfold L2.start
  generalize N.length = n
  induction ps generalizing vs n with
  | nil =>
    cases r
    intro _
    refine ⟨by simp [envOf, nones_len], fun i p e => absurd e (nones_get n i p)⟩
  | cons p ps ih =>
    cases r with
    | @cons _ v _ vs r1 rs =>
      intro hl
      cases n with
      | zero => simp at hl
      | succ n =>
        obtain ⟨h1, h2⟩ := ih rs n (by simpa using hl)
        have e : ∀ l : Nat, n + 1 - (l + 1) = n - l := fun l => by omega
        refine ⟨?_, fun i q e' => ?_⟩
        · simp only [envOf, List.length_cons, List.map_cons, List.cons_append, e, Nat.add_sub_cancel]
          show List.length (envOf ps n) + 1 = _
          rw [h1]
        · cases i with
          | zero =>
            simp only [envOf, List.getElem?_cons_zero, Option.some.injEq] at e'
            subst e'
            exact ⟨v, by simp, r1⟩
          | succ i =>
            simp only [envOf, List.getElem?_cons_succ, Nat.add_sub_cancel] at e'
            obtain ⟨u, e1, e2⟩ := h2 i q e'
            refine ⟨u, ?_, e2⟩
            simp only [List.map_cons, List.cons_append, List.getElem?_cons_succ, List.length_cons, e]
            exact e1
section
variable {P : Program} {w : World} {K : PySem.W.Frag} {mg : Str → Option Value} {C : Cls} {D : Dat} {fns : List Fn} {F n : Nat}
/-- a def of the text, as the interpreter's -/
structure DefM (K : PySem.W.Frag) (mg : Str → Option Value) (D : Dat) (fns : List Fn) (i : Nat) (fi : FnI) : Prop where
  ex : ∃ (st : Stmt) (f : Addr) (fd : FuncData) (ps N : List Str) (qual : Str) (fn : Fn), Fun K fi.name qual st f fd ∧ mg fi.name = some (.ref f) ∧ Binds K fd ps [] ∧ ps.length = fi.ar ∧ FnScope N ps (defScope st) ∧
    nth fns i = some fn ∧ fn.ar = fi.ar ∧ fn.sl = N.length ∧ chkSs D N (defScope st) fn.body (defBody st) = true
theorem call_len {d i : Nat} {fn : Fn} (h : nth fns i = some fn) : ∀ ps st, ps.length ≠ fn.ar → callAt F n fns d i ps st = .stuck := by
  intro ps st hl
  cases d with
  | zero => rfl
  | succ d =>
    unfold callAt
    rw [h]
    have : Nat.beq ps.length fn.ar = false := by
      cases e : Nat.beq ps.length fn.ar with
      | true => exact absurd (Nat.eq_of_beq_eq_true e) hl
      | false => rfl
    dsimp only
    rw [this]
    rfl
/-- a call, the calls in it by cl -/
def callC (F n : Nat) (fns : List Fn) (cl : Nat → List PV → Sto → Out PV) (f : Nat) (vs : List PV) (st : Sto) : Out PV := match nth fns f with
  | none => .stuck
  | some fi => bif Nat.beq vs.length fi.ar then after fi.kp st (exSs (opsF F cl n) fi.body (envOf vs fi.sl) st) else .stuck
theorem callC_len {cl : Nat → List PV → Sto → Out PV} {i : Nat} {fn : Fn} (h : nth fns i = some fn) : ∀ ps st, ps.length ≠ fn.ar → callC F n fns cl i ps st = .stuck := by
  intro ps st hl
  unfold callC
  rw [h]
  have : Nat.beq ps.length fn.ar = false := by
    cases e : Nat.beq ps.length fn.ar with
    | true => exact absurd (Nat.eq_of_beq_eq_true e) hl
    | false => rfl
  dsimp only
  rw [this]
  rfl
theorem def_of {d : Nat} {cl : Nat → List PV → Sto → Out PV} (hN : Nms D K mg) (hC : ClsOk P w K mg C D) (hk : 2 ≤ d) (hM : ∀ i fi, D.fns[i]? = some fi → DefM K mg D fns i fi) (IH : ∀ i fi, D.fns[i]? = some fi → Def P w K mg C d (cl i) fi.ar fi.name) :
    ∀ i fi, D.fns[i]? = some fi → Def P w K mg C (d + 1) (callC F n fns cl i) fi.ar fi.name := by
    intro i fi hi
    obtain ⟨st, f, fd, ps, N, qual, fn, h1, h2, h3, h4, h5, h6, h7, h8, h9⟩ := (hM i fi hi).ex
    refine ⟨⟨f, fd, ps, h2, h1.kp, h3, h4, fun base => fnX_ok h1 h5 (fun vs H Q E h => ?_) fun cdv A hq outer s H vs Q E hr h => ?_⟩, by rw [← h7]; exact callC_len h6⟩
    · obtain ⟨μ, st', qs, hr, rs, hl, _⟩ := h
      rw [h4, ← hl, rs.length]
    · obtain ⟨μ, st', qs, hr', rs, hl, z⟩ := h
      have G : GQ P w K mg d N (cxOf (L2.CX P w) P w K mg base N qual (defScope st) f cdv A outer s H E) (defScope st) (defScope st) (fun c dd σ H' => E c dd H') :=
        ⟨rfl, rfl, rfl, rfl, rfl, h5.nd, ScR.refl, fun _ _ => rfl, rfl, hq.deeper _, hr, takes_of rfl rfl rfl rfl, passes_of rfl⟩
      have SS := (sound_s (F := F) (N := N) (C := C) (cl := cl) hN hC hk IH n).1 _ _ _ G rfl ⟨rfl, rfl⟩
      refine ⟨_, s_block SS (chkSs_L h9), μ, envOf qs fn.sl, st', hr', ?_, ?_⟩
      · rw [h8]
        refine env_ok rs ?_
        have := congrArg List.length h5.pre
        rw [List.length_take] at this
        rw [hl, ← h4]
        omega
      · unfold callC at z
        rw [h6] at z
        have hb : Nat.beq qs.length fn.ar = true := by rw [hl, h7]; exact Nat.beq_refl _
        dsimp only at z
        rw [hb] at z
        dsimp only [cond] at z
        cases ex : exSs (opsF F cl n) fn.body (envOf qs fn.sl) st' with
        | nx ρ st1 =>
          rw [ex] at z
          intro H' μ' σ' e1 hr1 _ _
          simp only [after] at z
          cases hk : fn.kp with
          | false => rw [hk] at z; exact z H' μ' .non e1 hr1.cut .non
          | true => rw [hk] at z; exact z H' μ' .non e1 hr1 .non
        | ret v st1 =>
          rw [ex] at z
          intro H' μ' x e1 hr1 r1
          simp only [after] at z
          cases hv : !fn.kp && noLoc 20 v with
          | true => rw [hv] at z; exact z H' μ' x e1 hr1.cut r1
          | false => rw [hv] at z; exact z H' μ' x e1 hr1 r1
        | brk ρ st1 => rw [ex] at z; exact z.elim
        | cont ρ st1 => rw [ex] at z; exact z.elim
        | exc c fs ρ st1 =>
          rw [ex] at z
          intro H' μ' σ' dd xs e1 hr1 _ _ r1 ed
          exact z H' μ' dd xs e1 hr1 r1 ed
        | stuck => rw [ex] at z; exact z.elim
theorem callAt_succ {d : Nat} : callAt F n fns (d + 1) = callC F n fns (callAt F n fns d) := rfl
theorem def_at (hN : Nms D K mg) (hC : ClsOk P w K mg C D) (hM : ∀ i fi, D.fns[i]? = some fi → DefM K mg D fns i fi) : ∀ d i fi, D.fns[i]? = some fi → Def P w K mg C (d + 2) (callAt F n fns d i) fi.ar fi.name
  | 0, i, fi, hi => by
    obtain ⟨st, f, fd, ps, N, qual, fn, h1, h2, h3, h4, h5, h6, h7, h8, h9⟩ := (hM i fi hi).ex
    refine ⟨⟨f, fd, ps, h2, h1.kp, h3, h4, fun base => ⟨fun vs H Q E h => ?_, fun A hq outer s H args us vs Q E hr e0 hb r h => ?_⟩⟩, by rw [← h7]; exact call_len h6⟩
    · obtain ⟨μ, st', qs, hr, rs, hl, _⟩ := h
      rw [h4, ← hl, rs.length]
    · obtain ⟨μ, st', qs, hr, rs, hl, z⟩ := h
      exact z.elim
  | d + 1, i, fi, hi => by
    rw [callAt_succ]
    exact def_of hN hC (by omega) hM (def_at hN hC hM d) i fi hi
/-! ### a run in pieces -/
theorem Def.le {k m : Nat} {x : Str} {cl cl' : List PV → Sto → Out PV} (E : Def P w K mg C k cl m x) (h : ∀ ps st, cl' ps st = .stuck ∨ cl' ps st = cl ps st) : Def P w K mg C k cl' m x := by
  obtain ⟨⟨f, fd, ps, e1, e2, e3, e4, G⟩, l⟩ := E
  have conv : ∀ vs H Q E, spI K C cl' m vs H Q E → spI K C cl m vs H Q E := by
    rintro vs H Q E ⟨μ, st, qs, hr, rs, hl, z⟩
    rcases h qs st with q | q
    · rw [q] at z
      exact z.elim
    · rw [q] at z
      exact ⟨μ, st, qs, hr, rs, hl, z⟩
  refine ⟨⟨f, fd, ps, e1, e2, e3, e4, fun base => ⟨fun vs H Q E q => (G base).len vs H Q E (conv _ _ _ _ q), fun A hq outer s H args us vs Q E hr e0 hb r q => (G base).run A hq outer s H args us vs Q E hr e0 hb r (conv _ _ _ _ q)⟩⟩, fun ps st hl => ?_⟩
  rcases h ps st with q | q
  · exact q
  · rw [q]
    exact l ps st hl
/-- calls without arguments, their answers known: the def, the store's count ahead and behind -/
def tabC : List (Nat × Nat × Nat) → Nat → List PV → Sto → Out PV
  | [], _, _, _ => .stuck
  | (i, n0, n1) :: r, f, vs, st => match vs, st with
    | [], ⟨m, []⟩ => bif Nat.beq i f && Nat.beq n0 m then .ok (.bl true) ⟨n1, []⟩ else tabC r f vs st
    | _, _ => .stuck
theorem tabC_le {cl : Nat → List PV → Sto → Out PV} : ∀ {l : List (Nat × Nat × Nat)}, (∀ t ∈ l, cl t.1 [] ⟨t.2.1, []⟩ = .ok (.bl true) ⟨t.2.2, []⟩) → ∀ f vs st, tabC l f vs st = .stuck ∨ tabC l f vs st = cl f vs st
  | [], _, _, _, _ => .inl rfl
  | (i, n0, n1) :: r, h, f, vs, st => by
    have ih := tabC_le (l := r) (fun t ht => h t (List.mem_cons_of_mem _ ht)) f vs st
    cases vs with
    | cons _ _ => exact .inl rfl
    | nil =>
      obtain ⟨m, objs⟩ := st
      cases objs with
      | cons _ _ => exact .inl rfl
      | nil =>
        simp only [tabC]
        cases e : Nat.beq i f && Nat.beq n0 m with
        | false => exact ih
        | true =>
          rw [Bool.and_eq_true] at e
          obtain rfl := Nat.eq_of_beq_eq_true e.1
          obtain rfl := Nat.eq_of_beq_eq_true e.2
          exact .inr (h _ List.mem_cons_self).symm
end
end Pi
end
section
set_option Elab.async false
set_option linter.all false
set_option maxRecDepth 100000
set_option maxHeartbeats 1000000
namespace Pi
open PySem PySem.Spec PyProof.Rows L2
/-! ### a law whose promise is the interpreter's -/
abbrev scrO (vs : List Value) : Obj := { cls := .type "list", data := .seq vs.toArray }
/-- the heap of which only the script is told, if the top has not written it -/
def onlyP (K : PySem.W.Frag) (a : Addr) (vs : List Value) (ns : List Int) : Hp := fun b => if b = a ∧ K.lookup a = none then some (.frz (scrO vs) (.lst (ns.map V.int))) else none
theorem onlyP_some {K : PySem.W.Frag} {a b : Addr} {vs : List Value} {ns : List Int} {u : HO} (h : onlyP K a vs ns b = some u) : b = a ∧ K.lookup a = none ∧ u = .frz (scrO vs) (.lst (ns.map V.int)) := by
  unfold onlyP at h
  split at h
  · rename_i q
    cases h
    exact ⟨q.1, q.2, rfl⟩
  · cases h
theorem onlyP_none {K : PySem.W.Frag} {a b : Addr} {vs : List Value} {ns : List Int} (h : b = a → K.lookup a ≠ none) : onlyP K a vs ns b = none := if_neg fun q => h q.1 q.2
def mu0 : Mu := ⟨fun _ => none, fun _ => False⟩
theorem hr0 {K : PySem.W.Frag} {H : Hp} : Hr K H mu0 ⟨0, []⟩ := ⟨fun _ _ _ h => (nomatch h), fun _ _ h => (nomatch h), fun _ _ h => (nomatch h), List.Pairwise.nil, fun _ _ h => (nomatch h), fun _ h => h.elim, fun n o h => by simp [Sto.get, getO] at h⟩
section
variable {P : Program} {w : World} {K : PySem.W.Frag} {mg mb : Str → Option Value} {C : Cls} {k : Nat} {fa a : Addr} {s1 : Shared} {vs : List Value} {ns : List Int} {cl : List PV → Sto → Out PV} {nm : Str}
theorem callX (KX : K.In s1.heap) (hns : s1.heap.Ns mainGlobals mg) (hb : s1.heap.Ns builtinsNs mb) (hbb : ∀ y : Str, y ≠ "__name__" → mb y = bootBuiltins y) (hlim : s1.heap.NoLimit) (hg : s1.gens = #[])
    (ha : s1.heap.get? a = some (scrO vs)) (hi : IntsAre vs ns) (hl : ns.length ≤ sizeLine) (hr : Room k callerA) (hm : mg nm = some (.ref fa)) (D : Def P w K mg C k cl 1 nm)
    (hok : isOk (cl [.lst (ns.map PV.int)] ⟨0, []⟩) = true) :
    codeAny (model P w) callerA (.call (.ref fa) ⟨[.ref a], []⟩) (fun r s' => r = .ok (.ret (.bool true)) ∧ PySem.OldK s1.heap s'.heap ∧ s'.os = s1.os ∧ AllBare s'.gens) s1 := by
  obtain ⟨f, fd, ps, e1, kp, hbind, hps, F⟩ := D.ex
  rw [hm] at e1
  cases e1
  have rv := vals_ints hi
  have nm0 : ∀ n, mu0 n ≠ some a := fun _ h => (nomatch h)
  have rl : RdL K (onlyP K a vs ns) mu0 a (ns.map V.int) := by
    by_cases q : K.lookup a = none
    · exact .inl ⟨.inr ⟨scrO vs, if_pos ⟨rfl, q⟩⟩, nm0, id⟩
    · obtain ⟨o, ho⟩ := Option.ne_none_iff_exists'.mp q
      have e := (KX a o ho).symm.trans ha
      cases e
      exact .inr ⟨vs.toArray, _, ho, by rw [List.size_toArray, hi.length]; exact hl, by simpa using rv⟩
  have hok' : HOk P w (onlyP K a vs ns) s1.heap := fun b u z => by
    obtain ⟨rfl, _, rfl⟩ := onlyP_some z
    exact ⟨ha, by rw [List.length_map]; exact hl, vs, _, rv, ha⟩
  have other : ∀ {b : Addr} {o : Obj}, s1.heap.get? b = some o → (b = a → K.lookup a ≠ none) → (hidT s1.heap (onlyP K a vs ns)).get? b = some o := fun e n => hidT_get e (onlyP_none n)
  have names : ∀ {b : Addr} {m : Str → Option Value}, s1.heap.Ns b m → (hidT s1.heap (onlyP K a vs ns)).Ns b m := by
    rintro b m ⟨o, es, ep, e, dd, r⟩
    refine ⟨o, es, ep, other e (fun q => ?_), dd, r⟩
    rw [q, ha] at e
    cases e
    cases (show Data.seq vs.toArray _ = Data.dict es ep from dd)
  have inK : K.In (hidT s1.heap (onlyP K a vs ns)) := fun b o e => other (KX b o e) fun q z => by
    rw [q, z] at e
    cases e
  obtain ⟨mc, l1, l2⟩ := hlim
  have e0 : Env0 P w K mg (hidT s1.heap (onlyP K a vs ns)) callerA [] s1 (onlyP K a vs ns) :=
    { frames := rfl, mod := ⟨inK, names hns, ⟨mb, names hb, hbb⟩, ⟨mc, names l1, l2⟩⟩, bs := fun b o e => of_hidT e, bsz := Nat.le_of_eq (hidT_size _ _), funs := trivial, frf := fun b hb => (by cases hb), hok := hok', bare := .of_eq hg }
  have hbd : BindsTo s1 fd ⟨[.ref a], []⟩ (ps.zip [.ref a]) := by
    have := hbind s1 [.ref a] KX (by rw [hps]; rfl)
    simpa using this
  have sp : spI K C cl 1 [.ref a] (onlyP K a vs ns) (fun v _ => v = .bl true) E0 := by
    refine ⟨mu0, ⟨0, []⟩, [.lst (ns.map PV.int)], hr0, .cons (.lst rl (RVs.of_ints ns)) .nil, rfl, ?_⟩
    cases e : cl [.lst (ns.map PV.int)] ⟨0, []⟩ with
    | exc c fs st' => rw [e] at hok; cases hok
    | stuck => rw [e] at hok; cases hok
    | ok v st' =>
      rw [e] at hok
      cases v with
      | bl b =>
        cases (show b = true from hok)
        intro H' μ' x _ _ r
        cases r
        rfl
      | _ => cases hok
  have run := (F _).run callerA rfl [] s1 _ ⟨[.ref a], []⟩ [.ref a] [.ref a] _ E0 hr e0 hbd (.cons rfl .nil) sp
  refine codeAny_mono run fun r s' h => ?_
  match r, h with
  | .error _, h =>
    obtain ⟨_, _, _, _, _, _, _, _, _, _, _, _, e0⟩ := h
    exact e0.elim
  | .ok .next, h => exact h.elim
  | .ok .brk, h => exact h.elim
  | .ok .cont, h => exact h.elim
  | .ok (.ret u), ⟨v, H', os, bare, un, hok2, ru, q⟩ =>
    cases (show v = .bl true from q)
    cases (show u = Value.bool true from ru)
    refine ⟨rfl, PySem.OldK.of_keep fun b o e => ?_, os, bare⟩
    cases z : onlyP K a vs ns b with
    | none => exact un.keep b o e z (fun y => by cases y) (by simp)
    | some u =>
      obtain ⟨rfl, _, rfl⟩ := onlyP_some z
      have e1 := (hok2 _ _ (un.frzs _ _ _ z)).1
      rw [ha] at e
      cases e
      exact e1
end
theorem walkX {l : PySem.W.OpenLaw} {n k : Nat} {q : Program} {loose : List Str} {XP : (Str → Option Value) → Heap → Prop} {YP : World → Heap → Prop} {d : DefRec} {cl : List PV → Sto → Out PV}
    (hn : l.most = some n) (hn2 : n ≤ sizeLine) (hdf : d.params.defaults = []) (hr : Room k callerA)
    (F : ∀ (w : World) (mg : Str → Option Value) (h : Heap), YP w h → h.Ns mainGlobals mg → ∃ (K : PySem.W.Frag) (C : Cls), K.In h ∧ Def l.prog w K mg C k cl 1 d.name)
    (hok : ∀ ns : List Int, ns.length ≤ n → isOk (cl [.lst (ns.map PV.int)] ⟨0, []⟩) = true) :
    PySem.W.WalkO q loose XP YP l.row.toRowW d [] (fun f vs => PySem.call f vs) := by
  refine Att.attach_call hn hdf fun w s0 s1 mg mb fa o pm cd doc a vs ns G Y ho hd hcd hmg hobj hints hlen hg => ?_
  obtain ⟨K, C, KX, D⟩ := F w mg _ Y G.T.g
  exact callX KX G.T.g G.T.b G.T.builtins G.T.nolimit hg hobj hints (Nat.le_trans hlen hn2) hr hmg D (hok ns hlen)
/-! ### the module's constants -/
mutual
theorem pvV_ok {K : PySem.W.Frag} : ∀ {p : PV} {u : Value} {y : V}, pvV K p u = some y → L2.RelV y u ∧ ∀ H μ, RV K H μ p y
  | .non, u, y, h => by
    cases u <;> simp [pvV] at h
    subst h
    exact ⟨rfl, fun _ _ => .non⟩
  | .bl b, u, y, h => by
    cases u <;> simp [pvV] at h
    obtain ⟨rfl, rfl⟩ := h
    exact ⟨rfl, fun _ _ => .bl _⟩
  | .int i, u, y, h => by
    cases u <;> simp [pvV] at h
    obtain ⟨rfl, rfl⟩ := h
    exact ⟨⟨_, rfl⟩, fun _ _ => .int _⟩
  | .str i, u, y, h => by
    cases u <;> simp [pvV] at h
    obtain ⟨rfl, rfl⟩ := h
    exact ⟨⟨_, rfl⟩, fun _ _ => .str _⟩
  | .ty i, u, y, h => by cases u <;> simp [pvV] at h
  | .lst i, u, y, h => by cases u <;> simp [pvV] at h
  | .loc i, u, y, h => by cases u <;> simp [pvV] at h
  | .tup ps, u, y, h => by
    cases u with
    | ref a =>
      unfold pvV at h
      split at h
      · rename_i c od its n sl e
        split at h
        · rename_i hc
          split at h
          · rename_i vs e2
            cases h
            obtain ⟨h1, h2⟩ := pvVs_ok e2
            obtain ⟨rfl, hz⟩ := hc
            exact ⟨rfl, fun H μ => .tup (.inr ⟨_, its, n, e, rfl, rfl, hz, h1⟩) (h2 H μ)⟩
          · cases h
        · cases h
      · cases h
    | _ => simp [pvV] at h
theorem pvVs_ok {K : PySem.W.Frag} : ∀ {ps : List PV} {us : List Value} {ys : List V}, pvVs K ps us = some ys → Vals ys us ∧ ∀ H μ, RVs K H μ ps ys
  | [], us, ys, h => by
    cases us with
    | nil => simp [pvVs] at h; subst h; exact ⟨.nil, fun _ _ => .nil⟩
    | cons _ _ => simp [pvVs] at h
  | p :: ps, us, ys, h => by
    cases us with
    | nil => simp [pvVs] at h
    | cons u us =>
      unfold pvVs at h
      split at h
      · rename_i v vs e1 e2
        cases h
        obtain ⟨a1, a2⟩ := pvV_ok e1
        obtain ⟨b1, b2⟩ := pvVs_ok e2
        exact ⟨.cons a1 b1, fun H μ => .cons (a2 H μ) (b2 H μ)⟩
      · cases h
end
def nmsB (D : Dat) (K : PySem.W.Frag) : Bool := nmsC D.glb D.gcd K
theorem nms_of {D : Dat} {K : PySem.W.Frag} {h : Heap} {mg : Str → Option Value} (X : K.In h) (G : h.Ns mainGlobals mg) (c : nmsB D K = true) : Nms D K mg := by
  unfold nmsB nmsC at c
  rw [show bltH = bltNames from rfl] at c
  simp only [Bool.and_eq_true, Bool.or_eq_true, Bool.not_eq_true'] at c
  obtain ⟨c1, c2, c3⟩ := c
  refine ⟨fun n hn => He.free_ok X G (List.all_eq_true.mp c1 n hn), fun hg => ?_, fun n v hv => ?_⟩
  · rcases c3 with c3 | c3
    · rw [hg] at c3; cases c3
    · unfold gcdB at c3
      split at c3
      · rename_i id e
        obtain rfl := eq_of_beq c3
        exact PySem.W.mg_of X G e
      · cases c3
  · have := List.all_eq_true.mp c2 (n, v) hv
    unfold conB at this
    split at this
    · rename_i u e
      cases e2 : pvV K v u with
      | none => rw [e2] at this; cases this
      | some y =>
        obtain ⟨r1, r2⟩ := pvV_ok e2
        exact ⟨u, y, PySem.W.mg_of X G e, r1, r2⟩
    · cases this
/-! ### the Hook -/
def obsP (fa : List He.Fa) (fn : List He.DefD) (D : Dat) (K : PySem.W.Frag) : Bool × He.AlD := (nmsB D K, He.obsD fa fn K)
def obsPG (n : Nat) (fa : List He.Fa) (fn : List He.DefD) (D : Dat) (g : Addr → Option Obj) : Bool × He.AlD := obsP fa fn D (He.frG g (He.asD g n))
def hookP (n : Nat) (fa : List He.Fa) (fn : List He.DefD) (D : Dat) : PySem.W.Hook where
  α := Bool × He.AlD
  obs := fun s => obsPG n fa fn D s.heap.get?
  val := fun _ => (true, He.valD fn)
  says := fun _ h => ∃ K : PySem.W.Frag, K.In h ∧ nmsB D K = true ∧ He.SaysD fa fn K
  of := fun _ _ e => ⟨_, He.frG_in, congrArg Prod.fst e, congrArg Prod.snd e⟩
  keeps := fun _ _ _ ⟨K, hK, c⟩ k => ⟨K, PySem.W.Frag.In.keeps hK k, c⟩
theorem obsPG_eq {n : Nat} {fa : List He.Fa} {fn : List He.DefD} {D : Dat} {g : Addr → Option Obj} {s : Shared} (h : ∀ a, g a = s.heap.get? a) : obsPG n fa fn D g = (hookP n fa fn D).obs s := by
  have e : g = s.heap.get? := funext h
  rw [e]
  rfl
/-! ### a def of the text -/
theorem says_def {fa : List He.Fa} {fn : List He.DefD} {K : PySem.W.Frag} (c : He.SaysD fa fn K) (k : Nat) {x : Str} {st : Stmt} (h : fn[k]? = some (dOf x st)) : ∃ fd, FunD K x x (defArgs st) (defBody st) (defScope st) [] [] (He.ga K x) fd := c.def_ k h
theorem fun_of {K : PySem.W.Frag} {x qual : Str} {st : Stmt} {f : Addr} {fd : FuncData} (F : FunD K x qual (defArgs st) (defBody st) (defScope st) [] [] f fd) : Fun K x qual st f fd := by
  obtain ⟨⟨oc, od, dV, kV, doc, pm, an, cdv, ct, osl, e, l, c, hD, hK⟩, kp⟩ := F
  rcases hD with ⟨_, rfl⟩ | ⟨e2, _⟩
  · exact ⟨⟨oc, od, kV, doc, pm, an, cdv, ct, osl, e, l, c⟩, kp⟩
  · exact absurd rfl e2
def defB (D : Dat) (fns : List Fn) (i : Nat) (fi : FnI) (ps N : List Str) (st : Stmt) : Bool := (ps.length == fi.ar) && (C8.scC N ps (defScope st) && (match nth fns i with
  | some fn => (fn.ar == fi.ar) && ((fn.sl == N.length) && chkSs D N (defScope st) fn.body (defBody st))
  | none => false))
theorem defM_mk {K : PySem.W.Frag} {mg : Str → Option Value} {D : Dat} {fns : List Fn} {i : Nat} {fi : FnI} {st : Stmt} {f : Addr} {fd : FuncData} {ps N : List Str} (F : FunD K fi.name fi.name (defArgs st) (defBody st) (defScope st) [] [] f fd) (g : mg fi.name = some (.ref f))
    (hb : ∀ (kV doc pm : Value) (an : Option Addr) (cdv ct : Value) (us : List Value), us.length = ps.length → bindArgs (PySem.W.fnOf fi.name fi.name (defArgs st) (defBody st) (defScope st) .none kV doc pm an cdv ct) ⟨us, []⟩ = pure (ps.zip us))
    (c : defB D fns i fi ps N st = true) : DefM K mg D fns i fi := by
  unfold defB at c
  simp only [Bool.and_eq_true, beq_iff_eq] at c
  obtain ⟨c1, c2, c3⟩ := c
  split at c3
  · rename_i fn e
    simp only [Bool.and_eq_true, beq_iff_eq] at c3
    exact ⟨st, f, fd, ps, N, fi.name, fn, fun_of F, g, F.bindsN hb, c1, C8.fnScope_by c2, e, c3.1, c3.2.1, c3.2.2⟩
  · cases c3
section
variable {P : Program} {w : World} {K : PySem.W.Frag} {mg : Str → Option Value} {D : Dat}
theorem cls_mk {C fI N : Addr} {nm q qual : Str} {st : Stmt} {bs bm : List Value} {sn : List Str} {sub : List Value} {ab : Bool} {col : Option Bool} {dd : Option Addr} {m0 m1 m2 m3 m5 : Option Value}
    {oc : Value} {od an : Option Addr} {osl : Array (Option Value)} {kV doc pm cdv ct : Value}
    (xL : K.lookup C = some (excClassObj nm q C N bs bm true sn sub ab col dd m0 m1 m2 m3 m5 "ValueError.__new__")) (xM : PySem.HandSPX.refsVE bm = true)
    (sa : PySem.W.findIn K (.ref C) "__setattr__" = some (some (.builtin "object.__setattr__"))) (eC : PySem.W.subIn K (.ref C) (.type "BaseException") = some true) (tC : PySem.W.typeIn K (.ref C) = some (.type "type")) (kC : PySem.W.keepIn K (.ref C) = true)
    (hg : PySem.W.findIn K (.ref C) "__getattribute__" = some (some (.builtin "BaseException.__getattribute__"))) (hk : PySem.W.findIn K (.ref C) "__getattr__" = some none) (hd : PySem.W.hasDictIn K C = true)
    (ha : PySem.W.findIn K (.ref C) "__class__" = some (some (.builtin "object.__class__"))) (hn : PySem.W.specialIn K (.builtin "object.__class__") "__get__" = some (some (.builtin "getset_descriptor.__get__"))) (ht : PySem.W.takesIn K (.builtin "object.__class__") = some true)
    (hm : PySem.W.mroIn K C (.type "object") = some true) (ini : PySem.W.findIn K (.ref C) "__init__" = some (some (.ref fI))) (tyI : PySem.W.typeIn K (.ref fI) = some (.type "function"))
    (lI : K.lookup fI = some ⟨oc, od, .func (PySem.W.fnOf "__init__" qual (defArgs st) (defBody st) (defScope st) .none kV doc pm an cdv ct), osl⟩) (cI : PySem.W.codeIn K cdv qual = true) (kI : PySem.W.keepIn K (.ref fI) = true) :
    ∃ fI fd, Own.XM K C fI ∧ Fun K "__init__" qual st fI fd :=
  ⟨fI, _, ⟨⟨⟨⟨nm, q, N, bs, bm, sn, sub, ab, col, dd, m0, m1, m2, m3, m5, xL, xM⟩, sa, eC, tC, kC⟩, ⟨hg, hk, eC, hd, ha, hn, ht, hm⟩⟩, ini, tyI⟩, fun_mk (st := st) lI cI kI⟩
theorem clsI_mk {x qual f : Str} {st : Stmt} {CC : Addr} (g : mg x = some (.ref CC)) (m : ∃ fI fd, Own.XM K CC fI ∧ Fun K "__init__" qual st fI fd) (n : PySem.W.findIn K (.ref CC) f = some none) (e : PySem.W.exmOne K (.ref CC) (.ref CC) = some true)
    (ok : ∀ {fI : Addr} {fd : FuncData}, Fun K "__init__" qual st fI fd → OexC K CC → Binds K fd ["self", f] [] ∧ ∀ base, FnOk P w K mg base CX0 1 fI fd ["self", f] (Own.spI1 CC f)) : ClsI P w K mg x f (CC, [f]) := by
  obtain ⟨fI, fd, XX, F⟩ := m
  obtain ⟨b, o⟩ := ok F XX.o
  exact ⟨rfl, g, ⟨fI, fd, XX, b, o⟩, ⟨XX.e.hg, XX.e.hk, XX.e.hs, XX.e.hd⟩, n, e⟩
theorem clsOk0 (h : D.cls = []) {C : Cls} : ClsOk P w K mg C D := ⟨fun c x f e => by rw [h] at e; simp at e⟩
theorem clsOk1 {x f : Str} {A : Addr × List Str} (h : D.cls = [(x, [f])]) (I : ClsI P w K mg x f A) : ClsOk P w K mg (fun _ => A) D := ⟨fun c x' f' e => by
  rw [h] at e
  cases c with
  | zero => cases e; exact I
  | succ c => simp at e⟩
end
end Pi
end
section
set_option Elab.async false
set_option linter.all false
set_option maxRecDepth 100000
set_option maxHeartbeats 4000000
namespace Pi
open PySem PySem.Spec PyProof.Rows L2
/-! ### a class off the look -/
theorem xm_of {K : PySem.W.Frag} {x f : Str} (h : xcB K x f = true) : PySem.W.nsIn K mainGlobals x = some (some (.ref (He.ga K x))) ∧ Own.XM K (He.ga K x) (He.ma K (He.ga K x) "__init__") ∧ PySem.W.findIn K (.ref (He.ga K x)) f = some none ∧ PySem.W.exmOne K (.ref (He.ga K x)) (.ref (He.ga K x)) = some true := by
  unfold xcB at h
  obtain ⟨g, h⟩ := He.ba h
  have g2 : PySem.W.nsIn K mainGlobals x = some (some (.ref (He.ga K x))) := He.eqO_ok g
  generalize He.ga K x = C at h g2 ⊢
  simp only [xcL, List.all_cons, List.all_nil, id, Bool.and_eq_true, decide_eq_true_eq, Bool.and_true] at h
  obtain ⟨a1, a2, a3, a4, a5, a6, a7, a8, a9, a10, a11, a12, a13, a14, a15, a16⟩ := h
  exact ⟨g2, ⟨⟨⟨xoB_ok a1, He.eqO_ok a2, a3, a4, a5⟩, ⟨He.eqO_ok a6, He.eqO_ok a7, a3, a8, He.eqO_ok a9, He.eqO_ok a10, a11, a12⟩⟩, He.eqO_ok a13, a14⟩, He.eqO_ok a15, a16⟩
theorem says_app {fa1 fa2 : List He.Fa} {fn1 fn2 : List He.DefD} {K : PySem.W.Frag} (h1 : He.SaysD fa1 fn1 K) (h2 : He.SaysD fa2 fn2 K) : He.SaysD (fa1 ++ fa2) (fn1 ++ fn2) K := by
  unfold He.SaysD He.obsD He.valD at *
  simp only [Prod.mk.injEq, List.all_append, List.map_append] at *
  obtain ⟨a1, a2⟩ := h1
  obtain ⟨b1, b2⟩ := h2
  rw [a2, b2]
  refine ⟨?_, rfl⟩
  simp only [Bool.and_eq_true] at *
  exact ⟨⟨a1.1, b1.1⟩, ⟨a1.2, b1.2⟩⟩
end Pi
end
section
set_option Elab.async false
set_option maxRecDepth 100000
namespace Pi.T
open PySem
def f0_plus : Fn := ⟨3, 5, [.ret (.bi false .tuple [(.comp false (.tup [(.var 3), (.var 4)]) .zip [(.var 0), (.var 1)] [] (.bin false .add (.var 3) (.bin false .mul (.var 2) (.var 4))))])], false⟩
def f1_less : Fn := ⟨2, 4, [.ret (.bi false .tuple [(.comp false (.tup [(.var 2), (.var 3)]) .zip [(.var 0), (.var 1)] [] (.bin false .sub (.var 2) (.var 3)))])], false⟩
def f2_weighted : Fn := ⟨2, 4, [.ret (.bi false .sum [(.comp false (.tup [(.var 2), (.var 3)]) .zip [(.var 0), (.var 1)] [] (.bin false .mul (.var 2) (.var 3)))])], false⟩
def f3_remainder : Fn := ⟨2, 2, [.ite (.cmp .eq (.var 1) (.cst (.int 0))) [.ret (.var 0)] [],
      .ret (.bin false .mod (.var 0) (.var 1))], false⟩
def f4_multiplied : Fn := ⟨1, 3, [.asg 1 (.cst (.int 1)),
      .loop (.var 2) .it [(.var 0)] [.asg 1 (.bin false .mul (.var 1) (.var 2))],
      .ret (.var 1)], false⟩
def f5_units : Fn := ⟨1, 2, [.ret (.bi false .tuple [(.comp false (.var 1) .range [(.var 0)] [] (.bin false .add (.bin false .add (.bin false .mul (.tup [(.cst (.int 0))]) (.var 1)) (.tup [(.cst (.int 1))])) (.bin false .mul (.tup [(.cst (.int 0))]) (.bin false .sub (.bin false .sub (.var 0) (.cst (.int 1))) (.var 1)))))])], false⟩
def f6_reduced : Fn := ⟨2, 5, [.asg 2 (.cst (.int 0)),
      .loop (.var 3) .it [(.var 1)] [.whl (.cmp .eq (.idx (.var 3) (.var 2)) (.cst (.int 0))) [.aug 2 .add (.cst (.int 1))],
      .asg 4 (.bin false .fdiv (.idx (.var 0) (.var 2)) (.idx (.var 3) (.var 2))),
      .ite (.cmp .ne (.var 4) (.cst (.int 0))) [.asg 0 (.call 0 [(.var 0), (.var 3), (.neg (.var 4))])] []],
      .ret (.var 0)], false⟩
def f7_gathered : Fn := ⟨2, 5, [.asg 2 (.cst .non),
      .asg 3 (.lst true []),
      .loop (.var 4) .it [(.var 0)] [.ite (.and [(.is false (.var 2) .non), (.cmp .ne (.idx (.var 4) (.var 1)) (.cst (.int 0)))]) [.asg 2 (.var 4),
      .cont] [],
      .whl (.cmp .ne (.idx (.var 4) (.var 1)) (.cst (.int 0))) [.par [2, 4] [(.var 4), (.call 0 [(.var 2), (.var 4), (.neg (.bin false .fdiv (.idx (.var 2) (.var 1)) (.idx (.var 4) (.var 1))))])]],
      .ite (.bi false .any [(.var 4)]) [.expr (.meth .append (.var 3) [(.var 4)])] []],
      .ret (.tup [(.var 2), (.var 3)])], false⟩
def f8_signed : Fn := ⟨2, 3, [.ite (.cmp .gt (.idx (.var 0) (.var 1)) (.cst (.int 0))) [.ret (.var 0)] [],
      .ret (.bi false .tuple [(.comp false (.var 2) .it [(.var 0)] [] (.neg (.var 2)))])], false⟩
def f9_hermite : Fn := ⟨1, 7, [.asg 1 (.lst true []),
      .asg 2 (.var 0),
      .asg 3 (.cst (.int 0)),
      .whl (.var 2) [.asgT [(.var 4), (.var 2)] (.call 7 [(.var 2), (.var 3)]),
      .ite (.is true (.var 4) .non) [.expr (.meth .append (.var 1) [(.call 8 [(.var 4), (.var 3)])])] [],
      .aug 3 .add (.cst (.int 1))],
      .asg 5 (.tup []),
      .loop (.var 6) .rev [(.var 1)] [.asg 5 (.bin false .add (.tup [(.call 6 [(.var 6), (.var 5)])]) (.var 5))],
      .ret (.var 5)], false⟩
def f10_transposed : Fn := ⟨1, 1, [.ret (.zipstar false (.var 0))], false⟩
def f11_agreeing : Fn := ⟨3, 9, [.asg 3 (.comp false (.var 7) .it [(.var 0)] [] (.call 3 [(.call 2 [(.var 1), (.var 7)]), (.var 2)])),
      .ite (.not (.bi false .any [(.var 3)])) [.ret (.var 0)] [],
      .asg 4 (.comp false (.tup [(.var 8), (.var 7)]) .zip [(.var 3), (.var 0)] [] (.bin false .add (.tup [(.var 8)]) (.var 7))),
      .asgT [(.var 5), (.var 6)] (.call 7 [(.bin false .add (.lst false [(.bin false .add (.tup [(.var 2)]) (.bin false .mul (.tup [(.cst (.int 0))]) (.bi false .len [(.var 1)])))]) (.var 4)), (.cst (.int 0))]),
      .ret (.call 9 [(.comp false (.var 7) .it [(.var 6)] [] (.slc false (.var 7) (some (.cst (.int 1))) none))])], false⟩
def f12_is_diagonal : Fn := ⟨1, 3, [.loop (.tup [(.var 1), (.var 2)]) .enum [(.var 0)] [.ite (.bi false .any [(.slc false (.var 2) (some (.bin false .add (.var 1) (.cst (.int 1)))) none)]) [.ret (.cst (.bl false))] []],
      .ret (.cst (.bl true))], false⟩
def f13_coordinates : Fn := ⟨2, 8, [.asg 2 (.call 5 [(.var 1)]),
      .whl (.not (.call 12 [(.var 0)])) [.asg 3 (.call 9 [(.comp false (.tup [(.var 5), (.var 6)]) .zip [(.call 10 [(.var 0)]), (.var 2)] [] (.bin false .add (.var 5) (.var 6)))]),
      .asg 2 (.comp false (.var 5) .it [(.var 3)] [] (.slc false (.var 5) (some (.bi false .len [(.var 0)])) none)),
      .asg 0 (.call 9 [(.call 10 [(.comp false (.var 5) .it [(.var 3)] [] (.slc false (.var 5) none (some (.bi false .len [(.var 0)]))))])])],
      .asg 4 (.bin false .add (.comp false (.tup [(.var 7), (.var 5)]) .enum [(.var 0)] [] (.idx (.var 5) (.var 7))) (.bin false .mul (.lst false [(.cst (.int 0))]) (.bin false .sub (.var 1) (.bi false .len [(.var 0)])))),
      .ret (.lzip false (.var 4) (.var 2))], false⟩
def f14_divisors : Fn := ⟨1, 5, [.asg 1 (.bi true .list [(.var 0)]),
      .loop (.var 2) .range [(.bi false .len [(.var 1)])] [.loop (.var 3) .range [(.var 2)] [.asg 4 (.bi false .gcd [(.idx (.var 1) (.var 3)), (.idx (.var 1) (.var 2))]),
      .asubs [((.var 1), (.var 3)), ((.var 1), (.var 2))] (.tup [(.var 4), (.bin false .fdiv (.bin false .mul (.idx (.var 1) (.var 3)) (.idx (.var 1) (.var 2))) (.var 4))])]],
      .ret (.var 1)], false⟩
def f15_is_integer : Fn := ⟨1, 1, [.ret (.and [(.isi (.var 0) .int), (.not (.isi (.var 0) .bool))])], false⟩
def f16_is_between : Fn := ⟨3, 3, [.ret (.and [(.call 15 [(.var 0)]), (.chain .le .le (.var 1) (.var 0) (.var 2))])], false⟩
def f17_is_number : Fn := ⟨2, 2, [.ret (.call 16 [(.var 0), (.cst (.int 0)), (.bin false .sub (.var 1) (.cst (.int 1)))])], false⟩
def f18_is_tuple : Fn := ⟨2, 2, [.ret (.and [(.isi (.var 0) .tuple), (.cmp .eq (.bi false .len [(.var 0)]) (.var 1))])], false⟩
def f19_is_few : Fn := ⟨2, 2, [.ret (.and [(.isi (.var 0) .tuple), (.chain .le .le (.cst (.int 1)) (.bi false .len [(.var 0)]) (.var 1))])], false⟩
def f20_is_row : Fn := ⟨3, 4, [.ite (.or [(.not (.isi (.var 0) .tuple)), (.cmp .ne (.bi false .len [(.var 0)]) (.var 1))]) [.ret (.cst (.bl false))] [],
      .loop (.var 3) .it [(.var 0)] [.ite (.or [(.not (.isi (.var 3) .int)), (.is false (.var 3) (.bl true)), (.is false (.var 3) (.bl false)), (.not (.chain .le .le (.neg (.var 2)) (.var 3) (.var 2)))]) [.ret (.cst (.bl false))] []],
      .ret (.cst (.bl true))], false⟩
def f21_is_place : Fn := ⟨2, 3, [.ite (.or [(.not (.isi (.var 0) .tuple)), (.cmp .ne (.bi false .len [(.var 0)]) (.var 1))]) [.ret (.cst (.bl false))] [],
      .loop (.var 2) .it [(.var 0)] [.ite (.or [(.not (.isi (.var 2) .int)), (.is false (.var 2) (.bl true)), (.is false (.var 2) (.bl false))]) [.ret (.cst (.bl false))] []],
      .ret (.cst (.bl true))], false⟩
def f22_is_matrix : Fn := ⟨2, 3, [.ite (.not (.call 19 [(.var 0), (.glob (.int 3))])) [.ret (.cst (.bl false))] [],
      .loop (.var 2) .it [(.var 0)] [.ite (.not (.call 20 [(.var 2), (.var 1), (.glob (.int 4))])) [.ret (.cst (.bl false))] []],
      .ret (.cst (.bl true))], false⟩
def f23_is_reference : Fn := ⟨2, 5, [.ite (.or [(.not (.isi (.var 0) .tuple)), (.cmp .ne (.bi false .len [(.var 0)]) (.cst (.int 3)))]) [.ret (.cst (.bl false))] [],
      .asgT [(.var 2), (.var 3), (.var 4)] (.var 0),
      .ite (.not (.call 17 [(.var 2), (.bi false .len [(.var 1)])])) [.ret (.cst (.bl false))] [],
      .ret (.and [(.call 20 [(.var 3), (.bi false .len [(.idx (.var 1) (.var 2))]), (.glob (.int 9))]), (.mem false (.var 4) (.glob (.tup [(.str ("read" : Str)), (.str ("write" : Str))])))])], false⟩
def f24_wrong_in_statement : Fn := ⟨2, 4, [.ite (.not (.call 19 [(.var 0), (.glob (.int 4))])) [.ret (.tup [])] [],
      .loop (.tup [(.var 2), (.var 3)]) .enum [(.var 0)] [.ite (.not (.call 23 [(.var 3), (.var 1)])) [.ret (.tup [(.var 2)])] []],
      .ret (.cst .non)], false⟩
def f25_wrong_in_arrays : Fn := ⟨2, 4, [.ite (.not (.call 19 [(.var 1), (.glob (.int 4))])) [.ret (.tup [(.cst (.int 1))])] [],
      .loop (.tup [(.var 2), (.var 3)]) .enum [(.var 1)] [.ite (.not (.call 22 [(.var 3), (.var 0)])) [.ret (.tup [(.cst (.int 1)), (.var 2)])] []],
      .ret (.cst .non)], false⟩
def f26_wrong_in_statements : Fn := ⟨2, 5, [.ite (.not (.call 19 [(.var 1), (.glob (.int 4))])) [.ret (.tup [(.cst (.int 2))])] [],
      .loop (.tup [(.var 2), (.var 3)]) .enum [(.var 1)] [.asg 4 (.call 24 [(.var 3), (.var 0)]),
      .ite (.is true (.var 4) .non) [.ret (.bin false .add (.tup [(.cst (.int 2)), (.var 2)]) (.var 4))] []],
      .ret (.cst .non)], false⟩
def f27_wrong_in_program : Fn := ⟨1, 5, [.ite (.not (.call 18 [(.var 0), (.cst (.int 3))])) [.ret (.tup [])] [],
      .asgT [(.var 1), (.var 2), (.var 3)] (.var 0),
      .ite (.not (.call 16 [(.var 1), (.cst (.int 1)), (.glob (.int 3))])) [.ret (.tup [(.cst (.int 0))])] [],
      .asg 4 (.call 25 [(.var 1), (.var 2)]),
      .ite (.is true (.var 4) .non) [.ret (.var 4)] [],
      .ret (.call 26 [(.var 2), (.var 3)])], false⟩
def f28_need_program : Fn := ⟨1, 2, [.asg 1 (.call 27 [(.var 0)]),
      .ite (.is true (.var 1) .non) [.bad] [],
      .ret (.var 0)], false⟩
def f29_is_lot : Fn := ⟨2, 4, [.ite (.not (.isi (.var 1) .tuple)) [.ret (.cst (.bl false))] [],
      .asg 2 (.cst (.int 0)),
      .loop (.var 3) .it [(.var 1)] [.ite (.not (.call 16 [(.var 3), (.var 2), (.bin false .sub (.bi false .len [(.idx (.var 0) (.cst (.int 1)))]) (.cst (.int 1)))])) [.ret (.cst (.bl false))] [],
      .asg 2 (.bin false .add (.var 3) (.cst (.int 1)))],
      .ret (.cst (.bl true))], false⟩
def f30_need_lot : Fn := ⟨2, 2, [.ite (.not (.call 29 [(.var 0), (.var 1)])) [.bad] []], false⟩
def f31_need_statement : Fn := ⟨2, 2, [.ite (.not (.call 17 [(.var 1), (.bi false .len [(.idx (.var 0) (.cst (.int 2)))])])) [.bad] []], false⟩
def f32_is_round : Fn := ⟨2, 4, [.ite (.not (.call 18 [(.var 1), (.cst (.int 2))])) [.ret (.cst (.bl false))] [],
      .asgT [(.var 2), (.var 3)] (.var 1),
      .ret (.and [(.call 17 [(.var 2), (.bi false .len [(.idx (.var 0) (.cst (.int 2)))])]), (.call 21 [(.var 3), (.idx (.var 0) (.cst (.int 0)))])])], false⟩
def f33_need_round : Fn := ⟨2, 2, [.ite (.not (.call 32 [(.var 0), (.var 1)])) [.bad] []], false⟩
def f34_touched : Fn := ⟨2, 12, [.asgT [(.var 2), (.var 3)] (.var 1),
      .asg 4 (.lst true []),
      .loop (.tup [(.var 5), (.var 6), (.var 7)]) .it [(.idx (.idx (.var 0) (.cst (.int 2))) (.var 2))] [.asg 8 (.idx (.idx (.var 0) (.cst (.int 1))) (.var 5)),
      .asg 9 (.comp false (.tup [(.var 10), (.var 11)]) .zip [(.var 8), (.var 6)] [] (.bin false .add (.call 2 [(.var 10), (.var 3)]) (.var 11))),
      .expr (.meth .append (.var 4) [(.tup [(.var 5), (.bi false .tuple [(.var 9)])])])],
      .ret (.var 4)], false⟩
def f35_cells : Fn := ⟨2, 2, [.expr (.call 28 [(.var 0)]),
      .expr (.call 33 [(.var 0), (.var 1)]),
      .ret (.bi false .tuple [(.srtset false (.call 34 [(.var 0), (.var 1)]))])], false⟩
def f36_touched_of : Fn := ⟨3, 4, [.ret (.comp false (.var 3) .it [(.call 34 [(.var 0), (.var 2)])] [(.mem false (.idx (.var 3) (.cst (.int 0))) (.var 1))] (.var 3))], false⟩
def f37_have_common : Fn := ⟨2, 3, [.ret (.bi false .any [(.comp false (.var 2) .it [(.var 1)] [] (.mem false (.var 2) (.var 0)))])], false⟩
def f38_do_meet : Fn := ⟨4, 4, [.expr (.call 28 [(.var 0)]),
      .expr (.call 30 [(.var 0), (.var 1)]),
      .expr (.call 33 [(.var 0), (.var 2)]),
      .expr (.call 33 [(.var 0), (.var 3)]),
      .ret (.call 37 [(.call 36 [(.var 0), (.var 1), (.var 2)]), (.call 36 [(.var 0), (.var 1), (.var 3)])])], false⟩
def f39_written : Fn := ⟨1, 5, [.expr (.call 28 [(.var 0)]),
      .ret (.bi false .tuple [(.srtcomp false (.var 1) (.idx (.var 0) (.cst (.int 2))) (.tup [(.var 2), (.var 3), (.var 4)]) (.var 1) [(.cmp .eq (.var 4) (.cst (.str ("write" : Str))))] (.var 2))])], false⟩
def f40_sight : Fn := ⟨2, 8, [.asg 2 (.call 9 [(.comp false (.tup [(.var 5), (.var 6)]) .zip [(.call 10 [(.var 0)]), (.call 5 [(.var 1)])] [] (.bin false .add (.var 5) (.var 6)))]),
      .asg 3 (.bi false .len [(.var 0)]),
      .asg 4 (.comp false (.var 7) .it [(.var 2)] [(.bi false .any [(.slc false (.var 7) none (some (.var 3)))])] (.var 7)),
      .ret (.tup [(.var 4), (.comp false (.var 7) .it [(.slc false (.var 2) (some (.bi false .len [(.var 4)])) none)] [] (.slc false (.var 7) (some (.var 3)) none))])], false⟩
def f41_uses : Fn := ⟨2, 18, [.asgT [(.var 2), (.var 3), (.var 4)] (.var 0),
      .asg 5 (.bin false .mul (.tup [(.cst (.int 0))]) (.var 2)),
      .asg 6 (.dcomp (.var 10) .it [(.var 1)] [] (.var 10) (.call 40 [(.idx (.var 3) (.var 10)), (.var 2)])),
      .asg 7 (.dct true [] []),
      .loop (.tup [(.var 8), (.var 9)]) .enum [(.var 4)] [.loop (.tup [(.var 10), (.var 11), (.var 12)]) .it [(.var 9)] [.ite (.mem false (.var 10) (.var 6)) [.asgT [(.var 13), (.var 14)] (.idx (.var 6) (.var 10)),
      .asg 15 (.call 6 [(.bin false .add (.var 11) (.var 5)), (.var 13)]),
      .asg 16 (.bi false .len [(.var 11)]),
      .asgT [(.var 17), (.var 12)] (.meth .setdefault (.var 7) [(.tup [(.var 10), (.slc true (.var 15) none (some (.var 16)))]), (.tup [(.lst true []), (.var 14)])]),
      .expr (.meth .append (.var 17) [(.tup [(.var 8), (.slc false (.var 15) (some (.var 16)) none)])])] []]],
      .ret (.lvals false (.var 7))], false⟩
def f42_ties : Fn := ⟨2, 10, [.asg 2 (.lst true []),
      .loop (.tup [(.var 3), (.var 4)]) .it [(.call 41 [(.var 0), (.var 1)])] [.asgT [(.var 5), (.var 6)] (.idx (.var 3) (.cst (.int 0))),
      .expr (.meth .extend (.var 2) [(.comp false (.var 7) .it [(.var 4)] [] (.tup [(.var 5), (.var 5), (.var 7)]))]),
      .expr (.meth .extend (.var 2) [(.comp false (.tup [(.var 8), (.var 9)]) .it [(.slc false (.var 3) (some (.cst (.int 1))) none)] [] (.tup [(.var 5), (.var 8), (.call 1 [(.var 9), (.var 6)])]))])],
      .ret (.var 2)], false⟩
def f43_joined : Fn := ⟨2, 14, [.asg 2 (.bi false .len [(.idx (.var 0) (.cst (.int 2)))]),
      .asg 3 (.lrange true (.var 2)),
      .asg 4 (.bin true .mul (.lst false [(.bin false .mul (.tup [(.cst (.int 0))]) (.idx (.var 0) (.cst (.int 0))))]) (.var 2)),
      .asg 5 (.comp false (.var 13) .range [(.var 2)] [] (.lst true [])),
      .loop (.tup [(.var 6), (.var 7), (.var 8)]) .it [(.var 1)] [.par [9, 10] [(.idx (.var 3) (.var 6)), (.idx (.var 3) (.var 7))],
      .asg 11 (.call 1 [(.call 0 [(.idx (.var 4) (.var 6)), (.var 8), (.cst (.int 1))]), (.idx (.var 4) (.var 7))]),
      .ite (.cmp .eq (.var 9) (.var 10)) [.expr (.meth .append (.idx (.var 5) (.var 9)) [(.var 11)]),
      .cont] [],
      .ite (.cmp .gt (.var 9) (.var 10)) [.par [9, 10, 11] [(.var 10), (.var 9), (.call 1 [(.idx (.var 4) (.var 7)), (.call 0 [(.idx (.var 4) (.var 6)), (.var 8), (.cst (.int 1))])])]] [],
      .expr (.meth .extend (.idx (.var 5) (.var 9)) [(.idx (.var 5) (.var 10))]),
      .loop (.var 12) .range [(.var 2)] [.ite (.cmp .eq (.idx (.var 3) (.var 12)) (.var 10)) [.sub (.var 3) (.var 12) (.var 9),
      .sub (.var 4) (.var 12) (.call 0 [(.idx (.var 4) (.var 12)), (.var 11), (.cst (.int 1))])] []]],
      .ret (.tup [(.var 3), (.var 4), (.var 5)])], false⟩
def f44_groups_by : Fn := ⟨1, 5, [.asg 1 (.dct false [] []),
      .loop (.tup [(.var 2), (.var 3)]) .enum [(.var 0)] [.expr (.meth .append (.meth .setdefault (.var 1) [(.var 3), (.lst true [])]) [(.var 2)])],
      .ret (.bi false .tuple [(.comp false (.var 4) .vals [(.var 1)] [] (.bi false .tuple [(.var 4)]))])], false⟩
def f45_groups : Fn := ⟨2, 4, [.expr (.call 28 [(.var 0)]),
      .expr (.call 30 [(.var 0), (.var 1)]),
      .asgT [(.var 2), (.var 3), (.var 3)] (.call 43 [(.var 0), (.call 42 [(.var 0), (.var 1)])]),
      .ret (.call 44 [(.var 2)])], false⟩
def f46_basis : Fn := ⟨3, 6, [.expr (.call 28 [(.var 0)]),
      .expr (.call 30 [(.var 0), (.var 1)]),
      .expr (.call 31 [(.var 0), (.var 2)]),
      .asgT [(.var 3), (.var 4), (.var 5)] (.call 43 [(.var 0), (.call 42 [(.var 0), (.var 1)])]),
      .ret (.call 9 [(.idx (.var 5) (.idx (.var 3) (.var 2)))])], false⟩
def f47_ways_apart : Fn := ⟨3, 9, [.asg 3 (.call 46 [(.var 0), (.var 1), (.var 2)]),
      .asg 4 (.comp false (.tup [(.var 6), (.var 7)]) .it [(.call 13 [(.var 3), (.idx (.var 0) (.cst (.int 0)))])] [] (.var 6)),
      .asg 5 (.call 14 [(.comp false (.var 6) .it [(.var 4)] [(.cmp .gt (.var 6) (.cst (.int 0)))] (.var 6))]),
      .ret (.tup [(.bin false .sub (.idx (.var 0) (.cst (.int 0))) (.bi false .len [(.var 3)])), (.bi false .tuple [(.comp false (.var 8) .it [(.var 5)] [(.cmp .gt (.var 8) (.cst (.int 1)))] (.var 8))])])], false⟩
def f48_is_modulus : Fn := ⟨1, 1, [.ret (.and [(.call 16 [(.var 0), (.cst (.int 0)), (.glob (.int 1000000000000000000000000000000))]), (.cmp .ne (.var 0) (.cst (.int 1)))])], false⟩
def f49_is_form : Fn := ⟨2, 5, [.ite (.or [(.not (.isi (.var 1) .tuple)), (.cmp .ne (.bi false .len [(.var 1)]) (.cst (.int 2)))]) [.ret (.cst (.bl false))] [],
      .asgT [(.var 2), (.var 3)] (.var 1),
      .ite (.or [(.not (.call 48 [(.var 2)])), (.not (.isi (.var 3) .tuple)), (.cmp .ne (.bi false .len [(.var 3)]) (.bi false .len [(.idx (.var 0) (.cst (.int 2)))]))]) [.ret (.cst (.bl false))] [],
      .loop (.var 4) .it [(.var 3)] [.ite (.or [(.not (.isi (.var 4) .tuple)), (.cmp .ne (.bi false .len [(.var 4)]) (.cst (.int 2)))]) [.ret (.cst (.bl false))] [],
      .ite (.or [(.not (.call 21 [(.idx (.var 4) (.cst (.int 0))), (.idx (.var 0) (.cst (.int 0)))])), (.not (.call 15 [(.idx (.var 4) (.cst (.int 1)))]))]) [.ret (.cst (.bl false))] []],
      .ret (.cst (.bl true))], false⟩
def f50_need_form : Fn := ⟨2, 2, [.ite (.not (.call 49 [(.var 0), (.var 1)])) [.bad] []], false⟩
def f51_wrong_in_dealing : Fn := ⟨2, 4, [.ite (.or [(.not (.isi (.var 1) .tuple)), (.cmp .gt (.bi false .len [(.var 1)]) (.glob (.int 13)))]) [.ret (.tup [])] [],
      .loop (.tup [(.var 2), (.var 3)]) .enum [(.var 1)] [.ite (.not (.call 49 [(.var 0), (.var 3)])) [.ret (.tup [(.var 2)])] []],
      .ret (.cst .non)], false⟩
def f52_need_dealing : Fn := ⟨2, 3, [.asg 2 (.call 51 [(.var 0), (.var 1)]),
      .ite (.is true (.var 2) .non) [.bad] []], false⟩
def f53_number_by : Fn := ⟨2, 8, [.asgT [(.var 2), (.var 3)] (.var 0),
      .asgT [(.var 4), (.var 5)] (.var 1),
      .asgT [(.var 6), (.var 7)] (.idx (.var 3) (.var 4)),
      .ret (.call 3 [(.bin false .add (.call 2 [(.var 6), (.var 5)]) (.var 7)), (.var 2)])], false⟩
def f54_hand_by : Fn := ⟨2, 3, [.ret (.bi false .tuple [(.comp false (.var 2) .it [(.var 0)] [] (.call 53 [(.var 2), (.var 1)]))])], false⟩
def f55_hand : Fn := ⟨3, 3, [.expr (.call 28 [(.var 0)]),
      .expr (.call 52 [(.var 0), (.var 1)]),
      .expr (.call 33 [(.var 0), (.var 2)]),
      .ret (.call 54 [(.var 1), (.var 2)])], false⟩
def f56_are_alike : Fn := ⟨3, 5, [.ite (.cmp .eq (.var 0) (.var 1)) [.ret (.cst (.bl true))] [],
      .ite (.cmp .eq (.var 2) (.cst (.int 0))) [.ret (.cst (.bl false))] [],
      .loop (.tup [(.var 3), (.var 4)]) .zip [(.var 0), (.var 1)] [.ite (.cmp .ne (.bin false .mod (.bin false .sub (.var 3) (.var 4)) (.var 2)) (.cst (.int 0))) [.ret (.cst (.bl false))] []],
      .ret (.cst (.bl true))], false⟩
def f57_do_agree : Fn := ⟨2, 11, [.asgT [(.var 2), (.var 3)] (.var 0),
      .loop (.tup [(.var 4), (.var 5), (.var 6)]) .it [(.var 1)] [.asgT [(.var 7), (.var 8)] (.idx (.var 3) (.var 4)),
      .asgT [(.var 9), (.var 10)] (.idx (.var 3) (.var 5)),
      .ite (.cmp .ne (.call 3 [(.bin false .sub (.bin false .add (.call 2 [(.var 9), (.var 6)]) (.var 10)) (.var 8)), (.var 2)]) (.cst (.int 0))) [.ret (.cst (.bl false))] [],
      .ite (.not (.call 56 [(.var 7), (.var 9), (.var 2)])) [.ret (.cst (.bl false))] []],
      .ret (.cst (.bl true))], false⟩
def f58_do_all_agree : Fn := ⟨2, 3, [.loop (.var 2) .it [(.var 0)] [.ite (.not (.call 57 [(.var 2), (.var 1)])) [.ret (.cst (.bl false))] []],
      .ret (.cst (.bl true))], false⟩
def f59_does_keep : Fn := ⟨3, 3, [.expr (.call 28 [(.var 0)]),
      .expr (.call 30 [(.var 0), (.var 1)]),
      .expr (.call 50 [(.var 0), (.var 2)]),
      .ret (.call 57 [(.var 2), (.call 42 [(.var 0), (.var 1)])])], false⟩
def f60_group_form : Fn := ⟨2, 4, [.asg 2 (.bin false .mul (.tup [(.cst (.int 0))]) (.idx (.var 0) (.cst (.int 0)))),
      .ret (.tup [(.cst (.int 0)), (.bi false .tuple [(.comp false (.var 3) .it [(.var 1)] [] (.tup [(.var 2), (.var 3)]))])])], false⟩
def f61_step_form : Fn := ⟨5, 11, [.asgT [(.var 5), (.var 6), (.var 7)] (.var 1),
      .asg 8 (.tup [(.bin false .mul (.tup [(.cst (.int 0))]) (.idx (.var 0) (.cst (.int 0)))), (.cst (.int 0))]),
      .ret (.tup [(.var 3), (.bi false .tuple [(.comp false (.tup [(.var 9), (.var 10)]) .zip [(.var 5), (.var 6)] [] (.ifx (.cmp .eq (.var 9) (.var 2)) (.tup [(.var 4), (.neg (.call 2 [(.var 4), (.var 10)]))]) (.var 8)))])])], false⟩
def f62_need_dealt : Fn := ⟨3, 3, [.expr (.call 28 [(.var 0)]),
      .expr (.call 30 [(.var 0), (.var 1)]),
      .expr (.call 52 [(.var 0), (.var 2)])], false⟩
def f63_is_right : Fn := ⟨3, 3, [.expr (.call 62 [(.var 0), (.var 1), (.var 2)]),
      .ret (.call 58 [(.var 2), (.call 42 [(.var 0), (.var 1)])])], false⟩
def f64_steps_within : Fn := ⟨3, 6, [.asg 3 (.call 5 [(.idx (.var 0) (.cst (.int 0)))]),
      .loop (.tup [(.var 4), (.var 5)]) .it [(.var 1)] [.asg 3 (.call 11 [(.var 3), (.idx (.idx (.var 5) (.var 2)) (.cst (.int 0))), (.var 4)])],
      .ret (.var 3)], false⟩
def f65_does_tell : Fn := ⟨3, 11, [.asgT [(.var 3), (.var 4)] (.var 0),
      .asgT [(.var 5), (.var 6)] (.idx (.var 4) (.var 1)),
      .asgT [(.var 7), (.var 8)] (.idx (.var 4) (.var 2)),
      .asg 9 (.var 3),
      .loop (.var 10) .it [(.bin false .add (.var 5) (.var 7))] [.asg 9 (.bi false .gcd [(.var 9), (.var 10)])],
      .ret (.cmp .ne (.call 3 [(.bin false .sub (.var 6) (.var 8)), (.var 9)]) (.cst (.int 0)))], false⟩
def f66_do_share : Fn := ⟨4, 14, [.loop (.var 4) .it [(.var 1)] [.ite (.call 65 [(.var 4), (.var 2), (.var 3)]) [.ret (.cst (.bl false))] []],
      .asg 5 (.call 5 [(.bin false .add (.cst (.int 1)) (.bin false .mul (.cst (.int 2)) (.idx (.var 0) (.cst (.int 0)))))]),
      .loop (.tup [(.var 6), (.var 7)]) .it [(.var 1)] [.asgT [(.var 8), (.var 9)] (.idx (.var 7) (.var 2)),
      .asgT [(.var 10), (.var 11)] (.idx (.var 7) (.var 3)),
      .asg 12 (.bin false .add (.bin false .add (.tup [(.bin false .sub (.var 9) (.var 11))]) (.var 8)) (.bi false .tuple [(.comp false (.var 13) .it [(.var 10)] [] (.neg (.var 13)))])),
      .asg 5 (.call 11 [(.var 5), (.var 12), (.var 6)]),
      .ite (.or [(.not (.var 5)), (.cmp .ne (.idx (.idx (.var 5) (.cst (.int 0))) (.cst (.int 0))) (.cst (.int 1)))]) [.ret (.cst (.bl false))] []],
      .ret (.cst (.bl true))], false⟩
def f67_is_finest : Fn := ⟨3, 12, [.expr (.call 62 [(.var 0), (.var 1), (.var 2)]),
      .asg 3 (.call 42 [(.var 0), (.var 1)]),
      .ite (.not (.call 58 [(.var 2), (.var 3)])) [.ret (.cst (.bl false))] [],
      .asgT [(.var 4), (.var 5), (.var 6)] (.call 43 [(.var 0), (.var 3)]),
      .asg 7 (.comp false (.tup [(.var 9), (.var 11)]) .enum [(.var 4)] [(.cmp .eq (.var 9) (.var 11))] (.var 9)),
      .loop (.tup [(.var 8), (.var 9)]) .enum [(.var 7)] [.ite (.cmp .ne (.call 64 [(.var 0), (.var 2), (.var 9)]) (.call 9 [(.idx (.var 6) (.var 9))])) [.ret (.cst (.bl false))] [],
      .loop (.var 10) .it [(.slc false (.var 7) none (some (.var 8)))] [.ite (.call 66 [(.var 0), (.var 2), (.var 10), (.var 9)]) [.ret (.cst (.bl false))] []]],
      .ret (.cst (.bl true))], false⟩
def f68_is_span : Fn := ⟨1, 1, [.ret (.and [(.call 21 [(.var 0), (.cst (.int 2))]), (.cmp .le (.idx (.var 0) (.cst (.int 0))) (.idx (.var 0) (.cst (.int 1))))])], false⟩
def f69_is_box : Fn := ⟨2, 3, [.ret (.and [(.call 18 [(.var 1), (.idx (.var 0) (.cst (.int 0)))]), (.bi false .all [(.comp false (.var 2) .it [(.var 1)] [] (.call 68 [(.var 2)]))])])], false⟩
def f70_need_box : Fn := ⟨2, 2, [.ite (.not (.call 69 [(.var 0), (.var 1)])) [.bad] []], false⟩
def f71_many_places : Fn := ⟨1, 3, [.ret (.call 4 [(.comp false (.tup [(.var 1), (.var 2)]) .it [(.var 0)] [] (.bin false .add (.bin false .sub (.var 2) (.var 1)) (.cst (.int 1))))])], false⟩
def f72_many_rounds : Fn := ⟨2, 2, [.ret (.bin false .mul (.bi false .len [(.idx (.var 0) (.cst (.int 2)))]) (.call 71 [(.var 1)]))], false⟩
def f73_need_few_rounds : Fn := ⟨2, 2, [.ite (.cmp .gt (.call 72 [(.var 0), (.var 1)]) (.glob (.int 4000))) [.bad] []], false⟩
def f74_places_in : Fn := ⟨1, 7, [.asg 1 (.lst false [(.tup [])]),
      .loop (.tup [(.var 2), (.var 3)]) .it [(.var 0)] [.asg 4 (.comp false (.var 5) .range [(.var 2), (.bin false .add (.var 3) (.cst (.int 1)))] [] (.tup [(.var 5)])),
      .asg 1 (.comp2 false (.var 6) (.var 1) (.var 5) (.var 4) [] (.bin false .add (.var 6) (.var 5)))],
      .ret (.var 1)], false⟩
def f75_head : Fn := ⟨3, 9, [.expr (.call 28 [(.var 0)]),
      .expr (.call 30 [(.var 0), (.var 1)]),
      .expr (.call 33 [(.var 0), (.var 2)]),
      .asgT [(.var 3), (.var 4)] (.var 2),
      .asgT [(.var 5), (.var 6), (.var 7)] (.call 43 [(.var 0), (.call 42 [(.var 0), (.var 1)])]),
      .asg 8 (.idx (.var 5) (.var 3)),
      .ret (.tup [(.var 8), (.call 6 [(.call 1 [(.var 4), (.idx (.var 6) (.var 3))]), (.call 9 [(.idx (.var 7) (.var 8))])])])], false⟩
def f76_step_between : Fn := ⟨3, 3, [.ret (.call 1 [(.call 1 [(.idx (.var 2) (.cst (.int 1))), (.idx (.var 0) (.idx (.var 2) (.cst (.int 0))))]), (.call 1 [(.idx (.var 1) (.cst (.int 1))), (.idx (.var 0) (.idx (.var 1) (.cst (.int 0))))])])], false⟩
def f77_are_tied : Fn := ⟨4, 8, [.expr (.call 28 [(.var 0)]),
      .expr (.call 30 [(.var 0), (.var 1)]),
      .expr (.call 33 [(.var 0), (.var 2)]),
      .expr (.call 33 [(.var 0), (.var 3)]),
      .asgT [(.var 4), (.var 5), (.var 6)] (.call 43 [(.var 0), (.call 42 [(.var 0), (.var 1)])]),
      .asg 7 (.idx (.var 4) (.idx (.var 2) (.cst (.int 0)))),
      .ite (.cmp .ne (.idx (.var 4) (.idx (.var 3) (.cst (.int 0)))) (.var 7)) [.ret (.cst (.bl false))] [],
      .ret (.not (.bi false .any [(.call 6 [(.call 76 [(.var 5), (.var 2), (.var 3)]), (.call 9 [(.idx (.var 6) (.var 7))])])]))], false⟩
def f78_hands_by : Fn := ⟨2, 11, [.asgT [(.var 2), (.var 3), (.var 4)] (.call 43 [(.var 0), (.var 1)]),
      .asg 5 (.cst (.int 0)),
      .loop (.tup [(.var 6), (.var 7)]) .enum [(.var 2)] [.ite (.cmp .eq (.var 6) (.var 7)) [.asg 8 (.call 9 [(.idx (.var 4) (.var 7))]),
      .ite (.cmp .lt (.bi false .len [(.var 8)]) (.idx (.var 0) (.cst (.int 0)))) [.ret (.cst .non)] [],
      .asg 5 (.bin false .add (.var 5) (.call 4 [(.comp false (.tup [(.var 9), (.var 10)]) .enum [(.var 8)] [] (.idx (.var 10) (.var 9)))]))] []],
      .ret (.var 5)], false⟩
def f79_many_hands : Fn := ⟨2, 2, [.expr (.call 28 [(.var 0)]),
      .expr (.call 30 [(.var 0), (.var 1)]),
      .ret (.call 78 [(.var 0), (.call 42 [(.var 0), (.var 1)])])], false⟩
def f80_turned : Fn := ⟨2, 2, [.ret (.bin false .add (.bin false .add (.slc false (.var 0) none (some (.var 1))) (.slc false (.var 0) (some (.bin false .add (.var 1) (.cst (.int 1)))) none)) (.slc false (.var 0) (some (.var 1)) (some (.bin false .add (.var 1) (.cst (.int 1))))))], false⟩
def f81_add_runs : Fn := ⟨3, 7, [.asgT [(.var 3), (.var 4)] (.idx (.var 2) (.neg (.cst (.int 1)))),
      .loop (.var 5) .it [(.call 74 [(.slc false (.var 2) none (some (.neg (.cst (.int 1)))))])] [.asg 6 (.call 6 [(.bin false .add (.var 5) (.tup [(.cst (.int 0))])), (.var 1)]),
      .expr (.meth .append (.meth .setdefault (.var 0) [(.slc true (.var 6) none (some (.neg (.cst (.int 1))))), (.lst true [])]) [(.tup [(.bin false .add (.var 3) (.idx (.var 6) (.neg (.cst (.int 1))))), (.bin false .add (.var 4) (.idx (.var 6) (.neg (.cst (.int 1)))))])])]], true⟩
def f82_folded : Fn := ⟨2, 7, [.asg 2 (.lst true []),
      .loop (.tup [(.var 3), (.var 4)]) .it [(.var 0)] [.ite (.cmp .ge (.bin false .add (.bin false .sub (.var 4) (.var 3)) (.cst (.int 1))) (.var 1)) [.ret (.lst false [(.tup [(.cst (.int 0)), (.bin false .sub (.var 1) (.cst (.int 1)))])])] [],
      .par [5, 6] [(.bin false .mod (.var 3) (.var 1)), (.bin false .mod (.var 4) (.var 1))],
      .ite (.cmp .le (.var 5) (.var 6)) [.expr (.meth .append (.var 2) [(.tup [(.var 5), (.var 6)])])] [.expr (.meth .extend (.var 2) [(.lst false [(.tup [(.cst (.int 0)), (.var 6)]), (.tup [(.var 5), (.bin false .sub (.var 1) (.cst (.int 1)))])])])]],
      .ret (.var 2)], false⟩
def f83_many_in : Fn := ⟨1, 5, [.ite (.cmp .eq (.bi false .len [(.var 0)]) (.cst (.int 1))) [.ret (.bin false .add (.bin false .sub (.idx (.idx (.var 0) (.cst (.int 0))) (.cst (.int 1))) (.idx (.idx (.var 0) (.cst (.int 0))) (.cst (.int 0)))) (.cst (.int 1)))] [],
      .asg 1 (.cst (.int 0)),
      .asg 2 (.cst .non),
      .loop (.tup [(.var 3), (.var 4)]) .it [(.bi false .sorted [(.var 0)])] [.ite (.or [(.is false (.var 2) .non), (.cmp .gt (.var 3) (.var 2))]) [.par [1, 2] [(.bin false .add (.bin false .sub (.bin false .add (.var 1) (.var 4)) (.var 3)) (.cst (.int 1))), (.var 4)]] [.ite (.cmp .gt (.var 4) (.var 2)) [.par [1, 2] [(.bin false .sub (.bin false .add (.var 1) (.var 4)) (.var 2)), (.var 4)]] []]],
      .ret (.var 1)], false⟩
def f84_hands_of : Fn := ⟨2, 7, [.asg 2 (.call 9 [(.var 0)]),
      .asg 3 (.cst (.int 0)),
      .ite (.and [(.var 2), (.not (.bi false .any [(.slc false (.idx (.var 2) (.neg (.cst (.int 1)))) none (some (.neg (.cst (.int 1)))))]))]) [.asgT [(.var 3), (.var 2)] (.tup [(.idx (.idx (.var 2) (.neg (.cst (.int 1)))) (.neg (.cst (.int 1)))), (.slc false (.var 2) none (some (.neg (.cst (.int 1)))))])] [],
      .asg 4 (.dct true [] []),
      .loop (.var 5) .it [(.var 1)] [.expr (.call 81 [(.var 4), (.var 2), (.var 5)])],
      .ite (.cmp .gt (.var 3) (.cst (.int 0))) [.ret (.bi false .sum [(.comp false (.var 6) .vals [(.var 4)] [] (.call 83 [(.call 82 [(.var 6), (.var 3)])]))])] [],
      .ret (.bi false .sum [(.comp false (.var 6) .vals [(.var 4)] [] (.call 83 [(.var 6)]))])], false⟩
def f85_moved : Fn := ⟨2, 5, [.ret (.bi false .tuple [(.comp false (.tup [(.tup [(.var 2), (.var 3)]), (.var 4)]) .zip [(.var 0), (.var 1)] [] (.tup [(.bin false .sub (.var 2) (.var 4)), (.bin false .sub (.var 3) (.var 4))]))])], false⟩
def f86_hands_in : Fn := ⟨3, 16, [.expr (.call 28 [(.var 0)]),
      .expr (.call 30 [(.var 0), (.var 1)]),
      .expr (.call 70 [(.var 0), (.var 2)]),
      .expr (.call 73 [(.var 0), (.var 2)]),
      .asg 3 (.comp false (.tup [(.var 11), (.var 12)]) .it [(.var 2)] [] (.bin false .sub (.var 12) (.var 11))),
      .asg 4 (.lidx (.var 3) (.bi false .max [(.var 3)])),
      .asgT [(.var 5), (.var 6), (.var 7)] (.call 43 [(.var 0), (.call 42 [(.var 0), (.var 1)])]),
      .asg 8 (.cst (.int 0)),
      .loop (.var 9) .range [(.bi false .len [(.var 5)])] [.ite (.cmp .eq (.idx (.var 5) (.var 9)) (.var 9)) [.asg 10 (.comp false (.tup [(.var 13), (.var 14)]) .zip [(.var 5), (.var 6)] [(.cmp .eq (.var 13) (.var 9))] (.call 80 [(.call 85 [(.var 2), (.var 14)]), (.var 4)])),
      .asg 8 (.bin false .add (.var 8) (.call 84 [(.comp false (.var 15) .it [(.idx (.var 7) (.var 9))] [] (.call 80 [(.var 15), (.var 4)])), (.var 10)]))] []],
      .ret (.var 8)], false⟩
def f87_need_rounds : Fn := ⟨4, 4, [.expr (.call 28 [(.var 0)]),
      .expr (.call 30 [(.var 0), (.var 1)]),
      .expr (.call 33 [(.var 0), (.var 2)]),
      .expr (.call 33 [(.var 0), (.var 3)])], false⟩
def f88_end : Fn := ⟨1, 1, [.ret (.idx (.idx (.var 0) (.neg (.cst (.int 1)))) (.cst (.int 1)))], false⟩
def f89_chains : Fn := ⟨3, 9, [.asg 3 (.dct false [(.var 2)] [(.tup [(.tup [(.var 2), (.bin false .mul (.tup [(.cst (.int 0))]) (.idx (.var 0) (.cst (.int 0))))])])]),
      .asg 4 (.lst true [(.var 2)]),
      .whl (.var 4) [.asg 5 (.meth .pop (.var 4) []),
      .loop (.tup [(.var 6), (.var 7), (.var 8)]) .it [(.var 1)] [.ite (.and [(.cmp .eq (.var 6) (.var 5)), (.mem true (.var 7) (.var 3))]) [.sub (.var 3) (.var 7) (.bin false .add (.idx (.var 3) (.var 5)) (.tup [(.tup [(.var 7), (.call 0 [(.call 88 [(.idx (.var 3) (.var 5))]), (.var 8), (.cst (.int 1))])])])),
      .expr (.meth .append (.var 4) [(.var 7)])] [.ite (.and [(.cmp .eq (.var 7) (.var 5)), (.mem true (.var 6) (.var 3))]) [.sub (.var 3) (.var 6) (.bin false .add (.idx (.var 3) (.var 5)) (.tup [(.tup [(.var 6), (.call 1 [(.call 88 [(.idx (.var 3) (.var 5))]), (.var 8)])])])),
      .expr (.meth .append (.var 4) [(.var 6)])] []]]],
      .ret (.var 3)], false⟩
def f90_ring : Fn := ⟨3, 9, [.asgT [(.var 3), (.var 4), (.var 5)] (.var 1),
      .asg 6 (.comp false (.tup [(.var 7), (.var 8)]) .rev [(.idx (.var 0) (.var 4))] [] (.tup [(.var 7), (.call 0 [(.var 8), (.var 2), (.cst (.int 1))])])),
      .ret (.bin false .add (.idx (.var 0) (.var 3)) (.bi false .tuple [(.var 6)]))], false⟩
def f91_taken_rings : Fn := ⟨3, 15, [.asg 3 (.bi false .len [(.var 2)]),
      .asg 4 (.lst true []),
      .asg 5 (.tup []),
      .asg 6 (.var 2),
      .loop (.var 7) .it [(.var 1)] [.asgT [(.var 8), (.var 9), (.var 10)] (.var 7),
      .ite (.and [(.mem false (.var 8) (.var 0)), (.bi false .any [(.slc false (.var 6) none (some (.var 3)))])]) [.asg 11 (.call 1 [(.call 0 [(.call 88 [(.idx (.var 0) (.var 8))]), (.var 10), (.cst (.int 1))]), (.call 88 [(.idx (.var 0) (.var 9))])]),
      .ite (.bi false .any [(.slc false (.call 6 [(.bin false .add (.var 11) (.bin false .mul (.tup [(.cst (.int 0))]) (.bi false .len [(.var 4)]))), (.var 5)]) none (some (.var 3)))]) [.asg 5 (.call 9 [(.bin false .add (.comp false (.var 12) .it [(.var 5)] [] (.bin false .add (.var 12) (.tup [(.cst (.int 0))]))) (.lst false [(.bin false .add (.bin false .add (.var 11) (.bin false .mul (.tup [(.cst (.int 0))]) (.bi false .len [(.var 4)]))) (.tup [(.cst (.int 1))]))]))]),
      .expr (.meth .append (.var 4) [(.call 90 [(.var 0), (.var 7), (.var 11)])]),
      .asg 6 (.call 6 [(.bin false .add (.var 2) (.bin false .mul (.tup [(.cst (.int 0))]) (.bi false .len [(.var 4)]))), (.var 5)])] []] []],
      .ite (.bi false .any [(.slc false (.var 6) none (some (.var 3)))]) [.ret (.cst .non)] [],
      .ret (.bi false .tuple [(.comp false (.tup [(.var 13), (.var 14)]) .zip [(.var 4), (.slc false (.var 6) (some (.var 3)) none)] [(.cmp .ne (.var 14) (.cst (.int 0)))] (.tup [(.var 13), (.neg (.var 14))]))])], false⟩
def f92_tied_paper : Fn := ⟨4, 7, [.asg 4 (.call 89 [(.var 0), (.var 1), (.idx (.var 2) (.cst (.int 0)))]),
      .ite (.mem true (.idx (.var 3) (.cst (.int 0))) (.var 4)) [.ret (.cst .non)] [],
      .asg 5 (.idx (.var 4) (.idx (.var 3) (.cst (.int 0)))),
      .asg 6 (.call 91 [(.var 4), (.var 1), (.call 1 [(.call 1 [(.idx (.var 3) (.cst (.int 1))), (.idx (.var 2) (.cst (.int 1)))]), (.call 88 [(.var 5)])])]),
      .ite (.is false (.var 6) .non) [.ret (.cst .non)] [],
      .ret (.tup [(.cst (.str ("tied" : Str))), (.var 5), (.var 6)])], false⟩
def f93_apart_paper : Fn := ⟨4, 14, [.asg 4 (.call 43 [(.var 0), (.var 1)]),
      .asgT [(.var 5), (.var 6), (.var 7)] (.var 4),
      .asg 8 (.idx (.var 5) (.idx (.var 2) (.cst (.int 0)))),
      .ite (.cmp .ne (.idx (.var 5) (.idx (.var 3) (.cst (.int 0)))) (.var 8)) [.ret (.tup [(.cst (.str ("apart" : Str))), (.call 60 [(.var 0), (.var 5)])])] [],
      .asg 9 (.call 76 [(.var 6), (.var 2), (.var 3)]),
      .asg 10 (.comp false (.var 13) .it [(.call 13 [(.call 9 [(.idx (.var 7) (.var 8))]), (.idx (.var 0) (.cst (.int 0)))])] [(.cmp .ne (.call 3 [(.call 2 [(.idx (.var 13) (.cst (.int 1))), (.var 9)]), (.idx (.var 13) (.cst (.int 0)))]) (.cst (.int 0)))] (.var 13)),
      .asgT [(.var 11), (.var 12)] (.idx (.var 10) (.cst (.int 0))),
      .ret (.tup [(.cst (.str ("apart" : Str))), (.call 61 [(.var 0), (.var 4), (.var 8), (.var 11), (.var 12)])])], false⟩
def f94_paper : Fn := ⟨4, 6, [.expr (.call 87 [(.var 0), (.var 1), (.var 2), (.var 3)]),
      .asg 4 (.call 42 [(.var 0), (.var 1)]),
      .asg 5 (.call 92 [(.var 0), (.var 4), (.var 2), (.var 3)]),
      .ite (.is false (.var 5) .non) [.ret (.call 93 [(.var 0), (.var 4), (.var 2), (.var 3)])] [],
      .ret (.var 5)], false⟩
def f95_does_part : Fn := ⟨5, 5, [.ite (.or [(.not (.call 49 [(.var 0), (.var 4)])), (.not (.call 57 [(.var 4), (.call 42 [(.var 0), (.var 1)])]))]) [.ret (.cst (.bl false))] [],
      .ret (.cmp .ne (.call 53 [(.var 4), (.var 2)]) (.call 53 [(.var 4), (.var 3)]))], false⟩
def f96_is_way : Fn := ⟨5, 10, [.ite (.or [(.not (.isi (.var 2) .tuple)), (.cmp .eq (.bi false .len [(.var 2)]) (.cst (.int 0)))]) [.ret (.cst (.bl false))] [],
      .ite (.not (.bi false .all [(.comp false (.var 6) .it [(.var 2)] [] (.call 32 [(.var 0), (.var 6)]))])) [.ret (.cst (.bl false))] [],
      .ite (.or [(.cmp .ne (.idx (.var 2) (.cst (.int 0))) (.tup [(.var 3), (.bin false .mul (.tup [(.cst (.int 0))]) (.idx (.var 0) (.cst (.int 0))))])), (.cmp .ne (.idx (.idx (.var 2) (.neg (.cst (.int 1)))) (.cst (.int 0))) (.var 4))]) [.ret (.cst (.bl false))] [],
      .asg 5 (.comp false (.var 7) .it [(.var 2)] [] (.call 36 [(.var 0), (.var 1), (.var 7)])),
      .ret (.bi false .all [(.comp false (.tup [(.var 8), (.var 9)]) .zip [(.var 5), (.slc false (.var 5) (some (.cst (.int 1))) none)] [] (.call 37 [(.var 8), (.var 9)]))])], false⟩
def f97_is_taken : Fn := ⟨4, 4, [.ite (.or [(.not (.call 18 [(.var 2), (.cst (.int 2))])), (.not (.call 15 [(.idx (.var 2) (.cst (.int 1)))]))]) [.ret (.cst (.bl false))] [],
      .ret (.and [(.call 96 [(.var 0), (.var 1), (.idx (.var 2) (.cst (.int 0))), (.var 3), (.var 3)]), (.cmp .gt (.bi false .len [(.idx (.var 2) (.cst (.int 0)))]) (.cst (.int 1)))])], false⟩
def f98_do_tie : Fn := ⟨6, 10, [.ite (.or [(.not (.call 96 [(.var 0), (.var 1), (.var 4), (.idx (.var 2) (.cst (.int 0))), (.idx (.var 3) (.cst (.int 0)))])), (.not (.isi (.var 5) .tuple))]) [.ret (.cst (.bl false))] [],
      .ite (.not (.bi false .all [(.comp false (.var 9) .it [(.var 5)] [] (.call 97 [(.var 0), (.var 1), (.var 9), (.idx (.var 2) (.cst (.int 0)))]))])) [.ret (.cst (.bl false))] [],
      .asg 6 (.call 0 [(.idx (.var 2) (.cst (.int 1))), (.call 88 [(.var 4)]), (.cst (.int 1))]),
      .loop (.tup [(.var 7), (.var 8)]) .it [(.var 5)] [.asg 6 (.call 0 [(.var 6), (.call 88 [(.var 7)]), (.var 8)])],
      .ret (.cmp .eq (.var 6) (.idx (.var 3) (.cst (.int 1))))], false⟩
def f99_check : Fn := ⟨5, 5, [.expr (.call 87 [(.var 0), (.var 1), (.var 2), (.var 3)]),
      .ite (.and [(.call 18 [(.var 4), (.cst (.int 2))]), (.cmp .eq (.idx (.var 4) (.cst (.int 0))) (.cst (.str ("apart" : Str))))]) [.ite (.not (.call 95 [(.var 0), (.var 1), (.var 2), (.var 3), (.idx (.var 4) (.cst (.int 1)))])) [.raise 0 [(.cst (.str ("apart" : Str)))]] [],
      .ret (.cst (.str ("apart" : Str)))] [],
      .ite (.and [(.call 18 [(.var 4), (.cst (.int 3))]), (.cmp .eq (.idx (.var 4) (.cst (.int 0))) (.cst (.str ("tied" : Str))))]) [.ite (.not (.call 98 [(.var 0), (.var 1), (.var 2), (.var 3), (.idx (.var 4) (.cst (.int 1))), (.idx (.var 4) (.cst (.int 2)))])) [.raise 0 [(.cst (.str ("tied" : Str)))]] [],
      .ret (.cst (.str ("tied" : Str)))] [],
      .raise 0 [(.cst (.str ("form" : Str)))]], false⟩
def f100__law_one_right : Fn := ⟨0, 8, [.asg 0 (.tup [(.cst (.int 1)), (.tup [(.tup [(.tup [(.cst (.int 1))])])]), (.tup [(.tup [(.tup [(.cst (.int 0)), (.tup [(.cst (.int 0))]), (.cst (.str ("write" : Str)))]), (.tup [(.cst (.int 0)), (.tup [(.cst (.int 2))]), (.cst (.str ("read" : Str)))])])])]),
      .asg 1 (.lst false [(.call 46 [(.var 0), (.tup [(.cst (.int 0))]), (.cst (.int 0))]), (.call 47 [(.var 0), (.tup [(.cst (.int 0))]), (.cst (.int 0))]), (.call 79 [(.var 0), (.tup [(.cst (.int 0))])]), (.call 75 [(.var 0), (.tup [(.cst (.int 0))]), (.tup [(.cst (.int 0)), (.tup [(.neg (.cst (.int 5)))])])])]),
      .ite (.or [(.cmp .ne (.var 1) (.lst false [(.tup [(.tup [(.cst (.int 2))])]), (.tup [(.cst (.int 0)), (.tup [(.cst (.int 2))])]), (.cst (.int 2)), (.tup [(.cst (.int 0)), (.tup [(.cst (.int 1))])])])), (.cmp .ne (.call 35 [(.var 0), (.tup [(.cst (.int 0)), (.tup [(.cst (.int 3))])])]) (.tup [(.tup [(.cst (.int 0)), (.tup [(.cst (.int 3))])]), (.tup [(.cst (.int 0)), (.tup [(.cst (.int 5))])])]))]) [.ret (.cst (.bl false))] [],
      .asgT [(.var 2), (.var 3), (.var 4)] (.tup [(.tup [(.cst (.int 2)), (.tup [(.tup [(.tup [(.cst (.int 1))]), (.cst (.int 7))])])]), (.tup [(.cst (.int 4)), (.tup [(.tup [(.tup [(.cst (.int 1))]), (.cst (.int 0))])])]), (.tup [(.cst (.int 0)), (.tup [(.tup [(.tup [(.cst (.int 0))]), (.cst (.int 5))])])])]),
      .asg 1 (.comp false (.var 6) .it [(.tup [(.var 2), (.var 3), (.var 4), (.tup [(.cst (.int 2)), (.tup [(.tup [(.tup [(.cst (.int 3))]), (.cst (.int 0))])])]), (.tup [(.cst (.int 0)), (.tup [(.tup [(.tup [(.cst (.int 1))]), (.cst (.int 0))])])])])] [] (.call 59 [(.var 0), (.tup [(.cst (.int 0))]), (.var 6)])),
      .ite (.or [(.cmp .ne (.var 1) (.lst false [(.cst (.bl true)), (.cst (.bl false)), (.cst (.bl true)), (.cst (.bl true)), (.cst (.bl false))])), (.cmp .ne (.call 55 [(.var 0), (.tup [(.var 2), (.var 4)]), (.tup [(.cst (.int 0)), (.tup [(.cst (.int 2))])])]) (.tup [(.cst (.int 1)), (.cst (.int 5))]))]) [.ret (.cst (.bl false))] [],
      .asg 1 (.comp false (.var 7) .it [(.tup [(.tup [(.var 2)]), (.tup [(.var 4)]), (.tup [(.var 4), (.var 2)]), (.tup [(.var 2), (.var 3)]), (.tup [])])] [] (.call 67 [(.var 0), (.tup [(.cst (.int 0))]), (.var 7)])),
      .ite (.or [(.cmp .ne (.var 1) (.lst false [(.cst (.bl true)), (.cst (.bl false)), (.cst (.bl true)), (.cst (.bl false)), (.cst (.bl false))])), (.is true (.call 63 [(.var 0), (.tup [(.cst (.int 0))]), (.tup [(.var 4), (.var 2), (.var 4)])]) (.bl true))]) [.ret (.cst (.bl false))] [],
      .asg 5 (.tup [(.cst (.int 1)), (.tup [(.tup [(.tup [(.cst (.int 2))])])]), (.tup [(.tup [(.tup [(.cst (.int 0)), (.tup [(.cst (.int 0))]), (.cst (.str ("write" : Str)))]), (.tup [(.cst (.int 0)), (.tup [(.cst (.int 1))]), (.cst (.str ("read" : Str)))])])])]),
      .asg 1 (.lst false [(.call 46 [(.var 5), (.tup [(.cst (.int 0))]), (.cst (.int 0))]), (.call 47 [(.var 5), (.tup [(.cst (.int 0))]), (.cst (.int 0))]), (.call 79 [(.var 5), (.tup [(.cst (.int 0))])]), (.call 86 [(.var 5), (.tup [(.cst (.int 0))]), (.tup [(.tup [(.cst (.int 0)), (.cst (.int 9))])])])]),
      .ret (.and [(.cmp .eq (.var 1) (.lst false [(.tup []), (.tup [(.cst (.int 1)), (.tup [])]), (.cst .non), (.cst (.int 10))])), (.cmp .eq (.call 86 [(.var 0), (.tup [(.cst (.int 0))]), (.tup [(.tup [(.cst (.int 0)), (.cst (.int 9))])])]) (.cst (.int 2))), (.cmp .eq (.call 39 [(.var 5)]) (.tup [(.cst (.int 0))]))])], false⟩
def f101__law_said : Fn := ⟨5, 7, [.asg 5 (.cst .non),
      .tryc [.asg 5 (.call 99 [(.var 0), (.var 1), (.var 2), (.var 3), (.var 4)])] [0] (some 6) [.asg 5 .bad],
      .ret (.var 5)], false⟩
def f102__law_ring_right : Fn := ⟨0, 10, [.asg 0 (.tup [(.tup [(.tup [(.cst (.int 0)), (.tup [(.cst (.int 0))]), (.cst (.str ("write" : Str)))]), (.tup [(.cst (.int 1)), (.tup [(.cst (.int 1))]), (.cst (.str ("read" : Str)))])]), (.tup [(.tup [(.cst (.int 0)), (.tup [(.cst (.int 3))]), (.cst (.str ("read" : Str)))]), (.tup [(.cst (.int 1)), (.tup [(.cst (.int 0))]), (.cst (.str ("write" : Str)))])])]),
      .asg 1 (.tup [(.cst (.int 1)), (.tup [(.tup [(.tup [(.cst (.int 1))])]), (.tup [(.tup [(.cst (.int 1))])])]), (.var 0)]),
      .asg 2 (.lst true [(.call 45 [(.var 1), (.tup [(.cst (.int 0)), (.cst (.int 1))])]), (.call 46 [(.var 1), (.tup [(.cst (.int 0)), (.cst (.int 1))]), (.cst (.int 1))]), (.call 75 [(.var 1), (.tup [(.cst (.int 0)), (.cst (.int 1))]), (.tup [(.cst (.int 1)), (.tup [(.cst (.int 0))])])]), (.call 79 [(.var 1), (.tup [(.cst (.int 0)), (.cst (.int 1))])])]),
      .ite (.or [(.cmp .ne (.var 2) (.lst false [(.tup [(.tup [(.cst (.int 0)), (.cst (.int 1))])]), (.tup [(.tup [(.cst (.int 4))])]), (.tup [(.cst (.int 0)), (.tup [(.cst (.int 3))])]), (.cst (.int 4))])), (.cmp .ne (.call 75 [(.var 1), (.tup [(.cst (.int 0)), (.cst (.int 1))]), (.tup [(.cst (.int 1)), (.tup [(.cst (.int 1))])])]) (.tup [(.cst (.int 0)), (.tup [(.cst (.int 0))])]))]) [.ret (.cst (.bl false))] [],
      .asg 2 (.lst true [(.call 45 [(.var 1), (.tup [(.cst (.int 0))])]), (.call 46 [(.var 1), (.tup [(.cst (.int 0))]), (.cst (.int 0))]), (.call 45 [(.var 1), (.tup [])]), (.call 79 [(.var 1), (.tup [])]), (.call 39 [(.var 1)])]),
      .ite (.cmp .ne (.var 2) (.lst false [(.tup [(.tup [(.cst (.int 0)), (.cst (.int 1))])]), (.tup []), (.tup [(.tup [(.cst (.int 0))]), (.tup [(.cst (.int 1))])]), (.cst .non), (.tup [(.cst (.int 0)), (.cst (.int 1))])])) [.ret (.cst (.bl false))] [],
      .asg 3 (.tup [(.tup [(.cst (.int 0)), (.tup [(.cst (.int 0))])]), (.tup [(.cst (.int 1)), (.tup [(.cst (.int 1))])]), (.tup [(.cst (.int 0)), (.tup [(.cst (.int 4))])])]),
      .ite (.or [(.not (.call 38 [(.var 1), (.tup [(.cst (.int 1))]), (.idx (.var 3) (.cst (.int 0))), (.idx (.var 3) (.cst (.int 1)))])), (.call 38 [(.var 1), (.tup [(.cst (.int 0))]), (.idx (.var 3) (.cst (.int 0))), (.idx (.var 3) (.cst (.int 1)))])]) [.ret (.cst (.bl false))] [],
      .asg 4 (.lst true [(.tup [(.tup [(.cst (.int 0)), (.tup [(.cst (.int 0))])]), (.tup [(.cst (.int 0)), (.tup [(.cst (.int 400))])]), (.tup [(.slc true (.var 3) none (some (.cst (.int 1)))), (.tup [(.tup [(.var 3), (.cst (.int 100))])])]), (.cst (.str ("tied" : Str)))]), (.tup [(.tup [(.cst (.int 0)), (.tup [(.cst (.int 7))])]), (.tup [(.cst (.int 1)), (.tup [(.cst (.int 8))])]), (.tup [(.slc true (.var 3) none (some (.cst (.int 2)))), (.tup [])]), (.cst (.str ("tied" : Str)))])]),
      .asg 4 (.bin true .add (.var 4) (.lst false [(.tup [(.tup [(.cst (.int 0)), (.tup [(.cst (.int 400))])]), (.tup [(.cst (.int 0)), (.tup [(.cst (.int 0))])]), (.tup [(.slc false (.var 3) none (some (.cst (.int 1)))), (.tup [(.tup [(.var 3), (.neg (.cst (.int 100)))])])]), (.cst (.str ("tied" : Str)))])])),
      .asg 4 (.bin true .add (.var 4) (.lst false [(.tup [(.tup [(.cst (.int 0)), (.tup [(.cst (.int 0))])]), (.tup [(.cst (.int 0)), (.tup [(.cst (.int 0))])]), (.tup [(.slc false (.var 3) none (some (.cst (.int 1)))), (.tup [(.tup [(.var 3), (.cst (.int 0))])])]), (.cst (.str ("tied" : Str)))])])),
      .asg 4 (.bin true .add (.var 4) (.lst false [(.tup [(.tup [(.cst (.int 0)), (.tup [(.cst (.int 1))])]), (.tup [(.cst (.int 0)), (.tup [(.cst (.int 1))])]), (.tup [(.var 3), (.tup [(.tup [(.var 3), (.neg (.cst (.int 1)))])])]), (.cst (.str ("tied" : Str)))]), (.tup [(.tup [(.cst (.int 0)), (.tup [(.cst (.int 1))])]), (.tup [(.cst (.int 0)), (.tup [(.cst (.int 5))])]), (.tup [(.var 3), (.tup [])]), (.cst (.str ("tied" : Str)))])])),
      .expr (.meth .append (.var 4) [(.tup [(.tup [(.cst (.int 0)), (.tup [(.cst (.int 0))])]), (.tup [(.cst (.int 0)), (.tup [(.cst (.int 400))])]), (.tup [(.slc false (.var 3) none (some (.cst (.int 1)))), (.tup [(.tup [(.var 3), (.cst (.int 99))])])]), (.lst false [(.cst (.str ("tied" : Str)))])])]),
      .expr (.meth .append (.var 4) [(.tup [(.tup [(.cst (.int 0)), (.tup [(.cst (.int 0))])]), (.tup [(.cst (.int 0)), (.tup [(.cst (.int 5))])]), (.tup [(.slc false (.var 3) none (some (.cst (.int 1)))), (.tup [(.tup [(.bin false .add (.slc false (.var 3) none (some (.cst (.int 2)))) (.tup [(.tup [(.cst (.int 0)), (.tup [(.cst (.int 5))])])])), (.cst (.int 1))])])]), (.lst false [(.cst (.str ("tied" : Str)))])])]),
      .expr (.meth .append (.var 4) [(.tup [(.tup [(.cst (.int 0)), (.tup [(.cst (.int 0))])]), (.tup [(.cst (.int 1)), (.tup [(.cst (.int 2))])]), (.tup [(.tup [(.tup [(.cst (.int 0)), (.tup [(.cst (.int 1))])]), (.tup [(.cst (.int 1)), (.tup [(.cst (.int 2))])])]), (.tup [])]), (.lst false [(.cst (.str ("tied" : Str)))])])]),
      .expr (.meth .append (.var 4) [(.tup [(.tup [(.cst (.int 0)), (.tup [(.cst (.int 0))])]), (.tup [(.cst (.int 0)), (.tup [(.cst (.int 4))])]), (.tup [(.slc false (.var 3) none (some (.cst (.int 1)))), (.tup [(.tup [(.tup [(.tup [(.cst (.int 0)), (.tup [(.cst (.int 1))])]), (.tup [(.cst (.int 1)), (.tup [(.cst (.int 2))])]), (.tup [(.cst (.int 0)), (.tup [(.cst (.int 5))])])]), (.cst (.int 1))])])]), (.lst false [(.cst (.str ("tied" : Str)))])])]),
      .loop (.var 5) .it [(.tup [(.tup [(.two (.var 3)), (.tup [])]), (.tup [(.slc false (.var 3) none (some (.cst (.int 1)))), (.tup [(.tup [(.slc false (.var 3) none (some (.cst (.int 1)))), (.cst (.int 1))]), (.tup [(.var 3), (.cst (.int 1))])])]), (.tup [(.tup []), (.tup [])])])] [.expr (.meth .append (.var 4) [(.tup [(.tup [(.cst (.int 0)), (.tup [(.cst (.int 0))])]), (.tup [(.cst (.int 0)), (.tup [(.cst (.int 4))])]), (.var 5), (.lst false [(.cst (.str ("tied" : Str)))])])])],
      .loop (.tup [(.var 6), (.var 7), (.var 5), (.var 8)]) .it [(.var 4)] [.ite (.cmp .ne (.call 101 [(.var 1), (.tup [(.cst (.int 0)), (.cst (.int 1))]), (.var 6), (.var 7), (.bin false .add (.tup [(.cst (.str ("tied" : Str)))]) (.var 5))]) (.var 8)) [.ret (.cst (.bl false))] []],
      .asg 9 (.tup [(.cst (.int 4)), (.tup [(.tup [(.tup [(.cst (.int 1))]), (.cst (.int 0))]), (.tup [(.tup [(.cst (.int 1))]), (.cst (.int 3))])])]),
      .asg 2 (.lst true [(.call 59 [(.var 1), (.tup [(.cst (.int 0)), (.cst (.int 1))]), (.var 9)]), (.call 67 [(.var 1), (.tup [(.cst (.int 0)), (.cst (.int 1))]), (.tup [(.var 9)])]), (.call 59 [(.var 1), (.tup [(.cst (.int 0))]), (.var 9)])]),
      .expr (.meth .append (.var 2) [(.call 101 [(.var 1), (.tup [(.cst (.int 0)), (.cst (.int 1))]), (.tup [(.cst (.int 0)), (.tup [(.cst (.int 0))])]), (.tup [(.cst (.int 1)), (.tup [(.cst (.int 0))])]), (.tup [(.cst (.str ("apart" : Str))), (.var 9)])])]),
      .expr (.meth .append (.var 2) [(.call 101 [(.var 1), (.tup [(.cst (.int 0)), (.cst (.int 1))]), (.tup [(.cst (.int 0)), (.tup [(.cst (.int 0))])]), (.tup [(.cst (.int 1)), (.tup [(.cst (.int 1))])]), (.tup [(.cst (.str ("apart" : Str))), (.var 9)])])]),
      .ret (.and [(.cmp .eq (.var 2) (.lst false [(.cst (.bl true)), (.cst (.bl true)), (.cst (.bl true)), (.cst (.str ("apart" : Str))), (.lst false [(.cst (.str ("apart" : Str)))])])), (.cmp .eq (.idx (.call 94 [(.var 1), (.tup [(.cst (.int 0)), (.cst (.int 1))]), (.tup [(.cst (.int 0)), (.tup [(.cst (.int 0))])]), (.tup [(.cst (.int 1)), (.tup [(.cst (.int 0))])])]) (.cst (.int 0))) (.cst (.str ("apart" : Str))))])], false⟩
def f103__law_two_loops_right : Fn := ⟨0, 9, [.asgT [(.var 0), (.var 1)] (.tup [(.tup [(.tup [(.cst (.int 1)), (.cst (.int 0))]), (.tup [(.cst (.int 0)), (.cst (.int 1))])]), (.tup [(.tup [(.cst (.int 1)), (.cst (.int 0))])])]),
      .asg 2 (.tup [(.cst (.int 2)), (.tup [(.var 0)]), (.tup [(.tup [(.tup [(.cst (.int 0)), (.tup [(.cst (.int 0)), (.cst (.int 0))]), (.cst (.str ("write" : Str)))]), (.tup [(.cst (.int 0)), (.tup [(.cst (.int 1)), (.neg (.cst (.int 1)))]), (.cst (.str ("read" : Str)))])])])]),
      .asg 3 (.lst true [(.call 46 [(.var 2), (.tup [(.cst (.int 0))]), (.cst (.int 0))]), (.call 47 [(.var 2), (.tup [(.cst (.int 0))]), (.cst (.int 0))]), (.call 75 [(.var 2), (.tup [(.cst (.int 0))]), (.tup [(.cst (.int 0)), (.tup [(.cst (.int 5)), (.cst (.int 2))])])])]),
      .ite (.or [(.cmp .ne (.var 3) (.lst false [(.tup [(.tup [(.cst (.int 1)), (.neg (.cst (.int 1)))])]), (.tup [(.cst (.int 1)), (.tup [])]), (.tup [(.cst (.int 0)), (.tup [(.cst (.int 0)), (.cst (.int 7))])])])), (.not (.call 77 [(.var 2), (.tup [(.cst (.int 0))]), (.tup [(.cst (.int 0)), (.tup [(.cst (.int 9)), (.neg (.cst (.int 3)))])]), (.tup [(.cst (.int 0)), (.tup [(.cst (.int 2)), (.cst (.int 4))])])]))]) [.ret (.cst (.bl false))] [],
      .asg 4 (.tup [(.cst (.int 2)), (.tup [(.var 1)]), (.tup [(.tup [(.tup [(.cst (.int 0)), (.tup [(.cst (.int 0))]), (.cst (.str ("write" : Str)))])])])]),
      .ite (.or [(.cmp .ne (.call 46 [(.var 4), (.tup [(.cst (.int 0))]), (.cst (.int 0))]) (.tup [(.tup [(.cst (.int 0)), (.cst (.int 1))])])), (.cmp .ne (.call 75 [(.var 4), (.tup [(.cst (.int 0))]), (.tup [(.cst (.int 0)), (.tup [(.cst (.int 3)), (.cst (.int 8))])])]) (.tup [(.cst (.int 0)), (.tup [(.cst (.int 3)), (.cst (.int 0))])]))]) [.ret (.cst (.bl false))] [],
      .asg 5 (.tup [(.tup [(.cst (.int 0)), (.tup [(.cst (.int 0)), (.cst (.int 0))]), (.cst (.str ("write" : Str)))]), (.tup [(.cst (.int 0)), (.tup [(.cst (.int 2)), (.cst (.int 1))]), (.cst (.str ("read" : Str)))]), (.tup [(.cst (.int 1)), (.tup [(.cst (.int 0)), (.cst (.int 0))]), (.cst (.str ("write" : Str)))]), (.tup [(.cst (.int 1)), (.tup [(.cst (.int 0)), (.cst (.int 3))]), (.cst (.str ("read" : Str)))])]),
      .asg 6 (.tup [(.cst (.int 2)), (.tup [(.var 0), (.var 0)]), (.tup [(.var 5)])]),
      .asg 3 (.lst true [(.call 46 [(.var 6), (.tup [(.cst (.int 0)), (.cst (.int 1))]), (.cst (.int 0))]), (.call 47 [(.var 6), (.tup [(.cst (.int 0)), (.cst (.int 1))]), (.cst (.int 0))]), (.call 75 [(.var 6), (.tup [(.cst (.int 0)), (.cst (.int 1))]), (.tup [(.cst (.int 0)), (.tup [(.cst (.int 5)), (.cst (.int 5))])])])]),
      .expr (.meth .append (.var 3) [(.call 79 [(.var 6), (.tup [(.cst (.int 0)), (.cst (.int 1))])])]),
      .ite (.or [(.cmp .ne (.var 3) (.lst false [(.tup [(.tup [(.cst (.int 2)), (.cst (.int 1))]), (.tup [(.cst (.int 0)), (.cst (.int 3))])]), (.tup [(.cst (.int 0)), (.tup [(.cst (.int 6))])]), (.tup [(.cst (.int 0)), (.tup [(.cst (.int 1)), (.cst (.int 0))])]), (.cst (.int 6))])), (.cmp .ne (.call 46 [(.var 6), (.tup [(.cst (.int 1))]), (.cst (.int 0))]) (.tup [(.tup [(.cst (.int 0)), (.cst (.int 3))])]))]) [.ret (.cst (.bl false))] [],
      .asg 7 (.tup [(.cst (.int 2)), (.tup [(.var 0)]), (.tup [(.tup [(.tup [(.cst (.int 0)), (.tup [(.cst (.int 0)), (.cst (.int 0))]), (.cst (.str ("write" : Str)))]), (.tup [(.cst (.int 0)), (.tup [(.cst (.int 2)), (.cst (.int 0))]), (.cst (.str ("read" : Str)))]), (.tup [(.cst (.int 0)), (.tup [(.cst (.int 0)), (.cst (.int 2))]), (.cst (.str ("read" : Str)))])])])]),
      .asg 8 (.tup [(.tup [(.cst (.int 2)), (.tup [(.tup [(.tup [(.cst (.int 1)), (.cst (.int 0))]), (.cst (.int 0))])])]), (.tup [(.cst (.int 2)), (.tup [(.tup [(.tup [(.cst (.int 0)), (.cst (.int 1))]), (.cst (.int 0))])])]), (.tup [(.cst (.int 2)), (.tup [(.tup [(.tup [(.cst (.int 1)), (.cst (.int 1))]), (.cst (.int 0))])])])]),
      .asg 3 (.lst true [(.call 47 [(.var 7), (.tup [(.cst (.int 0))]), (.cst (.int 0))]), (.call 79 [(.var 7), (.tup [(.cst (.int 0))])]), (.call 67 [(.var 7), (.tup [(.cst (.int 0))]), (.slc false (.var 8) none (some (.cst (.int 2))))])]),
      .asg 3 (.bin true .add (.var 3) (.lst false [(.call 67 [(.var 7), (.tup [(.cst (.int 0))]), (.slc false (.var 8) (some (.cst (.int 1))) none)]), (.call 67 [(.var 7), (.tup [(.cst (.int 0))]), (.slc false (.var 8) none (some (.cst (.int 1))))])])),
      .expr (.meth .append (.var 3) [(.call 86 [(.var 7), (.tup [(.cst (.int 0))]), (.tup [(.tup [(.cst (.int 0)), (.cst (.int 1))]), (.tup [(.cst (.int 5)), (.cst (.int 5))])])])]),
      .ret (.cmp .eq (.var 3) (.lst false [(.tup [(.cst (.int 0)), (.tup [(.cst (.int 2)), (.cst (.int 2))])]), (.cst (.int 4)), (.cst (.bl true)), (.cst (.bl true)), (.cst (.bl false)), (.cst (.int 2))]))], false⟩
def f104__law_apart_right : Fn := ⟨0, 14, [.asg 0 (.tup [(.cst (.int 1)), (.tup [(.tup [(.tup [(.cst (.int 0))])])]), (.tup [(.tup [(.tup [(.cst (.int 0)), (.tup [(.cst (.int 4))]), (.cst (.str ("write" : Str)))])])])]),
      .ite (.or [(.cmp .ne (.call 46 [(.var 0), (.tup [(.cst (.int 0))]), (.cst (.int 0))]) (.tup [(.tup [(.cst (.int 1))])])), (.cmp .ne (.call 79 [(.var 0), (.tup [(.cst (.int 0))])]) (.cst (.int 1))), (.is true (.call 67 [(.var 0), (.tup [(.cst (.int 0))]), (.tup [])]) (.bl true))]) [.ret (.cst (.bl false))] [],
      .asg 1 (.tup [(.cst (.int 1)), (.tup [(.tup [(.tup [(.cst (.int 0))])]), (.tup [(.tup [(.cst (.int 0))])])]), (.tup [(.tup [(.tup [(.cst (.int 0)), (.tup [(.cst (.int 4))]), (.cst (.str ("write" : Str)))])]), (.tup [(.tup [(.cst (.int 1)), (.tup [(.cst (.int 4))]), (.cst (.str ("write" : Str)))])])])]),
      .asg 2 (.tup [(.cst (.int 0)), (.tup [(.tup [(.tup [(.cst (.int 0))]), (.cst (.int 0))]), (.tup [(.tup [(.cst (.int 0))]), (.cst (.int 1))])])]),
      .asg 3 (.lst true [(.call 45 [(.var 1), (.tup [(.cst (.int 0)), (.cst (.int 1))])]), (.call 79 [(.var 1), (.tup [(.cst (.int 0)), (.cst (.int 1))])]), (.call 67 [(.var 1), (.tup [(.cst (.int 0)), (.cst (.int 1))]), (.tup [])])]),
      .expr (.meth .append (.var 3) [(.call 67 [(.var 1), (.tup [(.cst (.int 0)), (.cst (.int 1))]), (.tup [(.var 2)])])]),
      .ite (.or [(.cmp .ne (.var 3) (.lst false [(.tup [(.tup [(.cst (.int 0))]), (.tup [(.cst (.int 1))])]), (.cst (.int 2)), (.cst (.bl false)), (.cst (.bl true))])), (.cmp .ne (.call 47 [(.var 1), (.tup [(.cst (.int 0)), (.cst (.int 1))]), (.cst (.int 1))]) (.tup [(.cst (.int 0)), (.tup [])]))]) [.ret (.cst (.bl false))] [],
      .asg 4 (.tup [(.cst (.int 1)), (.tup [(.tup [(.tup [(.cst (.int 1))])])]), (.tup [(.tup [(.tup [(.cst (.int 0)), (.tup [(.cst (.int 0))]), (.cst (.str ("write" : Str)))]), (.tup [(.cst (.int 0)), (.tup [(.cst (.int 4))]), (.cst (.str ("read" : Str)))])])])]),
      .asg 5 (.tup [(.tup [(.cst (.int 2)), (.tup [(.tup [(.tup [(.cst (.int 1))]), (.cst (.int 0))])])]), (.tup [(.cst (.int 2)), (.tup [(.tup [(.tup [(.cst (.int 3))]), (.cst (.int 0))])])])]),
      .asg 3 (.lst true [(.call 67 [(.var 1), (.tup [(.cst (.int 0)), (.cst (.int 1))]), (.tup [(.tup [(.cst (.int 2)), (.tup [(.tup [(.tup [(.cst (.int 0))]), (.cst (.int 0))]), (.tup [(.tup [(.cst (.int 0))]), (.cst (.int 2))])])])])]), (.call 67 [(.var 4), (.tup [(.cst (.int 0))]), (.var 5)])]),
      .ite (.or [(.cmp .ne (.var 3) (.lst false [(.cst (.bl false)), (.cst (.bl false))])), (.is true (.call 67 [(.var 4), (.tup [(.cst (.int 0))]), (.bin false .add (.var 5) (.tup [(.tup [(.cst (.int 4)), (.tup [(.tup [(.tup [(.cst (.int 3))]), (.cst (.int 1))])])])]))]) (.bl true))]) [.ret (.cst (.bl false))] [],
      .asg 6 (.tup [(.cst (.int 1)), (.tup [(.tup [(.tup [(.cst (.int 1))])]), (.tup [(.tup [(.cst (.int 1))])])]), (.tup [(.tup [(.tup [(.cst (.int 0)), (.tup [(.cst (.int 0))]), (.cst (.str ("write" : Str)))])]), (.tup [(.tup [(.cst (.int 1)), (.tup [(.cst (.int 0))]), (.cst (.str ("write" : Str)))])])])]),
      .asg 7 (.tup [(.cst (.int 0)), (.tup [(.tup [(.tup [(.cst (.int 2))]), (.cst (.int 0))]), (.tup [(.tup [(.cst (.int 2))]), (.cst (.int 1))])])]),
      .asg 8 (.comp false (.var 12) .it [(.tup [(.cst (.int 0)), (.cst (.int 1))])] [] (.tup [(.tup [(.var 12), (.tup [(.cst (.int 0))]), (.cst (.str ("write" : Str)))]), (.tup [(.var 12), (.tup [(.cst (.int 2))]), (.cst (.str ("read" : Str)))])])),
      .asg 9 (.tup [(.cst (.int 1)), (.idx (.var 6) (.cst (.int 1))), (.bi false .tuple [(.var 8)])]),
      .asgT [(.var 10), (.var 11)] (.tup [(.tup [(.cst (.int 2)), (.tup [(.tup [(.tup [(.cst (.int 1))]), (.cst (.int 0))]), (.tup [(.tup [(.cst (.int 1))]), (.cst (.int 0))])])]), (.tup [(.cst (.int 2)), (.tup [(.tup [(.tup [(.cst (.int 1))]), (.cst (.int 0))]), (.tup [(.tup [(.cst (.int 1))]), (.cst (.int 1))])])])]),
      .asg 3 (.lst true [(.call 67 [(.var 6), (.tup [(.cst (.int 0)), (.cst (.int 1))]), (.tup [(.var 7)])]), (.call 67 [(.var 9), (.tup [(.cst (.int 0)), (.cst (.int 1))]), (.tup [(.var 10), (.var 11)])])]),
      .asg 3 (.bin true .add (.var 3) (.comp false (.var 13) .it [(.tup [(.var 10), (.var 11)])] [] (.call 67 [(.var 9), (.tup [(.cst (.int 0)), (.cst (.int 1))]), (.tup [(.var 13)])]))),
      .ret (.and [(.cmp .eq (.var 3) (.lst false [(.cst (.bl true)), (.cst (.bl true)), (.cst (.bl false)), (.cst (.bl false))])), (.cmp .eq (.call 79 [(.var 9), (.tup [(.cst (.int 0)), (.cst (.int 1))])]) (.cst (.int 4)))])], false⟩
def f105__law_line_right : Fn := ⟨0, 6, [.asg 0 (.lst false [(.tup [(.tup [(.cst (.int 0)), (.tup [(.cst (.int 0))]), (.cst (.str ("write" : Str)))])]), (.tup [(.tup [(.cst (.int 0)), (.tup [(.cst (.int 0))]), (.cst (.str ("read" : Str)))]), (.tup [(.cst (.int 1)), (.tup [(.cst (.int 1))]), (.cst (.str ("write" : Str)))])]), (.tup [(.tup [(.cst (.int 1)), (.tup [(.cst (.int 0))]), (.cst (.str ("read" : Str)))]), (.tup [(.cst (.int 2)), (.tup [(.cst (.int 0))]), (.cst (.str ("write" : Str)))])])]),
      .asg 1 (.tup [(.cst (.int 1)), (.bin false .mul (.tup [(.tup [(.tup [(.cst (.int 1))])])]) (.cst (.int 3))), (.bin false .add (.bi false .tuple [(.var 0)]) (.tup [(.tup [(.tup [(.cst (.int 2)), (.tup [(.cst (.int 2))]), (.cst (.str ("read" : Str)))])])]))]),
      .asgT [(.var 2), (.var 3), (.var 4)] (.tup [(.tup [(.cst (.int 0)), (.cst (.int 1)), (.cst (.int 2))]), (.tup [(.cst (.int 0)), (.tup [(.cst (.int 4))])]), (.tup [(.cst (.int 3)), (.tup [(.cst (.int 3))])])]),
      .asg 5 (.lst false [(.call 45 [(.var 1), (.var 2)]), (.call 75 [(.var 1), (.var 2), (.var 4)]), (.call 77 [(.var 1), (.var 2), (.var 3), (.var 4)]), (.call 46 [(.var 1), (.var 2), (.cst (.int 3))])]),
      .ite (.cmp .ne (.var 5) (.lst false [(.tup [(.tup [(.cst (.int 0)), (.cst (.int 1)), (.cst (.int 2)), (.cst (.int 3))])]), (.var 3), (.cst (.bl true)), (.tup [])])) [.ret (.cst (.bl false))] [],
      .ret (.cmp .eq (.call 101 [(.var 1), (.var 2), (.var 3), (.var 4), (.call 94 [(.var 1), (.var 2), (.var 3), (.var 4)])]) (.cst (.str ("tied" : Str))))], false⟩
def f106_law : Fn := ⟨1, 1, [.ite (.or [(.not (.call 100 [])), (.not (.call 102 [])), (.not (.call 105 []))]) [.ret (.cst (.bl false))] [],
      .ret (.and [(.call 103 []), (.call 104 [])])], false⟩
def fns : List Fn := [f0_plus, f1_less, f2_weighted, f3_remainder, f4_multiplied, f5_units, f6_reduced, f7_gathered, f8_signed, f9_hermite, f10_transposed, f11_agreeing, f12_is_diagonal, f13_coordinates, f14_divisors, f15_is_integer, f16_is_between, f17_is_number, f18_is_tuple, f19_is_few, f20_is_row, f21_is_place, f22_is_matrix, f23_is_reference, f24_wrong_in_statement, f25_wrong_in_arrays, f26_wrong_in_statements, f27_wrong_in_program, f28_need_program, f29_is_lot, f30_need_lot, f31_need_statement, f32_is_round, f33_need_round, f34_touched, f35_cells, f36_touched_of, f37_have_common, f38_do_meet, f39_written, f40_sight, f41_uses, f42_ties, f43_joined, f44_groups_by, f45_groups, f46_basis, f47_ways_apart, f48_is_modulus, f49_is_form, f50_need_form, f51_wrong_in_dealing, f52_need_dealing, f53_number_by, f54_hand_by, f55_hand, f56_are_alike, f57_do_agree, f58_do_all_agree, f59_does_keep, f60_group_form, f61_step_form, f62_need_dealt, f63_is_right, f64_steps_within, f65_does_tell, f66_do_share, f67_is_finest, f68_is_span, f69_is_box, f70_need_box, f71_many_places, f72_many_rounds, f73_need_few_rounds, f74_places_in, f75_head, f76_step_between, f77_are_tied, f78_hands_by, f79_many_hands, f80_turned, f81_add_runs, f82_folded, f83_many_in, f84_hands_of, f85_moved, f86_hands_in, f87_need_rounds, f88_end, f89_chains, f90_ring, f91_taken_rings, f92_tied_paper, f93_apart_paper, f94_paper, f95_does_part, f96_is_way, f97_is_taken, f98_do_tie, f99_check, f100__law_one_right, f101__law_said, f102__law_ring_right, f103__law_two_loops_right, f104__law_apart_right, f105__law_line_right, f106_law]
def dat : Dat := ⟨[⟨("plus" : Str), 3, [], []⟩,
  ⟨("less" : Str), 2, [], []⟩,
  ⟨("weighted" : Str), 2, [], []⟩,
  ⟨("remainder" : Str), 2, [], []⟩,
  ⟨("multiplied" : Str), 1, [], []⟩,
  ⟨("units" : Str), 1, [], []⟩,
  ⟨("reduced" : Str), 2, [], []⟩,
  ⟨("gathered" : Str), 2, [], []⟩,
  ⟨("signed" : Str), 2, [], []⟩,
  ⟨("hermite" : Str), 1, [], []⟩,
  ⟨("transposed" : Str), 1, [], []⟩,
  ⟨("agreeing" : Str), 3, [], []⟩,
  ⟨("is_diagonal" : Str), 1, [], []⟩,
  ⟨("coordinates" : Str), 2, [], []⟩,
  ⟨("divisors" : Str), 1, [], []⟩,
  ⟨("is_integer" : Str), 1, [], []⟩,
  ⟨("is_between" : Str), 3, [], []⟩,
  ⟨("is_number" : Str), 2, [], []⟩,
  ⟨("is_tuple" : Str), 2, [], []⟩,
  ⟨("is_few" : Str), 2, [], []⟩,
  ⟨("is_row" : Str), 3, [], []⟩,
  ⟨("is_place" : Str), 2, [], []⟩,
  ⟨("is_matrix" : Str), 2, [], []⟩,
  ⟨("is_reference" : Str), 2, [], []⟩,
  ⟨("wrong_in_statement" : Str), 2, [], []⟩,
  ⟨("wrong_in_arrays" : Str), 2, [], []⟩,
  ⟨("wrong_in_statements" : Str), 2, [], []⟩,
  ⟨("wrong_in_program" : Str), 1, [], []⟩,
  ⟨("need_program" : Str), 1, [], []⟩,
  ⟨("is_lot" : Str), 2, [], []⟩,
  ⟨("need_lot" : Str), 2, [], []⟩,
  ⟨("need_statement" : Str), 2, [], []⟩,
  ⟨("is_round" : Str), 2, [], []⟩,
  ⟨("need_round" : Str), 2, [], []⟩,
  ⟨("touched" : Str), 2, [], []⟩,
  ⟨("cells" : Str), 2, [], []⟩,
  ⟨("touched_of" : Str), 3, [], []⟩,
  ⟨("have_common" : Str), 2, [], []⟩,
  ⟨("do_meet" : Str), 4, [], []⟩,
  ⟨("written" : Str), 1, [], []⟩,
  ⟨("sight" : Str), 2, [], []⟩,
  ⟨("uses" : Str), 2, [], []⟩,
  ⟨("ties" : Str), 2, [], []⟩,
  ⟨("joined" : Str), 2, [], []⟩,
  ⟨("groups_by" : Str), 1, [], []⟩,
  ⟨("groups" : Str), 2, [], []⟩,
  ⟨("basis" : Str), 3, [], []⟩,
  ⟨("ways_apart" : Str), 3, [], []⟩,
  ⟨("is_modulus" : Str), 1, [], []⟩,
  ⟨("is_form" : Str), 2, [], []⟩,
  ⟨("need_form" : Str), 2, [], []⟩,
  ⟨("wrong_in_dealing" : Str), 2, [], []⟩,
  ⟨("need_dealing" : Str), 2, [], []⟩,
  ⟨("number_by" : Str), 2, [], []⟩,
  ⟨("hand_by" : Str), 2, [], []⟩,
  ⟨("hand" : Str), 3, [], []⟩,
  ⟨("are_alike" : Str), 3, [], []⟩,
  ⟨("do_agree" : Str), 2, [], []⟩,
  ⟨("do_all_agree" : Str), 2, [], []⟩,
  ⟨("does_keep" : Str), 3, [], []⟩,
  ⟨("group_form" : Str), 2, [], []⟩,
  ⟨("step_form" : Str), 5, [], []⟩,
  ⟨("need_dealt" : Str), 3, [], []⟩,
  ⟨("is_right" : Str), 3, [], []⟩,
  ⟨("steps_within" : Str), 3, [], []⟩,
  ⟨("does_tell" : Str), 3, [], []⟩,
  ⟨("do_share" : Str), 4, [], []⟩,
  ⟨("is_finest" : Str), 3, [], []⟩,
  ⟨("is_span" : Str), 1, [], []⟩,
  ⟨("is_box" : Str), 2, [], []⟩,
  ⟨("need_box" : Str), 2, [], []⟩,
  ⟨("many_places" : Str), 1, [], []⟩,
  ⟨("many_rounds" : Str), 2, [], []⟩,
  ⟨("need_few_rounds" : Str), 2, [], []⟩,
  ⟨("places_in" : Str), 1, [], []⟩,
  ⟨("head" : Str), 3, [], []⟩,
  ⟨("step_between" : Str), 3, [], []⟩,
  ⟨("are_tied" : Str), 4, [], []⟩,
  ⟨("hands_by" : Str), 2, [], []⟩,
  ⟨("many_hands" : Str), 2, [], []⟩,
  ⟨("turned" : Str), 2, [], []⟩,
  ⟨("add_runs" : Str), 3, [], []⟩,
  ⟨("folded" : Str), 2, [], []⟩,
  ⟨("many_in" : Str), 1, [], []⟩,
  ⟨("hands_of" : Str), 2, [], []⟩,
  ⟨("moved" : Str), 2, [], []⟩,
  ⟨("hands_in" : Str), 3, [], []⟩,
  ⟨("need_rounds" : Str), 4, [], []⟩,
  ⟨("end" : Str), 1, [], []⟩,
  ⟨("chains" : Str), 3, [], []⟩,
  ⟨("ring" : Str), 3, [], []⟩,
  ⟨("taken_rings" : Str), 3, [], []⟩,
  ⟨("tied_paper" : Str), 4, [], []⟩,
  ⟨("apart_paper" : Str), 4, [], []⟩,
  ⟨("paper" : Str), 4, [], []⟩,
  ⟨("does_part" : Str), 5, [], []⟩,
  ⟨("is_way" : Str), 5, [], []⟩,
  ⟨("is_taken" : Str), 4, [], []⟩,
  ⟨("do_tie" : Str), 6, [], []⟩,
  ⟨("check" : Str), 5, [], []⟩,
  ⟨("_law_one_right" : Str), 0, [], []⟩,
  ⟨("_law_said" : Str), 5, [], []⟩,
  ⟨("_law_ring_right" : Str), 0, [], []⟩,
  ⟨("_law_two_loops_right" : Str), 0, [], []⟩,
  ⟨("_law_apart_right" : Str), 0, [], []⟩,
  ⟨("_law_line_right" : Str), 0, [], []⟩,
  ⟨("law" : Str), 1, [], []⟩], [(("MOST_DEPTH" : Str), (.int 3)), (("MOST_ROWS" : Str), (.int 3)), (("MOST_THINGS" : Str), (.int 4)), (("MOST_FACTOR" : Str), (.int 4)), (("MOST_OFFSET" : Str), (.int 9)), (("KINDS" : Str), (.tup [(.str ("read" : Str)), (.str ("write" : Str))])), (("MOST_MODULUS" : Str), (.int 1000000000000000000000000000000)), (("MOST_FORMS" : Str), (.int 13)), (("MOST_ROUNDS" : Str), (.int 4000))], [(("BadPaper" : Str), [("word" : Str)])], true⟩
def NS : List (List Str) := [[("row" : Str), ("step" : Str), ("times" : Str), ("part" : Str), ("by" : Str)],
  [("row" : Str), ("step" : Str), ("part" : Str), ("by" : Str)],
  [("row" : Str), ("place" : Str), ("factor" : Str), ("part" : Str)],
  [("whole" : Str), ("modulus" : Str)],
  [("parts" : Str), ("product_of" : Str), ("part" : Str)],
  [("many" : Str), ("number" : Str)],
  [("row" : Str), ("steps" : Str), ("column" : Str), ("step" : Str), ("times" : Str)],
  [("rows" : Str), ("column" : Str), ("lead" : Str), ("rest" : Str), ("row" : Str)],
  [("row" : Str), ("column" : Str), ("part" : Str)],
  [("rows" : Str), ("stepped" : Str), ("rest" : Str), ("column" : Str), ("lead" : Str), ("steps" : Str), ("row" : Str)],
  [("rows" : Str)],
  [("rows" : Str), ("weights" : Str), ("modulus" : Str), ("given" : Str), ("led" : Str), ("_" : Str), ("rest" : Str), ("row" : Str), ("part" : Str)],
  [("rows" : Str), ("number" : Str), ("row" : Str)],
  [("rows" : Str), ("many" : Str), ("weights" : Str), ("turned" : Str), ("factors" : Str), ("row" : Str), ("by" : Str), ("number" : Str)],
  [("factors" : Str), ("parts" : Str), ("far" : Str), ("near" : Str), ("common" : Str)],
  [("thing" : Str)],
  [("thing" : Str), ("low" : Str), ("high" : Str)],
  [("thing" : Str), ("many" : Str)],
  [("thing" : Str), ("many" : Str)],
  [("thing" : Str), ("most" : Str)],
  [("thing" : Str), ("many" : Str), ("most" : Str), ("part" : Str)],
  [("thing" : Str), ("depth" : Str), ("part" : Str)],
  [("thing" : Str), ("depth" : Str), ("row" : Str)],
  [("thing" : Str), ("arrays" : Str), ("array" : Str), ("offset" : Str), ("kind" : Str)],
  [("thing" : Str), ("arrays" : Str), ("spot" : Str), ("reference" : Str)],
  [("depth" : Str), ("arrays" : Str), ("number" : Str), ("matrix" : Str)],
  [("arrays" : Str), ("statements" : Str), ("number" : Str), ("references" : Str), ("wrong" : Str)],
  [("thing" : Str), ("depth" : Str), ("arrays" : Str), ("statements" : Str), ("wrong" : Str)],
  [("thing" : Str), ("wrong" : Str)],
  [("program" : Str), ("thing" : Str), ("least" : Str), ("number" : Str)],
  [("program" : Str), ("lot" : Str)],
  [("program" : Str), ("statement" : Str)],
  [("program" : Str), ("thing" : Str), ("statement" : Str), ("place" : Str)],
  [("program" : Str), ("round_at" : Str)],
  [("program" : Str), ("round_at" : Str), ("statement" : Str), ("place" : Str), ("found" : Str), ("array" : Str), ("offset" : Str), ("_" : Str), ("matrix" : Str), ("spot" : Str), ("row" : Str), ("shift" : Str)],
  [("program" : Str), ("round_at" : Str)],
  [("program" : Str), ("lot" : Str), ("round_at" : Str), ("cell" : Str)],
  [("near" : Str), ("far" : Str), ("thing" : Str)],
  [("program" : Str), ("lot" : Str), ("one" : Str), ("other" : Str)],
  [("program" : Str), ("references" : Str), ("array" : Str), ("_" : Str), ("kind" : Str)],
  [("matrix" : Str), ("depth" : Str), ("rows" : Str), ("many" : Str), ("seen" : Str), ("column" : Str), ("unit" : Str), ("row" : Str)],
  [("program" : Str), ("lot" : Str), ("depth" : Str), ("arrays" : Str), ("statements" : Str), ("start" : Str), ("sights" : Str), ("found" : Str), ("statement" : Str), ("references" : Str), ("array" : Str), ("offset" : Str), ("_" : Str), ("seen" : Str), ("keeping" : Str), ("rest" : Str), ("many" : Str), ("same" : Str)],
  [("program" : Str), ("lot" : Str), ("found" : Str), ("same" : Str), ("keeping" : Str), ("one" : Str), ("near" : Str), ("step" : Str), ("other" : Str), ("far" : Str)],
  [("program" : Str), ("found" : Str), ("many" : Str), ("leads" : Str), ("places" : Str), ("rings" : Str), ("one" : Str), ("other" : Str), ("step" : Str), ("least" : Str), ("lead" : Str), ("around" : Str), ("statement" : Str), ("_" : Str)],
  [("leads" : Str), ("found" : Str), ("statement" : Str), ("least" : Str), ("group" : Str)],
  [("program" : Str), ("lot" : Str), ("leads" : Str), ("_" : Str)],
  [("program" : Str), ("lot" : Str), ("statement" : Str), ("leads" : Str), ("_" : Str), ("rings" : Str)],
  [("program" : Str), ("lot" : Str), ("statement" : Str), ("steps" : Str), ("factors" : Str), ("parts" : Str), ("factor" : Str), ("_" : Str), ("part" : Str)],
  [("thing" : Str)],
  [("program" : Str), ("thing" : Str), ("modulus" : Str), ("terms" : Str), ("term" : Str)],
  [("program" : Str), ("form" : Str)],
  [("program" : Str), ("thing" : Str), ("spot" : Str), ("form" : Str)],
  [("program" : Str), ("dealing" : Str), ("wrong" : Str)],
  [("form" : Str), ("round_at" : Str), ("modulus" : Str), ("terms" : Str), ("statement" : Str), ("place" : Str), ("row" : Str), ("shift" : Str)],
  [("dealing" : Str), ("round_at" : Str), ("form" : Str)],
  [("program" : Str), ("dealing" : Str), ("round_at" : Str)],
  [("row" : Str), ("far_row" : Str), ("modulus" : Str), ("factor" : Str), ("far" : Str)],
  [("form" : Str), ("found" : Str), ("modulus" : Str), ("terms" : Str), ("one" : Str), ("other" : Str), ("step" : Str), ("row" : Str), ("shift" : Str), ("far_row" : Str), ("far_shift" : Str)],
  [("dealing" : Str), ("found" : Str), ("form" : Str)],
  [("program" : Str), ("lot" : Str), ("form" : Str)],
  [("program" : Str), ("leads" : Str), ("still" : Str), ("least" : Str)],
  [("program" : Str), ("parts" : Str), ("least" : Str), ("modulus" : Str), ("row" : Str), ("leads" : Str), ("places" : Str), ("_" : Str), ("still" : Str), ("lead" : Str), ("place" : Str)],
  [("program" : Str), ("lot" : Str), ("dealing" : Str)],
  [("program" : Str), ("lot" : Str), ("dealing" : Str)],
  [("program" : Str), ("dealing" : Str), ("statement" : Str), ("steps" : Str), ("modulus" : Str), ("terms" : Str)],
  [("form" : Str), ("one" : Str), ("other" : Str), ("modulus" : Str), ("terms" : Str), ("row" : Str), ("shift" : Str), ("far_row" : Str), ("far_shift" : Str), ("common" : Str), ("factor" : Str)],
  [("program" : Str), ("dealing" : Str), ("one" : Str), ("other" : Str), ("form" : Str), ("rows" : Str), ("modulus" : Str), ("terms" : Str), ("row" : Str), ("shift" : Str), ("far_row" : Str), ("far_shift" : Str), ("weights" : Str), ("factor" : Str)],
  [("program" : Str), ("lot" : Str), ("dealing" : Str), ("found" : Str), ("leads" : Str), ("_" : Str), ("rings" : Str), ("firsts" : Str), ("spot" : Str), ("statement" : Str), ("far" : Str), ("least" : Str)],
  [("thing" : Str)],
  [("program" : Str), ("thing" : Str), ("span" : Str)],
  [("program" : Str), ("box" : Str)],
  [("box" : Str), ("low" : Str), ("high" : Str)],
  [("program" : Str), ("box" : Str)],
  [("program" : Str), ("box" : Str)],
  [("box" : Str), ("places" : Str), ("low" : Str), ("high" : Str), ("parts" : Str), ("part" : Str), ("place" : Str)],
  [("program" : Str), ("lot" : Str), ("round_at" : Str), ("statement" : Str), ("place" : Str), ("leads" : Str), ("places" : Str), ("rings" : Str), ("least" : Str)],
  [("places" : Str), ("one" : Str), ("other" : Str)],
  [("program" : Str), ("lot" : Str), ("one" : Str), ("other" : Str), ("leads" : Str), ("places" : Str), ("rings" : Str), ("least" : Str)],
  [("program" : Str), ("found" : Str), ("leads" : Str), ("_" : Str), ("rings" : Str), ("many" : Str), ("statement" : Str), ("least" : Str), ("steps" : Str), ("column" : Str), ("step" : Str)],
  [("program" : Str), ("lot" : Str)],
  [("row" : Str), ("column" : Str)],
  [("runs" : Str), ("steps" : Str), ("box" : Str), ("low" : Str), ("high" : Str), ("place" : Str), ("rest" : Str)],
  [("spans" : Str), ("modulus" : Str), ("found" : Str), ("low" : Str), ("high" : Str), ("first" : Str), ("last" : Str)],
  [("spans" : Str), ("many" : Str), ("ahead" : Str), ("low" : Str), ("high" : Str)],
  [("rings" : Str), ("boxes" : Str), ("steps" : Str), ("modulus" : Str), ("runs" : Str), ("box" : Str), ("spans" : Str)],
  [("box" : Str), ("place" : Str), ("low" : Str), ("high" : Str), ("part" : Str)],
  [("program" : Str), ("lot" : Str), ("box" : Str), ("sides" : Str), ("column" : Str), ("leads" : Str), ("places" : Str), ("rings" : Str), ("many" : Str), ("least" : Str), ("boxes" : Str), ("low" : Str), ("high" : Str), ("lead" : Str), ("place" : Str), ("ring" : Str)],
  [("program" : Str), ("lot" : Str), ("one" : Str), ("other" : Str)],
  [("rounds" : Str)],
  [("program" : Str), ("found" : Str), ("start" : Str), ("led" : Str), ("waiting" : Str), ("near" : Str), ("one" : Str), ("other" : Str), ("step" : Str)],
  [("led" : Str), ("tie" : Str), ("around" : Str), ("one" : Str), ("other" : Str), ("_" : Str), ("back" : Str), ("statement" : Str), ("place" : Str)],
  [("led" : Str), ("found" : Str), ("rest" : Str), ("depth" : Str), ("few" : Str), ("steps" : Str), ("left" : Str), ("tie" : Str), ("one" : Str), ("other" : Str), ("step" : Str), ("around" : Str), ("row" : Str), ("way" : Str), ("times" : Str)],
  [("program" : Str), ("found" : Str), ("one" : Str), ("other" : Str), ("led" : Str), ("chain" : Str), ("taken" : Str)],
  [("program" : Str), ("found" : Str), ("one" : Str), ("other" : Str), ("parts" : Str), ("leads" : Str), ("places" : Str), ("rings" : Str), ("least" : Str), ("step" : Str), ("ways" : Str), ("factor" : Str), ("row" : Str), ("way" : Str)],
  [("program" : Str), ("lot" : Str), ("one" : Str), ("other" : Str), ("found" : Str), ("told" : Str)],
  [("program" : Str), ("lot" : Str), ("one" : Str), ("other" : Str), ("form" : Str)],
  [("program" : Str), ("lot" : Str), ("thing" : Str), ("statement" : Str), ("far" : Str), ("touching" : Str), ("part" : Str), ("round_at" : Str), ("near" : Str), ("after" : Str)],
  [("program" : Str), ("lot" : Str), ("thing" : Str), ("statement" : Str)],
  [("program" : Str), ("lot" : Str), ("one" : Str), ("other" : Str), ("chain" : Str), ("taken" : Str), ("place" : Str), ("way" : Str), ("times" : Str), ("pair" : Str)],
  [("program" : Str), ("lot" : Str), ("one" : Str), ("other" : Str), ("paper" : Str)],
  [("one" : Str), ("told_so" : Str), ("even" : Str), ("four" : Str), ("flat" : Str), ("two" : Str), ("form_so" : Str), ("some" : Str)],
  [("program_so" : Str), ("lot_so" : Str), ("one" : Str), ("other" : Str), ("sheet" : Str), ("found" : Str), ("e" : Str)],
  [("some" : Str), ("ring_v" : Str), ("told_so" : Str), ("lap" : Str), ("rows" : Str), ("rest" : Str), ("one" : Str), ("other" : Str), ("due" : Str), ("form_so" : Str)],
  [("plain" : Str), ("row" : Str), ("slant" : Str), ("told_so" : Str), ("lines" : Str), ("some" : Str), ("six" : Str), ("four" : Str), ("halves" : Str)],
  [("cell" : Str), ("two" : Str), ("named" : Str), ("told_so" : Str), ("four" : Str), ("halves" : Str), ("lone" : Str), ("odd" : Str), ("refs" : Str), ("both" : Str), ("first" : Str), ("second" : Str), ("array" : Str), ("form_so" : Str)],
  [("refs" : Str), ("line" : Str), ("every" : Str), ("one" : Str), ("other" : Str), ("told_so" : Str)],
  [("script" : Str)]]
end Pi.T
end
section
set_option Elab.async false
set_option linter.all false
set_option maxRecDepth 1000000
set_option maxHeartbeats 0
namespace Pi.Z
open PySem PySem.Spec PyProof.Rows L2 Pi
theorem c0 : defB T.dat T.fns 0 ⟨("plus" : PySem.Str), 3, [], []⟩ [("row" : PySem.Str), ("step" : PySem.Str), ("times" : PySem.Str)] (nth T.NS 0 |>.getD []) (top 13) = true := by decide +kernel
theorem c1 : defB T.dat T.fns 1 ⟨("less" : PySem.Str), 2, [], []⟩ [("row" : PySem.Str), ("step" : PySem.Str)] (nth T.NS 1 |>.getD []) (top 14) = true := by decide +kernel
theorem c2 : defB T.dat T.fns 2 ⟨("weighted" : PySem.Str), 2, [], []⟩ [("row" : PySem.Str), ("place" : PySem.Str)] (nth T.NS 2 |>.getD []) (top 15) = true := by decide +kernel
theorem c3 : defB T.dat T.fns 3 ⟨("remainder" : PySem.Str), 2, [], []⟩ [("whole" : PySem.Str), ("modulus" : PySem.Str)] (nth T.NS 3 |>.getD []) (top 16) = true := by decide +kernel
theorem c4 : defB T.dat T.fns 4 ⟨("multiplied" : PySem.Str), 1, [], []⟩ [("parts" : PySem.Str)] (nth T.NS 4 |>.getD []) (top 17) = true := by decide +kernel
theorem c5 : defB T.dat T.fns 5 ⟨("units" : PySem.Str), 1, [], []⟩ [("many" : PySem.Str)] (nth T.NS 5 |>.getD []) (top 18) = true := by decide +kernel
theorem c6 : defB T.dat T.fns 6 ⟨("reduced" : PySem.Str), 2, [], []⟩ [("row" : PySem.Str), ("steps" : PySem.Str)] (nth T.NS 6 |>.getD []) (top 19) = true := by decide +kernel
theorem c7 : defB T.dat T.fns 7 ⟨("gathered" : PySem.Str), 2, [], []⟩ [("rows" : PySem.Str), ("column" : PySem.Str)] (nth T.NS 7 |>.getD []) (top 20) = true := by decide +kernel
theorem c8 : defB T.dat T.fns 8 ⟨("signed" : PySem.Str), 2, [], []⟩ [("row" : PySem.Str), ("column" : PySem.Str)] (nth T.NS 8 |>.getD []) (top 21) = true := by decide +kernel
theorem c9 : defB T.dat T.fns 9 ⟨("hermite" : PySem.Str), 1, [], []⟩ [("rows" : PySem.Str)] (nth T.NS 9 |>.getD []) (top 22) = true := by decide +kernel
theorem c10 : defB T.dat T.fns 10 ⟨("transposed" : PySem.Str), 1, [], []⟩ [("rows" : PySem.Str)] (nth T.NS 10 |>.getD []) (top 23) = true := by decide +kernel
theorem c11 : defB T.dat T.fns 11 ⟨("agreeing" : PySem.Str), 3, [], []⟩ [("rows" : PySem.Str), ("weights" : PySem.Str), ("modulus" : PySem.Str)] (nth T.NS 11 |>.getD []) (top 24) = true := by decide +kernel
theorem c12 : defB T.dat T.fns 12 ⟨("is_diagonal" : PySem.Str), 1, [], []⟩ [("rows" : PySem.Str)] (nth T.NS 12 |>.getD []) (top 25) = true := by decide +kernel
theorem c13 : defB T.dat T.fns 13 ⟨("coordinates" : PySem.Str), 2, [], []⟩ [("rows" : PySem.Str), ("many" : PySem.Str)] (nth T.NS 13 |>.getD []) (top 26) = true := by decide +kernel
theorem c14 : defB T.dat T.fns 14 ⟨("divisors" : PySem.Str), 1, [], []⟩ [("factors" : PySem.Str)] (nth T.NS 14 |>.getD []) (top 27) = true := by decide +kernel
theorem c15 : defB T.dat T.fns 15 ⟨("is_integer" : PySem.Str), 1, [], []⟩ [("thing" : PySem.Str)] (nth T.NS 15 |>.getD []) (top 35) = true := by decide +kernel
theorem c16 : defB T.dat T.fns 16 ⟨("is_between" : PySem.Str), 3, [], []⟩ [("thing" : PySem.Str), ("low" : PySem.Str), ("high" : PySem.Str)] (nth T.NS 16 |>.getD []) (top 36) = true := by decide +kernel
theorem c17 : defB T.dat T.fns 17 ⟨("is_number" : PySem.Str), 2, [], []⟩ [("thing" : PySem.Str), ("many" : PySem.Str)] (nth T.NS 17 |>.getD []) (top 37) = true := by decide +kernel
theorem c18 : defB T.dat T.fns 18 ⟨("is_tuple" : PySem.Str), 2, [], []⟩ [("thing" : PySem.Str), ("many" : PySem.Str)] (nth T.NS 18 |>.getD []) (top 38) = true := by decide +kernel
theorem c19 : defB T.dat T.fns 19 ⟨("is_few" : PySem.Str), 2, [], []⟩ [("thing" : PySem.Str), ("most" : PySem.Str)] (nth T.NS 19 |>.getD []) (top 39) = true := by decide +kernel
theorem c20 : defB T.dat T.fns 20 ⟨("is_row" : PySem.Str), 3, [], []⟩ [("thing" : PySem.Str), ("many" : PySem.Str), ("most" : PySem.Str)] (nth T.NS 20 |>.getD []) (top 40) = true := by decide +kernel
theorem c21 : defB T.dat T.fns 21 ⟨("is_place" : PySem.Str), 2, [], []⟩ [("thing" : PySem.Str), ("depth" : PySem.Str)] (nth T.NS 21 |>.getD []) (top 41) = true := by decide +kernel
theorem c22 : defB T.dat T.fns 22 ⟨("is_matrix" : PySem.Str), 2, [], []⟩ [("thing" : PySem.Str), ("depth" : PySem.Str)] (nth T.NS 22 |>.getD []) (top 42) = true := by decide +kernel
theorem c23 : defB T.dat T.fns 23 ⟨("is_reference" : PySem.Str), 2, [], []⟩ [("thing" : PySem.Str), ("arrays" : PySem.Str)] (nth T.NS 23 |>.getD []) (top 43) = true := by decide +kernel
theorem c24 : defB T.dat T.fns 24 ⟨("wrong_in_statement" : PySem.Str), 2, [], []⟩ [("thing" : PySem.Str), ("arrays" : PySem.Str)] (nth T.NS 24 |>.getD []) (top 44) = true := by decide +kernel
theorem c25 : defB T.dat T.fns 25 ⟨("wrong_in_arrays" : PySem.Str), 2, [], []⟩ [("depth" : PySem.Str), ("arrays" : PySem.Str)] (nth T.NS 25 |>.getD []) (top 45) = true := by decide +kernel
theorem c26 : defB T.dat T.fns 26 ⟨("wrong_in_statements" : PySem.Str), 2, [], []⟩ [("arrays" : PySem.Str), ("statements" : PySem.Str)] (nth T.NS 26 |>.getD []) (top 46) = true := by decide +kernel
theorem c27 : defB T.dat T.fns 27 ⟨("wrong_in_program" : PySem.Str), 1, [], []⟩ [("thing" : PySem.Str)] (nth T.NS 27 |>.getD []) (top 47) = true := by decide +kernel
theorem c28 : defB T.dat T.fns 28 ⟨("need_program" : PySem.Str), 1, [], []⟩ [("thing" : PySem.Str)] (nth T.NS 28 |>.getD []) (top 48) = true := by decide +kernel
theorem c29 : defB T.dat T.fns 29 ⟨("is_lot" : PySem.Str), 2, [], []⟩ [("program" : PySem.Str), ("thing" : PySem.Str)] (nth T.NS 29 |>.getD []) (top 49) = true := by decide +kernel
theorem c30 : defB T.dat T.fns 30 ⟨("need_lot" : PySem.Str), 2, [], []⟩ [("program" : PySem.Str), ("lot" : PySem.Str)] (nth T.NS 30 |>.getD []) (top 50) = true := by decide +kernel
theorem c31 : defB T.dat T.fns 31 ⟨("need_statement" : PySem.Str), 2, [], []⟩ [("program" : PySem.Str), ("statement" : PySem.Str)] (nth T.NS 31 |>.getD []) (top 51) = true := by decide +kernel
theorem c32 : defB T.dat T.fns 32 ⟨("is_round" : PySem.Str), 2, [], []⟩ [("program" : PySem.Str), ("thing" : PySem.Str)] (nth T.NS 32 |>.getD []) (top 52) = true := by decide +kernel
theorem c33 : defB T.dat T.fns 33 ⟨("need_round" : PySem.Str), 2, [], []⟩ [("program" : PySem.Str), ("round_at" : PySem.Str)] (nth T.NS 33 |>.getD []) (top 53) = true := by decide +kernel
theorem c34 : defB T.dat T.fns 34 ⟨("touched" : PySem.Str), 2, [], []⟩ [("program" : PySem.Str), ("round_at" : PySem.Str)] (nth T.NS 34 |>.getD []) (top 54) = true := by decide +kernel
theorem c35 : defB T.dat T.fns 35 ⟨("cells" : PySem.Str), 2, [], []⟩ [("program" : PySem.Str), ("round_at" : PySem.Str)] (nth T.NS 35 |>.getD []) (top 55) = true := by decide +kernel
theorem c36 : defB T.dat T.fns 36 ⟨("touched_of" : PySem.Str), 3, [], []⟩ [("program" : PySem.Str), ("lot" : PySem.Str), ("round_at" : PySem.Str)] (nth T.NS 36 |>.getD []) (top 56) = true := by decide +kernel
theorem c37 : defB T.dat T.fns 37 ⟨("have_common" : PySem.Str), 2, [], []⟩ [("near" : PySem.Str), ("far" : PySem.Str)] (nth T.NS 37 |>.getD []) (top 57) = true := by decide +kernel
theorem c38 : defB T.dat T.fns 38 ⟨("do_meet" : PySem.Str), 4, [], []⟩ [("program" : PySem.Str), ("lot" : PySem.Str), ("one" : PySem.Str), ("other" : PySem.Str)] (nth T.NS 38 |>.getD []) (top 58) = true := by decide +kernel
theorem c39 : defB T.dat T.fns 39 ⟨("written" : PySem.Str), 1, [], []⟩ [("program" : PySem.Str)] (nth T.NS 39 |>.getD []) (top 59) = true := by decide +kernel
theorem c40 : defB T.dat T.fns 40 ⟨("sight" : PySem.Str), 2, [], []⟩ [("matrix" : PySem.Str), ("depth" : PySem.Str)] (nth T.NS 40 |>.getD []) (top 61) = true := by decide +kernel
theorem c41 : defB T.dat T.fns 41 ⟨("uses" : PySem.Str), 2, [], []⟩ [("program" : PySem.Str), ("lot" : PySem.Str)] (nth T.NS 41 |>.getD []) (top 62) = true := by decide +kernel
theorem c42 : defB T.dat T.fns 42 ⟨("ties" : PySem.Str), 2, [], []⟩ [("program" : PySem.Str), ("lot" : PySem.Str)] (nth T.NS 42 |>.getD []) (top 63) = true := by decide +kernel
theorem c43 : defB T.dat T.fns 43 ⟨("joined" : PySem.Str), 2, [], []⟩ [("program" : PySem.Str), ("found" : PySem.Str)] (nth T.NS 43 |>.getD []) (top 64) = true := by decide +kernel
theorem c44 : defB T.dat T.fns 44 ⟨("groups_by" : PySem.Str), 1, [], []⟩ [("leads" : PySem.Str)] (nth T.NS 44 |>.getD []) (top 65) = true := by decide +kernel
theorem c45 : defB T.dat T.fns 45 ⟨("groups" : PySem.Str), 2, [], []⟩ [("program" : PySem.Str), ("lot" : PySem.Str)] (nth T.NS 45 |>.getD []) (top 66) = true := by decide +kernel
theorem c46 : defB T.dat T.fns 46 ⟨("basis" : PySem.Str), 3, [], []⟩ [("program" : PySem.Str), ("lot" : PySem.Str), ("statement" : PySem.Str)] (nth T.NS 46 |>.getD []) (top 67) = true := by decide +kernel
theorem c47 : defB T.dat T.fns 47 ⟨("ways_apart" : PySem.Str), 3, [], []⟩ [("program" : PySem.Str), ("lot" : PySem.Str), ("statement" : PySem.Str)] (nth T.NS 47 |>.getD []) (top 68) = true := by decide +kernel
theorem c48 : defB T.dat T.fns 48 ⟨("is_modulus" : PySem.Str), 1, [], []⟩ [("thing" : PySem.Str)] (nth T.NS 48 |>.getD []) (top 72) = true := by decide +kernel
theorem c49 : defB T.dat T.fns 49 ⟨("is_form" : PySem.Str), 2, [], []⟩ [("program" : PySem.Str), ("thing" : PySem.Str)] (nth T.NS 49 |>.getD []) (top 73) = true := by decide +kernel
theorem c50 : defB T.dat T.fns 50 ⟨("need_form" : PySem.Str), 2, [], []⟩ [("program" : PySem.Str), ("form" : PySem.Str)] (nth T.NS 50 |>.getD []) (top 74) = true := by decide +kernel
theorem c51 : defB T.dat T.fns 51 ⟨("wrong_in_dealing" : PySem.Str), 2, [], []⟩ [("program" : PySem.Str), ("thing" : PySem.Str)] (nth T.NS 51 |>.getD []) (top 75) = true := by decide +kernel
theorem c52 : defB T.dat T.fns 52 ⟨("need_dealing" : PySem.Str), 2, [], []⟩ [("program" : PySem.Str), ("dealing" : PySem.Str)] (nth T.NS 52 |>.getD []) (top 76) = true := by decide +kernel
theorem c53 : defB T.dat T.fns 53 ⟨("number_by" : PySem.Str), 2, [], []⟩ [("form" : PySem.Str), ("round_at" : PySem.Str)] (nth T.NS 53 |>.getD []) (top 77) = true := by decide +kernel
theorem c54 : defB T.dat T.fns 54 ⟨("hand_by" : PySem.Str), 2, [], []⟩ [("dealing" : PySem.Str), ("round_at" : PySem.Str)] (nth T.NS 54 |>.getD []) (top 78) = true := by decide +kernel
theorem c55 : defB T.dat T.fns 55 ⟨("hand" : PySem.Str), 3, [], []⟩ [("program" : PySem.Str), ("dealing" : PySem.Str), ("round_at" : PySem.Str)] (nth T.NS 55 |>.getD []) (top 79) = true := by decide +kernel
theorem c56 : defB T.dat T.fns 56 ⟨("are_alike" : PySem.Str), 3, [], []⟩ [("row" : PySem.Str), ("far_row" : PySem.Str), ("modulus" : PySem.Str)] (nth T.NS 56 |>.getD []) (top 80) = true := by decide +kernel
theorem c57 : defB T.dat T.fns 57 ⟨("do_agree" : PySem.Str), 2, [], []⟩ [("form" : PySem.Str), ("found" : PySem.Str)] (nth T.NS 57 |>.getD []) (top 81) = true := by decide +kernel
theorem c58 : defB T.dat T.fns 58 ⟨("do_all_agree" : PySem.Str), 2, [], []⟩ [("dealing" : PySem.Str), ("found" : PySem.Str)] (nth T.NS 58 |>.getD []) (top 82) = true := by decide +kernel
theorem c59 : defB T.dat T.fns 59 ⟨("does_keep" : PySem.Str), 3, [], []⟩ [("program" : PySem.Str), ("lot" : PySem.Str), ("form" : PySem.Str)] (nth T.NS 59 |>.getD []) (top 83) = true := by decide +kernel
theorem c60 : defB T.dat T.fns 60 ⟨("group_form" : PySem.Str), 2, [], []⟩ [("program" : PySem.Str), ("leads" : PySem.Str)] (nth T.NS 60 |>.getD []) (top 84) = true := by decide +kernel
theorem c61 : defB T.dat T.fns 61 ⟨("step_form" : PySem.Str), 5, [], []⟩ [("program" : PySem.Str), ("parts" : PySem.Str), ("least" : PySem.Str), ("modulus" : PySem.Str), ("row" : PySem.Str)] (nth T.NS 61 |>.getD []) (top 85) = true := by decide +kernel
theorem c62 : defB T.dat T.fns 62 ⟨("need_dealt" : PySem.Str), 3, [], []⟩ [("program" : PySem.Str), ("lot" : PySem.Str), ("dealing" : PySem.Str)] (nth T.NS 62 |>.getD []) (top 86) = true := by decide +kernel
theorem c63 : defB T.dat T.fns 63 ⟨("is_right" : PySem.Str), 3, [], []⟩ [("program" : PySem.Str), ("lot" : PySem.Str), ("dealing" : PySem.Str)] (nth T.NS 63 |>.getD []) (top 87) = true := by decide +kernel
theorem c64 : defB T.dat T.fns 64 ⟨("steps_within" : PySem.Str), 3, [], []⟩ [("program" : PySem.Str), ("dealing" : PySem.Str), ("statement" : PySem.Str)] (nth T.NS 64 |>.getD []) (top 88) = true := by decide +kernel
theorem c65 : defB T.dat T.fns 65 ⟨("does_tell" : PySem.Str), 3, [], []⟩ [("form" : PySem.Str), ("one" : PySem.Str), ("other" : PySem.Str)] (nth T.NS 65 |>.getD []) (top 89) = true := by decide +kernel
theorem c66 : defB T.dat T.fns 66 ⟨("do_share" : PySem.Str), 4, [], []⟩ [("program" : PySem.Str), ("dealing" : PySem.Str), ("one" : PySem.Str), ("other" : PySem.Str)] (nth T.NS 66 |>.getD []) (top 90) = true := by decide +kernel
theorem c67 : defB T.dat T.fns 67 ⟨("is_finest" : PySem.Str), 3, [], []⟩ [("program" : PySem.Str), ("lot" : PySem.Str), ("dealing" : PySem.Str)] (nth T.NS 67 |>.getD []) (top 91) = true := by decide +kernel
theorem c68 : defB T.dat T.fns 68 ⟨("is_span" : PySem.Str), 1, [], []⟩ [("thing" : PySem.Str)] (nth T.NS 68 |>.getD []) (top 94) = true := by decide +kernel
theorem c69 : defB T.dat T.fns 69 ⟨("is_box" : PySem.Str), 2, [], []⟩ [("program" : PySem.Str), ("thing" : PySem.Str)] (nth T.NS 69 |>.getD []) (top 95) = true := by decide +kernel
theorem c70 : defB T.dat T.fns 70 ⟨("need_box" : PySem.Str), 2, [], []⟩ [("program" : PySem.Str), ("box" : PySem.Str)] (nth T.NS 70 |>.getD []) (top 96) = true := by decide +kernel
theorem c71 : defB T.dat T.fns 71 ⟨("many_places" : PySem.Str), 1, [], []⟩ [("box" : PySem.Str)] (nth T.NS 71 |>.getD []) (top 97) = true := by decide +kernel
theorem c72 : defB T.dat T.fns 72 ⟨("many_rounds" : PySem.Str), 2, [], []⟩ [("program" : PySem.Str), ("box" : PySem.Str)] (nth T.NS 72 |>.getD []) (top 98) = true := by decide +kernel
theorem c73 : defB T.dat T.fns 73 ⟨("need_few_rounds" : PySem.Str), 2, [], []⟩ [("program" : PySem.Str), ("box" : PySem.Str)] (nth T.NS 73 |>.getD []) (top 99) = true := by decide +kernel
theorem c74 : defB T.dat T.fns 74 ⟨("places_in" : PySem.Str), 1, [], []⟩ [("box" : PySem.Str)] (nth T.NS 74 |>.getD []) (top 100) = true := by decide +kernel
theorem c75 : defB T.dat T.fns 75 ⟨("head" : PySem.Str), 3, [], []⟩ [("program" : PySem.Str), ("lot" : PySem.Str), ("round_at" : PySem.Str)] (nth T.NS 75 |>.getD []) (top 101) = true := by decide +kernel
theorem c76 : defB T.dat T.fns 76 ⟨("step_between" : PySem.Str), 3, [], []⟩ [("places" : PySem.Str), ("one" : PySem.Str), ("other" : PySem.Str)] (nth T.NS 76 |>.getD []) (top 102) = true := by decide +kernel
theorem c77 : defB T.dat T.fns 77 ⟨("are_tied" : PySem.Str), 4, [], []⟩ [("program" : PySem.Str), ("lot" : PySem.Str), ("one" : PySem.Str), ("other" : PySem.Str)] (nth T.NS 77 |>.getD []) (top 103) = true := by decide +kernel
theorem c78 : defB T.dat T.fns 78 ⟨("hands_by" : PySem.Str), 2, [], []⟩ [("program" : PySem.Str), ("found" : PySem.Str)] (nth T.NS 78 |>.getD []) (top 104) = true := by decide +kernel
theorem c79 : defB T.dat T.fns 79 ⟨("many_hands" : PySem.Str), 2, [], []⟩ [("program" : PySem.Str), ("lot" : PySem.Str)] (nth T.NS 79 |>.getD []) (top 105) = true := by decide +kernel
theorem c80 : defB T.dat T.fns 80 ⟨("turned" : PySem.Str), 2, [], []⟩ [("row" : PySem.Str), ("column" : PySem.Str)] (nth T.NS 80 |>.getD []) (top 106) = true := by decide +kernel
theorem c81 : defB T.dat T.fns 81 ⟨("add_runs" : PySem.Str), 3, [], []⟩ [("runs" : PySem.Str), ("steps" : PySem.Str), ("box" : PySem.Str)] (nth T.NS 81 |>.getD []) (top 107) = true := by decide +kernel
theorem c82 : defB T.dat T.fns 82 ⟨("folded" : PySem.Str), 2, [], []⟩ [("spans" : PySem.Str), ("modulus" : PySem.Str)] (nth T.NS 82 |>.getD []) (top 108) = true := by decide +kernel
theorem c83 : defB T.dat T.fns 83 ⟨("many_in" : PySem.Str), 1, [], []⟩ [("spans" : PySem.Str)] (nth T.NS 83 |>.getD []) (top 109) = true := by decide +kernel
theorem c84 : defB T.dat T.fns 84 ⟨("hands_of" : PySem.Str), 2, [], []⟩ [("rings" : PySem.Str), ("boxes" : PySem.Str)] (nth T.NS 84 |>.getD []) (top 110) = true := by decide +kernel
theorem c85 : defB T.dat T.fns 85 ⟨("moved" : PySem.Str), 2, [], []⟩ [("box" : PySem.Str), ("place" : PySem.Str)] (nth T.NS 85 |>.getD []) (top 111) = true := by decide +kernel
theorem c86 : defB T.dat T.fns 86 ⟨("hands_in" : PySem.Str), 3, [], []⟩ [("program" : PySem.Str), ("lot" : PySem.Str), ("box" : PySem.Str)] (nth T.NS 86 |>.getD []) (top 112) = true := by decide +kernel
theorem c87 : defB T.dat T.fns 87 ⟨("need_rounds" : PySem.Str), 4, [], []⟩ [("program" : PySem.Str), ("lot" : PySem.Str), ("one" : PySem.Str), ("other" : PySem.Str)] (nth T.NS 87 |>.getD []) (top 114) = true := by decide +kernel
theorem c88 : defB T.dat T.fns 88 ⟨("end" : PySem.Str), 1, [], []⟩ [("rounds" : PySem.Str)] (nth T.NS 88 |>.getD []) (top 115) = true := by decide +kernel
theorem c89 : defB T.dat T.fns 89 ⟨("chains" : PySem.Str), 3, [], []⟩ [("program" : PySem.Str), ("found" : PySem.Str), ("start" : PySem.Str)] (nth T.NS 89 |>.getD []) (top 116) = true := by decide +kernel
theorem c90 : defB T.dat T.fns 90 ⟨("ring" : PySem.Str), 3, [], []⟩ [("led" : PySem.Str), ("tie" : PySem.Str), ("around" : PySem.Str)] (nth T.NS 90 |>.getD []) (top 117) = true := by decide +kernel
theorem c91 : defB T.dat T.fns 91 ⟨("taken_rings" : PySem.Str), 3, [], []⟩ [("led" : PySem.Str), ("found" : PySem.Str), ("rest" : PySem.Str)] (nth T.NS 91 |>.getD []) (top 118) = true := by decide +kernel
theorem c92 : defB T.dat T.fns 92 ⟨("tied_paper" : PySem.Str), 4, [], []⟩ [("program" : PySem.Str), ("found" : PySem.Str), ("one" : PySem.Str), ("other" : PySem.Str)] (nth T.NS 92 |>.getD []) (top 119) = true := by decide +kernel
theorem c93 : defB T.dat T.fns 93 ⟨("apart_paper" : PySem.Str), 4, [], []⟩ [("program" : PySem.Str), ("found" : PySem.Str), ("one" : PySem.Str), ("other" : PySem.Str)] (nth T.NS 93 |>.getD []) (top 120) = true := by decide +kernel
theorem c94 : defB T.dat T.fns 94 ⟨("paper" : PySem.Str), 4, [], []⟩ [("program" : PySem.Str), ("lot" : PySem.Str), ("one" : PySem.Str), ("other" : PySem.Str)] (nth T.NS 94 |>.getD []) (top 121) = true := by decide +kernel
theorem c95 : defB T.dat T.fns 95 ⟨("does_part" : PySem.Str), 5, [], []⟩ [("program" : PySem.Str), ("lot" : PySem.Str), ("one" : PySem.Str), ("other" : PySem.Str), ("form" : PySem.Str)] (nth T.NS 95 |>.getD []) (top 122) = true := by decide +kernel
theorem c96 : defB T.dat T.fns 96 ⟨("is_way" : PySem.Str), 5, [], []⟩ [("program" : PySem.Str), ("lot" : PySem.Str), ("thing" : PySem.Str), ("statement" : PySem.Str), ("far" : PySem.Str)] (nth T.NS 96 |>.getD []) (top 123) = true := by decide +kernel
theorem c97 : defB T.dat T.fns 97 ⟨("is_taken" : PySem.Str), 4, [], []⟩ [("program" : PySem.Str), ("lot" : PySem.Str), ("thing" : PySem.Str), ("statement" : PySem.Str)] (nth T.NS 97 |>.getD []) (top 124) = true := by decide +kernel
theorem c98 : defB T.dat T.fns 98 ⟨("do_tie" : PySem.Str), 6, [], []⟩ [("program" : PySem.Str), ("lot" : PySem.Str), ("one" : PySem.Str), ("other" : PySem.Str), ("chain" : PySem.Str), ("taken" : PySem.Str)] (nth T.NS 98 |>.getD []) (top 125) = true := by decide +kernel
theorem c99 : defB T.dat T.fns 99 ⟨("check" : PySem.Str), 5, [], []⟩ [("program" : PySem.Str), ("lot" : PySem.Str), ("one" : PySem.Str), ("other" : PySem.Str), ("paper" : PySem.Str)] (nth T.NS 99 |>.getD []) (top 126) = true := by decide +kernel
theorem c100 : defB T.dat T.fns 100 ⟨("_law_one_right" : PySem.Str), 0, [], []⟩ [] (nth T.NS 100 |>.getD []) (top 128) = true := by decide +kernel
theorem c101 : defB T.dat T.fns 101 ⟨("_law_said" : PySem.Str), 5, [], []⟩ [("program_so" : PySem.Str), ("lot_so" : PySem.Str), ("one" : PySem.Str), ("other" : PySem.Str), ("sheet" : PySem.Str)] (nth T.NS 101 |>.getD []) (top 129) = true := by decide +kernel
theorem c102 : defB T.dat T.fns 102 ⟨("_law_ring_right" : PySem.Str), 0, [], []⟩ [] (nth T.NS 102 |>.getD []) (top 130) = true := by decide +kernel
theorem c103 : defB T.dat T.fns 103 ⟨("_law_two_loops_right" : PySem.Str), 0, [], []⟩ [] (nth T.NS 103 |>.getD []) (top 131) = true := by decide +kernel
theorem c104 : defB T.dat T.fns 104 ⟨("_law_apart_right" : PySem.Str), 0, [], []⟩ [] (nth T.NS 104 |>.getD []) (top 132) = true := by decide +kernel
theorem c105 : defB T.dat T.fns 105 ⟨("_law_line_right" : PySem.Str), 0, [], []⟩ [] (nth T.NS 105 |>.getD []) (top 133) = true := by decide +kernel
theorem c106 : defB T.dat T.fns 106 ⟨("law" : PySem.Str), 1, [], []⟩ [("script" : PySem.Str)] (nth T.NS 106 |>.getD []) (top 134) = true := by decide +kernel
section
variable {K : PySem.W.Frag} {h : Heap} {mg : Str → Option Value} (X : K.In h) (G : h.Ns mainGlobals mg) (c : He.SaysD fa fn K)
include X G c
theorem m0 : DefM K mg T.dat T.fns 0 ⟨("plus" : PySem.Str), 3, [], []⟩ := by
  obtain ⟨fd, F⟩ := says_def c 0 (x := ("plus" : PySem.Str)) (st := top 13) rfl
  exact defM_mk (fi := ⟨("plus" : PySem.Str), 3, [], []⟩) (st := top 13) (ps := [("row" : PySem.Str), ("step" : PySem.Str), ("times" : PySem.Str)]) F (He.glo_ok X G (c.fact 0 (f := .glo ("plus" : PySem.Str)) rfl)) (fun _ _ _ _ _ _ us hl => match us, hl with | [_, _, _], _ => by kernel_rfl) c0
theorem m1 : DefM K mg T.dat T.fns 1 ⟨("less" : PySem.Str), 2, [], []⟩ := by
  obtain ⟨fd, F⟩ := says_def c 1 (x := ("less" : PySem.Str)) (st := top 14) rfl
  exact defM_mk (fi := ⟨("less" : PySem.Str), 2, [], []⟩) (st := top 14) (ps := [("row" : PySem.Str), ("step" : PySem.Str)]) F (He.glo_ok X G (c.fact 1 (f := .glo ("less" : PySem.Str)) rfl)) (fun _ _ _ _ _ _ us hl => match us, hl with | [_, _], _ => by kernel_rfl) c1
theorem m2 : DefM K mg T.dat T.fns 2 ⟨("weighted" : PySem.Str), 2, [], []⟩ := by
  obtain ⟨fd, F⟩ := says_def c 2 (x := ("weighted" : PySem.Str)) (st := top 15) rfl
  exact defM_mk (fi := ⟨("weighted" : PySem.Str), 2, [], []⟩) (st := top 15) (ps := [("row" : PySem.Str), ("place" : PySem.Str)]) F (He.glo_ok X G (c.fact 2 (f := .glo ("weighted" : PySem.Str)) rfl)) (fun _ _ _ _ _ _ us hl => match us, hl with | [_, _], _ => by kernel_rfl) c2
theorem m3 : DefM K mg T.dat T.fns 3 ⟨("remainder" : PySem.Str), 2, [], []⟩ := by
  obtain ⟨fd, F⟩ := says_def c 3 (x := ("remainder" : PySem.Str)) (st := top 16) rfl
  exact defM_mk (fi := ⟨("remainder" : PySem.Str), 2, [], []⟩) (st := top 16) (ps := [("whole" : PySem.Str), ("modulus" : PySem.Str)]) F (He.glo_ok X G (c.fact 3 (f := .glo ("remainder" : PySem.Str)) rfl)) (fun _ _ _ _ _ _ us hl => match us, hl with | [_, _], _ => by kernel_rfl) c3
theorem m4 : DefM K mg T.dat T.fns 4 ⟨("multiplied" : PySem.Str), 1, [], []⟩ := by
  obtain ⟨fd, F⟩ := says_def c 4 (x := ("multiplied" : PySem.Str)) (st := top 17) rfl
  exact defM_mk (fi := ⟨("multiplied" : PySem.Str), 1, [], []⟩) (st := top 17) (ps := [("parts" : PySem.Str)]) F (He.glo_ok X G (c.fact 4 (f := .glo ("multiplied" : PySem.Str)) rfl)) (fun _ _ _ _ _ _ us hl => match us, hl with | [_], _ => by kernel_rfl) c4
theorem m5 : DefM K mg T.dat T.fns 5 ⟨("units" : PySem.Str), 1, [], []⟩ := by
  obtain ⟨fd, F⟩ := says_def c 5 (x := ("units" : PySem.Str)) (st := top 18) rfl
  exact defM_mk (fi := ⟨("units" : PySem.Str), 1, [], []⟩) (st := top 18) (ps := [("many" : PySem.Str)]) F (He.glo_ok X G (c.fact 5 (f := .glo ("units" : PySem.Str)) rfl)) (fun _ _ _ _ _ _ us hl => match us, hl with | [_], _ => by kernel_rfl) c5
theorem m6 : DefM K mg T.dat T.fns 6 ⟨("reduced" : PySem.Str), 2, [], []⟩ := by
  obtain ⟨fd, F⟩ := says_def c 6 (x := ("reduced" : PySem.Str)) (st := top 19) rfl
  exact defM_mk (fi := ⟨("reduced" : PySem.Str), 2, [], []⟩) (st := top 19) (ps := [("row" : PySem.Str), ("steps" : PySem.Str)]) F (He.glo_ok X G (c.fact 6 (f := .glo ("reduced" : PySem.Str)) rfl)) (fun _ _ _ _ _ _ us hl => match us, hl with | [_, _], _ => by kernel_rfl) c6
theorem m7 : DefM K mg T.dat T.fns 7 ⟨("gathered" : PySem.Str), 2, [], []⟩ := by
  obtain ⟨fd, F⟩ := says_def c 7 (x := ("gathered" : PySem.Str)) (st := top 20) rfl
  exact defM_mk (fi := ⟨("gathered" : PySem.Str), 2, [], []⟩) (st := top 20) (ps := [("rows" : PySem.Str), ("column" : PySem.Str)]) F (He.glo_ok X G (c.fact 7 (f := .glo ("gathered" : PySem.Str)) rfl)) (fun _ _ _ _ _ _ us hl => match us, hl with | [_, _], _ => by kernel_rfl) c7
theorem m8 : DefM K mg T.dat T.fns 8 ⟨("signed" : PySem.Str), 2, [], []⟩ := by
  obtain ⟨fd, F⟩ := says_def c 8 (x := ("signed" : PySem.Str)) (st := top 21) rfl
  exact defM_mk (fi := ⟨("signed" : PySem.Str), 2, [], []⟩) (st := top 21) (ps := [("row" : PySem.Str), ("column" : PySem.Str)]) F (He.glo_ok X G (c.fact 8 (f := .glo ("signed" : PySem.Str)) rfl)) (fun _ _ _ _ _ _ us hl => match us, hl with | [_, _], _ => by kernel_rfl) c8
theorem m9 : DefM K mg T.dat T.fns 9 ⟨("hermite" : PySem.Str), 1, [], []⟩ := by
  obtain ⟨fd, F⟩ := says_def c 9 (x := ("hermite" : PySem.Str)) (st := top 22) rfl
  exact defM_mk (fi := ⟨("hermite" : PySem.Str), 1, [], []⟩) (st := top 22) (ps := [("rows" : PySem.Str)]) F (He.glo_ok X G (c.fact 9 (f := .glo ("hermite" : PySem.Str)) rfl)) (fun _ _ _ _ _ _ us hl => match us, hl with | [_], _ => by kernel_rfl) c9
theorem m10 : DefM K mg T.dat T.fns 10 ⟨("transposed" : PySem.Str), 1, [], []⟩ := by
  obtain ⟨fd, F⟩ := says_def c 10 (x := ("transposed" : PySem.Str)) (st := top 23) rfl
  exact defM_mk (fi := ⟨("transposed" : PySem.Str), 1, [], []⟩) (st := top 23) (ps := [("rows" : PySem.Str)]) F (He.glo_ok X G (c.fact 10 (f := .glo ("transposed" : PySem.Str)) rfl)) (fun _ _ _ _ _ _ us hl => match us, hl with | [_], _ => by kernel_rfl) c10
theorem m11 : DefM K mg T.dat T.fns 11 ⟨("agreeing" : PySem.Str), 3, [], []⟩ := by
  obtain ⟨fd, F⟩ := says_def c 11 (x := ("agreeing" : PySem.Str)) (st := top 24) rfl
  exact defM_mk (fi := ⟨("agreeing" : PySem.Str), 3, [], []⟩) (st := top 24) (ps := [("rows" : PySem.Str), ("weights" : PySem.Str), ("modulus" : PySem.Str)]) F (He.glo_ok X G (c.fact 11 (f := .glo ("agreeing" : PySem.Str)) rfl)) (fun _ _ _ _ _ _ us hl => match us, hl with | [_, _, _], _ => by kernel_rfl) c11
theorem m12 : DefM K mg T.dat T.fns 12 ⟨("is_diagonal" : PySem.Str), 1, [], []⟩ := by
  obtain ⟨fd, F⟩ := says_def c 12 (x := ("is_diagonal" : PySem.Str)) (st := top 25) rfl
  exact defM_mk (fi := ⟨("is_diagonal" : PySem.Str), 1, [], []⟩) (st := top 25) (ps := [("rows" : PySem.Str)]) F (He.glo_ok X G (c.fact 12 (f := .glo ("is_diagonal" : PySem.Str)) rfl)) (fun _ _ _ _ _ _ us hl => match us, hl with | [_], _ => by kernel_rfl) c12
theorem m13 : DefM K mg T.dat T.fns 13 ⟨("coordinates" : PySem.Str), 2, [], []⟩ := by
  obtain ⟨fd, F⟩ := says_def c 13 (x := ("coordinates" : PySem.Str)) (st := top 26) rfl
  exact defM_mk (fi := ⟨("coordinates" : PySem.Str), 2, [], []⟩) (st := top 26) (ps := [("rows" : PySem.Str), ("many" : PySem.Str)]) F (He.glo_ok X G (c.fact 13 (f := .glo ("coordinates" : PySem.Str)) rfl)) (fun _ _ _ _ _ _ us hl => match us, hl with | [_, _], _ => by kernel_rfl) c13
theorem m14 : DefM K mg T.dat T.fns 14 ⟨("divisors" : PySem.Str), 1, [], []⟩ := by
  obtain ⟨fd, F⟩ := says_def c 14 (x := ("divisors" : PySem.Str)) (st := top 27) rfl
  exact defM_mk (fi := ⟨("divisors" : PySem.Str), 1, [], []⟩) (st := top 27) (ps := [("factors" : PySem.Str)]) F (He.glo_ok X G (c.fact 14 (f := .glo ("divisors" : PySem.Str)) rfl)) (fun _ _ _ _ _ _ us hl => match us, hl with | [_], _ => by kernel_rfl) c14
theorem m15 : DefM K mg T.dat T.fns 15 ⟨("is_integer" : PySem.Str), 1, [], []⟩ := by
  obtain ⟨fd, F⟩ := says_def c 15 (x := ("is_integer" : PySem.Str)) (st := top 35) rfl
  exact defM_mk (fi := ⟨("is_integer" : PySem.Str), 1, [], []⟩) (st := top 35) (ps := [("thing" : PySem.Str)]) F (He.glo_ok X G (c.fact 15 (f := .glo ("is_integer" : PySem.Str)) rfl)) (fun _ _ _ _ _ _ us hl => match us, hl with | [_], _ => by kernel_rfl) c15
theorem m16 : DefM K mg T.dat T.fns 16 ⟨("is_between" : PySem.Str), 3, [], []⟩ := by
  obtain ⟨fd, F⟩ := says_def c 16 (x := ("is_between" : PySem.Str)) (st := top 36) rfl
  exact defM_mk (fi := ⟨("is_between" : PySem.Str), 3, [], []⟩) (st := top 36) (ps := [("thing" : PySem.Str), ("low" : PySem.Str), ("high" : PySem.Str)]) F (He.glo_ok X G (c.fact 16 (f := .glo ("is_between" : PySem.Str)) rfl)) (fun _ _ _ _ _ _ us hl => match us, hl with | [_, _, _], _ => by kernel_rfl) c16
theorem m17 : DefM K mg T.dat T.fns 17 ⟨("is_number" : PySem.Str), 2, [], []⟩ := by
  obtain ⟨fd, F⟩ := says_def c 17 (x := ("is_number" : PySem.Str)) (st := top 37) rfl
  exact defM_mk (fi := ⟨("is_number" : PySem.Str), 2, [], []⟩) (st := top 37) (ps := [("thing" : PySem.Str), ("many" : PySem.Str)]) F (He.glo_ok X G (c.fact 17 (f := .glo ("is_number" : PySem.Str)) rfl)) (fun _ _ _ _ _ _ us hl => match us, hl with | [_, _], _ => by kernel_rfl) c17
theorem m18 : DefM K mg T.dat T.fns 18 ⟨("is_tuple" : PySem.Str), 2, [], []⟩ := by
  obtain ⟨fd, F⟩ := says_def c 18 (x := ("is_tuple" : PySem.Str)) (st := top 38) rfl
  exact defM_mk (fi := ⟨("is_tuple" : PySem.Str), 2, [], []⟩) (st := top 38) (ps := [("thing" : PySem.Str), ("many" : PySem.Str)]) F (He.glo_ok X G (c.fact 18 (f := .glo ("is_tuple" : PySem.Str)) rfl)) (fun _ _ _ _ _ _ us hl => match us, hl with | [_, _], _ => by kernel_rfl) c18
theorem m19 : DefM K mg T.dat T.fns 19 ⟨("is_few" : PySem.Str), 2, [], []⟩ := by
  obtain ⟨fd, F⟩ := says_def c 19 (x := ("is_few" : PySem.Str)) (st := top 39) rfl
  exact defM_mk (fi := ⟨("is_few" : PySem.Str), 2, [], []⟩) (st := top 39) (ps := [("thing" : PySem.Str), ("most" : PySem.Str)]) F (He.glo_ok X G (c.fact 19 (f := .glo ("is_few" : PySem.Str)) rfl)) (fun _ _ _ _ _ _ us hl => match us, hl with | [_, _], _ => by kernel_rfl) c19
theorem m20 : DefM K mg T.dat T.fns 20 ⟨("is_row" : PySem.Str), 3, [], []⟩ := by
  obtain ⟨fd, F⟩ := says_def c 20 (x := ("is_row" : PySem.Str)) (st := top 40) rfl
  exact defM_mk (fi := ⟨("is_row" : PySem.Str), 3, [], []⟩) (st := top 40) (ps := [("thing" : PySem.Str), ("many" : PySem.Str), ("most" : PySem.Str)]) F (He.glo_ok X G (c.fact 20 (f := .glo ("is_row" : PySem.Str)) rfl)) (fun _ _ _ _ _ _ us hl => match us, hl with | [_, _, _], _ => by kernel_rfl) c20
theorem m21 : DefM K mg T.dat T.fns 21 ⟨("is_place" : PySem.Str), 2, [], []⟩ := by
  obtain ⟨fd, F⟩ := says_def c 21 (x := ("is_place" : PySem.Str)) (st := top 41) rfl
  exact defM_mk (fi := ⟨("is_place" : PySem.Str), 2, [], []⟩) (st := top 41) (ps := [("thing" : PySem.Str), ("depth" : PySem.Str)]) F (He.glo_ok X G (c.fact 21 (f := .glo ("is_place" : PySem.Str)) rfl)) (fun _ _ _ _ _ _ us hl => match us, hl with | [_, _], _ => by kernel_rfl) c21
theorem m22 : DefM K mg T.dat T.fns 22 ⟨("is_matrix" : PySem.Str), 2, [], []⟩ := by
  obtain ⟨fd, F⟩ := says_def c 22 (x := ("is_matrix" : PySem.Str)) (st := top 42) rfl
  exact defM_mk (fi := ⟨("is_matrix" : PySem.Str), 2, [], []⟩) (st := top 42) (ps := [("thing" : PySem.Str), ("depth" : PySem.Str)]) F (He.glo_ok X G (c.fact 22 (f := .glo ("is_matrix" : PySem.Str)) rfl)) (fun _ _ _ _ _ _ us hl => match us, hl with | [_, _], _ => by kernel_rfl) c22
theorem m23 : DefM K mg T.dat T.fns 23 ⟨("is_reference" : PySem.Str), 2, [], []⟩ := by
  obtain ⟨fd, F⟩ := says_def c 23 (x := ("is_reference" : PySem.Str)) (st := top 43) rfl
  exact defM_mk (fi := ⟨("is_reference" : PySem.Str), 2, [], []⟩) (st := top 43) (ps := [("thing" : PySem.Str), ("arrays" : PySem.Str)]) F (He.glo_ok X G (c.fact 23 (f := .glo ("is_reference" : PySem.Str)) rfl)) (fun _ _ _ _ _ _ us hl => match us, hl with | [_, _], _ => by kernel_rfl) c23
theorem m24 : DefM K mg T.dat T.fns 24 ⟨("wrong_in_statement" : PySem.Str), 2, [], []⟩ := by
  obtain ⟨fd, F⟩ := says_def c 24 (x := ("wrong_in_statement" : PySem.Str)) (st := top 44) rfl
  exact defM_mk (fi := ⟨("wrong_in_statement" : PySem.Str), 2, [], []⟩) (st := top 44) (ps := [("thing" : PySem.Str), ("arrays" : PySem.Str)]) F (He.glo_ok X G (c.fact 24 (f := .glo ("wrong_in_statement" : PySem.Str)) rfl)) (fun _ _ _ _ _ _ us hl => match us, hl with | [_, _], _ => by kernel_rfl) c24
theorem m25 : DefM K mg T.dat T.fns 25 ⟨("wrong_in_arrays" : PySem.Str), 2, [], []⟩ := by
  obtain ⟨fd, F⟩ := says_def c 25 (x := ("wrong_in_arrays" : PySem.Str)) (st := top 45) rfl
  exact defM_mk (fi := ⟨("wrong_in_arrays" : PySem.Str), 2, [], []⟩) (st := top 45) (ps := [("depth" : PySem.Str), ("arrays" : PySem.Str)]) F (He.glo_ok X G (c.fact 25 (f := .glo ("wrong_in_arrays" : PySem.Str)) rfl)) (fun _ _ _ _ _ _ us hl => match us, hl with | [_, _], _ => by kernel_rfl) c25
theorem m26 : DefM K mg T.dat T.fns 26 ⟨("wrong_in_statements" : PySem.Str), 2, [], []⟩ := by
  obtain ⟨fd, F⟩ := says_def c 26 (x := ("wrong_in_statements" : PySem.Str)) (st := top 46) rfl
  exact defM_mk (fi := ⟨("wrong_in_statements" : PySem.Str), 2, [], []⟩) (st := top 46) (ps := [("arrays" : PySem.Str), ("statements" : PySem.Str)]) F (He.glo_ok X G (c.fact 26 (f := .glo ("wrong_in_statements" : PySem.Str)) rfl)) (fun _ _ _ _ _ _ us hl => match us, hl with | [_, _], _ => by kernel_rfl) c26
theorem m27 : DefM K mg T.dat T.fns 27 ⟨("wrong_in_program" : PySem.Str), 1, [], []⟩ := by
  obtain ⟨fd, F⟩ := says_def c 27 (x := ("wrong_in_program" : PySem.Str)) (st := top 47) rfl
  exact defM_mk (fi := ⟨("wrong_in_program" : PySem.Str), 1, [], []⟩) (st := top 47) (ps := [("thing" : PySem.Str)]) F (He.glo_ok X G (c.fact 27 (f := .glo ("wrong_in_program" : PySem.Str)) rfl)) (fun _ _ _ _ _ _ us hl => match us, hl with | [_], _ => by kernel_rfl) c27
theorem m28 : DefM K mg T.dat T.fns 28 ⟨("need_program" : PySem.Str), 1, [], []⟩ := by
  obtain ⟨fd, F⟩ := says_def c 28 (x := ("need_program" : PySem.Str)) (st := top 48) rfl
  exact defM_mk (fi := ⟨("need_program" : PySem.Str), 1, [], []⟩) (st := top 48) (ps := [("thing" : PySem.Str)]) F (He.glo_ok X G (c.fact 28 (f := .glo ("need_program" : PySem.Str)) rfl)) (fun _ _ _ _ _ _ us hl => match us, hl with | [_], _ => by kernel_rfl) c28
theorem m29 : DefM K mg T.dat T.fns 29 ⟨("is_lot" : PySem.Str), 2, [], []⟩ := by
  obtain ⟨fd, F⟩ := says_def c 29 (x := ("is_lot" : PySem.Str)) (st := top 49) rfl
  exact defM_mk (fi := ⟨("is_lot" : PySem.Str), 2, [], []⟩) (st := top 49) (ps := [("program" : PySem.Str), ("thing" : PySem.Str)]) F (He.glo_ok X G (c.fact 29 (f := .glo ("is_lot" : PySem.Str)) rfl)) (fun _ _ _ _ _ _ us hl => match us, hl with | [_, _], _ => by kernel_rfl) c29
theorem m30 : DefM K mg T.dat T.fns 30 ⟨("need_lot" : PySem.Str), 2, [], []⟩ := by
  obtain ⟨fd, F⟩ := says_def c 30 (x := ("need_lot" : PySem.Str)) (st := top 50) rfl
  exact defM_mk (fi := ⟨("need_lot" : PySem.Str), 2, [], []⟩) (st := top 50) (ps := [("program" : PySem.Str), ("lot" : PySem.Str)]) F (He.glo_ok X G (c.fact 30 (f := .glo ("need_lot" : PySem.Str)) rfl)) (fun _ _ _ _ _ _ us hl => match us, hl with | [_, _], _ => by kernel_rfl) c30
theorem m31 : DefM K mg T.dat T.fns 31 ⟨("need_statement" : PySem.Str), 2, [], []⟩ := by
  obtain ⟨fd, F⟩ := says_def c 31 (x := ("need_statement" : PySem.Str)) (st := top 51) rfl
  exact defM_mk (fi := ⟨("need_statement" : PySem.Str), 2, [], []⟩) (st := top 51) (ps := [("program" : PySem.Str), ("statement" : PySem.Str)]) F (He.glo_ok X G (c.fact 31 (f := .glo ("need_statement" : PySem.Str)) rfl)) (fun _ _ _ _ _ _ us hl => match us, hl with | [_, _], _ => by kernel_rfl) c31
theorem m32 : DefM K mg T.dat T.fns 32 ⟨("is_round" : PySem.Str), 2, [], []⟩ := by
  obtain ⟨fd, F⟩ := says_def c 32 (x := ("is_round" : PySem.Str)) (st := top 52) rfl
  exact defM_mk (fi := ⟨("is_round" : PySem.Str), 2, [], []⟩) (st := top 52) (ps := [("program" : PySem.Str), ("thing" : PySem.Str)]) F (He.glo_ok X G (c.fact 32 (f := .glo ("is_round" : PySem.Str)) rfl)) (fun _ _ _ _ _ _ us hl => match us, hl with | [_, _], _ => by kernel_rfl) c32
theorem m33 : DefM K mg T.dat T.fns 33 ⟨("need_round" : PySem.Str), 2, [], []⟩ := by
  obtain ⟨fd, F⟩ := says_def c 33 (x := ("need_round" : PySem.Str)) (st := top 53) rfl
  exact defM_mk (fi := ⟨("need_round" : PySem.Str), 2, [], []⟩) (st := top 53) (ps := [("program" : PySem.Str), ("round_at" : PySem.Str)]) F (He.glo_ok X G (c.fact 33 (f := .glo ("need_round" : PySem.Str)) rfl)) (fun _ _ _ _ _ _ us hl => match us, hl with | [_, _], _ => by kernel_rfl) c33
theorem m34 : DefM K mg T.dat T.fns 34 ⟨("touched" : PySem.Str), 2, [], []⟩ := by
  obtain ⟨fd, F⟩ := says_def c 34 (x := ("touched" : PySem.Str)) (st := top 54) rfl
  exact defM_mk (fi := ⟨("touched" : PySem.Str), 2, [], []⟩) (st := top 54) (ps := [("program" : PySem.Str), ("round_at" : PySem.Str)]) F (He.glo_ok X G (c.fact 34 (f := .glo ("touched" : PySem.Str)) rfl)) (fun _ _ _ _ _ _ us hl => match us, hl with | [_, _], _ => by kernel_rfl) c34
theorem m35 : DefM K mg T.dat T.fns 35 ⟨("cells" : PySem.Str), 2, [], []⟩ := by
  obtain ⟨fd, F⟩ := says_def c 35 (x := ("cells" : PySem.Str)) (st := top 55) rfl
  exact defM_mk (fi := ⟨("cells" : PySem.Str), 2, [], []⟩) (st := top 55) (ps := [("program" : PySem.Str), ("round_at" : PySem.Str)]) F (He.glo_ok X G (c.fact 35 (f := .glo ("cells" : PySem.Str)) rfl)) (fun _ _ _ _ _ _ us hl => match us, hl with | [_, _], _ => by kernel_rfl) c35
theorem m36 : DefM K mg T.dat T.fns 36 ⟨("touched_of" : PySem.Str), 3, [], []⟩ := by
  obtain ⟨fd, F⟩ := says_def c 36 (x := ("touched_of" : PySem.Str)) (st := top 56) rfl
  exact defM_mk (fi := ⟨("touched_of" : PySem.Str), 3, [], []⟩) (st := top 56) (ps := [("program" : PySem.Str), ("lot" : PySem.Str), ("round_at" : PySem.Str)]) F (He.glo_ok X G (c.fact 36 (f := .glo ("touched_of" : PySem.Str)) rfl)) (fun _ _ _ _ _ _ us hl => match us, hl with | [_, _, _], _ => by kernel_rfl) c36
theorem m37 : DefM K mg T.dat T.fns 37 ⟨("have_common" : PySem.Str), 2, [], []⟩ := by
  obtain ⟨fd, F⟩ := says_def c 37 (x := ("have_common" : PySem.Str)) (st := top 57) rfl
  exact defM_mk (fi := ⟨("have_common" : PySem.Str), 2, [], []⟩) (st := top 57) (ps := [("near" : PySem.Str), ("far" : PySem.Str)]) F (He.glo_ok X G (c.fact 37 (f := .glo ("have_common" : PySem.Str)) rfl)) (fun _ _ _ _ _ _ us hl => match us, hl with | [_, _], _ => by kernel_rfl) c37
theorem m38 : DefM K mg T.dat T.fns 38 ⟨("do_meet" : PySem.Str), 4, [], []⟩ := by
  obtain ⟨fd, F⟩ := says_def c 38 (x := ("do_meet" : PySem.Str)) (st := top 58) rfl
  exact defM_mk (fi := ⟨("do_meet" : PySem.Str), 4, [], []⟩) (st := top 58) (ps := [("program" : PySem.Str), ("lot" : PySem.Str), ("one" : PySem.Str), ("other" : PySem.Str)]) F (He.glo_ok X G (c.fact 38 (f := .glo ("do_meet" : PySem.Str)) rfl)) (fun _ _ _ _ _ _ us hl => match us, hl with | [_, _, _, _], _ => by kernel_rfl) c38
theorem m39 : DefM K mg T.dat T.fns 39 ⟨("written" : PySem.Str), 1, [], []⟩ := by
  obtain ⟨fd, F⟩ := says_def c 39 (x := ("written" : PySem.Str)) (st := top 59) rfl
  exact defM_mk (fi := ⟨("written" : PySem.Str), 1, [], []⟩) (st := top 59) (ps := [("program" : PySem.Str)]) F (He.glo_ok X G (c.fact 39 (f := .glo ("written" : PySem.Str)) rfl)) (fun _ _ _ _ _ _ us hl => match us, hl with | [_], _ => by kernel_rfl) c39
theorem m40 : DefM K mg T.dat T.fns 40 ⟨("sight" : PySem.Str), 2, [], []⟩ := by
  obtain ⟨fd, F⟩ := says_def c 40 (x := ("sight" : PySem.Str)) (st := top 61) rfl
  exact defM_mk (fi := ⟨("sight" : PySem.Str), 2, [], []⟩) (st := top 61) (ps := [("matrix" : PySem.Str), ("depth" : PySem.Str)]) F (He.glo_ok X G (c.fact 40 (f := .glo ("sight" : PySem.Str)) rfl)) (fun _ _ _ _ _ _ us hl => match us, hl with | [_, _], _ => by kernel_rfl) c40
theorem m41 : DefM K mg T.dat T.fns 41 ⟨("uses" : PySem.Str), 2, [], []⟩ := by
  obtain ⟨fd, F⟩ := says_def c 41 (x := ("uses" : PySem.Str)) (st := top 62) rfl
  exact defM_mk (fi := ⟨("uses" : PySem.Str), 2, [], []⟩) (st := top 62) (ps := [("program" : PySem.Str), ("lot" : PySem.Str)]) F (He.glo_ok X G (c.fact 41 (f := .glo ("uses" : PySem.Str)) rfl)) (fun _ _ _ _ _ _ us hl => match us, hl with | [_, _], _ => by kernel_rfl) c41
theorem m42 : DefM K mg T.dat T.fns 42 ⟨("ties" : PySem.Str), 2, [], []⟩ := by
  obtain ⟨fd, F⟩ := says_def c 42 (x := ("ties" : PySem.Str)) (st := top 63) rfl
  exact defM_mk (fi := ⟨("ties" : PySem.Str), 2, [], []⟩) (st := top 63) (ps := [("program" : PySem.Str), ("lot" : PySem.Str)]) F (He.glo_ok X G (c.fact 42 (f := .glo ("ties" : PySem.Str)) rfl)) (fun _ _ _ _ _ _ us hl => match us, hl with | [_, _], _ => by kernel_rfl) c42
theorem m43 : DefM K mg T.dat T.fns 43 ⟨("joined" : PySem.Str), 2, [], []⟩ := by
  obtain ⟨fd, F⟩ := says_def c 43 (x := ("joined" : PySem.Str)) (st := top 64) rfl
  exact defM_mk (fi := ⟨("joined" : PySem.Str), 2, [], []⟩) (st := top 64) (ps := [("program" : PySem.Str), ("found" : PySem.Str)]) F (He.glo_ok X G (c.fact 43 (f := .glo ("joined" : PySem.Str)) rfl)) (fun _ _ _ _ _ _ us hl => match us, hl with | [_, _], _ => by kernel_rfl) c43
theorem m44 : DefM K mg T.dat T.fns 44 ⟨("groups_by" : PySem.Str), 1, [], []⟩ := by
  obtain ⟨fd, F⟩ := says_def c 44 (x := ("groups_by" : PySem.Str)) (st := top 65) rfl
  exact defM_mk (fi := ⟨("groups_by" : PySem.Str), 1, [], []⟩) (st := top 65) (ps := [("leads" : PySem.Str)]) F (He.glo_ok X G (c.fact 44 (f := .glo ("groups_by" : PySem.Str)) rfl)) (fun _ _ _ _ _ _ us hl => match us, hl with | [_], _ => by kernel_rfl) c44
theorem m45 : DefM K mg T.dat T.fns 45 ⟨("groups" : PySem.Str), 2, [], []⟩ := by
  obtain ⟨fd, F⟩ := says_def c 45 (x := ("groups" : PySem.Str)) (st := top 66) rfl
  exact defM_mk (fi := ⟨("groups" : PySem.Str), 2, [], []⟩) (st := top 66) (ps := [("program" : PySem.Str), ("lot" : PySem.Str)]) F (He.glo_ok X G (c.fact 45 (f := .glo ("groups" : PySem.Str)) rfl)) (fun _ _ _ _ _ _ us hl => match us, hl with | [_, _], _ => by kernel_rfl) c45
theorem m46 : DefM K mg T.dat T.fns 46 ⟨("basis" : PySem.Str), 3, [], []⟩ := by
  obtain ⟨fd, F⟩ := says_def c 46 (x := ("basis" : PySem.Str)) (st := top 67) rfl
  exact defM_mk (fi := ⟨("basis" : PySem.Str), 3, [], []⟩) (st := top 67) (ps := [("program" : PySem.Str), ("lot" : PySem.Str), ("statement" : PySem.Str)]) F (He.glo_ok X G (c.fact 46 (f := .glo ("basis" : PySem.Str)) rfl)) (fun _ _ _ _ _ _ us hl => match us, hl with | [_, _, _], _ => by kernel_rfl) c46
theorem m47 : DefM K mg T.dat T.fns 47 ⟨("ways_apart" : PySem.Str), 3, [], []⟩ := by
  obtain ⟨fd, F⟩ := says_def c 47 (x := ("ways_apart" : PySem.Str)) (st := top 68) rfl
  exact defM_mk (fi := ⟨("ways_apart" : PySem.Str), 3, [], []⟩) (st := top 68) (ps := [("program" : PySem.Str), ("lot" : PySem.Str), ("statement" : PySem.Str)]) F (He.glo_ok X G (c.fact 47 (f := .glo ("ways_apart" : PySem.Str)) rfl)) (fun _ _ _ _ _ _ us hl => match us, hl with | [_, _, _], _ => by kernel_rfl) c47
theorem m48 : DefM K mg T.dat T.fns 48 ⟨("is_modulus" : PySem.Str), 1, [], []⟩ := by
  obtain ⟨fd, F⟩ := says_def c 48 (x := ("is_modulus" : PySem.Str)) (st := top 72) rfl
  exact defM_mk (fi := ⟨("is_modulus" : PySem.Str), 1, [], []⟩) (st := top 72) (ps := [("thing" : PySem.Str)]) F (He.glo_ok X G (c.fact 48 (f := .glo ("is_modulus" : PySem.Str)) rfl)) (fun _ _ _ _ _ _ us hl => match us, hl with | [_], _ => by kernel_rfl) c48
theorem m49 : DefM K mg T.dat T.fns 49 ⟨("is_form" : PySem.Str), 2, [], []⟩ := by
  obtain ⟨fd, F⟩ := says_def c 49 (x := ("is_form" : PySem.Str)) (st := top 73) rfl
  exact defM_mk (fi := ⟨("is_form" : PySem.Str), 2, [], []⟩) (st := top 73) (ps := [("program" : PySem.Str), ("thing" : PySem.Str)]) F (He.glo_ok X G (c.fact 49 (f := .glo ("is_form" : PySem.Str)) rfl)) (fun _ _ _ _ _ _ us hl => match us, hl with | [_, _], _ => by kernel_rfl) c49
theorem m50 : DefM K mg T.dat T.fns 50 ⟨("need_form" : PySem.Str), 2, [], []⟩ := by
  obtain ⟨fd, F⟩ := says_def c 50 (x := ("need_form" : PySem.Str)) (st := top 74) rfl
  exact defM_mk (fi := ⟨("need_form" : PySem.Str), 2, [], []⟩) (st := top 74) (ps := [("program" : PySem.Str), ("form" : PySem.Str)]) F (He.glo_ok X G (c.fact 50 (f := .glo ("need_form" : PySem.Str)) rfl)) (fun _ _ _ _ _ _ us hl => match us, hl with | [_, _], _ => by kernel_rfl) c50
theorem m51 : DefM K mg T.dat T.fns 51 ⟨("wrong_in_dealing" : PySem.Str), 2, [], []⟩ := by
  obtain ⟨fd, F⟩ := says_def c 51 (x := ("wrong_in_dealing" : PySem.Str)) (st := top 75) rfl
  exact defM_mk (fi := ⟨("wrong_in_dealing" : PySem.Str), 2, [], []⟩) (st := top 75) (ps := [("program" : PySem.Str), ("thing" : PySem.Str)]) F (He.glo_ok X G (c.fact 51 (f := .glo ("wrong_in_dealing" : PySem.Str)) rfl)) (fun _ _ _ _ _ _ us hl => match us, hl with | [_, _], _ => by kernel_rfl) c51
theorem m52 : DefM K mg T.dat T.fns 52 ⟨("need_dealing" : PySem.Str), 2, [], []⟩ := by
  obtain ⟨fd, F⟩ := says_def c 52 (x := ("need_dealing" : PySem.Str)) (st := top 76) rfl
  exact defM_mk (fi := ⟨("need_dealing" : PySem.Str), 2, [], []⟩) (st := top 76) (ps := [("program" : PySem.Str), ("dealing" : PySem.Str)]) F (He.glo_ok X G (c.fact 52 (f := .glo ("need_dealing" : PySem.Str)) rfl)) (fun _ _ _ _ _ _ us hl => match us, hl with | [_, _], _ => by kernel_rfl) c52
theorem m53 : DefM K mg T.dat T.fns 53 ⟨("number_by" : PySem.Str), 2, [], []⟩ := by
  obtain ⟨fd, F⟩ := says_def c 53 (x := ("number_by" : PySem.Str)) (st := top 77) rfl
  exact defM_mk (fi := ⟨("number_by" : PySem.Str), 2, [], []⟩) (st := top 77) (ps := [("form" : PySem.Str), ("round_at" : PySem.Str)]) F (He.glo_ok X G (c.fact 53 (f := .glo ("number_by" : PySem.Str)) rfl)) (fun _ _ _ _ _ _ us hl => match us, hl with | [_, _], _ => by kernel_rfl) c53
theorem m54 : DefM K mg T.dat T.fns 54 ⟨("hand_by" : PySem.Str), 2, [], []⟩ := by
  obtain ⟨fd, F⟩ := says_def c 54 (x := ("hand_by" : PySem.Str)) (st := top 78) rfl
  exact defM_mk (fi := ⟨("hand_by" : PySem.Str), 2, [], []⟩) (st := top 78) (ps := [("dealing" : PySem.Str), ("round_at" : PySem.Str)]) F (He.glo_ok X G (c.fact 54 (f := .glo ("hand_by" : PySem.Str)) rfl)) (fun _ _ _ _ _ _ us hl => match us, hl with | [_, _], _ => by kernel_rfl) c54
theorem m55 : DefM K mg T.dat T.fns 55 ⟨("hand" : PySem.Str), 3, [], []⟩ := by
  obtain ⟨fd, F⟩ := says_def c 55 (x := ("hand" : PySem.Str)) (st := top 79) rfl
  exact defM_mk (fi := ⟨("hand" : PySem.Str), 3, [], []⟩) (st := top 79) (ps := [("program" : PySem.Str), ("dealing" : PySem.Str), ("round_at" : PySem.Str)]) F (He.glo_ok X G (c.fact 55 (f := .glo ("hand" : PySem.Str)) rfl)) (fun _ _ _ _ _ _ us hl => match us, hl with | [_, _, _], _ => by kernel_rfl) c55
theorem m56 : DefM K mg T.dat T.fns 56 ⟨("are_alike" : PySem.Str), 3, [], []⟩ := by
  obtain ⟨fd, F⟩ := says_def c 56 (x := ("are_alike" : PySem.Str)) (st := top 80) rfl
  exact defM_mk (fi := ⟨("are_alike" : PySem.Str), 3, [], []⟩) (st := top 80) (ps := [("row" : PySem.Str), ("far_row" : PySem.Str), ("modulus" : PySem.Str)]) F (He.glo_ok X G (c.fact 56 (f := .glo ("are_alike" : PySem.Str)) rfl)) (fun _ _ _ _ _ _ us hl => match us, hl with | [_, _, _], _ => by kernel_rfl) c56
theorem m57 : DefM K mg T.dat T.fns 57 ⟨("do_agree" : PySem.Str), 2, [], []⟩ := by
  obtain ⟨fd, F⟩ := says_def c 57 (x := ("do_agree" : PySem.Str)) (st := top 81) rfl
  exact defM_mk (fi := ⟨("do_agree" : PySem.Str), 2, [], []⟩) (st := top 81) (ps := [("form" : PySem.Str), ("found" : PySem.Str)]) F (He.glo_ok X G (c.fact 57 (f := .glo ("do_agree" : PySem.Str)) rfl)) (fun _ _ _ _ _ _ us hl => match us, hl with | [_, _], _ => by kernel_rfl) c57
theorem m58 : DefM K mg T.dat T.fns 58 ⟨("do_all_agree" : PySem.Str), 2, [], []⟩ := by
  obtain ⟨fd, F⟩ := says_def c 58 (x := ("do_all_agree" : PySem.Str)) (st := top 82) rfl
  exact defM_mk (fi := ⟨("do_all_agree" : PySem.Str), 2, [], []⟩) (st := top 82) (ps := [("dealing" : PySem.Str), ("found" : PySem.Str)]) F (He.glo_ok X G (c.fact 58 (f := .glo ("do_all_agree" : PySem.Str)) rfl)) (fun _ _ _ _ _ _ us hl => match us, hl with | [_, _], _ => by kernel_rfl) c58
theorem m59 : DefM K mg T.dat T.fns 59 ⟨("does_keep" : PySem.Str), 3, [], []⟩ := by
  obtain ⟨fd, F⟩ := says_def c 59 (x := ("does_keep" : PySem.Str)) (st := top 83) rfl
  exact defM_mk (fi := ⟨("does_keep" : PySem.Str), 3, [], []⟩) (st := top 83) (ps := [("program" : PySem.Str), ("lot" : PySem.Str), ("form" : PySem.Str)]) F (He.glo_ok X G (c.fact 59 (f := .glo ("does_keep" : PySem.Str)) rfl)) (fun _ _ _ _ _ _ us hl => match us, hl with | [_, _, _], _ => by kernel_rfl) c59
theorem m60 : DefM K mg T.dat T.fns 60 ⟨("group_form" : PySem.Str), 2, [], []⟩ := by
  obtain ⟨fd, F⟩ := says_def c 60 (x := ("group_form" : PySem.Str)) (st := top 84) rfl
  exact defM_mk (fi := ⟨("group_form" : PySem.Str), 2, [], []⟩) (st := top 84) (ps := [("program" : PySem.Str), ("leads" : PySem.Str)]) F (He.glo_ok X G (c.fact 60 (f := .glo ("group_form" : PySem.Str)) rfl)) (fun _ _ _ _ _ _ us hl => match us, hl with | [_, _], _ => by kernel_rfl) c60
theorem m61 : DefM K mg T.dat T.fns 61 ⟨("step_form" : PySem.Str), 5, [], []⟩ := by
  obtain ⟨fd, F⟩ := says_def c 61 (x := ("step_form" : PySem.Str)) (st := top 85) rfl
  exact defM_mk (fi := ⟨("step_form" : PySem.Str), 5, [], []⟩) (st := top 85) (ps := [("program" : PySem.Str), ("parts" : PySem.Str), ("least" : PySem.Str), ("modulus" : PySem.Str), ("row" : PySem.Str)]) F (He.glo_ok X G (c.fact 61 (f := .glo ("step_form" : PySem.Str)) rfl)) (fun _ _ _ _ _ _ us hl => match us, hl with | [_, _, _, _, _], _ => by kernel_rfl) c61
theorem m62 : DefM K mg T.dat T.fns 62 ⟨("need_dealt" : PySem.Str), 3, [], []⟩ := by
  obtain ⟨fd, F⟩ := says_def c 62 (x := ("need_dealt" : PySem.Str)) (st := top 86) rfl
  exact defM_mk (fi := ⟨("need_dealt" : PySem.Str), 3, [], []⟩) (st := top 86) (ps := [("program" : PySem.Str), ("lot" : PySem.Str), ("dealing" : PySem.Str)]) F (He.glo_ok X G (c.fact 62 (f := .glo ("need_dealt" : PySem.Str)) rfl)) (fun _ _ _ _ _ _ us hl => match us, hl with | [_, _, _], _ => by kernel_rfl) c62
theorem m63 : DefM K mg T.dat T.fns 63 ⟨("is_right" : PySem.Str), 3, [], []⟩ := by
  obtain ⟨fd, F⟩ := says_def c 63 (x := ("is_right" : PySem.Str)) (st := top 87) rfl
  exact defM_mk (fi := ⟨("is_right" : PySem.Str), 3, [], []⟩) (st := top 87) (ps := [("program" : PySem.Str), ("lot" : PySem.Str), ("dealing" : PySem.Str)]) F (He.glo_ok X G (c.fact 63 (f := .glo ("is_right" : PySem.Str)) rfl)) (fun _ _ _ _ _ _ us hl => match us, hl with | [_, _, _], _ => by kernel_rfl) c63
theorem m64 : DefM K mg T.dat T.fns 64 ⟨("steps_within" : PySem.Str), 3, [], []⟩ := by
  obtain ⟨fd, F⟩ := says_def c 64 (x := ("steps_within" : PySem.Str)) (st := top 88) rfl
  exact defM_mk (fi := ⟨("steps_within" : PySem.Str), 3, [], []⟩) (st := top 88) (ps := [("program" : PySem.Str), ("dealing" : PySem.Str), ("statement" : PySem.Str)]) F (He.glo_ok X G (c.fact 64 (f := .glo ("steps_within" : PySem.Str)) rfl)) (fun _ _ _ _ _ _ us hl => match us, hl with | [_, _, _], _ => by kernel_rfl) c64
theorem m65 : DefM K mg T.dat T.fns 65 ⟨("does_tell" : PySem.Str), 3, [], []⟩ := by
  obtain ⟨fd, F⟩ := says_def c 65 (x := ("does_tell" : PySem.Str)) (st := top 89) rfl
  exact defM_mk (fi := ⟨("does_tell" : PySem.Str), 3, [], []⟩) (st := top 89) (ps := [("form" : PySem.Str), ("one" : PySem.Str), ("other" : PySem.Str)]) F (He.glo_ok X G (c.fact 65 (f := .glo ("does_tell" : PySem.Str)) rfl)) (fun _ _ _ _ _ _ us hl => match us, hl with | [_, _, _], _ => by kernel_rfl) c65
theorem m66 : DefM K mg T.dat T.fns 66 ⟨("do_share" : PySem.Str), 4, [], []⟩ := by
  obtain ⟨fd, F⟩ := says_def c 66 (x := ("do_share" : PySem.Str)) (st := top 90) rfl
  exact defM_mk (fi := ⟨("do_share" : PySem.Str), 4, [], []⟩) (st := top 90) (ps := [("program" : PySem.Str), ("dealing" : PySem.Str), ("one" : PySem.Str), ("other" : PySem.Str)]) F (He.glo_ok X G (c.fact 66 (f := .glo ("do_share" : PySem.Str)) rfl)) (fun _ _ _ _ _ _ us hl => match us, hl with | [_, _, _, _], _ => by kernel_rfl) c66
theorem m67 : DefM K mg T.dat T.fns 67 ⟨("is_finest" : PySem.Str), 3, [], []⟩ := by
  obtain ⟨fd, F⟩ := says_def c 67 (x := ("is_finest" : PySem.Str)) (st := top 91) rfl
  exact defM_mk (fi := ⟨("is_finest" : PySem.Str), 3, [], []⟩) (st := top 91) (ps := [("program" : PySem.Str), ("lot" : PySem.Str), ("dealing" : PySem.Str)]) F (He.glo_ok X G (c.fact 67 (f := .glo ("is_finest" : PySem.Str)) rfl)) (fun _ _ _ _ _ _ us hl => match us, hl with | [_, _, _], _ => by kernel_rfl) c67
theorem m68 : DefM K mg T.dat T.fns 68 ⟨("is_span" : PySem.Str), 1, [], []⟩ := by
  obtain ⟨fd, F⟩ := says_def c 68 (x := ("is_span" : PySem.Str)) (st := top 94) rfl
  exact defM_mk (fi := ⟨("is_span" : PySem.Str), 1, [], []⟩) (st := top 94) (ps := [("thing" : PySem.Str)]) F (He.glo_ok X G (c.fact 68 (f := .glo ("is_span" : PySem.Str)) rfl)) (fun _ _ _ _ _ _ us hl => match us, hl with | [_], _ => by kernel_rfl) c68
theorem m69 : DefM K mg T.dat T.fns 69 ⟨("is_box" : PySem.Str), 2, [], []⟩ := by
  obtain ⟨fd, F⟩ := says_def c 69 (x := ("is_box" : PySem.Str)) (st := top 95) rfl
  exact defM_mk (fi := ⟨("is_box" : PySem.Str), 2, [], []⟩) (st := top 95) (ps := [("program" : PySem.Str), ("thing" : PySem.Str)]) F (He.glo_ok X G (c.fact 69 (f := .glo ("is_box" : PySem.Str)) rfl)) (fun _ _ _ _ _ _ us hl => match us, hl with | [_, _], _ => by kernel_rfl) c69
theorem m70 : DefM K mg T.dat T.fns 70 ⟨("need_box" : PySem.Str), 2, [], []⟩ := by
  obtain ⟨fd, F⟩ := says_def c 70 (x := ("need_box" : PySem.Str)) (st := top 96) rfl
  exact defM_mk (fi := ⟨("need_box" : PySem.Str), 2, [], []⟩) (st := top 96) (ps := [("program" : PySem.Str), ("box" : PySem.Str)]) F (He.glo_ok X G (c.fact 70 (f := .glo ("need_box" : PySem.Str)) rfl)) (fun _ _ _ _ _ _ us hl => match us, hl with | [_, _], _ => by kernel_rfl) c70
theorem m71 : DefM K mg T.dat T.fns 71 ⟨("many_places" : PySem.Str), 1, [], []⟩ := by
  obtain ⟨fd, F⟩ := says_def c 71 (x := ("many_places" : PySem.Str)) (st := top 97) rfl
  exact defM_mk (fi := ⟨("many_places" : PySem.Str), 1, [], []⟩) (st := top 97) (ps := [("box" : PySem.Str)]) F (He.glo_ok X G (c.fact 71 (f := .glo ("many_places" : PySem.Str)) rfl)) (fun _ _ _ _ _ _ us hl => match us, hl with | [_], _ => by kernel_rfl) c71
theorem m72 : DefM K mg T.dat T.fns 72 ⟨("many_rounds" : PySem.Str), 2, [], []⟩ := by
  obtain ⟨fd, F⟩ := says_def c 72 (x := ("many_rounds" : PySem.Str)) (st := top 98) rfl
  exact defM_mk (fi := ⟨("many_rounds" : PySem.Str), 2, [], []⟩) (st := top 98) (ps := [("program" : PySem.Str), ("box" : PySem.Str)]) F (He.glo_ok X G (c.fact 72 (f := .glo ("many_rounds" : PySem.Str)) rfl)) (fun _ _ _ _ _ _ us hl => match us, hl with | [_, _], _ => by kernel_rfl) c72
theorem m73 : DefM K mg T.dat T.fns 73 ⟨("need_few_rounds" : PySem.Str), 2, [], []⟩ := by
  obtain ⟨fd, F⟩ := says_def c 73 (x := ("need_few_rounds" : PySem.Str)) (st := top 99) rfl
  exact defM_mk (fi := ⟨("need_few_rounds" : PySem.Str), 2, [], []⟩) (st := top 99) (ps := [("program" : PySem.Str), ("box" : PySem.Str)]) F (He.glo_ok X G (c.fact 73 (f := .glo ("need_few_rounds" : PySem.Str)) rfl)) (fun _ _ _ _ _ _ us hl => match us, hl with | [_, _], _ => by kernel_rfl) c73
theorem m74 : DefM K mg T.dat T.fns 74 ⟨("places_in" : PySem.Str), 1, [], []⟩ := by
  obtain ⟨fd, F⟩ := says_def c 74 (x := ("places_in" : PySem.Str)) (st := top 100) rfl
  exact defM_mk (fi := ⟨("places_in" : PySem.Str), 1, [], []⟩) (st := top 100) (ps := [("box" : PySem.Str)]) F (He.glo_ok X G (c.fact 74 (f := .glo ("places_in" : PySem.Str)) rfl)) (fun _ _ _ _ _ _ us hl => match us, hl with | [_], _ => by kernel_rfl) c74
theorem m75 : DefM K mg T.dat T.fns 75 ⟨("head" : PySem.Str), 3, [], []⟩ := by
  obtain ⟨fd, F⟩ := says_def c 75 (x := ("head" : PySem.Str)) (st := top 101) rfl
  exact defM_mk (fi := ⟨("head" : PySem.Str), 3, [], []⟩) (st := top 101) (ps := [("program" : PySem.Str), ("lot" : PySem.Str), ("round_at" : PySem.Str)]) F (He.glo_ok X G (c.fact 75 (f := .glo ("head" : PySem.Str)) rfl)) (fun _ _ _ _ _ _ us hl => match us, hl with | [_, _, _], _ => by kernel_rfl) c75
theorem m76 : DefM K mg T.dat T.fns 76 ⟨("step_between" : PySem.Str), 3, [], []⟩ := by
  obtain ⟨fd, F⟩ := says_def c 76 (x := ("step_between" : PySem.Str)) (st := top 102) rfl
  exact defM_mk (fi := ⟨("step_between" : PySem.Str), 3, [], []⟩) (st := top 102) (ps := [("places" : PySem.Str), ("one" : PySem.Str), ("other" : PySem.Str)]) F (He.glo_ok X G (c.fact 76 (f := .glo ("step_between" : PySem.Str)) rfl)) (fun _ _ _ _ _ _ us hl => match us, hl with | [_, _, _], _ => by kernel_rfl) c76
theorem m77 : DefM K mg T.dat T.fns 77 ⟨("are_tied" : PySem.Str), 4, [], []⟩ := by
  obtain ⟨fd, F⟩ := says_def c 77 (x := ("are_tied" : PySem.Str)) (st := top 103) rfl
  exact defM_mk (fi := ⟨("are_tied" : PySem.Str), 4, [], []⟩) (st := top 103) (ps := [("program" : PySem.Str), ("lot" : PySem.Str), ("one" : PySem.Str), ("other" : PySem.Str)]) F (He.glo_ok X G (c.fact 77 (f := .glo ("are_tied" : PySem.Str)) rfl)) (fun _ _ _ _ _ _ us hl => match us, hl with | [_, _, _, _], _ => by kernel_rfl) c77
theorem m78 : DefM K mg T.dat T.fns 78 ⟨("hands_by" : PySem.Str), 2, [], []⟩ := by
  obtain ⟨fd, F⟩ := says_def c 78 (x := ("hands_by" : PySem.Str)) (st := top 104) rfl
  exact defM_mk (fi := ⟨("hands_by" : PySem.Str), 2, [], []⟩) (st := top 104) (ps := [("program" : PySem.Str), ("found" : PySem.Str)]) F (He.glo_ok X G (c.fact 78 (f := .glo ("hands_by" : PySem.Str)) rfl)) (fun _ _ _ _ _ _ us hl => match us, hl with | [_, _], _ => by kernel_rfl) c78
theorem m79 : DefM K mg T.dat T.fns 79 ⟨("many_hands" : PySem.Str), 2, [], []⟩ := by
  obtain ⟨fd, F⟩ := says_def c 79 (x := ("many_hands" : PySem.Str)) (st := top 105) rfl
  exact defM_mk (fi := ⟨("many_hands" : PySem.Str), 2, [], []⟩) (st := top 105) (ps := [("program" : PySem.Str), ("lot" : PySem.Str)]) F (He.glo_ok X G (c.fact 79 (f := .glo ("many_hands" : PySem.Str)) rfl)) (fun _ _ _ _ _ _ us hl => match us, hl with | [_, _], _ => by kernel_rfl) c79
theorem m80 : DefM K mg T.dat T.fns 80 ⟨("turned" : PySem.Str), 2, [], []⟩ := by
  obtain ⟨fd, F⟩ := says_def c 80 (x := ("turned" : PySem.Str)) (st := top 106) rfl
  exact defM_mk (fi := ⟨("turned" : PySem.Str), 2, [], []⟩) (st := top 106) (ps := [("row" : PySem.Str), ("column" : PySem.Str)]) F (He.glo_ok X G (c.fact 80 (f := .glo ("turned" : PySem.Str)) rfl)) (fun _ _ _ _ _ _ us hl => match us, hl with | [_, _], _ => by kernel_rfl) c80
theorem m81 : DefM K mg T.dat T.fns 81 ⟨("add_runs" : PySem.Str), 3, [], []⟩ := by
  obtain ⟨fd, F⟩ := says_def c 81 (x := ("add_runs" : PySem.Str)) (st := top 107) rfl
  exact defM_mk (fi := ⟨("add_runs" : PySem.Str), 3, [], []⟩) (st := top 107) (ps := [("runs" : PySem.Str), ("steps" : PySem.Str), ("box" : PySem.Str)]) F (He.glo_ok X G (c.fact 81 (f := .glo ("add_runs" : PySem.Str)) rfl)) (fun _ _ _ _ _ _ us hl => match us, hl with | [_, _, _], _ => by kernel_rfl) c81
theorem m82 : DefM K mg T.dat T.fns 82 ⟨("folded" : PySem.Str), 2, [], []⟩ := by
  obtain ⟨fd, F⟩ := says_def c 82 (x := ("folded" : PySem.Str)) (st := top 108) rfl
  exact defM_mk (fi := ⟨("folded" : PySem.Str), 2, [], []⟩) (st := top 108) (ps := [("spans" : PySem.Str), ("modulus" : PySem.Str)]) F (He.glo_ok X G (c.fact 82 (f := .glo ("folded" : PySem.Str)) rfl)) (fun _ _ _ _ _ _ us hl => match us, hl with | [_, _], _ => by kernel_rfl) c82
theorem m83 : DefM K mg T.dat T.fns 83 ⟨("many_in" : PySem.Str), 1, [], []⟩ := by
  obtain ⟨fd, F⟩ := says_def c 83 (x := ("many_in" : PySem.Str)) (st := top 109) rfl
  exact defM_mk (fi := ⟨("many_in" : PySem.Str), 1, [], []⟩) (st := top 109) (ps := [("spans" : PySem.Str)]) F (He.glo_ok X G (c.fact 83 (f := .glo ("many_in" : PySem.Str)) rfl)) (fun _ _ _ _ _ _ us hl => match us, hl with | [_], _ => by kernel_rfl) c83
theorem m84 : DefM K mg T.dat T.fns 84 ⟨("hands_of" : PySem.Str), 2, [], []⟩ := by
  obtain ⟨fd, F⟩ := says_def c 84 (x := ("hands_of" : PySem.Str)) (st := top 110) rfl
  exact defM_mk (fi := ⟨("hands_of" : PySem.Str), 2, [], []⟩) (st := top 110) (ps := [("rings" : PySem.Str), ("boxes" : PySem.Str)]) F (He.glo_ok X G (c.fact 84 (f := .glo ("hands_of" : PySem.Str)) rfl)) (fun _ _ _ _ _ _ us hl => match us, hl with | [_, _], _ => by kernel_rfl) c84
theorem m85 : DefM K mg T.dat T.fns 85 ⟨("moved" : PySem.Str), 2, [], []⟩ := by
  obtain ⟨fd, F⟩ := says_def c 85 (x := ("moved" : PySem.Str)) (st := top 111) rfl
  exact defM_mk (fi := ⟨("moved" : PySem.Str), 2, [], []⟩) (st := top 111) (ps := [("box" : PySem.Str), ("place" : PySem.Str)]) F (He.glo_ok X G (c.fact 85 (f := .glo ("moved" : PySem.Str)) rfl)) (fun _ _ _ _ _ _ us hl => match us, hl with | [_, _], _ => by kernel_rfl) c85
theorem m86 : DefM K mg T.dat T.fns 86 ⟨("hands_in" : PySem.Str), 3, [], []⟩ := by
  obtain ⟨fd, F⟩ := says_def c 86 (x := ("hands_in" : PySem.Str)) (st := top 112) rfl
  exact defM_mk (fi := ⟨("hands_in" : PySem.Str), 3, [], []⟩) (st := top 112) (ps := [("program" : PySem.Str), ("lot" : PySem.Str), ("box" : PySem.Str)]) F (He.glo_ok X G (c.fact 86 (f := .glo ("hands_in" : PySem.Str)) rfl)) (fun _ _ _ _ _ _ us hl => match us, hl with | [_, _, _], _ => by kernel_rfl) c86
theorem m87 : DefM K mg T.dat T.fns 87 ⟨("need_rounds" : PySem.Str), 4, [], []⟩ := by
  obtain ⟨fd, F⟩ := says_def c 87 (x := ("need_rounds" : PySem.Str)) (st := top 114) rfl
  exact defM_mk (fi := ⟨("need_rounds" : PySem.Str), 4, [], []⟩) (st := top 114) (ps := [("program" : PySem.Str), ("lot" : PySem.Str), ("one" : PySem.Str), ("other" : PySem.Str)]) F (He.glo_ok X G (c.fact 87 (f := .glo ("need_rounds" : PySem.Str)) rfl)) (fun _ _ _ _ _ _ us hl => match us, hl with | [_, _, _, _], _ => by kernel_rfl) c87
theorem m88 : DefM K mg T.dat T.fns 88 ⟨("end" : PySem.Str), 1, [], []⟩ := by
  obtain ⟨fd, F⟩ := says_def c 88 (x := ("end" : PySem.Str)) (st := top 115) rfl
  exact defM_mk (fi := ⟨("end" : PySem.Str), 1, [], []⟩) (st := top 115) (ps := [("rounds" : PySem.Str)]) F (He.glo_ok X G (c.fact 88 (f := .glo ("end" : PySem.Str)) rfl)) (fun _ _ _ _ _ _ us hl => match us, hl with | [_], _ => by kernel_rfl) c88
theorem m89 : DefM K mg T.dat T.fns 89 ⟨("chains" : PySem.Str), 3, [], []⟩ := by
  obtain ⟨fd, F⟩ := says_def c 89 (x := ("chains" : PySem.Str)) (st := top 116) rfl
  exact defM_mk (fi := ⟨("chains" : PySem.Str), 3, [], []⟩) (st := top 116) (ps := [("program" : PySem.Str), ("found" : PySem.Str), ("start" : PySem.Str)]) F (He.glo_ok X G (c.fact 89 (f := .glo ("chains" : PySem.Str)) rfl)) (fun _ _ _ _ _ _ us hl => match us, hl with | [_, _, _], _ => by kernel_rfl) c89
theorem m90 : DefM K mg T.dat T.fns 90 ⟨("ring" : PySem.Str), 3, [], []⟩ := by
  obtain ⟨fd, F⟩ := says_def c 90 (x := ("ring" : PySem.Str)) (st := top 117) rfl
  exact defM_mk (fi := ⟨("ring" : PySem.Str), 3, [], []⟩) (st := top 117) (ps := [("led" : PySem.Str), ("tie" : PySem.Str), ("around" : PySem.Str)]) F (He.glo_ok X G (c.fact 90 (f := .glo ("ring" : PySem.Str)) rfl)) (fun _ _ _ _ _ _ us hl => match us, hl with | [_, _, _], _ => by kernel_rfl) c90
theorem m91 : DefM K mg T.dat T.fns 91 ⟨("taken_rings" : PySem.Str), 3, [], []⟩ := by
  obtain ⟨fd, F⟩ := says_def c 91 (x := ("taken_rings" : PySem.Str)) (st := top 118) rfl
  exact defM_mk (fi := ⟨("taken_rings" : PySem.Str), 3, [], []⟩) (st := top 118) (ps := [("led" : PySem.Str), ("found" : PySem.Str), ("rest" : PySem.Str)]) F (He.glo_ok X G (c.fact 91 (f := .glo ("taken_rings" : PySem.Str)) rfl)) (fun _ _ _ _ _ _ us hl => match us, hl with | [_, _, _], _ => by kernel_rfl) c91
theorem m92 : DefM K mg T.dat T.fns 92 ⟨("tied_paper" : PySem.Str), 4, [], []⟩ := by
  obtain ⟨fd, F⟩ := says_def c 92 (x := ("tied_paper" : PySem.Str)) (st := top 119) rfl
  exact defM_mk (fi := ⟨("tied_paper" : PySem.Str), 4, [], []⟩) (st := top 119) (ps := [("program" : PySem.Str), ("found" : PySem.Str), ("one" : PySem.Str), ("other" : PySem.Str)]) F (He.glo_ok X G (c.fact 92 (f := .glo ("tied_paper" : PySem.Str)) rfl)) (fun _ _ _ _ _ _ us hl => match us, hl with | [_, _, _, _], _ => by kernel_rfl) c92
theorem m93 : DefM K mg T.dat T.fns 93 ⟨("apart_paper" : PySem.Str), 4, [], []⟩ := by
  obtain ⟨fd, F⟩ := says_def c 93 (x := ("apart_paper" : PySem.Str)) (st := top 120) rfl
  exact defM_mk (fi := ⟨("apart_paper" : PySem.Str), 4, [], []⟩) (st := top 120) (ps := [("program" : PySem.Str), ("found" : PySem.Str), ("one" : PySem.Str), ("other" : PySem.Str)]) F (He.glo_ok X G (c.fact 93 (f := .glo ("apart_paper" : PySem.Str)) rfl)) (fun _ _ _ _ _ _ us hl => match us, hl with | [_, _, _, _], _ => by kernel_rfl) c93
theorem m94 : DefM K mg T.dat T.fns 94 ⟨("paper" : PySem.Str), 4, [], []⟩ := by
  obtain ⟨fd, F⟩ := says_def c 94 (x := ("paper" : PySem.Str)) (st := top 121) rfl
  exact defM_mk (fi := ⟨("paper" : PySem.Str), 4, [], []⟩) (st := top 121) (ps := [("program" : PySem.Str), ("lot" : PySem.Str), ("one" : PySem.Str), ("other" : PySem.Str)]) F (He.glo_ok X G (c.fact 94 (f := .glo ("paper" : PySem.Str)) rfl)) (fun _ _ _ _ _ _ us hl => match us, hl with | [_, _, _, _], _ => by kernel_rfl) c94
theorem m95 : DefM K mg T.dat T.fns 95 ⟨("does_part" : PySem.Str), 5, [], []⟩ := by
  obtain ⟨fd, F⟩ := says_def c 95 (x := ("does_part" : PySem.Str)) (st := top 122) rfl
  exact defM_mk (fi := ⟨("does_part" : PySem.Str), 5, [], []⟩) (st := top 122) (ps := [("program" : PySem.Str), ("lot" : PySem.Str), ("one" : PySem.Str), ("other" : PySem.Str), ("form" : PySem.Str)]) F (He.glo_ok X G (c.fact 95 (f := .glo ("does_part" : PySem.Str)) rfl)) (fun _ _ _ _ _ _ us hl => match us, hl with | [_, _, _, _, _], _ => by kernel_rfl) c95
theorem m96 : DefM K mg T.dat T.fns 96 ⟨("is_way" : PySem.Str), 5, [], []⟩ := by
  obtain ⟨fd, F⟩ := says_def c 96 (x := ("is_way" : PySem.Str)) (st := top 123) rfl
  exact defM_mk (fi := ⟨("is_way" : PySem.Str), 5, [], []⟩) (st := top 123) (ps := [("program" : PySem.Str), ("lot" : PySem.Str), ("thing" : PySem.Str), ("statement" : PySem.Str), ("far" : PySem.Str)]) F (He.glo_ok X G (c.fact 96 (f := .glo ("is_way" : PySem.Str)) rfl)) (fun _ _ _ _ _ _ us hl => match us, hl with | [_, _, _, _, _], _ => by kernel_rfl) c96
theorem m97 : DefM K mg T.dat T.fns 97 ⟨("is_taken" : PySem.Str), 4, [], []⟩ := by
  obtain ⟨fd, F⟩ := says_def c 97 (x := ("is_taken" : PySem.Str)) (st := top 124) rfl
  exact defM_mk (fi := ⟨("is_taken" : PySem.Str), 4, [], []⟩) (st := top 124) (ps := [("program" : PySem.Str), ("lot" : PySem.Str), ("thing" : PySem.Str), ("statement" : PySem.Str)]) F (He.glo_ok X G (c.fact 97 (f := .glo ("is_taken" : PySem.Str)) rfl)) (fun _ _ _ _ _ _ us hl => match us, hl with | [_, _, _, _], _ => by kernel_rfl) c97
theorem m98 : DefM K mg T.dat T.fns 98 ⟨("do_tie" : PySem.Str), 6, [], []⟩ := by
  obtain ⟨fd, F⟩ := says_def c 98 (x := ("do_tie" : PySem.Str)) (st := top 125) rfl
  exact defM_mk (fi := ⟨("do_tie" : PySem.Str), 6, [], []⟩) (st := top 125) (ps := [("program" : PySem.Str), ("lot" : PySem.Str), ("one" : PySem.Str), ("other" : PySem.Str), ("chain" : PySem.Str), ("taken" : PySem.Str)]) F (He.glo_ok X G (c.fact 98 (f := .glo ("do_tie" : PySem.Str)) rfl)) (fun _ _ _ _ _ _ us hl => match us, hl with | [_, _, _, _, _, _], _ => by kernel_rfl) c98
theorem m99 : DefM K mg T.dat T.fns 99 ⟨("check" : PySem.Str), 5, [], []⟩ := by
  obtain ⟨fd, F⟩ := says_def c 99 (x := ("check" : PySem.Str)) (st := top 126) rfl
  exact defM_mk (fi := ⟨("check" : PySem.Str), 5, [], []⟩) (st := top 126) (ps := [("program" : PySem.Str), ("lot" : PySem.Str), ("one" : PySem.Str), ("other" : PySem.Str), ("paper" : PySem.Str)]) F (He.glo_ok X G (c.fact 99 (f := .glo ("check" : PySem.Str)) rfl)) (fun _ _ _ _ _ _ us hl => match us, hl with | [_, _, _, _, _], _ => by kernel_rfl) c99
theorem m100 : DefM K mg T.dat T.fns 100 ⟨("_law_one_right" : PySem.Str), 0, [], []⟩ := by
  obtain ⟨fd, F⟩ := says_def c 100 (x := ("_law_one_right" : PySem.Str)) (st := top 128) rfl
  exact defM_mk (fi := ⟨("_law_one_right" : PySem.Str), 0, [], []⟩) (st := top 128) (ps := []) F (He.glo_ok X G (c.fact 100 (f := .glo ("_law_one_right" : PySem.Str)) rfl)) (fun _ _ _ _ _ _ us hl => match us, hl with | [], _ => by kernel_rfl) c100
theorem m101 : DefM K mg T.dat T.fns 101 ⟨("_law_said" : PySem.Str), 5, [], []⟩ := by
  obtain ⟨fd, F⟩ := says_def c 101 (x := ("_law_said" : PySem.Str)) (st := top 129) rfl
  exact defM_mk (fi := ⟨("_law_said" : PySem.Str), 5, [], []⟩) (st := top 129) (ps := [("program_so" : PySem.Str), ("lot_so" : PySem.Str), ("one" : PySem.Str), ("other" : PySem.Str), ("sheet" : PySem.Str)]) F (He.glo_ok X G (c.fact 101 (f := .glo ("_law_said" : PySem.Str)) rfl)) (fun _ _ _ _ _ _ us hl => match us, hl with | [_, _, _, _, _], _ => by kernel_rfl) c101
theorem m102 : DefM K mg T.dat T.fns 102 ⟨("_law_ring_right" : PySem.Str), 0, [], []⟩ := by
  obtain ⟨fd, F⟩ := says_def c 102 (x := ("_law_ring_right" : PySem.Str)) (st := top 130) rfl
  exact defM_mk (fi := ⟨("_law_ring_right" : PySem.Str), 0, [], []⟩) (st := top 130) (ps := []) F (He.glo_ok X G (c.fact 102 (f := .glo ("_law_ring_right" : PySem.Str)) rfl)) (fun _ _ _ _ _ _ us hl => match us, hl with | [], _ => by kernel_rfl) c102
theorem m103 : DefM K mg T.dat T.fns 103 ⟨("_law_two_loops_right" : PySem.Str), 0, [], []⟩ := by
  obtain ⟨fd, F⟩ := says_def c 103 (x := ("_law_two_loops_right" : PySem.Str)) (st := top 131) rfl
  exact defM_mk (fi := ⟨("_law_two_loops_right" : PySem.Str), 0, [], []⟩) (st := top 131) (ps := []) F (He.glo_ok X G (c.fact 103 (f := .glo ("_law_two_loops_right" : PySem.Str)) rfl)) (fun _ _ _ _ _ _ us hl => match us, hl with | [], _ => by kernel_rfl) c103
theorem m104 : DefM K mg T.dat T.fns 104 ⟨("_law_apart_right" : PySem.Str), 0, [], []⟩ := by
  obtain ⟨fd, F⟩ := says_def c 104 (x := ("_law_apart_right" : PySem.Str)) (st := top 132) rfl
  exact defM_mk (fi := ⟨("_law_apart_right" : PySem.Str), 0, [], []⟩) (st := top 132) (ps := []) F (He.glo_ok X G (c.fact 104 (f := .glo ("_law_apart_right" : PySem.Str)) rfl)) (fun _ _ _ _ _ _ us hl => match us, hl with | [], _ => by kernel_rfl) c104
theorem m105 : DefM K mg T.dat T.fns 105 ⟨("_law_line_right" : PySem.Str), 0, [], []⟩ := by
  obtain ⟨fd, F⟩ := says_def c 105 (x := ("_law_line_right" : PySem.Str)) (st := top 133) rfl
  exact defM_mk (fi := ⟨("_law_line_right" : PySem.Str), 0, [], []⟩) (st := top 133) (ps := []) F (He.glo_ok X G (c.fact 105 (f := .glo ("_law_line_right" : PySem.Str)) rfl)) (fun _ _ _ _ _ _ us hl => match us, hl with | [], _ => by kernel_rfl) c105
theorem m106 : DefM K mg T.dat T.fns 106 ⟨("law" : PySem.Str), 1, [], []⟩ := by
  obtain ⟨fd, F⟩ := says_def c 106 (x := ("law" : PySem.Str)) (st := top 134) rfl
  exact defM_mk (fi := ⟨("law" : PySem.Str), 1, [], []⟩) (st := top 134) (ps := [("script" : PySem.Str)]) F (He.glo_ok X G (c.fact 106 (f := .glo ("law" : PySem.Str)) rfl)) (fun _ _ _ _ _ _ us hl => match us, hl with | [_], _ => by kernel_rfl) c106
theorem all_m : ∀ i fi, T.dat.fns[i]? = some fi → DefM K mg T.dat T.fns i fi
  | 0, fi, e => by cases Option.some.inj (show some _ = some fi from e); exact m0 X G c
  | 1, fi, e => by cases Option.some.inj (show some _ = some fi from e); exact m1 X G c
  | 2, fi, e => by cases Option.some.inj (show some _ = some fi from e); exact m2 X G c
  | 3, fi, e => by cases Option.some.inj (show some _ = some fi from e); exact m3 X G c
  | 4, fi, e => by cases Option.some.inj (show some _ = some fi from e); exact m4 X G c
  | 5, fi, e => by cases Option.some.inj (show some _ = some fi from e); exact m5 X G c
  | 6, fi, e => by cases Option.some.inj (show some _ = some fi from e); exact m6 X G c
  | 7, fi, e => by cases Option.some.inj (show some _ = some fi from e); exact m7 X G c
  | 8, fi, e => by cases Option.some.inj (show some _ = some fi from e); exact m8 X G c
  | 9, fi, e => by cases Option.some.inj (show some _ = some fi from e); exact m9 X G c
  | 10, fi, e => by cases Option.some.inj (show some _ = some fi from e); exact m10 X G c
  | 11, fi, e => by cases Option.some.inj (show some _ = some fi from e); exact m11 X G c
  | 12, fi, e => by cases Option.some.inj (show some _ = some fi from e); exact m12 X G c
  | 13, fi, e => by cases Option.some.inj (show some _ = some fi from e); exact m13 X G c
  | 14, fi, e => by cases Option.some.inj (show some _ = some fi from e); exact m14 X G c
  | 15, fi, e => by cases Option.some.inj (show some _ = some fi from e); exact m15 X G c
  | 16, fi, e => by cases Option.some.inj (show some _ = some fi from e); exact m16 X G c
  | 17, fi, e => by cases Option.some.inj (show some _ = some fi from e); exact m17 X G c
  | 18, fi, e => by cases Option.some.inj (show some _ = some fi from e); exact m18 X G c
  | 19, fi, e => by cases Option.some.inj (show some _ = some fi from e); exact m19 X G c
  | 20, fi, e => by cases Option.some.inj (show some _ = some fi from e); exact m20 X G c
  | 21, fi, e => by cases Option.some.inj (show some _ = some fi from e); exact m21 X G c
  | 22, fi, e => by cases Option.some.inj (show some _ = some fi from e); exact m22 X G c
  | 23, fi, e => by cases Option.some.inj (show some _ = some fi from e); exact m23 X G c
  | 24, fi, e => by cases Option.some.inj (show some _ = some fi from e); exact m24 X G c
  | 25, fi, e => by cases Option.some.inj (show some _ = some fi from e); exact m25 X G c
  | 26, fi, e => by cases Option.some.inj (show some _ = some fi from e); exact m26 X G c
  | 27, fi, e => by cases Option.some.inj (show some _ = some fi from e); exact m27 X G c
  | 28, fi, e => by cases Option.some.inj (show some _ = some fi from e); exact m28 X G c
  | 29, fi, e => by cases Option.some.inj (show some _ = some fi from e); exact m29 X G c
  | 30, fi, e => by cases Option.some.inj (show some _ = some fi from e); exact m30 X G c
  | 31, fi, e => by cases Option.some.inj (show some _ = some fi from e); exact m31 X G c
  | 32, fi, e => by cases Option.some.inj (show some _ = some fi from e); exact m32 X G c
  | 33, fi, e => by cases Option.some.inj (show some _ = some fi from e); exact m33 X G c
  | 34, fi, e => by cases Option.some.inj (show some _ = some fi from e); exact m34 X G c
  | 35, fi, e => by cases Option.some.inj (show some _ = some fi from e); exact m35 X G c
  | 36, fi, e => by cases Option.some.inj (show some _ = some fi from e); exact m36 X G c
  | 37, fi, e => by cases Option.some.inj (show some _ = some fi from e); exact m37 X G c
  | 38, fi, e => by cases Option.some.inj (show some _ = some fi from e); exact m38 X G c
  | 39, fi, e => by cases Option.some.inj (show some _ = some fi from e); exact m39 X G c
  | 40, fi, e => by cases Option.some.inj (show some _ = some fi from e); exact m40 X G c
  | 41, fi, e => by cases Option.some.inj (show some _ = some fi from e); exact m41 X G c
  | 42, fi, e => by cases Option.some.inj (show some _ = some fi from e); exact m42 X G c
  | 43, fi, e => by cases Option.some.inj (show some _ = some fi from e); exact m43 X G c
  | 44, fi, e => by cases Option.some.inj (show some _ = some fi from e); exact m44 X G c
  | 45, fi, e => by cases Option.some.inj (show some _ = some fi from e); exact m45 X G c
  | 46, fi, e => by cases Option.some.inj (show some _ = some fi from e); exact m46 X G c
  | 47, fi, e => by cases Option.some.inj (show some _ = some fi from e); exact m47 X G c
  | 48, fi, e => by cases Option.some.inj (show some _ = some fi from e); exact m48 X G c
  | 49, fi, e => by cases Option.some.inj (show some _ = some fi from e); exact m49 X G c
  | 50, fi, e => by cases Option.some.inj (show some _ = some fi from e); exact m50 X G c
  | 51, fi, e => by cases Option.some.inj (show some _ = some fi from e); exact m51 X G c
  | 52, fi, e => by cases Option.some.inj (show some _ = some fi from e); exact m52 X G c
  | 53, fi, e => by cases Option.some.inj (show some _ = some fi from e); exact m53 X G c
  | 54, fi, e => by cases Option.some.inj (show some _ = some fi from e); exact m54 X G c
  | 55, fi, e => by cases Option.some.inj (show some _ = some fi from e); exact m55 X G c
  | 56, fi, e => by cases Option.some.inj (show some _ = some fi from e); exact m56 X G c
  | 57, fi, e => by cases Option.some.inj (show some _ = some fi from e); exact m57 X G c
  | 58, fi, e => by cases Option.some.inj (show some _ = some fi from e); exact m58 X G c
  | 59, fi, e => by cases Option.some.inj (show some _ = some fi from e); exact m59 X G c
  | 60, fi, e => by cases Option.some.inj (show some _ = some fi from e); exact m60 X G c
  | 61, fi, e => by cases Option.some.inj (show some _ = some fi from e); exact m61 X G c
  | 62, fi, e => by cases Option.some.inj (show some _ = some fi from e); exact m62 X G c
  | 63, fi, e => by cases Option.some.inj (show some _ = some fi from e); exact m63 X G c
  | 64, fi, e => by cases Option.some.inj (show some _ = some fi from e); exact m64 X G c
  | 65, fi, e => by cases Option.some.inj (show some _ = some fi from e); exact m65 X G c
  | 66, fi, e => by cases Option.some.inj (show some _ = some fi from e); exact m66 X G c
  | 67, fi, e => by cases Option.some.inj (show some _ = some fi from e); exact m67 X G c
  | 68, fi, e => by cases Option.some.inj (show some _ = some fi from e); exact m68 X G c
  | 69, fi, e => by cases Option.some.inj (show some _ = some fi from e); exact m69 X G c
  | 70, fi, e => by cases Option.some.inj (show some _ = some fi from e); exact m70 X G c
  | 71, fi, e => by cases Option.some.inj (show some _ = some fi from e); exact m71 X G c
  | 72, fi, e => by cases Option.some.inj (show some _ = some fi from e); exact m72 X G c
  | 73, fi, e => by cases Option.some.inj (show some _ = some fi from e); exact m73 X G c
  | 74, fi, e => by cases Option.some.inj (show some _ = some fi from e); exact m74 X G c
  | 75, fi, e => by cases Option.some.inj (show some _ = some fi from e); exact m75 X G c
  | 76, fi, e => by cases Option.some.inj (show some _ = some fi from e); exact m76 X G c
  | 77, fi, e => by cases Option.some.inj (show some _ = some fi from e); exact m77 X G c
  | 78, fi, e => by cases Option.some.inj (show some _ = some fi from e); exact m78 X G c
  | 79, fi, e => by cases Option.some.inj (show some _ = some fi from e); exact m79 X G c
  | 80, fi, e => by cases Option.some.inj (show some _ = some fi from e); exact m80 X G c
  | 81, fi, e => by cases Option.some.inj (show some _ = some fi from e); exact m81 X G c
  | 82, fi, e => by cases Option.some.inj (show some _ = some fi from e); exact m82 X G c
  | 83, fi, e => by cases Option.some.inj (show some _ = some fi from e); exact m83 X G c
  | 84, fi, e => by cases Option.some.inj (show some _ = some fi from e); exact m84 X G c
  | 85, fi, e => by cases Option.some.inj (show some _ = some fi from e); exact m85 X G c
  | 86, fi, e => by cases Option.some.inj (show some _ = some fi from e); exact m86 X G c
  | 87, fi, e => by cases Option.some.inj (show some _ = some fi from e); exact m87 X G c
  | 88, fi, e => by cases Option.some.inj (show some _ = some fi from e); exact m88 X G c
  | 89, fi, e => by cases Option.some.inj (show some _ = some fi from e); exact m89 X G c
  | 90, fi, e => by cases Option.some.inj (show some _ = some fi from e); exact m90 X G c
  | 91, fi, e => by cases Option.some.inj (show some _ = some fi from e); exact m91 X G c
  | 92, fi, e => by cases Option.some.inj (show some _ = some fi from e); exact m92 X G c
  | 93, fi, e => by cases Option.some.inj (show some _ = some fi from e); exact m93 X G c
  | 94, fi, e => by cases Option.some.inj (show some _ = some fi from e); exact m94 X G c
  | 95, fi, e => by cases Option.some.inj (show some _ = some fi from e); exact m95 X G c
  | 96, fi, e => by cases Option.some.inj (show some _ = some fi from e); exact m96 X G c
  | 97, fi, e => by cases Option.some.inj (show some _ = some fi from e); exact m97 X G c
  | 98, fi, e => by cases Option.some.inj (show some _ = some fi from e); exact m98 X G c
  | 99, fi, e => by cases Option.some.inj (show some _ = some fi from e); exact m99 X G c
  | 100, fi, e => by cases Option.some.inj (show some _ = some fi from e); exact m100 X G c
  | 101, fi, e => by cases Option.some.inj (show some _ = some fi from e); exact m101 X G c
  | 102, fi, e => by cases Option.some.inj (show some _ = some fi from e); exact m102 X G c
  | 103, fi, e => by cases Option.some.inj (show some _ = some fi from e); exact m103 X G c
  | 104, fi, e => by cases Option.some.inj (show some _ = some fi from e); exact m104 X G c
  | 105, fi, e => by cases Option.some.inj (show some _ = some fi from e); exact m105 X G c
  | 106, fi, e => by cases Option.some.inj (show some _ = some fi from e); exact m106 X G c
  | n + 107, fi, e => by have : T.dat.fns.length ≤ n + 107 := Nat.le_add_left _ _; rw [List.getElem?_eq_none this] at e; cases e
end

def tab : List (Nat × Nat × Nat) := [(100, 0, 215), (102, 215, 477), (105, 477, 591), (103, 591, 892), (104, 892, 1210)]
theorem r100 : callAt 400 40 T.fns 13 100 [] ⟨0, []⟩ = .ok (.bl true) ⟨215, []⟩ := by kernel_rfl
theorem r102 : callAt 400 40 T.fns 13 102 [] ⟨215, []⟩ = .ok (.bl true) ⟨477, []⟩ := by kernel_rfl
theorem r105 : callAt 400 40 T.fns 13 105 [] ⟨477, []⟩ = .ok (.bl true) ⟨591, []⟩ := by kernel_rfl
theorem r103 : callAt 400 40 T.fns 13 103 [] ⟨591, []⟩ = .ok (.bl true) ⟨892, []⟩ := by kernel_rfl
theorem r104 : callAt 400 40 T.fns 13 104 [] ⟨892, []⟩ = .ok (.bl true) ⟨1210, []⟩ := by kernel_rfl
theorem tab_ok : ∀ t ∈ tab, callAt 400 40 T.fns 13 t.1 [] ⟨t.2.1, []⟩ = .ok (.bl true) ⟨t.2.2, []⟩ := by
  intro t h
  simp only [tab, List.mem_cons, List.not_mem_nil, or_false] at h
  rcases h with rfl | rfl | rfl | rfl | rfl
  · exact r100
  · exact r102
  · exact r105
  · exact r103
  · exact r104
def cl := callC 400 40 T.fns (tabC tab) 106
theorem law_ok (p : PV) : isOk (cl [p] ⟨0, []⟩) = true := by
  unfold cl
  kernel_rfl
theorem law_def {P : Program} {w : World} {K : PySem.W.Frag} {h : Heap} {mg : Str → Option Value} {C : Cls} (X : K.In h) (G : h.Ns mainGlobals mg) (n : nmsB T.dat K = true) (c : He.SaysD fa fn K) (hC : ClsOk P w K mg C T.dat) : Def P w K mg C 16 cl 1 "law" :=
  def_of (F := 400) (n := 40) (nms_of X G n) hC (by decide) (all_m X G c) (fun i fi hi => Def.le (def_at (F := 400) (n := 40) (nms_of X G n) hC (all_m X G c) 13 i fi hi) (tabC_le tab_ok i)) 106 ⟨"law", 1, [], []⟩ rfl
theorem scI_0 : FnScope ["self", ("word" : PySem.Str)] ["self", ("word" : PySem.Str)] (defScope sI_0) := ⟨rfl, rfl, rfl, by decide +kernel, rfl, by decide +kernel, by decide +kernel⟩
theorem okI_0 {P : Program} {w : World} {K : PySem.W.Frag} {mg : Str → Option Value} {base : Heap} {CC f : Addr} {fd : FuncData} (F : Fun K "__init__" "BadPaper.__init__" sI_0 f fd) (o : OexC K CC) (n : PySem.W.findIn K (.ref CC) ("word" : PySem.Str) = some none) : FnOk P w K mg base CX0 1 f fd ["self", ("word" : PySem.Str)] (Own.spI1 CC ("word" : PySem.Str)) := by
  refine F.ok scI_0 (fun vs H Q E h => ?_) (fun cdv B outer s H vs Q E hr h => ?_)
  · obtain ⟨a, v, rfl, _⟩ := h
    rfl
  · obtain ⟨a, v, rfl, ha, k⟩ := h
    exact ⟨_, pss_one (ps_ost (pv 0) (pv 1)), ⟨_, rfl, _, rfl, a, CC, rfl, o, n, .inl ⟨ha, fun d hd hda => k d hd hda⟩⟩⟩
theorem bI_0 {K : PySem.W.Frag} {f : Addr} {fd : FuncData} (F : Fun K "__init__" "BadPaper.__init__" sI_0 f fd) : Binds K fd ["self", ("word" : PySem.Str)] [] := F.binds fun _ _ _ _ _ _ us hl => match us, hl with | [_, _], _ => rfl
theorem cls_0 {P : Program} {w : World} {K : PySem.W.Frag} {h : Heap} {mg : Str → Option Value} {CC : Addr} (X : K.In h) (G : h.Ns mainGlobals mg) (g : PySem.W.nsIn K mainGlobals "BadPaper" = some (some (.ref CC))) (m : ∃ fI fd, Own.XM K CC fI ∧ Fun K "__init__" "BadPaper.__init__" sI_0 fI fd)
    (n : PySem.W.findIn K (.ref CC) ("word" : PySem.Str) = some none) (e : PySem.W.exmOne K (.ref CC) (.ref CC) = some true) : ClsI P w K mg "BadPaper" ("word" : PySem.Str) (CC, [("word" : PySem.Str)]) := clsI_mk (PySem.W.mg_of X G g) m n e fun F o => ⟨bI_0 F, fun _ => okI_0 F o n⟩
end Pi.Z
end
section
set_option Elab.async false
set_option linter.all false
set_option maxRecDepth 1000000
set_option maxHeartbeats 0
namespace Pi.Z
open PySem PySem.Spec PyProof.Rows L2 Pi
theorem law_of {P : Program} {w : World} {K : PySem.W.Frag} {h : Heap} {mg : Str → Option Value} (X : K.In h) (G : h.Ns mainGlobals mg) (e : oA K = vA) : ∃ C, Def P w K mg C 16 cl 1 "law" := by
  have hN : oN K = true := congrArg (fun z : Bool × (Bool × He.AlD) × He.AlD × He.AlD × He.AlD × He.AlD × He.AlD × He.AlD => z.1) e
  have hI : oI K = (true, He.valD fnI) := congrArg (fun z : Bool × (Bool × He.AlD) × He.AlD × He.AlD × He.AlD × He.AlD × He.AlD × He.AlD => z.2.1) e
  have h0 : He.SaysD fa0 fn0 K := congrArg (fun z : Bool × (Bool × He.AlD) × He.AlD × He.AlD × He.AlD × He.AlD × He.AlD × He.AlD => z.2.2.1) e
  have h1 : He.SaysD fa1 fn1 K := congrArg (fun z : Bool × (Bool × He.AlD) × He.AlD × He.AlD × He.AlD × He.AlD × He.AlD × He.AlD => z.2.2.2.1) e
  have h2 : He.SaysD fa2 fn2 K := congrArg (fun z : Bool × (Bool × He.AlD) × He.AlD × He.AlD × He.AlD × He.AlD × He.AlD × He.AlD => z.2.2.2.2.1) e
  have h3 : He.SaysD fa3 fn3 K := congrArg (fun z : Bool × (Bool × He.AlD) × He.AlD × He.AlD × He.AlD × He.AlD × He.AlD × He.AlD => z.2.2.2.2.2.1) e
  have h4 : He.SaysD fa4 fn4 K := congrArg (fun z : Bool × (Bool × He.AlD) × He.AlD × He.AlD × He.AlD × He.AlD × He.AlD × He.AlD => z.2.2.2.2.2.2.1) e
  have h5 : He.SaysD fa5 fn5 K := congrArg (fun z : Bool × (Bool × He.AlD) × He.AlD × He.AlD × He.AlD × He.AlD × He.AlD × He.AlD => z.2.2.2.2.2.2.2) e
  have c : He.SaysD fa fn K := says_app h0 (says_app h1 (says_app h2 (says_app h3 (says_app h4 (h5)))))
  have m : nmsB T.dat K = true := by
    rw [show nmsB T.dat K = oN K from by kernel_rfl]
    exact hN
  obtain ⟨g, xm, no, ex⟩ := xm_of (K := K) (x := ("BadPaper" : PySem.Str)) (f := ("word" : PySem.Str)) (congrArg Prod.fst hI)
  obtain ⟨fd, F⟩ : ∃ fd, FunD K "__init__" "BadPaper.__init__" (defArgs sI_0) (defBody sI_0) (defScope sI_0) [] [] (He.ma K (He.ga K ("BadPaper" : PySem.Str)) "__init__") fd := He.SaysD.def_ (fa := []) (fn := fnI) (congrArg Prod.snd hI) 0 rfl
  exact ⟨_, law_def X G m c (clsOk1 rfl (cls_0 X G g ⟨_, fd, xm, fun_of F⟩ no ex))⟩
end Pi.Z
end
section
set_option Elab.async false
set_option linter.all false
set_option maxRecDepth 1000000
set_option maxHeartbeats 0
open PySem PySem.W PySem.Calls PyProof.Rows
theorem PySem.Challenge.cw_owncells_k18_dealings_by_hand_holds : PySem.Challenge.rw_owncells_k18_dealings_by_hand.Holds := by
  w_on; o_law
  refine HandSHeadRun.head_imp (r := OpenLaw.row PySem.Challenge.rw_owncells_k18_dealings_by_hand) (q := view (OpenLaw.row PySem.Challenge.rw_owncells_k18_dealings_by_hand).prog [0, 134]) (H := Pi.Z.hk) (ob := Pi.seeF Pi.Z.ad Pi.Z.oA) (M := 8000) (loose := Pi.Z.loose) (d := HandSHeadRun.topDef (OpenLaw.row PySem.Challenge.rw_owncells_k18_dealings_by_hand).prog 134) (kwd := []) (fun s => Pi.seeF_eq s)
    Pi.Z.run (by kernel_rfl) (by kernel_rfl) (by kernel_rfl) (by rfl) (by first | assumption | decide +kernel) (by decide +kernel) ⟨rfl, rfl, rfl, rfl, rfl, by decide +kernel⟩ ?hw ?hc
  case hw => w_witness2
  case hc =>
    refine Pi.walkX (l := PySem.Challenge.rw_owncells_k18_dealings_by_hand) (n := 63) (k := 16) (cl := Pi.Z.cl) rfl (by decide) (by kernel_rfl) ⟨rfl, by decide, by decide⟩ ?F (fun ns _ => Pi.Z.law_ok _)
    intro w mg h Y G
    obtain ⟨K, KX, e⟩ := Y
    have e1 : (HandSHeadRun.topDef (OpenLaw.row PySem.Challenge.rw_owncells_k18_dealings_by_hand).prog 134).name = ("law" : PySem.Str) := by kernel_rfl
    rw [e1]
    exact (Pi.Z.law_of KX G e).elim fun C d => ⟨K, C, KX, d⟩
end
