import PyProof.Rows.All
import Wide.All
import OpenK.AllK
import Wide.FinOn
import HandS.Base
import HandS.Call
import HandS.List
import HandS.Comp
import HandS.Ends
import HandS.Dict
import HandS.Iter
import HandS.Words
import PyProof.ReprRoads
import HandS.ExcInit
import HandS.ExcIs
import HandS.IsInst
import HandS.Defaults
import KE.KExcInit
import HandS.ExcOwn
import HandS.ExcValue
import HandS.Walk
import HandS.Zip
import HandS.WordsList
import HandS.WordsDict
import HandS.Wide
import PyProof.ReprLen
import PySem.Challenge.RW_owncells_k24_exceptions

set_option Elab.async false
set_option linter.all false
set_option maxRecDepth 100000
set_option maxHeartbeats 4000000
/-! own rules, first part: defs that are called where nothing is being shown (so that repr may be asked), repr of data -/
namespace Own
open PySem PySem.Spec PyProof.Rows L2

/-- nothing is being shown around -/
abbrev Quiet (A : Around) : Prop := A.guards = some []
theorem Quiet.deeper {A : Around} (h : Quiet A) (env : Env) : Quiet (A.deeper env) := by
  obtain ⟨a, b, c, g, u⟩ := A
  exact h
/-- a promise that holds where nothing is being shown -/
structure FnG (P : Program) (w : World) (K : PySem.W.Frag) (mg : Str → Option Value) (base : Heap) (CX : CXT) (k : Nat) (f : Addr) (fd : FuncData) (ps : List Str) (sp : Sp) : Prop where
  len : ∀ vs H Q E, sp vs H Q E → vs.length = ps.length
  run : ∀ (A : Around), Quiet A → ∀ (outer : List Env) (s : Shared) (H : Hp) (args : Args) (us : List Value) (vs : List V) (Q : VK) (E : XK), Room k A → Env0 P w K mg base A outer s H →
    BindsTo s fd args (ps.zip us) → Vals vs us → sp vs H Q E → codeAny (model P w) A (.call (.ref f) args) (CR CX outer P w H s Q E) s

section
variable {CX : CXT} {P : Program} {w : World} {K : PySem.W.Frag} {mg : Str → Option Value} {base : Heap} {k : Nat} {f : Addr} {x qual : Str} {st : Stmt} {fd : FuncData} {N ps : List Str} {sp : Sp}
/-- the rule for such a def -/
theorem fnG_ok (F : Fun K x qual st f fd) (S : FnScope N ps (defScope st)) (len : ∀ vs H Q E, sp vs H Q E → vs.length = ps.length)
    (hb : ∀ (cdv : Value) (A : Around), Quiet A → ∀ (outer : List Env) (s : Shared) (H : Hp) (vs : List V) (Q : VK) (E : XK), Room k (A.deeper (envOfC qual (defScope st) s.heap.objs.size f cdv)) → sp vs H Q E →
      ∃ t, PSs (cxOf CX0 P w K mg base N qual (defScope st) f cdv A outer s H E) (defBody st) t ∧ t { nx := fun _ H' => Q .non H', rt := Q } (start N vs) H) :
    FnG P w K mg base CX0 (k + 1) f fd ps sp := by
  obtain ⟨oc, od, kV, doc, pm, an, cdv, ct, osl, rfl, lk, hcd⟩ := F.ex
  constructor
  · exact len
  intro A hq outer s H args us vs Q E hr e0 hbi r hsp
  have up : ∀ b o, base.get? b = some o → s.heap.get? b = some o := fun b o e => (e0.bs b o e).1
  have inK : K.In s.heap := e0.mod.kin.keeps up
  have hlim : s.heap.NoLimit := e0.mod.nolimit.keeps up
  refine codeAny_call_function hr.depth (inK _ _ lk) rfl S.co S.gen rfl (PySem.W.codeRec_of inK hcd) (hbi _ _ _ _ ?_)
  refine wpAny_newFunctionEnv_cells S.kind (fun y hy => ?_) fun env he s1 xx => ?_
  · rcases S.par y.1 (List.of_mem_zip (show (y.1, y.2) ∈ ps.zip us from hy)).1 with q | q
    · exact Or.inl q
    · exact Or.inr ⟨q, PySem.W.cellsFrom_some _ _ _ (Or.inl q)⟩
  · cases he
    refine ⟨hlim.keeps xx.toInCall.keep, codeAny_func ?_⟩
    obtain ⟨t, ht, hgoal⟩ := hb cdv A hq outer s H vs Q E (hr.deeper _) hsp
    refine wpAny_mono (ht.run [] s1 (start N vs) H _ (inv_start S hr.hd e0 (len _ _ _ _ hsp) r xx) hgoal) (fun fl s' hs => ?_) (fun _ _ z => z)
    cases fl with
    | brk => obtain ⟨_, _, _, z⟩ := hs; exact z.elim
    | cont => obtain ⟨_, _, _, z⟩ := hs; exact z.elim
    | next =>
      obtain ⟨_, H', J, z⟩ := hs
      exact ⟨V.non, H', J.os, J.bare, J.base, J.hok, rfl, z⟩
    | ret u =>
      obtain ⟨v, _, H', J, rv, z⟩ := hs
      exact ⟨v, H', J.os, J.bare, J.base, J.hok, rv, z⟩
theorem FnG.of (F : FnOk P w K mg base CX k f fd ps sp) : FnG P w K mg base CX k f fd ps sp := ⟨F.len, fun A _ => F.run A⟩
end
section
variable {X : Cx} {CX : CXT} {k : Nat} {f C : Addr} {fd : FuncData} {ps : List Str} {sp : Sp} {dvs : List V} {ds : List Value} {E : XK} {x m : Str} {p pos apos : Pos} {e o : Expr} {es : List Expr} {ta : TE} {t : TA}
theorem run_fnG {pins : List (Addr × Obj)} {σ : L2.St} {H : Hp} {s : Shared} {Q : VK} {us : List Value} {vs : List V} (hq : Quiet X.A) (F : FnG X.prog X.w X.K X.mg X.base CX0 k f fd ps sp) (hr : Room k X.A) (hb : Binds X.K fd ps [])
    (I : Inv X pins σ H s) (r : Vals vs us) (h : sp vs H Q E0) : wpAny (model X.prog X.w) X.A (call (.ref f) us) (EP X pins σ Q) X.xe s := by
  have hl : (us ++ []).length = ps.length := by
    rw [List.append_nil, ← Paired.length r]
    exact F.len _ _ _ _ h
  have hb' := hb s us I.kIn hl
  rw [List.append_nil] at hb'
  refine wpAny_call (codeAny_mono (F.run X.A hq X.stack s H ⟨us, []⟩ us vs Q E0 hr I.env0 hb' r h) fun r s' z => ?_)
  match r, z with
  | .error _, z => exact z.elim
  | .ok (.ret _), z => exact I.after z
  | .ok .next, z => exact z.elim
  | .ok .brk, z => exact z.elim
  | .ok .cont, z => exact z.elim
theorem pe_callG (hq : Quiet X.A) (F : FnG X.prog X.w X.K X.mg X.base CX0 k f fd ps sp) (hr : Room k X.A) (hg : Gl X x) (hm : X.mg x = some (.ref f)) (hk : PySem.W.keepIn X.K (.ref f) = true) (hb : Binds X.K fd ps [])
    (ha : PA X (e :: es) t) (hdb : (x == ("__debug__" : Str)) = false := by decide) (he : starEach (e :: es) X.env = (false, eval e X.env) :: starEach es X.env := by rfl) (hpl : (backTo pos (starEach es X.env)).any (·.1) = false := by rfl) :
    PE X (.Call (.Name x p) (e :: es) [] pos) (fun σ H Q => t σ H fun vs H1 => sp vs H1 Q E0) := by
  constructor
  intro pins s σ H Q I h
  refine wpAny_Call_Name_kw (ld_glob I hg hm ?_ hdb)
  exact PySem.W.callWith_K (h₀ := X.base) I.ok.mod.kin hk (thn (ha.run pos pins s σ H _ I h) fun us s1 ⟨vs, H1, I1, r, q⟩ => ⟨I1.kIn, run_fnG hq F hr hb I1 r q⟩) he hpl
theorem pe_callG0 (hq : Quiet X.A) (F : FnG X.prog X.w X.K X.mg X.base CX0 k f fd [] sp) (hr : Room k X.A) (hg : Gl X x) (hm : X.mg x = some (.ref f)) (hk : PySem.W.keepIn X.K (.ref f) = true) (hb : Binds X.K fd [] [])
    (hdb : (x == ("__debug__" : Str)) = false := by decide) : PE X (.Call (.Name x p) [] [] pos) (fun σ H Q => sp [] H Q E0) := by
  constructor
  intro pins s σ H Q I h
  refine wpAny_Call_Name_kw (ld_glob I hg hm ?_ hdb)
  exact PySem.W.callWith_K0 I.kIn hk (run_fnG (us := []) hq F hr hb I .nil h)
end
end Own

set_option Elab.async false
set_option linter.all false
set_option maxRecDepth 100000
set_option maxHeartbeats 4000000
/-! repr of data over the abstract heap -/
namespace Own
open PySem PySem.Spec PyProof.Rows L2

theorem ram_nil {h : Heap} {n : Nat} : ReadAtMost h n [] := by
  intro b hb
  cases hb
def keyD : Key → PyData
  | .inl i => .int i
  | .inr x => .str x
mutual
/-- a value is a datum: as Dp, dicts too -/
inductive Dq (K : PySem.W.Frag) (H : Hp) : V → PyData → Prop
  | non : Dq K H .non .none
  | bl (b : Bool) : Dq K H (.bl b) (.bool b)
  | int (i : Int) : Dq K H (.int i) (.int i)
  | str (x : Str) : Dq K H (.str x) (.str x)
  | lst {a : Addr} {xs : List V} {ds : List PyData} (h : SqL K H a xs) (r : DqAll K H xs ds) : Dq K H (.ref a) (.list ds)
  | tup {a : Addr} {xs : List V} {ds : List PyData} (h : SqT K H a xs) (r : DqAll K H xs ds) : Dq K H (.ref a) (.tuple ds)
  | dk {a : Addr} {kvs : List (Key × V)} {ds : List PyData} (h : H a = some (.dK kvs)) (r : DqAll K H (kvs.map (·.2)) ds) : Dq K H (.ref a) (.dict ((kvs.map fun p => keyD p.1).zip ds))
  | dt {a : Addr} {kvs : List (List Key × V)} {ds : List PyData} (h : H a = some (.dT kvs)) (r : DqAll K H (kvs.map (·.2)) ds) : Dq K H (.ref a) (.dict ((kvs.map fun p => PyData.tuple (p.1.map keyD)).zip ds))
inductive DqAll (K : PySem.W.Frag) (H : Hp) : List V → List PyData → Prop
  | nil : DqAll K H [] []
  | cons {v : V} {vs : List V} {d : PyData} {ds : List PyData} (h : Dq K H v d) (r : DqAll K H vs ds) : DqAll K H (v :: vs) (d :: ds)
end
theorem DqAll.len {K : PySem.W.Frag} {H : Hp} : ∀ {vs : List V} {ds : List PyData}, DqAll K H vs ds → vs.length = ds.length
  | _, _, .nil => rfl
  | _, _, .cons _ r => congrArg Nat.succ r.len
mutual
theorem Dq.same {K : PySem.W.Frag} {H H' : Hp} (s : Same H H') : ∀ {v : V} {d : PyData}, Dq K H v d → Dq K H' v d
  | _, _, .non => .non
  | _, _, .bl b => .bl b
  | _, _, .int i => .int i
  | _, _, .str x => .str x
  | _, _, .lst h r => .lst (s.seq h) (DqAll.same s r)
  | _, _, .tup h r => .tup (by
      rcases h with (h | ⟨o, h⟩) | h
      · exact .inl (.inl (s _ _ h))
      · exact .inl (.inr ⟨o, s _ _ h⟩)
      · exact .inr h) (DqAll.same s r)
  | _, _, .dk h r => .dk (s _ _ h) (DqAll.same s r)
  | _, _, .dt h r => .dt (s _ _ h) (DqAll.same s r)
theorem DqAll.same {K : PySem.W.Frag} {H H' : Hp} (s : Same H H') : ∀ {vs : List V} {ds : List PyData}, DqAll K H vs ds → DqAll K H' vs ds
  | _, _, .nil => .nil
  | _, _, .cons h r => .cons (Dq.same s h) (DqAll.same s r)
end

theorem map_fst_zip' {α β : Type} : ∀ (l : List α) (r : List β), l.length = r.length → (l.zip r).map (·.1) = l
  | [], [], _ => rfl
  | a :: l, b :: r, h => by
    have e := map_fst_zip' l r (Nat.succ.inj h)
    simp only [List.zip_cons_cons, List.map_cons, e]
theorem map_snd_zip' {α β : Type} : ∀ (l : List α) (r : List β), l.length = r.length → (l.zip r).map (·.2) = r
  | [], [], _ => rfl
  | a :: l, b :: r, h => by
    have e := map_snd_zip' l r (Nat.succ.inj h)
    simp only [List.zip_cons_cons, List.map_cons, e]
/-- keys that are ints and texts are read without any address -/
theorem reads_key {h : Heap} {k : Key} {v : Value} (e : keyIs k v = true) : Reads h v (keyD k) [] := by
  rcases keyIs_shape e with ⟨i, t, rfl, rfl⟩ | ⟨x, t, rfl, rfl⟩
  · exact .int i t
  · exact .str x t
theorem reads_keys {prog : Program} {w : World} {h : Heap} : ∀ {es : List DictEntry} {vs : List (Key × Value)}, Pairs (mixKind prog w) es vs → ReadsAll h (es.map (·.key)) (vs.map fun p => keyD p.1) []
  | _, _, .nil => .nil
  | _, _, .cons k _ r => ReadsAll.cons (as := []) (bs := []) (reads_key k) (reads_keys r)
theorem vals_of_pairs {prog : Program} {w : World} : ∀ {es : List DictEntry} {vs : List (Key × Value)}, Pairs (mixKind prog w) es vs → es.map (·.val) = vs.map (·.2)
  | _, _, .nil => rfl
  | _, _, .cons _ e r => by
    have q := vals_of_pairs r
    simp only [List.map_cons, e, q]
theorem kv_vals : ∀ {kvs : List (Key × V)} {vs : List (Key × Value)}, KV kvs vs → Vals (kvs.map (·.2)) (vs.map (·.2)) ∧ (kvs.map fun p => keyD p.1) = vs.map fun p => keyD p.1
  | _, _, .nil => ⟨.nil, rfl⟩
  | _, _, .cons r t => by
    obtain ⟨a, b⟩ := kv_vals t
    refine ⟨.cons r.2 a, ?_⟩
    simp only [List.map_cons, r.1, b]
theorem reads_ints {h : Heap} : ∀ {ks : List Key} {us : List Value}, Vals (ks.map kV) us → ReadsAll h us (ks.map keyD) []
  | [], _, r => by
    cases r
    exact .nil
  | k :: ks, _, r => by
    cases r with
    | cons r1 r2 =>
      refine ReadsAll.cons (as := []) (bs := []) ?_ (reads_ints r2)
      cases k with
      | inl i =>
        obtain ⟨t, rfl⟩ := r1
        exact .int i t
      | inr x =>
        obtain ⟨t, rfl⟩ := r1
        exact .str x t

/-- a dict's node: its entries -/
theorem nodeDict {prog : Program} {w : World} {h : Heap} {a : Addr} {o : Obj} {es : Array DictEntry} {ep : Nat} {kd ds : List PyData} (ho : h.get? a = some o) (hc : o.cls = .type "dict") (hd : o.data = .dict es ep)
    (el : kd.length = ds.length) (rk1 : ReadsAll h (es.toList.map (·.key)) kd []) (hs : (PyData.dict (kd.zip ds)).showable = true) (hz : (PyData.dict (kd.zip ds)).shown.length ≤ sizeLine)
    (rest : PyData.showableAll ds = true → (∀ t ∈ PyData.shownAll ds, t.length ≤ sizeLine) → ∃ as bs, ReadsAll h (es.toList.map (·.val)) ds as ∧ ReadAtMost h (PyData.depthAll ds) bs ∧ ReprAllK prog w bs h (PyData.depthAll ds) (es.toList.map (·.val)) (PyData.shownAll ds)) :
    ∃ as bs, Reads h (.ref a) (.dict (kd.zip ds)) as ∧ ReadAtMost h (PyData.depthKv (kd.zip ds)) bs ∧ a ∉ bs ∧ ReprEntriesK prog w bs h (PyData.depthKv (kd.zip ds)) es.toList (PyData.shownKv (kd.zip ds)) := by
  have e1 := map_fst_zip' kd ds el
  have e2 := map_snd_zip' kd ds el
  have hz' : (dictText (PyData.shownKv (kd.zip ds))).length ≤ sizeLine := by simpa only [PyData.shown] using hz
  obtain ⟨s1, s2⟩ := PyData.showableKv_split (kd.zip ds) (by simpa [PyData.showable] using hs)
  have lk : ∀ t ∈ PyData.shownAll kd, t.length ≤ sizeLine := fun t ht => by
    rw [← e1] at ht
    obtain ⟨p, hp, l⟩ := PyData.shownKv_key_le (kd.zip ds) t ht
    exact Nat.le_trans l (Nat.le_trans (dictText_mem_le hp) hz')
  have lv : ∀ t ∈ PyData.shownAll ds, t.length ≤ sizeLine := fun t ht => by
    rw [← e2] at ht
    obtain ⟨p, hp, l⟩ := PyData.shownKv_val_le (kd.zip ds) t ht
    exact Nat.le_trans l (Nat.le_trans (dictText_mem_le hp) hz')
  rw [e1] at s1
  rw [e2] at s2
  obtain ⟨b1, m1, k1⟩ := ReprAllK.of_readsAll (prog := prog) (w := w) rk1 s1 (fun _ z => nomatch z) lk
  obtain ⟨as, b2, rd2, m2, k2⟩ := rest s2 lv
  have d1 := PyData.depthAll_keys_le (kd.zip ds)
  have d2 := PyData.depthAll_vals_le (kd.zip ds)
  rw [e1] at d1
  rw [e2] at d2
  have rd : Reads h (.ref a) (.dict (kd.zip ds)) _ := .dict ho hc hd (by rw [e1]; exact rk1) (by rw [e2]; exact rd2)
  have m : ReadAtMost h (PyData.depthKv (kd.zip ds)) (b1 ++ b2) := (m1.mono d1).append (m2.mono d2)
  have hn := not_mem_of_deeper rd (n := PyData.depthKv (kd.zip ds)) (by simp only [PyData.depth]; omega) m
  refine ⟨_, _, rd, m, hn, ?_⟩
  simp only [PyData.shownKv_eq, e1, e2]
  exact ReprEntriesK.of_two es.toList _ _ (k1.more_le (fun b hb => List.mem_append_left _ hb) d1) (k2.more_le (fun b hb => List.mem_append_right _ hb) d2)
theorem rkDict {prog : Program} {w : World} {h : Heap} {a : Addr} {o : Obj} {es : Array DictEntry} {ep : Nat} {kd ds : List PyData} (ho : h.get? a = some o) (hc : o.cls = .type "dict") (hd : o.data = .dict es ep) (hsys : (a == sysModules) = false)
    (el : kd.length = ds.length) (rk1 : ReadsAll h (es.toList.map (·.key)) kd []) (hs : (PyData.dict (kd.zip ds)).showable = true) (hz : (PyData.dict (kd.zip ds)).shown.length ≤ sizeLine)
    (rest : PyData.showableAll ds = true → (∀ t ∈ PyData.shownAll ds, t.length ≤ sizeLine) → ∃ as bs, ReadsAll h (es.toList.map (·.val)) ds as ∧ ReadAtMost h (PyData.depthAll ds) bs ∧ ReprAllK prog w bs h (PyData.depthAll ds) (es.toList.map (·.val)) (PyData.shownAll ds)) :
    ∃ as bs, Reads h (.ref a) (.dict (kd.zip ds)) as ∧ ReadAtMost h (PyData.dict (kd.zip ds)).depth bs ∧ ReprK prog w bs h (PyData.dict (kd.zip ds)).depth (.ref a) (PyData.dict (kd.zip ds)).shown := by
  obtain ⟨as, bs, rd, m, hn, hE⟩ := nodeDict (prog := prog) (w := w) ho hc hd el rk1 hs hz rest
  refine ⟨_, _, rd, ReadAtMost.cons rd (by simp only [PyData.depth]; omega) m, ?_⟩
  simp only [PyData.depth, PyData.shown]
  exact ReprK.dict ho hc hd hsys hn hE
theorem topDict {prog : Program} {w : World} {h : Heap} {a : Addr} {o : Obj} {es : Array DictEntry} {ep : Nat} {kd ds : List PyData} (ho : h.get? a = some o) (hc : o.cls = .type "dict") (hd : o.data = .dict es ep)
    (el : kd.length = ds.length) (rk1 : ReadsAll h (es.toList.map (·.key)) kd []) (hs : (PyData.dict (kd.zip ds)).showable = true) (hz : (PyData.dict (kd.zip ds)).shown.length ≤ sizeLine)
    (rest : PyData.showableAll ds = true → (∀ t ∈ PyData.shownAll ds, t.length ≤ sizeLine) → ∃ as bs, ReadsAll h (es.toList.map (·.val)) ds as ∧ ReadAtMost h (PyData.depthAll ds) bs ∧ ReprAllK prog w bs h (PyData.depthAll ds) (es.toList.map (·.val)) (PyData.shownAll ds)) :
    ∃ bs, a ∉ bs ∧ ReprEntriesK prog w bs h (PyData.depthKv (kd.zip ds)) es.toList (PyData.shownKv (kd.zip ds)) := by
  obtain ⟨as, bs, rd, m, hn, hE⟩ := nodeDict (prog := prog) (w := w) ho hc hd el rk1 hs hz rest
  exact ⟨bs, hn, hE⟩
section
variable {X : Cx} {pins : List (Addr × Obj)} {σ : L2.St} {H : Hp} {s : Shared}
theorem reads_tkeys (I : Inv X pins σ H s) : ∀ {kvs : List (List Key × V)} {xs : List (List Key × Addr × Value)},
    Paired (fun (p : List Key × V) (q : List Key × Addr × Value) => p.1 = q.1 ∧ H q.2.1 = some (.tup (p.1.map kV)) ∧ RelV p.2 q.2.2) kvs xs →
    ReadsAll s.heap (xs.map fun q => Value.ref q.2.1) (kvs.map fun p => PyData.tuple (p.1.map keyD)) [] ∧ Vals (kvs.map (·.2)) (xs.map (·.2.2))
  | _, _, .nil => ⟨.nil, .nil⟩
  | _, _, .cons r t => by
    obtain ⟨a, b⟩ := reads_tkeys I t
    refine ⟨ReadsAll.cons (as := []) (bs := []) ?_ a, .cons r.2.2 b⟩
    obtain ⟨_, its, rv, o, ho, hc, n, hd⟩ := I.hok _ _ r.2.1
    exact .tuple ho hc hd (reads_ints rv)
mutual
/-- a datum's text -/
theorem rk (I : Inv X pins σ H s) : ∀ {v : V} {d : PyData}, Dq X.K H v d → ∀ {u : Value}, RelV v u → d.showable = true → d.shown.length ≤ sizeLine →
    ∃ as bs, Reads s.heap u d as ∧ ReadAtMost s.heap d.depth bs ∧ ReprK X.prog X.w bs s.heap d.depth u d.shown
  | _, _, .non, _, r, _, _ => by
    cases r
    exact ⟨_, [], .none, ram_nil, by simp only [PyData.shown]; exact ReprK.of_is ReprIs.none [] _ _⟩
  | _, _, .bl b, _, r, _, _ => by
    cases r
    exact ⟨_, [], .bool b, ram_nil, by simp only [PyData.shown]; exact ReprK.of_is (ReprIs.bool b) [] _ _⟩
  | _, _, .int i, _, r, hs, _ => by
    obtain ⟨t, rfl⟩ := r
    have hs' : i.natAbs.log2 < 1920 := by simpa [PyData.showable] using hs
    exact ⟨_, [], .int i t, ram_nil, by simp only [PyData.shown]; exact ReprK.of_is (ReprIs.int t hs') [] _ _⟩
  | _, _, .str x, _, r, _, hz => by
    obtain ⟨t, rfl⟩ := r
    have hz' : (reprText x).length ≤ sizeLine := by simpa only [PyData.shown] using hz
    exact ⟨_, [], .str x t, ram_nil, by simp only [PyData.shown]; exact ReprK.of_is (ReprIs.str x t hz') [] _ _⟩
  | _, _, .lst (ds := ds) hl ra, _, r, hs, hz => by
    cases r
    have hz' : (listText (PyData.shownAll ds)).length ≤ sizeLine := by simpa only [PyData.shown] using hz
    obtain ⟨its, rv, ⟨o, n, ho, hc, _, hd⟩, _⟩ := I.list hl
    obtain ⟨as, bs, q1, q2, q3⟩ := rkAll I ra rv (by simpa [PyData.showable] using hs) fun t ht => Nat.le_trans (listText_mem_le ht) hz'
    have rd := Reads.list ho hc hd q1
    have hn := not_mem_of_deeper rd (n := PyData.depthAll ds) (by simp only [PyData.depth]; omega) q2
    refine ⟨_, _, rd, ReadAtMost.cons rd (by simp only [PyData.depth]; omega) q2, ?_⟩
    simp only [PyData.depth, PyData.shown]
    match its, q1, q3, hd with
    | [], q1, q3, hd =>
      cases q1
      simp only [PyData.shownAll, listText_nil]
      exact ReprK.listEmpty ho hc hd
    | y :: l, q1, q3, hd => exact ReprK.list ho hc hd hn (by simpa using q3.length_eq) fun i z e => q3.item i z (by simpa using e)
  | _, _, .tup (ds := ds) hl ra, _, r, hs, hz => by
    cases r
    have hz' : (tupleText (PyData.shownAll ds)).length ≤ sizeLine := by simpa only [PyData.shown] using hz
    obtain ⟨its, rv, ⟨o, ho, hc, n, hd⟩, _⟩ := I.tuple hl
    obtain ⟨as, bs, q1, q2, q3⟩ := rkAll I ra rv (by simpa [PyData.showable] using hs) fun t ht => Nat.le_trans (tupleText_mem_le ht) hz'
    have rd := Reads.tuple ho hc hd q1
    have hn := not_mem_of_deeper rd (n := PyData.depthAll ds) (by simp only [PyData.depth]; omega) q2
    refine ⟨_, _, rd, ReadAtMost.cons rd (by simp only [PyData.depth]; omega) q2, ?_⟩
    simp only [PyData.depth, PyData.shown]
    exact ReprK.tuple ho hc hd hn q3
  | _, _, .dk (kvs := kvs) (ds := ds) hl ra, _, r, hs, hz => by
    cases r
    obtain ⟨_, hsys, vs, hkv, o, es, ep, ho, hex, hd, _, hp, _⟩ := I.hok _ _ hl
    obtain ⟨rv, ek⟩ := kv_vals hkv
    rw [← vals_of_pairs hp] at rv
    have rk1 : ReadsAll s.heap (es.toList.map (·.key)) (kvs.map fun p => keyD p.1) [] := by
      rw [ek]
      exact reads_keys hp
    have el : (kvs.map fun p => keyD p.1).length = ds.length := by
      rw [← ra.len]
      simp
    exact rkDict ho hex.1 hd hsys el rk1 hs hz fun hs2 hz2 => rkAll I ra rv hs2 hz2
  | _, _, .dt (kvs := kvs) (ds := ds) hl ra, _, r, hs, hz => by
    cases r
    obtain ⟨_, hsys, xs, hkv, o, es, ep, ho, hex, hd, he, _⟩ := I.hok _ _ hl
    obtain ⟨rk0, rv⟩ := reads_tkeys I hkv
    have e1 : es.toList.map (·.key) = xs.map fun q => Value.ref q.2.1 := by
      rw [he, List.map_map]
      rfl
    have e2 : es.toList.map (·.val) = xs.map (·.2.2) := by
      rw [he, List.map_map]
      rfl
    rw [← e1] at rk0
    rw [← e2] at rv
    have el : (kvs.map fun p => PyData.tuple (p.1.map keyD)).length = ds.length := by
      rw [← ra.len]
      simp
    exact rkDict ho hex.1 hd hsys el rk0 hs hz fun hs2 hz2 => rkAll I ra rv hs2 hz2
theorem rkAll (I : Inv X pins σ H s) : ∀ {vs : List V} {ds : List PyData}, DqAll X.K H vs ds → ∀ {us : List Value}, Vals vs us → PyData.showableAll ds = true → (∀ t ∈ PyData.shownAll ds, t.length ≤ sizeLine) →
    ∃ as bs, ReadsAll s.heap us ds as ∧ ReadAtMost s.heap (PyData.depthAll ds) bs ∧ ReprAllK X.prog X.w bs s.heap (PyData.depthAll ds) us (PyData.shownAll ds)
  | _, _, .nil, _, r, _, _ => by
    cases r
    exact ⟨_, [], .nil, ram_nil, by simp only [PyData.shownAll]; exact .nil⟩
  | _, _, .cons (d := d) (ds := ds) h ra, _, r, hs, hz => by
    cases r with
    | cons r1 r2 =>
      have hs' : d.showable = true ∧ PyData.showableAll ds = true := by simpa [PyData.showableAll] using hs
      obtain ⟨a1, b1, p1, p2, p3⟩ := rk I h r1 hs'.1 (hz _ (by simp only [PyData.shownAll]; exact List.mem_cons_self ..))
      obtain ⟨a2, b2, q1, q2, q3⟩ := rkAll I ra r2 hs'.2 fun t ht => hz t (by simp only [PyData.shownAll]; exact List.mem_cons_of_mem _ ht)
      refine ⟨_, b1 ++ b2, ReadsAll.cons p1 q1, ?_, ?_⟩
      · simp only [PyData.depthAll]
        exact (p2.mono (Nat.le_max_left _ _)).append (q2.mono (Nat.le_max_right _ _))
      · simp only [PyData.depthAll, PyData.shownAll]
        exact .cons ((p3.more fun b hb => List.mem_append_left _ hb).level_le (Nat.le_max_left _ _)) (q3.more_le (fun b hb => List.mem_append_right _ hb) (Nat.le_max_right _ _))
end
end
section
variable {X : Cx}
/-- repr(x) of a datum -/
def rRepr (K : PySem.W.Frag) : List V → Hp → VK → Prop := fun xs H Q => ∃ x d, xs = [x] ∧ Dq K H x d ∧ d.showable = true ∧ d.depth ≤ 60 ∧ d.shown.length ≤ sizeLine ∧ Q (.str d.shown) H
theorem call_repr (hg : Quiet X.A) (hu : X.A.units + 64 < cLine) : CallR X (.builtin "repr") (rRepr X.K) := by
  intro pins s σ H xs us Q I r h
  obtain ⟨x, d, rfl, hd, hs, hdp, hz, q⟩ := h
  obtain ⟨u, rfl, ru⟩ := vals1 r
  have fin : ∀ h' v tk, (∀ b o, s.heap.get? b = some o → h'.get? b = some o) → EP X pins σ Q (.str d.shown v) { s with heap := h', toks := tk } :=
    fun h' v tk k => ⟨.str d.shown, H, I.kept (t' := tk) k, ⟨_, rfl⟩, q⟩
  have e0 : ∀ b o, s.heap.get? b = some o → s.heap.get? b = some o := fun _ _ e => e
  have hg1 : X.A.in1.guards = some [] := hg
  have u1 : X.A.in1.units = X.A.units + 1 := rfl
  cases hd with
  | non =>
    cases ru
    refine PySem.P.repr_of_none ?_
    have := fin s.heap s.toks (s.toks + 1) e0
    simpa only [PyData.shown] using this
  | bl b =>
    cases ru
    refine PySem.P.repr_of_bool ?_
    have := fin s.heap s.toks (s.toks + 1) e0
    simpa only [PyData.shown] using this
  | int i =>
    obtain ⟨t, rfl⟩ := ru
    refine PySem.P.repr_of_int (by simpa [PyData.showable] using hs) ?_
    have := fin s.heap s.toks (s.toks + 1) e0
    simpa only [PyData.shown] using this
  | str z =>
    obtain ⟨t, rfl⟩ := ru
    refine PySem.P.repr_of_str ?_ (by simpa only [PyData.shown] using hz)
    have := fin s.heap s.toks (s.toks + 1) e0
    simpa only [PyData.shown] using this
  | @lst a ys ds hl ra =>
    cases ru
    have hz' : (listText (PyData.shownAll ds)).length ≤ sizeLine := by simpa only [PyData.shown] using hz
    obtain ⟨its, rv, ⟨o, n, ho, hc, _, hdt⟩, _⟩ := I.list hl
    obtain ⟨as, bs, q1, q2, q3⟩ := rkAll I ra rv (by simpa [PyData.showable] using hs) fun t ht => Nat.le_trans (listText_mem_le ht) hz'
    have rd := Reads.list ho hc hdt q1
    have hn := not_mem_of_deeper rd (n := PyData.depthAll ds) (by simp only [PyData.depth]; omega) q2
    simp only [PyData.depth] at hdp
    simp only [PyData.shown] at fin
    match its, q1, q3, hdt with
    | [], q1, q3, hdt =>
      cases q1
      simp only [PyData.shownAll, listText_nil] at fin
      exact call_repr_slot (by omega) ⟨o, ho, hc⟩ F.slot_list_repr.toG (call_list_repr_empty ⟨o, ho, hc⟩ ho hdt ⟨_, _, rfl, fin _ _ _ e0⟩)
    | y :: l, q1, q3, hdt =>
      exact call_repr_slot (by omega) ⟨o, ho, hc⟩ F.slot_list_repr.toG (call_list_reprK ho hc hdt hn (by simpa using q3.length_eq) (fun i z e => q3.item i z (by simpa using e)) hg1 (fun b _ => Clear.nil b)
        (by rw [u1]; omega) e0 (fun h' v tk k => ⟨_, _, rfl, fin h' v tk k⟩) hz')
  | @tup a ys ds hl ra =>
    cases ru
    have hz' : (tupleText (PyData.shownAll ds)).length ≤ sizeLine := by simpa only [PyData.shown] using hz
    obtain ⟨its, rv, ⟨o, ho, hc, n, hdt⟩, _⟩ := I.tuple hl
    obtain ⟨as, bs, q1, q2, q3⟩ := rkAll I ra rv (by simpa [PyData.showable] using hs) fun t ht => Nat.le_trans (tupleText_mem_le ht) hz'
    have rd := Reads.tuple ho hc hdt q1
    have hn := not_mem_of_deeper rd (n := PyData.depthAll ds) (by simp only [PyData.depth]; omega) q2
    simp only [PyData.depth] at hdp
    simp only [PyData.shown] at fin
    exact call_repr_slot (by omega) ⟨o, ho, hc⟩ F.slot_tuple_repr (call_tuple_reprK ho hc hdt hn q3 hg1 (fun b _ => Clear.nil b) (by rw [u1]; omega) e0 (fun h' v tk k => ⟨_, _, rfl, fin h' v tk k⟩) hz')
  | @dk a kvs ds hl ra =>
    cases ru
    obtain ⟨as, bs, rd, hb, hk⟩ := rk I (.dk hl ra) (u := .ref a) rfl hs hz
    obtain ⟨_, hsys, vs, hkv, o, es, ep, ho, hex, hdt, _, hp, _⟩ := I.hok _ _ hl
    obtain ⟨rv, ek⟩ := kv_vals hkv
    rw [← vals_of_pairs hp] at rv
    have rk1 : ReadsAll s.heap (es.toList.map (·.key)) (kvs.map fun p => keyD p.1) [] := by
      rw [ek]
      exact reads_keys hp
    have el : (kvs.map fun p => keyD p.1).length = ds.length := by
      rw [← ra.len]
      simp
    obtain ⟨bs, hn, hE⟩ := topDict (prog := X.prog) (w := X.w) ho hex.1 hdt el rk1 hs hz fun hs2 hz2 => rkAll I ra rv hs2 hz2
    have ek : (PyData.dict ((kvs.map fun p => keyD p.1).zip ds)).shown = dictText (PyData.shownKv ((kvs.map fun p => keyD p.1).zip ds)) := by simp only [PyData.shown]
    rw [ek] at fin hz
    simp only [PyData.depth] at hdp
    exact call_repr_slot (by omega) ⟨o, ho, hex.1⟩ F.slot_dict_repr (call_dict_reprK ho hex.1 hdt hsys hn hE hg1 (fun b _ => Clear.nil b) (by rw [u1]; omega) e0 (fun h' v tk k => ⟨_, _, rfl, fin h' v tk k⟩) hz)
  | @dt a kvs ds hl ra =>
    cases ru
    obtain ⟨_, hsys, xs, hkv, o, es, ep, ho, hex, hdt, he, _⟩ := I.hok _ _ hl
    obtain ⟨rk0, rv⟩ := reads_tkeys I hkv
    have e1 : es.toList.map (·.key) = xs.map fun q => Value.ref q.2.1 := by
      rw [he, List.map_map]
      rfl
    have e2 : es.toList.map (·.val) = xs.map (·.2.2) := by
      rw [he, List.map_map]
      rfl
    rw [← e1] at rk0
    rw [← e2] at rv
    have el : (kvs.map fun p => PyData.tuple (p.1.map keyD)).length = ds.length := by
      rw [← ra.len]
      simp
    obtain ⟨bs, hn, hE⟩ := topDict (prog := X.prog) (w := X.w) ho hex.1 hdt el rk0 hs hz fun hs2 hz2 => rkAll I ra rv hs2 hz2
    have ek : (PyData.dict ((kvs.map fun p => PyData.tuple (p.1.map keyD)).zip ds)).shown = dictText (PyData.shownKv ((kvs.map fun p => PyData.tuple (p.1.map keyD)).zip ds)) := by simp only [PyData.shown]
    rw [ek] at fin hz
    simp only [PyData.depth] at hdp
    exact call_repr_slot (by omega) ⟨o, ho, hex.1⟩ F.slot_dict_repr (call_dict_reprK ho hex.1 hdt hsys hn hE hg1 (fun b _ => Clear.nil b) (by rw [u1]; omega) e0 (fun h' v tk k => ⟨_, _, rfl, fin h' v tk k⟩) hz)
end
end Own

set_option Elab.async false
set_option linter.all false
set_option maxRecDepth 100000
set_option maxHeartbeats 4000000
/-! exceptions of own classes as values: made by their own __init__, their fields, isinstance -/
namespace Own
open PySem PySem.Spec PyProof.Rows L2

/-- an exception of the class at C stands at a, its fields are fs -/
def XAt (H : Hp) (a C : Addr) (fs : List (Str × V)) : Prop := ∃ d, H a = some (exo a C (some d)) ∧ H d = some (exd d fs)
theorem XAt.same {H H' : Hp} {a C : Addr} {fs : List (Str × V)} (s : Same H H') (x : XAt H a C fs) : XAt H' a C fs := by
  obtain ⟨d, h1, h2⟩ := x
  exact ⟨d, s _ _ h1, s _ _ h2⟩
/-- an exception without a dict of its own -/
def X0At (H : Hp) (a C : Addr) : Prop := H a = some (exo a C none)

/-- what is asked of an own exception's class, beside OexC -/
structure XC (K : PySem.W.Frag) (C : Addr) : Prop where
  o : OexC K C
  e : ExcC K C

section
variable {prog : Program} {w : World} {A : Around} {E : Value → Shared → Prop} {s : Shared} {K : PySem.W.Frag} {x D : Addr} {ox : Obj} {od : Option Obj}
theorem find_cls (C : ExcC K D) : PySem.W.findObj K D od "__class__" = some (.bind (.builtin "getset_descriptor.__get__") (.builtin "object.__class__")) := by
  have hc : (PySem.W.clsIn K D).isSome = true := by
    obtain ⟨cd, h, _⟩ := PySem.W.any_some C.hd
    rw [h]
    rfl
  cases od with
  | none => exact PySem.W.findObj_dataN hc C.ha C.hn C.ht
  | some o => exact PySem.W.findObj_data hc C.ha C.hn C.ht
/-- x.__class__, as isinstance asks it -/
theorem cls_of {Q : Option Value → Shared → Prop} (C : ExcC K D) (X : K.In s.heap) (I : PySem.W.InstAt s.heap x ox D od) (h : Q (some (.ref D)) { s with toks := s.toks + 1 }) :
    wpAny (model prog w) A (getAttr? (.ref x) "__class__") Q E s := by
  have hf := find_cls (od := od) C
  obtain ⟨hp, g, d, t, os⟩ := s
  have T0 := I.type (M := model prog w)
  have T1 := PySem.W.looks_findIn (M := model prog w) X C.hg
  have T2 := PySem.W.looks_findIn (M := model prog w) X C.hk
  have T3 := PySem.W.looks_find (M := model prog w) X I hf
  have up : PySem.W.Looks (model prog w) hp (isInstance (.ref x) (.type "BaseException")) true := T0.andThen (PySem.W.looks_subIn X C.hs)
  have n2 : (Value.builtin "BaseException.__getattribute__" == Value.builtin "object.__getattribute__") = false := by decide +kernel
  have n1 : (onTheHeap (Value.ref D) && Value.builtin "BaseException.__getattribute__" == Value.builtin "object.__getattribute__") = false := by rw [n2]; rfl
  have n0 : (false && onTheHeap (Value.builtin "BaseException.__getattribute__")) = false := rfl
  unfold getAttr? getAttrBy? getAttrBy
  refine wpAny_bind (wpAny_mkText (wpAny_bind (wpAny_attempt (wpAny_holding (wpAny_bind (T0.at (wpAny_bind (T1.at ?_))))))))
  show wpAny _ _ (if (onTheHeap (Value.ref D) && Value.builtin "BaseException.__getattribute__" == Value.builtin "object.__getattribute__") = true then _ else _) _ _ _
  rw [n1, if_neg Bool.false_ne_true]
  unfold getAttrByItsOwn hookBefore
  refine wpAny_bind ?_
  rw [if_pos (show onTheHeap (Value.ref D) = true from rfl)]
  refine T2.at ?_
  refine wpAny_bind (wpAny_attempt (wpAny_holding ?_))
  unfold callGetattribute
  rw [n0, if_neg Bool.false_ne_true]
  unfold boundAndCalled
  rw [PySem.F.excAttr_ValueError.ga.bind (.ref x)]
  refine wpAny_bind (wpAny_pure ?_)
  show wpAny _ _ (call (.builtin "BaseException.__getattribute__") [.ref x, .str "__class__" t]) _ _ _
  refine wpAny_call (codeAny_call_builtin PySem.F.excAttr_ValueError.ga.plain PySem.F.entry_bexc_ga ?_)
  refine @PySem.W.check_slot (model prog w) _ _ ⟨hp, g, d, t + 1, os⟩ "BaseException.__getattribute__" "BaseException" "__getattribute__" (.ref x) [.str "__class__" t] [] _ (by decide +kernel) (by decide +kernel) up (PySem.F.args_bexc_ga (.ref x) (.str "__class__" t)) ?_
  unfold Builtin.«object.__getattribute__»
  refine wpAny_bind (wpAny_of_eq (a := ((Value.ref x : Value), [Value.str "__class__" t])) (by first | rfl | (simp only [slotArgs]; rfl)) ?_)
  refine wpAny_bind (wpAny_pure (wpAny_bind (T0.at (wpAny_bind (T3.at ?_)))))
  show wpAny _ _ (holding [Value.builtin "object.__class__"] (call (.builtin "getset_descriptor.__get__") [.builtin "object.__class__", .ref x, .ref D]) >>= ret) _ _ _
  refine wpAny_bind (wpAny_holding (wpAny_call (PySem.W.class_get (s := ⟨hp, g, d, t + 1, os⟩) (ox := ox) (od := od) X I C.hm ?_)))
  refine wpAny_pure ?_
  show wpAny _ _ (handedOut (.ref D)) _ _ _
  rw [PySem.W.handedOut_of (v := .ref D) rfl]
  first
    | exact wpAny_pure (wpAny_pure h)
    | exact wpAny_pure h
    | exact wpAny_pure (wpAny_bind (wpAny_pure (wpAny_pure h)))
theorem kitx_x (C : ExcC K D) : PySem.W.KitX K (.ref x) (.ref D) (fun h => PySem.W.InstAt h x ox D od) := by
  obtain ⟨cd, hcd, _⟩ := PySem.W.any_some C.hd
  have old := PySem.W.handS_kitx_exc (x := x) (ox := ox) C.hg C.hk C.hs C.hd C.ha C.hn C.ht C.hm
  have it : ∀ (M : Model) (h : Heap), K.In h → PySem.W.Looks M h (isType (.ref D)) true := by
    intro M h X
    unfold PySem.W.clsIn at hcd
    split at hcd
    · rename_i c' d' cd' sl' ho
      intro A' Q' E' s' k q
      unfold isType loadHead
      exact wpAny_bind (wpAny_loadPart (k _ _ (X _ _ ho)) (wpAny_pure q))
    · cases hcd
  exact ⟨fun _ _ _ I => I.type, fun M h X _ => it M h X, old.ne, fun X I k => cls_of C X I k⟩
end

section
variable {X : Cx} {pins : List (Addr × Obj)} {σ : L2.St} {H : Hp} {s : Shared} {a C : Addr}
theorem inst_x {fs : List (Str × V)} (I : Inv X pins σ H s) (h : XAt H a C fs) : ∃ ox od, PySem.W.InstAt s.heap a ox C (some od) ∧ ∃ mA : Str → Option Value, (∀ name, PySem.W.lookIn name od = some (mA name)) ∧ ∀ f, RelO (fs.lookup f) (mA f) := by
  obtain ⟨d, h1, h2⟩ := h
  obtain ⟨t, ho⟩ := exo_at I.hok h1
  obtain ⟨mA, hn, hr⟩ := exd_at I.hok h2
  obtain ⟨od, hd, hl⟩ := lookIn_ns hn
  exact ⟨_, od, ⟨ho, rfl, rfl, hd⟩, mA, hl, hr⟩
theorem inst_x0 (I : Inv X pins σ H s) (h : X0At H a C) : ∃ ox, PySem.W.InstAt s.heap a ox C none := by
  obtain ⟨t, ho⟩ := exo_at I.hok h
  exact ⟨_, ⟨ho, rfl, rfl, trivial⟩⟩
end
/-- isinstance(x, c), x such an exception -/
def rIsX (K : PySem.W.Frag) : List V → Hp → VK → Prop := fun xs H Q => ∃ (a C : Addr) (c : V) (u : Value) (b : Bool), xs = [.ref a, c] ∧ ((∃ fs, XAt H a C fs) ∨ X0At H a C) ∧ ExcC K C ∧ ClsV c u ∧ PySem.W.kitOne K (.ref C) u = some b ∧ Q (.bl b) H
theorem call_isX {X : Cx} : CallR X (.builtin "isinstance") (rIsX X.K) := by
  intro pins s σ H xs us Q I r h
  obtain ⟨a, C, c, u, b, rfl, hx, hC, k, e, q⟩ := h
  obtain ⟨u1, u2, rfl, r1, r2⟩ := vals2 r
  have e2 := k.eq r2
  subst e2
  cases (show u1 = Value.ref a from r1)
  rcases hx with ⟨fs, hx⟩ | hx
  · obtain ⟨ox, od, J, _⟩ := inst_x I hx
    exact PySem.W.kia_one (kitx_x hC) I.kIn J e (fun z => nomatch z) fun tk => ⟨.bl b, H, I.tok tk, rfl, q⟩
  · obtain ⟨ox, J⟩ := inst_x0 I hx
    exact PySem.W.kia_one (kitx_x hC) I.kIn J e (fun z => nomatch z) fun tk => ⟨.bl b, H, I.tok tk, rfl, q⟩
/-- x.f -/
def tXf (K : PySem.W.Frag) (te : TE) (f : Str) : TE := fun σ H Q => te σ H fun x H1 => ∃ (a C : Addr) (fs : List (Str × V)) (v : V), x = .ref a ∧ XAt H1 a C fs ∧ ExcC K C ∧ PySem.W.findIn K (.ref C) f = some none ∧ fs.lookup f = some v ∧ Q v H1
theorem pe_xf {X : Cx} {e : Expr} {te : TE} {f : Str} {pos : Pos} (he : PE X e te) (hb : attributeBase e f X.env (eval e X.env) = eval e X.env := by rfl) : PE X (.Attribute e f pos) (tXf X.K te f) := by
  constructor
  intro pins s σ H Q I h
  refine attr_of hb (thn (he.run pins s σ H _ I h) fun u s1 ⟨x, H1, I1, rx, a, C, fs, v, ex, hx, hC, hno, hl, q⟩ => ?_)
  subst ex
  cases (show u = Value.ref a from rx)
  obtain ⟨ox, od, J, mA, hm, hr⟩ := inst_x I1 hx
  obtain ⟨u, hu, ru⟩ := RelO.some_of (v := v) (o := mA f) (by rw [← hl]; exact hr f)
  exact HandSPX.exc_get I1.kIn J hC.hg hC.hk hC.hs (PySem.W.findObj_own hC.hd hno rfl (by rw [hm, hu])) (handed_of ru) ⟨v, H1, I1.tok _, ru, q⟩
end Own

set_option Elab.async false
set_option linter.all false
set_option maxRecDepth 100000
set_option maxHeartbeats 4000000
/-! an own exception class called with keywords -/
namespace Own
open PySem PySem.Spec HandSPX
open Builtin Builtin.ObjectAttr
section
variable {M : Model} {A : Around} {E : Value → Shared → Prop} {h : Heap} {g : Array GenState} {d : Drawn} {t : Nat} {os : OsState}
variable {nm q : Str} {C N : Addr} {bs bm bmB : List Value} {hdct : Bool} {sn : List Str} {sub : List Value} {ab : Bool} {col : Option Bool} {dd : Option Addr} {k0 k1 k2 k3 k5 : Option Value} {B newId initId : String}
theorem check_newK (F : ExcBaseFacts B newId initId bmB) (hT : ∀ X : String, bm.contains (.type X) = bmB.contains (.type X)) {rest : List Value} {kw : List (Str × Value)} {Q : Unit → Shared → Prop}
    (hC : h.get? C = some (excClassObj nm q C N bs bm hdct sn sub ab col dd k0 k1 k2 k3 k5 newId)) (hq : Q () ⟨h, g, d, t, os⟩) : wpAny M A (checkBuiltinCall newId ⟨.ref C :: rest, kw⟩) Q E ⟨h, g, d, t, os⟩ := by
  have c1 : (Value.ref C :: bm).contains (.type B) = true := by rw [List.contains_cons, hT, F.hasB, Bool.or_true]
  have c2 := F.noStar
  simp only [checkBuiltinCall, F.newKind, F.newSplit, F.newRow]
  repeat (first | refine wpAny_loadPart_at hC ?_ | (refine wpAny_isSubtype_exc hC ?_; rw [c1]) | refine wpAny_staticBase_exc hC ?_ | refine wpAny_madeBy_exc hC ?_ | simp only [bne_self_eq_false, Bool.false_eq_true, if_false] | wp_step)
  exact hq
end
section
variable {prog : Program} {w : World} {A : Around} {E : Value → Shared → Prop} {R : Result → Shared → Prop} {h : Heap} {g : Array GenState} {d : Drawn} {t : Nat} {os : OsState}
variable {nm q : Str} {C N : Addr} {bs bm bmB : List Value} {hdct : Bool} {sn : List Str} {sub : List Value} {ab : Bool} {col : Option Bool} {dd : Option Addr} {k0 k1 k2 k3 k5 : Option Value} {B newId initId : String}
theorem newK (F : ExcBaseFacts B newId initId bmB) (hT : ∀ X : String, bm.contains (.type X) = bmB.contains (.type X)) {rest : List Value} {kw : List (Str × Value)}
    (hC : h.get? C = some (excClassObj nm q C N bs bm hdct sn sub ab col dd k0 k1 k2 k3 k5 newId))
    (hq : R (.ok (.ret (.ref (h.objs.size + 1)))) ⟨(h.push (W.kdv_tup rest)).push (excO C h.objs.size), g, d, t, os⟩) (hrest : rest.length ≤ sizeLine) :
    codeAny (model prog w) A (.builtin newId ⟨.ref C :: rest, kw⟩) R ⟨h, g, d, t, os⟩ := by
  have c0 := F.ends
  have c1 : (Value.ref C :: bm).contains (.type B) = true := by rw [List.contains_cons, hT, F.hasB, Bool.or_true]
  have c2 : (Value.ref C :: bm).contains (.type "AttributeError") = false := by rw [List.contains_cons, hT, F.noAttr]; rfl
  have c3 : (Value.ref C :: bm).contains (.type "NameError") = false := by rw [List.contains_cons, hT, F.noName]; rfl
  refine codeAny_builtinAt F.entry ?_
  unfold Builtin.«BaseException.__new__»
  refine PySem.wpAt_bind ?_
  show PySem.wpAt _ _ _ (stack >>= _) _ _ _
  refine PySem.wpAt_bind (wpAt_stack fun p below => wpAt_of_wpAny ?_)
  wp_walk
  refine wpAt_of_wpAny ?_
  rw [F.owner]
  repeat (first | with_reducible refine wpAny_madeHere_exc F.canon hC ?_ | with_reducible refine wpAny_loadPart_at hC ?_ | (with_reducible refine wpAny_isSubtype_exc hC ?_; first | rw [c1] | rw [c2] | rw [c3]) | wp_step)
  show R _ _
  rw [Heap.size_push]
  exact hq
theorem typeCallK (F : ExcBaseFacts B newId initId bmB) (hT : ∀ X : String, bm.contains (.type X) = bmB.contains (.type X)) {rest : List Value} {kw : List (Str × Value)} {fI : Addr} {Q : Fin → Shared → Prop}
    (hC : h.get? C = some (excClassObj nm q C N bs bm hdct sn sub ab col dd k0 k1 k2 k3 k5 newId))
    (hi : W.Looks (model prog w) h (typeLookup (.ref C) "__init__") (some (.ref fI))) (hb : ∀ self, W.Looks (model prog w) h (bindSpecial (.ref fI) self) (.ref fI, [self])) (hrest : rest.length ≤ sizeLine)
    (hq : codeAny (model prog w) A (.call (.ref fI) ⟨.ref (h.objs.size + 1) :: rest, kw⟩)
      (fun r s' => match r with | .ok (.ret v) => v = .none ∧ Q (.done (.ret (.ref (h.objs.size + 1)))) s' | .ok _ => False | .error e => E e s')
      ⟨(h.push (W.kdv_tup rest)).push (excO C h.objs.size), g, d, t, os⟩) :
    wpAny (model prog w) A (Builtin.«type.__call__» ⟨.ref C :: rest, kw⟩) Q E ⟨h, g, d, t, os⟩ := by
  repeat (first | with_reducible refine wpAny_loadPart_at hC ?_ | with_reducible refine wpAny_madeBy_exc hC ?_ | wp_step)
  refine codeAny_call_builtin_code (Code.quiet_builtin _ F.quiet) (check_newK F hT hC ?_)
  refine newK F hT hC ?_ hrest
  show wpAny _ _ _ _ _ _
  have k : ∀ b o, h.get? b = some o → ((h.push (W.kdv_tup rest)).push (excO C h.objs.size)).get? b = some o := fun b o e => Heap.get?_push_of_some _ (Heap.get?_push_of_some _ e)
  have hC1 := k _ _ hC
  have hx : ((h.push (W.kdv_tup rest)).push (excO C h.objs.size)).get? (h.objs.size + 1) = some (excO C h.objs.size) := by heap_get
  have hcC : (Value.ref C :: bm).contains (.ref C) = true := by simp
  have i1 := hi.keeps k
  have b1 := (hb (.ref (h.objs.size + 1))).keeps k
  unfold isInstance
  repeat (first | with_reducible refine wpAny_loadPart_at hx ?_ | (with_reducible refine wpAny_isSubtype_exc hC1 ?_; rw [hcC]) | wp_step)
  show wpAny _ _ (typeLookup (.ref C) _) _ _ _
  refine i1.at ?_
  refine wpAny_holding (wpAny_bind (b1.at ?_))
  refine wpAny_bind (wpAny_call (codeAny_mono hq fun r s' z => ?_))
  rcases r with e | (v | _ | _ | _) <;> first | exact z | exact z.elim | skip
  obtain ⟨rfl, z⟩ := z
  first
    | exact wpAny_pure (wpAny_pure z)
    | (wp_walk; exact z)
theorem callK (F : ExcBaseFacts B newId initId bmB) (hT : ∀ X : String, bm.contains (.type X) = bmB.contains (.type X)) {rest : List Value} {kw : List (Str × Value)} {fI : Addr}
    (hC : h.get? C = some (excClassObj nm q C N bs bm hdct sn sub ab col dd k0 k1 k2 k3 k5 newId))
    (hi : W.Looks (model prog w) h (typeLookup (.ref C) "__init__") (some (.ref fI))) (hb : ∀ self, W.Looks (model prog w) h (bindSpecial (.ref fI) self) (.ref fI, [self])) (hrest : rest.length ≤ sizeLine) (hty : W.Looks (model prog w) h (isInstance (.ref C) (.type "type")) true)
    (hq : codeAny (model prog w) (A.under (.builtin "type.__call__" ⟨.ref C :: rest, kw⟩)) (.call (.ref fI) ⟨.ref (h.objs.size + 1) :: rest, kw⟩) (W.InitBack (h.objs.size + 1) R)
      ⟨(h.push (W.kdv_tup rest)).push (excO C h.objs.size), g, d, t, os⟩) :
    codeAny (model prog w) A (.call (.ref C) ⟨rest, kw⟩) R ⟨h, g, d, t, os⟩ := by
  have f1 := tc_lookup
  have f2 := tc_bind (.ref C)
  have hTy : (⟨h, g, d, t, os⟩ : Shared).TypeIs (.ref C) "type" := ⟨_, hC, rfl⟩
  refine codeAny_of_tree ?_
  show wpAny _ _ (callAny (.ref C) _) _ _ _
  repeat (any_goals (first | assumption | with_reducible refine wpAny_loadPart_at hC ?_ | wp_step))
  refine ⟨rfl, ?_⟩
  refine codeAny_call_builtin_at (Code.quiet_builtin _ (by decide +kernel)) entry_typeCall ?_
  refine W.check_slot (s := ⟨h, g, d, t, os⟩) tc_kind tc_split hty (W.tc_args _ _ _) ?_
  refine typeCallK F hT hC hi hb hrest ?_
  refine codeAny_mono hq fun r s' z => ?_
  rcases r with e | (v | _ | _ | _) <;> exact z
end
end Own

set_option Elab.async false
set_option linter.all false
set_option maxRecDepth 100000
set_option maxHeartbeats 4000000
namespace Own
open PySem PySem.Spec PyProof.Rows L2

/-- the class at C, its __init__ at fI -/
structure XM (K : PySem.W.Frag) (C fI : Addr) : Prop extends XC K C where
  ini : PySem.W.findIn K (.ref C) "__init__" = some (some (.ref fI))
  tyI : PySem.W.typeIn K (.ref fI) = some (.type "function")
theorem looks_inst {K : PySem.W.Frag} {M : Model} {h : Heap} {C : Addr} (X : K.In h) (e : PySem.W.typeIn K (.ref C) = some (.type "type")) : PySem.W.Looks M h (isInstance (.ref C) (.type "type")) true :=
  (PySem.W.looks_typeIn X e).andThen (PySem.W.Looks.of_pure (by kernel_rfl))
/-- an exception that is made and kept: from the arguments' values; kw by names -/
def rMkX (C : Addr) (sp : Sp) (args : List V) (H : Hp) (Q : VK) : Prop := ∀ a, H a = none → sp (.ref a :: args) (upd H a (exo a C none)) (fun v H2 => v = .non ∧ Q (.ref a) H2) E0
section
variable {X : Cx} {k : Nat} {f C fI : Addr} {fd : FuncData} {ps : List Str} {sp : Sp} {x : Str} {p pos : Pos} {e : Expr} {es : List Expr} {t tk : TA}
theorem run_mkx {pins : List (Addr × Obj)} {σ : L2.St} {H : Hp} {s : Shared} {Q : VK} {us : List Value} {kw : List (Str × Value)} {vs : List V} {ws : List Value} (T : XM X.K C fI)
    (G : FnOk X.prog X.w X.K X.mg X.base CX0 k fI fd ps sp) (hr : Room (k + 1) X.A) (I : Inv X pins σ H s) (hl : us.length ≤ sizeLine) (r : Vals vs ws)
    (hb : ∀ (s' : Shared) (self : Value), X.K.In s'.heap → ws.length + 1 = ps.length → BindsTo s' fd ⟨self :: us, kw⟩ (ps.zip (self :: ws))) (h : rMkX C sp vs H Q) :
    wpAny (model X.prog X.w) X.A (call (.ref C) us kw) (EP X pins σ Q) X.xe s := by
  obtain ⟨nm, q, N, bs, bm, sn, sub, ab, col, dd, k0, k1, k2, k3, k5, hC, hbm⟩ := T.o.cls
  obtain ⟨hp, g, dr, tk, os⟩ := s
  have hsz : hp.objs.size ≤ hp.objs.size + 1 := Nat.le_succ _
  have hq := h (hp.objs.size + 1) (I.hok.fresh hsz)
  have kk : ∀ b o, hp.get? b = some o → ((hp.push (PySem.W.kdv_tup us)).push (PySem.HandSPX.excO C hp.objs.size)).get? b = some o := fun b o z => Heap.get?_push_of_some _ (Heap.get?_push_of_some _ z)
  have hget : ((hp.push (PySem.W.kdv_tup us)).push (PySem.HandSPX.excO C hp.objs.size)).get? (hp.objs.size + 1) = some (PySem.HandSPX.excO C hp.objs.size) := by heap_get
  have J : Inv X pins σ (upd H (hp.objs.size + 1) (exo (hp.objs.size + 1) C none)) ⟨(hp.push (PySem.W.kdv_tup us)).push (PySem.HandSPX.excO C hp.objs.size), g, dr, tk, os⟩ :=
    I.laid (t' := tk) (a := hp.objs.size + 1) (o := exo (hp.objs.size + 1) C none) (h' := (hp.push (PySem.W.kdv_tup us)).push (PySem.HandSPX.excO C hp.objs.size)) kk hsz (exo_ok hget)
  have r2 : Vals (V.ref (hp.objs.size + 1) :: vs) (Value.ref (hp.objs.size + 1) :: ws) := .cons rfl r
  have el : ws.length + 1 = ps.length := (r2.length).symm.trans (G.len _ _ _ _ hq)
  refine wpAny_call (callK F.excBase_ValueError (fun Y => PySem.HandSPX.refsVE_contains Y bm hbm) (I.kIn _ _ hC) (PySem.W.looks_findIn I.kIn T.ini) (fun self => PySem.W.bind_fn I.kIn self T.tyI) hl (looks_inst I.kIn T.o.tyC)
    (codeAny_mono (G.run _ X.stack _ _ ⟨Value.ref (hp.objs.size + 1) :: us, kw⟩ (Value.ref (hp.objs.size + 1) :: ws) _ _ E0 (hr.make C us kw) (J.env0.make C us kw) (hb _ _ J.kIn el) r2 hq) fun r s' z => ?_))
  match r, z with
  | .error _, z => exact z.elim
  | .ok .next, z => exact z.elim
  | .ok .brk, z => exact z.elim
  | .ok .cont, z => exact z.elim
  | .ok (.ret u), z =>
    obtain ⟨v, H2, J2, rv, ev, q2⟩ := J.after z
    subst ev
    exact ⟨rv, V.ref (hp.objs.size + 1), H2, J2, rfl, q2⟩
/-- C(e, ..) by place -/
theorem pe_mkx (T : XM X.K C fI) (G : FnOk X.prog X.w X.K X.mg X.base CX0 k fI fd ps sp) (hr : Room (k + 1) X.A) (hb : Binds X.K fd ps []) (hg : Gl X x) (hm : X.mg x = some (.ref C)) (ha : PA X (e :: es) t) (hl : es.length ≤ 100)
    (hdb : (x == ("__debug__" : Str)) = false := by decide) (he : starEach (e :: es) X.env = (false, eval e X.env) :: starEach es X.env := by rfl) (hpl : (backTo pos (starEach es X.env)).any (·.1) = false := by rfl) :
    PE X (.Call (.Name x p) (e :: es) [] pos) (fun σ H Q => t σ H fun vs H1 => vs.length ≤ 1000 ∧ rMkX C sp vs H1 Q) := by
  constructor
  intro pins s σ H Q I h
  refine wpAny_Call_Name_kw (ld_glob I hg hm ?_ hdb)
  refine PySem.W.callWith_K (h₀ := X.base) I.ok.mod.kin T.o.kC (thn (ha.run pos pins s σ H _ I h) fun us s1 ⟨vs, H1, I1, r, lv, q⟩ => ⟨I1.kIn, ?_⟩) he hpl
  refine run_mkx (ws := us) T G hr I1 (by show us.length ≤ sizeLine; rw [← Paired.length r, sizeLine_eq]; omega) r (fun s' self hK el => ?_) q
  have z := hb s' (self :: us) hK (by rw [List.append_nil]; exact el)
  rw [List.append_nil] at z
  exact z
/-- C() -/
theorem pe_mkx0 (T : XM X.K C fI) (G : FnOk X.prog X.w X.K X.mg X.base CX0 k fI fd ps sp) (hr : Room (k + 1) X.A) (hb : Binds X.K fd ps []) (hg : Gl X x) (hm : X.mg x = some (.ref C))
    (hdb : (x == ("__debug__" : Str)) = false := by decide) : PE X (.Call (.Name x p) [] [] pos) (fun σ H Q => rMkX C sp [] H Q) := by
  constructor
  intro pins s σ H Q I h
  refine wpAny_Call_Name_kw (ld_glob I hg hm ?_ hdb)
  refine PySem.W.callWith_K0 I.kIn T.o.kC ?_
  refine run_mkx (us := []) (ws := []) (vs := []) T G hr I (by rw [sizeLine_eq]; decide) .nil (fun s' self hK el => ?_) h
  have z := hb s' [self] hK (by rw [List.append_nil]; exact el)
  rw [List.append_nil] at z
  exact z
/-- C(k = e, ..) by names: ks the names as written, ga what stands at the places of the parameters -/
theorem pe_mkxK {kws : List Keyword} {ks : List Str} {ga : {α : Type} → List α → List α} (T : XM X.K C fI) (G : FnOk X.prog X.w X.K X.mg X.base CX0 k fI fd ps sp) (hr : Room (k + 1) X.A)
    (hb : ∀ (s' : Shared) (self : Value) (us : List Value), us.length = ks.length → BindsTo s' fd ⟨[self], ks.zip us⟩ (ps.zip (self :: ga us))) (hga : ∀ {vs : List V} {us : List Value}, Vals vs us → vs.length = ks.length → Vals (ga vs) (ga us))
    (hg : Gl X x) (hm : X.mg x = some (.ref C)) (hkw : PK X kws tk)
    (hall : (backToKw pos (keywordEach kws X.env)).all (·.1.isSome) = true := by rfl) (hks : (backToKw pos (keywordEach kws X.env)).filterMap (·.1) = ks := by rfl) (hdb : (x == ("__debug__" : Str)) = false := by decide)
    (hpl : ((backTo pos (starEach [] X.env)).any (·.1) || (backToKw pos (keywordEach kws X.env)).any (·.1.isNone)) = false := by rfl) :
    PE X (.Call (.Name x p) [] kws pos) (fun σ H Q => tk σ H fun vs H1 => vs.length = ks.length ∧ rMkX C sp (ga vs) H1 Q) := by
  constructor
  intro pins s σ H Q I h
  refine wpAny_Call_Name_kw (ld_glob I hg hm ?_ hdb)
  refine PySem.W.callWith_KW0 (h₀ := X.base) I.ok.mod.kin T.o.kC hall ?_ hpl
  refine thn (hkw.run pos pins s σ H _ I h) fun us s1 ⟨vs, H1, I1, r, lv, q⟩ => ⟨I1.kIn, ?_⟩
  rw [hks]
  exact run_mkx (us := []) (ws := ga us) T G hr I1 (by rw [sizeLine_eq]; decide) (hga r lv) (fun s' self hK el => hb s' self us ((Paired.length r).symm.trans lv)) q
end
/-! ### __init__ of such a class -/
/-- one field -/
def spI1 (C : Addr) (f : Str) : Sp := fun vs H Q _ => ∃ (a : Addr) (v : V), vs = [.ref a, v] ∧ H a = some (exo a C none) ∧ ∀ d, H d = none → d ≠ a → Q .non (upd (upd H d (exd d [(f, v)])) a (exo a C (some d)))
/-- two fields: f is stored first, g then -/
def spI2 (C : Addr) (f g : Str) : Sp := fun vs H Q _ => ∃ (a : Addr) (v u : V), vs = [.ref a, v, u] ∧ H a = some (exo a C none) ∧ ∀ H' d, H d = none → d ≠ a → H' a = some (exo a C (some d)) → H' d = some (exd d [(g, u), (f, v)]) → (∀ b, b ≠ a → b ≠ d → H' b = H b) → Q .non H'
/-- none -/
def spI0 (C : Addr) : Sp := fun vs H Q _ => ∃ (a : Addr), vs = [.ref a] ∧ H a = some (exo a C none) ∧ Q .non H
theorem mk1 {C : Addr} {f : Str} {v : V} {H : Hp} {Q : VK} (h : ∀ a H', H a = none → Same H H' → XAt H' a C [(f, v)] → Q (.ref a) H') : rMkX C (spI1 C f) [v] H Q := by
  intro a ha
  refine ⟨a, v, rfl, upd_same, fun d hd hda => ⟨rfl, h a _ ha (fun b o e => ?_) ⟨d, upd_same, ?_⟩⟩⟩
  · have h1 : b ≠ a := ne_of_none e ha
    rw [upd_ne hda] at hd
    have h2 : b ≠ d := ne_of_none e hd
    rw [upd_ne h1, upd_ne h2, upd_ne h1]
    exact e
  · rw [upd_ne hda, upd_same]
theorem mk2 {C : Addr} {f g : Str} {v u : V} {H : Hp} {Q : VK} (h : ∀ a H', H a = none → Same H H' → XAt H' a C [(g, u), (f, v)] → Q (.ref a) H') : rMkX C (spI2 C f g) [v, u] H Q := by
  intro a ha
  refine ⟨a, v, u, rfl, upd_same, fun H' d hd hda h1 h2 h3 => ⟨rfl, h a _ ha (fun b o e => ?_) ⟨d, h1, h2⟩⟩⟩
  have n1 : b ≠ a := ne_of_none e ha
  rw [upd_ne hda] at hd
  rw [h3 b n1 (ne_of_none e hd), upd_ne n1]
  exact e
theorem mk0 {C : Addr} {H : Hp} {Q : VK} (h : ∀ a H', H a = none → Same H H' → X0At H' a C → Q (.ref a) H') : rMkX C (spI0 C) [] H Q := by
  intro a ha
  refine ⟨a, rfl, upd_same, rfl, h a _ ha (fun b o e => ?_) upd_same⟩
  rw [upd_ne (ne_of_none e ha)]
  exact e
end Own

set_option Elab.async false
set_option linter.all false
set_option maxRecDepth 100000
set_option maxHeartbeats 4000000
/-! own exception classes over any built-in one, made and kept; classes without an __init__ of their own -/
namespace Own
open PySem PySem.Spec
open Builtin Builtin.ObjectAttr
section
variable {prog : Program} {w : World} {A : Around} {R : Result → Shared → Prop} {hp : Heap} {g : Array GenState} {d : Drawn} {t : Nat} {os : OsState}
/-- the first field, by the object's own rule -/
theorem osaA {K : W.Frag} {name : Str} {tk : Tok} {v : Value} {x C : Addr} {fv : Array Value} {cd : ClassData} {B : String} {bmB : List Value} (SF : StoreFacts B bmB "object.__setattr__" "object")
    (X : K.In hp) (hx : hp.get? x = some { cls := .ref C, data := .fields fv }) (hcd : W.clsIn K C = some cd) (ho : W.excOver K C bmB = true) (hh : cd.hasDict = true) (ht : W.takerIn K C name = some none)
    (hq : ∀ h' tk' dx, (∀ b o, b ≠ x → hp.get? b = some o → h'.get? b = some o) → hp.objs.size ≤ dx → dx ≠ x → h'.get? x = some { cls := .ref C, dict := some dx, data := .fields fv } →
      h'.Ns1 dx (fun y => if y = name then some v else none) → R (.ok (.ret .none)) ⟨h', g, d, tk', os⟩) :
    codeAny (model prog w) A (.call (.builtin "object.__setattr__") ⟨[.ref x, .str name tk, v], []⟩) R ⟨hp, g, d, t, os⟩ := by
  have I : W.InstAt hp x { cls := .ref C, data := .fields fv } C none := ⟨hx, rfl, rfl, trivial⟩
  have hxs : x ≠ hp.objs.size := Nat.ne_of_lt (Heap.lt_size hx)
  have hcls : W.Looks (model prog w) hp (classData C) cd := W.looks_clsIn X hcd
  refine W.osa_openX SF X I ho ht fun b => ?_
  obtain ⟨nm, bs, mro, ns, qn, hd, sn, sb, ab, col, del⟩ := cd
  dsimp only at hh
  subst hh
  show wpAny _ _ (storeInOwnDict (.ref x) (.ref C) (.str name tk) name v b) _ _ _
  unfold storeInOwnDict ownDictForStores
  repeat (first | with_reducible refine HandSPX.store_in_new ?_ ?_ | with_reducible refine wpAny_loadPart_at hx ?_ | with_reducible refine hcls.at ?_ | wp_step)
  · exact ⟨_, #[], _, (Heap.get?_update_ne _ _ _ _ hxs.symm).trans (Heap.get?_push_at rfl rfl), rfl, fun e he => absurd he (by simp), fun _ => rfl⟩
  · intro h' tk' hn' hs
    refine hq h' tk' hp.objs.size (fun b o hb z => ?_) (Nat.le_refl _) hxs.symm ?_ hn'
    · exact (hs.2 b (Nat.ne_of_lt (Heap.lt_size z))).trans ((Heap.get?_update_ne _ _ _ _ hb).trans (Heap.get?_push_of_some _ z))
    · exact (hs.2 x hxs).trans (Heap.get?_update_self _ (Heap.get?_push_of_some _ hx) rfl)
end
end Own
namespace Own
open PySem PySem.Spec PyProof.Rows L2
/-- what the written part says of an own exception class, over any built-in one -/
structure OexA (K : PySem.W.Frag) (C : Addr) : Prop where
  fc : ∃ (B newId initId : String) (bmB : List Value), ExcBaseFacts B newId initId bmB ∧ StoreFacts B bmB "object.__setattr__" "object" ∧ PySem.W.excOver K C bmB = true ∧
    ∃ nm q N bs bm sn sub ab col dd k0 k1 k2 k3 k5, K.lookup C = some (excClassObj nm q C N bs bm true sn sub ab col dd k0 k1 k2 k3 k5 newId) ∧ PySem.W.excTail bmB bm = true
  sa : PySem.W.findIn K (.ref C) "__setattr__" = some (some (.builtin "object.__setattr__"))
  tyC : PySem.W.typeIn K (.ref C) = some (.type "type")
  kC : PySem.W.keepIn K (.ref C) = true
section
variable {X : Cx} {pins : List (Addr × Obj)} {σ : L2.St} {H : Hp} {s : Shared} {a C : Addr} {f : Str} {y : V} {u : Value} {Q : Unit → Shared → Prop} {E : Value → Shared → Prop} {A : Around}
/-- self.f = y, the first field -/
theorem ostA (T : OexA X.K C) (I : Inv X pins σ H s) (e : H a = some (exo a C none)) (ht : PySem.W.takerIn X.K C f = some none) (ry : RelV y u)
    (h : ∀ d s', H d = none → d ≠ a → Inv X pins σ (upd (upd H d (exd d [(f, y)])) a (exo a C (some d))) s' → Q () s') : wpAny (model X.prog X.w) A (setAttr (.ref a) f u) Q E s := by
  obtain ⟨B, newId, initId, bmB, _, SF, ov, nm, q, N, bs, bm, sn, sub, ab, col, dd, k0, k1, k2, k3, k5, hC, _⟩ := T.fc
  have hcl : PySem.W.clsIn X.K C = some { name := nm, bases := bs, mro := .ref C :: bm, ns := N, qualname := q, hasDict := true, slotNames := sn, subclasses := sub, abstract := ab, collection := col, hasDel := false } := by
    unfold PySem.W.clsIn
    rw [hC] <;> rfl
  obtain ⟨t1, ho⟩ := exo_at I.hok e
  obtain ⟨hp, g, dr, t, os⟩ := s
  refine PySem.W.set_plain I.kIn (ox := { cls := .ref C, dict := none, data := .fields #[.ref t1, .none, .none, .none, .bool false, .none] }) (od := none) ⟨ho, rfl, rfl, trivial⟩ T.sa ?_
  refine osaA SF I.kIn ho hcl ov rfl ht (fun h' tk' d k dn dne hx hn => ?_)
  have hnd : H d = none := I.hok.fresh dn
  have old : ∀ {b : Addr} {o : Obj}, hp.get? b = some o → b ≠ d := fun {b o} z => Nat.ne_of_lt (Nat.lt_of_lt_of_le (Heap.lt_size z) dn)
  have na : ∀ {b : Addr}, H b = none → b ≠ a := fun {b} n z => by
    rw [z, e] at n
    cases n
  have two : ∀ {b : Addr} {o : HO}, H b = some o → (∀ c d, o ≠ exo c C d) → upd (upd H d (exd d [(f, y)])) a (exo a C (some d)) b = some o := fun {b o} z n => by
    have hb : b ≠ a := fun r => by
      rw [r, e] at z
      cases z
      exact n a none rfl
    rw [upd_ne hb, upd_ne (ne_of_none z hnd)]
    exact z
  have U : Un X.fs [] H (upd (upd H d (exd d [(f, y)])) a (exo a C (some d))) hp h' :=
    { keep := fun b o z n _ _ => k b o (na n) z
      slot := fun b o z n _ _ => ⟨o.slots, k b o (na n) z⟩
      free := fun b o z n _ => (by rw [upd_ne (na n), upd_ne (old z)]; exact n)
      there := fun b o z _ => (by
        by_cases hb : b = a
        · exact ⟨_, by rw [hb]; exact hx⟩
        · exact ⟨o, k b o hb z⟩)
      tups := fun b xs z => two z fun c d r => exo_tup r.symm
      frzs := fun b o v z => two z fun c d r => exo_frz r.symm
      tbls := fun b ps z => ⟨#[], by rw [two z fun c d r => exo_tbl r.symm]; simp⟩ }
  refine h d _ hnd dne (I.un (t' := tk') U fun b o z => ?_)
  by_cases hb : b = a
  · subst hb
    rw [upd_same] at z
    cases z
    exact exo_ok hx
  · rw [upd_ne hb] at z
    by_cases hd : b = d
    · subst hd
      rw [upd_same] at z
      cases z
      exact exd_ok hn (relO_put (fs := []) ry fun _ => True.intro)
    · rw [upd_ne hd] at z
      refine (I.hok b o z).stay (fun c v hc r => k c v (fun ca => ?_) r) (fun c hc => two hc fun c d r => exo_own r.symm) (fun c xs hc => two hc fun c d r => exo_tup r.symm)
      rcases hc with hc | hc
      · exact hb (hc.symm.trans ca)
      · rw [ca, e] at hc
        cases hc
/-- self.f = e in an __init__, the first field -/
def tOstA (K : PySem.W.Frag) (f : Str) (to te : TE) : TS := fun D σ H => te σ H fun y H1 => to σ H1 fun x H2 => ∃ a C : Addr, x = .ref a ∧ OexA K C ∧ PySem.W.takerIn K C f = some none ∧ H2 a = some (exo a C none) ∧
  ∀ d, H2 d = none → d ≠ a → D.nx σ (upd (upd H2 d (exd d [(f, y)])) a (exo a C (some d)))
theorem ps_ostA {o e : Expr} {to te : TE} {p' pos : Pos} (ho : PE X o to) (he : PE X e te) (hs : swapsWith e (some (.Attribute o f p')) pos.line X.env = pure false := by rfl) : PS X (.Assign [.Attribute o f p'] e pos) (tOstA X.K f to te) := by
  constructor
  intro pins s σ H D I h
  refine plainObj_wpAny_Assign_Attribute (thn (he.run pins s σ H _ I h) fun v s1 ⟨y, H1, I1, r1, q1⟩ => thn (ho.run pins s1 σ H1 _ I1 q1) fun u s2 ⟨x, H2, I2, r2, a, C, ex, T, ht, ea, q⟩ => ?_) hs
  subst ex
  cases (show u = Value.ref a from r2)
  exact ostA T I2 ea ht r1 fun d s' n ne J => ⟨σ, _, J, q d n ne⟩
end
/-- the class at C, its __init__ at fI -/
structure XA (K : PySem.W.Frag) (C fI : Addr) : Prop where
  o : OexA K C
  e : ExcC K C
  ini : PySem.W.findIn K (.ref C) "__init__" = some (some (.ref fI))
  tyI : PySem.W.typeIn K (.ref fI) = some (.type "function")
section
variable {X : Cx} {k : Nat} {f C fI : Addr} {fd : FuncData} {ps : List Str} {sp : Sp} {x : Str} {p pos : Pos} {e : Expr} {es : List Expr} {t tk : TA}
theorem run_mka {pins : List (Addr × Obj)} {σ : L2.St} {H : Hp} {s : Shared} {Q : VK} {us : List Value} {kw : List (Str × Value)} {vs : List V} {ws : List Value} (T : XA X.K C fI)
    (G : FnOk X.prog X.w X.K X.mg X.base CX0 k fI fd ps sp) (hr : Room (k + 1) X.A) (I : Inv X pins σ H s) (hl : us.length ≤ sizeLine) (r : Vals vs ws)
    (hb : ∀ (s' : Shared) (self : Value), X.K.In s'.heap → ws.length + 1 = ps.length → BindsTo s' fd ⟨self :: us, kw⟩ (ps.zip (self :: ws))) (h : rMkX C sp vs H Q) :
    wpAny (model X.prog X.w) X.A (call (.ref C) us kw) (EP X pins σ Q) X.xe s := by
  obtain ⟨B, newId, initId, bmB, F, _, _, nm, q, N, bs, bm, sn, sub, ab, col, dd, k0, k1, k2, k3, k5, hC, hbm⟩ := T.o.fc
  obtain ⟨hp, g, dr, tk, os⟩ := s
  have hsz : hp.objs.size ≤ hp.objs.size + 1 := Nat.le_succ _
  have hq := h (hp.objs.size + 1) (I.hok.fresh hsz)
  have kk : ∀ b o, hp.get? b = some o → ((hp.push (PySem.W.kdv_tup us)).push (PySem.HandSPX.excO C hp.objs.size)).get? b = some o := fun b o z => Heap.get?_push_of_some _ (Heap.get?_push_of_some _ z)
  have hget : ((hp.push (PySem.W.kdv_tup us)).push (PySem.HandSPX.excO C hp.objs.size)).get? (hp.objs.size + 1) = some (PySem.HandSPX.excO C hp.objs.size) := by heap_get
  have J : Inv X pins σ (upd H (hp.objs.size + 1) (exo (hp.objs.size + 1) C none)) ⟨(hp.push (PySem.W.kdv_tup us)).push (PySem.HandSPX.excO C hp.objs.size), g, dr, tk, os⟩ :=
    I.laid (t' := tk) (a := hp.objs.size + 1) (o := exo (hp.objs.size + 1) C none) (h' := (hp.push (PySem.W.kdv_tup us)).push (PySem.HandSPX.excO C hp.objs.size)) kk hsz (exo_ok hget)
  have r2 : Vals (V.ref (hp.objs.size + 1) :: vs) (Value.ref (hp.objs.size + 1) :: ws) := .cons rfl r
  have el : ws.length + 1 = ps.length := (r2.length).symm.trans (G.len _ _ _ _ hq)
  refine wpAny_call (callK F (fun Y => PySem.W.excTail_contains Y bm hbm) (I.kIn _ _ hC) (PySem.W.looks_findIn I.kIn T.ini) (fun self => PySem.W.bind_fn I.kIn self T.tyI) hl (looks_inst I.kIn T.o.tyC)
    (codeAny_mono (G.run _ X.stack _ _ ⟨Value.ref (hp.objs.size + 1) :: us, kw⟩ (Value.ref (hp.objs.size + 1) :: ws) _ _ E0 (hr.make C us kw) (J.env0.make C us kw) (hb _ _ J.kIn el) r2 hq) fun r s' z => ?_))
  match r, z with
  | .error _, z => exact z.elim
  | .ok .next, z => exact z.elim
  | .ok .brk, z => exact z.elim
  | .ok .cont, z => exact z.elim
  | .ok (.ret u), z =>
    obtain ⟨v, H2, J2, rv, ev, q2⟩ := J.after z
    subst ev
    exact ⟨rv, V.ref (hp.objs.size + 1), H2, J2, rfl, q2⟩
/-- C(e, ..) by place -/
theorem pe_mka (T : XA X.K C fI) (G : FnOk X.prog X.w X.K X.mg X.base CX0 k fI fd ps sp) (hr : Room (k + 1) X.A) (hb : Binds X.K fd ps []) (hg : Gl X x) (hm : X.mg x = some (.ref C)) (ha : PA X (e :: es) t)
    (hdb : (x == ("__debug__" : Str)) = false := by decide) (he : starEach (e :: es) X.env = (false, eval e X.env) :: starEach es X.env := by rfl) (hpl : (backTo pos (starEach es X.env)).any (·.1) = false := by rfl) :
    PE X (.Call (.Name x p) (e :: es) [] pos) (fun σ H Q => t σ H fun vs H1 => vs.length ≤ 1000 ∧ rMkX C sp vs H1 Q) := by
  constructor
  intro pins s σ H Q I h
  refine wpAny_Call_Name_kw (ld_glob I hg hm ?_ hdb)
  refine PySem.W.callWith_K (h₀ := X.base) I.ok.mod.kin T.o.kC (thn (ha.run pos pins s σ H _ I h) fun us s1 ⟨vs, H1, I1, r, lv, q⟩ => ⟨I1.kIn, ?_⟩) he hpl
  refine run_mka (ws := us) T G hr I1 (by show us.length ≤ sizeLine; rw [← Paired.length r, sizeLine_eq]; omega) r (fun s' self hK el => ?_) q
  have z := hb s' (self :: us) hK (by rw [List.append_nil]; exact el)
  rw [List.append_nil] at z
  exact z
/-- C(k = e, ..) by names -/
theorem pe_mkaK {kws : List Keyword} {ks : List Str} {ga : {α : Type} → List α → List α} (T : XA X.K C fI) (G : FnOk X.prog X.w X.K X.mg X.base CX0 k fI fd ps sp) (hr : Room (k + 1) X.A)
    (hb : ∀ (s' : Shared) (self : Value) (us : List Value), us.length = ks.length → BindsTo s' fd ⟨[self], ks.zip us⟩ (ps.zip (self :: ga us))) (hga : ∀ {vs : List V} {us : List Value}, Vals vs us → vs.length = ks.length → Vals (ga vs) (ga us))
    (hg : Gl X x) (hm : X.mg x = some (.ref C)) (hkw : PK X kws tk)
    (hall : (backToKw pos (keywordEach kws X.env)).all (·.1.isSome) = true := by rfl) (hks : (backToKw pos (keywordEach kws X.env)).filterMap (·.1) = ks := by rfl) (hdb : (x == ("__debug__" : Str)) = false := by decide)
    (hpl : ((backTo pos (starEach [] X.env)).any (·.1) || (backToKw pos (keywordEach kws X.env)).any (·.1.isNone)) = false := by rfl) :
    PE X (.Call (.Name x p) [] kws pos) (fun σ H Q => tk σ H fun vs H1 => vs.length = ks.length ∧ rMkX C sp (ga vs) H1 Q) := by
  constructor
  intro pins s σ H Q I h
  refine wpAny_Call_Name_kw (ld_glob I hg hm ?_ hdb)
  refine PySem.W.callWith_KW0 (h₀ := X.base) I.ok.mod.kin T.o.kC hall ?_ hpl
  refine thn (hkw.run pos pins s σ H _ I h) fun us s1 ⟨vs, H1, I1, r, lv, q⟩ => ⟨I1.kIn, ?_⟩
  rw [hks]
  exact run_mka (us := []) (ws := ga us) T G hr I1 (by rw [sizeLine_eq]; decide) (hga r lv) (fun s' self hK el => hb s' self us ((Paired.length r).symm.trans lv)) q
/-! ### C(..), C an own exception class without an __init__ of its own -/
theorem run_mkn {pins : List (Addr × Obj)} {σ : L2.St} {H : Hp} {s : Shared} {Q : VK} {us : List Value} {bmB : List Value} {B newId initId : String} (F : ExcBaseFacts B newId initId bmB) (q : PySem.W.excIn X.K C bmB newId = true) (I : Inv X pins σ H s)
    (hl : us.length ≤ sizeLine) (h : ∀ a, H a = none → Q (.ref a) (upd H a (exo a C none))) : wpAny (model X.prog X.w) X.A (call (.ref C) us) (EP X pins σ Q) X.xe s := by
  obtain ⟨bm, N, nm, qn, bs, hdct, sn, sub, ab, col, dd, k0, k1, k2, k3, k5, mN, hC, hN, hni, T⟩ := exc_obj I.kIn q
  obtain ⟨hp, g, dr, tk, os⟩ := s
  refine wpAny_call_exc_subT F T hC hN hni (fun h' e hm => ?_) hl
  obtain ⟨t1, he, _⟩ := hm.there
  have hn := I.hok.gone hm.new
  exact ⟨V.ref e, _, I.laidN (t' := tk) hm.keeps hm.new hn (exo_ok he), rfl, h e hn⟩
theorem pe_mkn {bmB : List Value} {B newId initId : String} (F : ExcBaseFacts B newId initId bmB) (q : PySem.W.excIn X.K C bmB newId = true) (kC : PySem.W.keepIn X.K (.ref C) = true) (hg : Gl X x) (hm : X.mg x = some (.ref C)) (ha : PA X (e :: es) t)
    (hdb : (x == ("__debug__" : Str)) = false := by decide) (he : starEach (e :: es) X.env = (false, eval e X.env) :: starEach es X.env := by rfl) (hpl : (backTo pos (starEach es X.env)).any (·.1) = false := by rfl) :
    PE X (.Call (.Name x p) (e :: es) [] pos) (fun σ H Q => t σ H fun vs H1 => vs.length ≤ 1000 ∧ ∀ a, H1 a = none → Q (.ref a) (upd H1 a (exo a C none))) := by
  constructor
  intro pins s σ H Q I h
  refine wpAny_Call_Name_kw (ld_glob I hg hm ?_ hdb)
  refine PySem.W.callWith_K (h₀ := X.base) I.ok.mod.kin kC (thn (ha.run pos pins s σ H _ I h) fun us s1 ⟨vs, H1, I1, r, lv, q1⟩ => ⟨I1.kIn, ?_⟩) he hpl
  exact run_mkn F q I1 (by show us.length ≤ sizeLine; rw [← Paired.length r, sizeLine_eq]; omega) q1
theorem pe_mkn0 {bmB : List Value} {B newId initId : String} (F : ExcBaseFacts B newId initId bmB) (q : PySem.W.excIn X.K C bmB newId = true) (kC : PySem.W.keepIn X.K (.ref C) = true) (hg : Gl X x) (hm : X.mg x = some (.ref C))
    (hdb : (x == ("__debug__" : Str)) = false := by decide) : PE X (.Call (.Name x p) [] [] pos) (fun σ H Q => ∀ a, H a = none → Q (.ref a) (upd H a (exo a C none))) := by
  constructor
  intro pins s σ H Q I h
  refine wpAny_Call_Name_kw (ld_glob I hg hm ?_ hdb)
  exact PySem.W.callWith_K0 I.kIn kC (run_mkn F q I (by rw [sizeLine_eq]; decide) h)
end
end Own

set_option Elab.async false
set_option linter.all false
set_option maxRecDepth 100000
set_option maxHeartbeats 4000000
namespace Own
open PySem PySem.Spec PyProof.Rows L2
/-! the state of the draws -/
def kLeft : Key := .inr "left"
def kSeed : Key := .inr "seed"
def kCells : Key := .inr "cells"
def kSpot : Key := .inr "spot"
def drw (l s : Int) (c : Addr) (p : Int) : List (Key × V) := [(kLeft, .int l), (kSeed, .int s), (kCells, .ref c), (kSpot, .int p)]
theorem n12 : ¬ kLeft = kSeed := by decide +kernel
theorem n13 : ¬ kLeft = kCells := by decide +kernel
theorem n14 : ¬ kLeft = kSpot := by decide +kernel
theorem n23 : ¬ kSeed = kCells := by decide +kernel
theorem n24 : ¬ kSeed = kSpot := by decide +kernel
theorem n34 : ¬ kCells = kSpot := by decide +kernel
theorem drw_left {l s : Int} {c : Addr} {p : Int} : valV (drw l s c p) kLeft = some (.int l) := valV_pos rfl
theorem drw_seed {l s : Int} {c : Addr} {p : Int} : valV (drw l s c p) kSeed = some (.int s) := by
  unfold drw
  rw [valV_neg n12, valV_pos rfl]
theorem drw_cells {l s : Int} {c : Addr} {p : Int} : valV (drw l s c p) kCells = some (.ref c) := by
  unfold drw
  rw [valV_neg n13, valV_neg n23, valV_pos rfl]
theorem drw_spot {l s : Int} {c : Addr} {p : Int} : valV (drw l s c p) kSpot = some (.int p) := by
  unfold drw
  rw [valV_neg n14, valV_neg n24, valV_neg n34, valV_pos rfl]
theorem drw_putLeft {l s : Int} {c : Addr} {p l' : Int} : putK (drw l s c p) kLeft (.int l') = drw l' s c p := by
  unfold drw putK
  simp [Ne.symm n12, Ne.symm n13, Ne.symm n14]
theorem drw_putSpot {l s : Int} {c : Addr} {p p' : Int} : putK (drw l s c p) kSpot (.int p') = drw l s c p' := by
  unfold drw putK
  simp [n14, n24, n34]
/-- the state of the draws stands at d; at most n numbers were drawn from the cells -/
def DrawAt (H : Hp) (d : Addr) (n : Int) : Prop := ∃ (l s p : Int) (c : Addr) (xs : List Int), H d = some (.dK (drw l s c p)) ∧ H c = some (.lst (xs.map V.int)) ∧ xs ≠ [] ∧ xs.length ≤ 200 ∧ 0 ≤ s ∧ s < 2147483647 ∧ 0 ≤ p ∧ p ≤ n
theorem DrawAt.same {H H' : Hp} {d : Addr} {n : Int} (k : Same H H') (h : DrawAt H d n) : DrawAt H' d n := by
  obtain ⟨l, s, p, c, xs, h1, h2, h3⟩ := h
  exact ⟨l, s, p, c, xs, k _ _ h1, k _ _ h2, h3⟩
/-- all but what stands at d is as it was -/
def But (d : Addr) (H H' : Hp) : Prop := ∀ b o, H b = some o → b ≠ d → H' b = some o
theorem But.refl (d : Addr) (H : Hp) : But d H H := fun _ _ e _ => e
theorem But.trans {d : Addr} {H H1 H2 : Hp} (a : But d H H1) (b : But d H1 H2) : But d H H2 := fun c o e h => b c o (a c o e h) h
theorem Same.but {d : Addr} {H H' : Hp} (a : Same H H') : But d H H' := fun c o e _ => a c o e
def spBegun (K : PySem.W.Frag) : Sp := fun vs H Q _ => ∃ (a : Addr) (k : Int) (ns : List Int), vs = [.ref a, .int k] ∧ SqL K H a (ns.map V.int) ∧ ns.length ≤ 63 ∧ 0 ≤ k ∧ k ≤ 1000 ∧
  ∀ (d : Addr) (H' : Hp), H d = none → Same H H' → DrawAt H' d 0 → Q (.ref d) H'
def spDraw : Sp := fun vs H Q _ => ∃ (d : Addr) (n many : Int), vs = [.ref d, .int many] ∧ DrawAt H d n ∧ n ≤ 1000000 ∧ 0 < many ∧ many ≤ 1000000000 ∧
  ∀ (r : Int) (H' : Hp), 0 ≤ r → r < many → DrawAt H' d (n + 1) → But d H H' → Q (.int r) H'
end Own
namespace Own
open PySem PySem.Spec PyProof.Rows L2
theorem cut_ints (ns : List Int) (lo hi : Option Int) : ∃ ms : List Int, cutV (ns.map V.int) lo hi = ms.map V.int ∧ ms.length ≤ ns.length := by
  refine ⟨(ns.drop (HT.sIx (ns.map V.int).length 0 lo)).take (HT.sIx (ns.map V.int).length (ns.map V.int).length hi - HT.sIx (ns.map V.int).length 0 lo), ?_, ?_⟩
  · unfold cutV
    rw [List.map_take, List.map_drop]
  · rw [List.length_take, List.length_drop]
    omega
theorem same_upd {H H' : Hp} {p : Addr} {o : HO} (s : Same H H') (h : H' p = none) : Same H (upd H' p o) := fun b u e => by
  rw [upd_ne (ne_of_none (s b u e) h)]
  exact s b u e
theorem line200 {n : Nat} (h : n ≤ 100000) : n ≤ sizeLine := Nat.le_trans h (by decide)
/-- a list of ints as data -/
theorem ints_dp {K : PySem.W.Frag} {H : Hp} : ∀ ns : List Int, DpAll K H (ns.map V.int) (ns.map PyData.int)
  | [] => .nil
  | n :: r => .cons (.int n) (ints_dp r)
end Own
namespace Own
open PySem PySem.Spec PyProof.Rows L2
theorem lay_ints : ∀ ns : List Int, PyData.canLayAll0 (ns.map PyData.int) = true ∧ PyData.depthAll (ns.map PyData.int) = 0
  | [] => ⟨rfl, rfl⟩
  | n :: r => by
    obtain ⟨a, b⟩ := lay_ints r
    refine ⟨?_, ?_⟩
    · simp only [List.map_cons, PyData.canLayAll0, PyData.canLay0, a, Bool.true_and]
    · simp only [List.map_cons, PyData.depthAll, PyData.depth, b]
      rfl
theorem shaped_ints (ns : List Int) : SeqAt.shaped (.list (ns.map PyData.int)) = true := by
  obtain ⟨a, b⟩ := lay_ints ns
  unfold SeqAt.shaped
  simp only [PyData.canLay0, PyData.depth, a, b]
  decide
end Own
namespace Own
open PySem PySem.Spec PyProof.Rows L2
theorem drw_merge {l s : Int} {c : Addr} {p : Int} : mergeK [] (drw l s c p) = drw l s c p := by
  unfold drw mergeK putK
  simp [n12, n13, n14, n23, n24, n34]
end Own
namespace Own
open PySem PySem.Spec PyProof.Rows L2
theorem rd_set {te : TE} {tail : TS} {i : Nat} {D : Ends} {σ : L2.St} {H : Hp} (h : te σ H fun x H1 => tail D (σ.set i (some x)) H1) : tSeq (tAsg te (gName i)) tail D σ H := h
theorem rd_ret {te : TE} {D : Ends} {σ : L2.St} {H : Hp} (h : te σ H D.rt) : tRet te D σ H := h
end Own
namespace Own
open PySem PySem.Spec PyProof.Rows L2
/-- x is a name of the module in this scope -/
def GN (sc : Scope) (x : Str) : Prop := sc.names.lookup x = some .globalImplicit
instance {sc : Scope} {x : Str} : Decidable (GN sc x) := inferInstanceAs (Decidable (sc.names.lookup x = some .globalImplicit))
theorem gl_of {X : Cx} {sc : Scope} {x : Str} (e : X.env.scope = sc) (h : GN sc x) : Gl X x := by
  show X.env.scope.names.lookup x = some .globalImplicit
  rw [e]
  exact h
end Own

set_option Elab.async false
set_option linter.all false
set_option maxRecDepth 100000
set_option maxHeartbeats 4000000
namespace Own
open PySem PySem.Spec PyProof.Rows L2
/-! rows of marks: pairs of a word and a truth -/
inductive PairsAt (H : Hp) : List V → List (Str × Bool) → Prop
  | nil : PairsAt H [] []
  | cons {t : Addr} {vs : List V} {p : Str × Bool} {ps : List (Str × Bool)} (h : H t = some (.tup [.str p.1, .bl p.2])) (r : PairsAt H vs ps) : PairsAt H (.ref t :: vs) (p :: ps)
theorem PairsAt.same {H H' : Hp} (s : Same H H') : ∀ {vs : List V} {ps : List (Str × Bool)}, PairsAt H vs ps → PairsAt H' vs ps
  | _, _, .nil => .nil
  | _, _, .cons h r => .cons (s _ _ h) (r.same s)
theorem PairsAt.append {H : Hp} {vs2 : List V} {ps2 : List (Str × Bool)} (b : PairsAt H vs2 ps2) : ∀ {vs : List V} {ps : List (Str × Bool)}, PairsAt H vs ps → PairsAt H (vs ++ vs2) (ps ++ ps2)
  | _, _, .nil => b
  | _, _, .cons h r => .cons h (PairsAt.append b r)
theorem PairsAt.len {H : Hp} : ∀ {vs : List V} {ps : List (Str × Bool)}, PairsAt H vs ps → vs.length = ps.length
  | _, _, .nil => rfl
  | _, _, .cons _ r => congrArg Nat.succ r.len
theorem PairsAt.get {H : Hp} : ∀ {vs : List V} {ps : List (Str × Bool)} {i : Nat} {v : V}, PairsAt H vs ps → vs[i]? = some v → ∃ t p, v = .ref t ∧ ps[i]? = some p ∧ H t = some (.tup [.str p.1, .bl p.2])
  | _, _, 0, _, .cons (t := t) (p := p) h r, e => by
    cases e
    exact ⟨t, p, rfl, rfl, h⟩
  | _, _, i + 1, _, .cons h r, e => by
    obtain ⟨t, p, a, b, c⟩ := PairsAt.get (i := i) r e
    exact ⟨t, p, a, b, c⟩
/-- the words whose truth holds -/
def due (ps : List (Str × Bool)) : List Str := (ps.filter (·.2)).map (·.1)
/-- an exception: of the class at C -/
def IsX (H : Hp) (a C : Addr) : Prop := (∃ fs, XAt H a C fs) ∨ X0At H a C
theorem IsX.same {H H' : Hp} {a C : Addr} (s : Same H H') (h : IsX H a C) : IsX H' a C := by
  rcases h with ⟨fs, h⟩ | h
  · exact .inl ⟨fs, h.same s⟩
  · exact .inr (s _ _ h)
/-- (n, isinstance(error, c)) -/
def tPairI (K : PySem.W.Frag) (n : Str) (c : V) : TE := tTup (tCons (tC (.str n)) (tCons (tCB (rIsX K) (tCons (tVar 0) (tCons (tC c) tNil))) tNil))
section
variable {K : PySem.W.Frag} {σ : L2.St} {H : Hp} {Q : VK} {a C S : Addr} {c c1 c2 : V} {u u1 u2 : Value} {b b1 b2 : Bool} {n n1 n2 : Str} {D : Ends} {vs : List V} {ps : List (Str × Bool)}
theorem pairI (h0 : σ[0]? = some (some (.ref a))) (hx : IsX H a C) (hC : ExcC K C) (k : ClsV c u) (e : PySem.W.kitOne K (.ref C) u = some b) (q : ∀ t H', H t = none → Same H H' → H' t = some (.tup [.str n, .bl b]) → Q (.ref t) H') : tPairI K n c σ H Q :=
  ⟨_, h0, a, C, c, u, b, rfl, hx, hC, k, e, (by show 2 ≤ sizeLine; decide), fun t ht => q t _ ht (same_upd (Same.refl H) ht) upd_same⟩
theorem two_pairs {R : List V → Hp → Prop} (h0 : σ[0]? = some (some (.ref a))) (hx : IsX H a C) (hC : ExcC K C) (k1 : ClsV c1 u1) (e1 : PySem.W.kitOne K (.ref C) u1 = some b1) (k2 : ClsV c2 u2) (e2 : PySem.W.kitOne K (.ref C) u2 = some b2)
    (q : ∀ vs H', Same H H' → vs.length = 2 → PairsAt H' vs [(n1, b1), (n2, b2)] → R vs H') : tCons (tPairI K n1 c1) (tCons (tPairI K n2 c2) tNil) σ H R := by
  refine pairI h0 hx hC k1 e1 fun t1 H1 f1 s1 g1 => pairI h0 (hx.same s1) hC k2 e2 fun t2 H2 f2 s2 g2 => ?_
  exact q _ _ (s1.trans s2) rfl (.cons (s2 _ _ g1) (.cons g2 .nil))
theorem one_pair {R : List V → Hp → Prop} (h0 : σ[0]? = some (some (.ref a))) (hx : IsX H a C) (hC : ExcC K C) (k1 : ClsV c1 u1) (e1 : PySem.W.kitOne K (.ref C) u1 = some b1)
    (q : ∀ vs H', Same H H' → vs.length = 1 → PairsAt H' vs [(n1, b1)] → R vs H') : tCons (tPairI K n1 c1) tNil σ H R := by
  refine pairI h0 hx hC k1 e1 fun t1 H1 f1 s1 g1 => ?_
  exact q _ _ s1 rfl (.cons g1 .nil)
/-- some + [two pairs] -/
theorem lineI (h0 : σ[0]? = some (some (.ref a))) (h1 : σ[1]? = some (some (.ref S))) (hS : H S = some (.lst vs)) (hp : PairsAt H vs ps) (hl : ps.length ≤ 1000) (hx : IsX H a C) (hC : ExcC K C)
    (k1 : ClsV c1 u1) (e1 : PySem.W.kitOne K (.ref C) u1 = some b1) (k2 : ClsV c2 u2) (e2 : PySem.W.kitOne K (.ref C) u2 = some b2)
    (q : ∀ S' H' vs', Same H H' → H' S' = some (.lst vs') → PairsAt H' vs' (ps ++ [(n1, b1), (n2, b2)]) → Q (.ref S') H') : tOp rCat (tVar 1) (tLst (tCons (tPairI K n1 c1) (tCons (tPairI K n2 c2) tNil))) σ H Q := by
  refine ⟨_, h1, two_pairs h0 hx hC k1 e1 k2 e2 fun ws H1 s1 lw hw => ⟨by rw [lw]; decide, fun p hn => ?_⟩⟩
  have s2 : Same H (upd H1 p (.lst ws)) := same_upd s1 hn
  refine ⟨S, p, vs, ws, rfl, rfl, s2 _ _ hS, upd_same, ?_, fun S' hS' => ?_⟩
  · rw [lw, hp.len]
    exact line200 (by omega)
  · have s3 : Same H (upd (upd H1 p (.lst ws)) S' (.lst (vs ++ ws))) := same_upd s2 hS'
    have s4 : Same H1 (upd (upd H1 p (.lst ws)) S' (.lst (vs ++ ws))) := same_upd (same_upd (Same.refl H1) hn) hS'
    exact q S' _ _ s3 upd_same (PairsAt.append (hw.same s4) (hp.same s3))
theorem lineI1 (h0 : σ[0]? = some (some (.ref a))) (h1 : σ[1]? = some (some (.ref S))) (hS : H S = some (.lst vs)) (hp : PairsAt H vs ps) (hl : ps.length ≤ 1000) (hx : IsX H a C) (hC : ExcC K C)
    (k1 : ClsV c1 u1) (e1 : PySem.W.kitOne K (.ref C) u1 = some b1)
    (q : ∀ S' H' vs', Same H H' → H' S' = some (.lst vs') → PairsAt H' vs' (ps ++ [(n1, b1)]) → Q (.ref S') H') : tOp rCat (tVar 1) (tLst (tCons (tPairI K n1 c1) tNil)) σ H Q := by
  refine ⟨_, h1, one_pair h0 hx hC k1 e1 fun ws H1 s1 lw hw => ⟨by rw [lw]; decide, fun p hn => ?_⟩⟩
  have s2 : Same H (upd H1 p (.lst ws)) := same_upd s1 hn
  refine ⟨S, p, vs, ws, rfl, rfl, s2 _ _ hS, upd_same, ?_, fun S' hS' => ?_⟩
  · rw [lw, hp.len]
    exact line200 (by omega)
  · have s3 : Same H (upd (upd H1 p (.lst ws)) S' (.lst (vs ++ ws))) := same_upd s2 hS'
    have s4 : Same H1 (upd (upd H1 p (.lst ws)) S' (.lst (vs ++ ws))) := same_upd (same_upd (Same.refl H1) hn) hS'
    exact q S' _ _ s3 upd_same (PairsAt.append (hw.same s4) (hp.same s3))
theorem line0 (h0 : σ[0]? = some (some (.ref a))) (hx : IsX H a C) (hC : ExcC K C) (k1 : ClsV c1 u1) (e1 : PySem.W.kitOne K (.ref C) u1 = some b1) (k2 : ClsV c2 u2) (e2 : PySem.W.kitOne K (.ref C) u2 = some b2)
    (q : ∀ S' H' vs', Same H H' → H' S' = some (.lst vs') → PairsAt H' vs' [(n1, b1), (n2, b2)] → Q (.ref S') H') : tLst (tCons (tPairI K n1 c1) (tCons (tPairI K n2 c2) tNil)) σ H Q := by
  refine two_pairs h0 hx hC k1 e1 k2 e2 fun ws H1 s1 lw hw => ⟨by rw [lw]; decide, fun p hn => ?_⟩
  exact q p _ _ (same_upd s1 hn) upd_same (hw.same (same_upd (Same.refl H1) hn))
end
/-- what isinstance says of the class at C, class by class -/
def Kits (K : PySem.W.Frag) (C : Addr) : List Value → List Bool → Prop
  | [], [] => True
  | u :: us, b :: bs => PySem.W.kitOne K (.ref C) u = some b ∧ Kits K C us bs
  | _, _ => False
def kitsB (K : PySem.W.Frag) (C : Addr) : List Value → List Bool → Bool
  | [], [] => true
  | u :: us, b :: bs => (match PySem.W.kitOne K (.ref C) u with | some c => c == b | none => false) && kitsB K C us bs
  | _, _ => false
theorem kits_of {K : PySem.W.Frag} {C : Addr} : ∀ {us : List Value} {bs : List Bool}, kitsB K C us bs = true → Kits K C us bs
  | [], [], _ => trivial
  | [], _ :: _, h => by cases h
  | _ :: _, [], h => by cases h
  | u :: us, b :: bs, h => by
    unfold kitsB at h
    rw [Bool.and_eq_true] at h
    refine ⟨?_, kits_of h.2⟩
    have h1 := h.1
    split at h1
    · rename_i c e
      rw [e, beq_iff_eq.mp h1]
    · cases h1
end Own
namespace Own
open PySem PySem.Spec PyProof.Rows L2
theorem take_next {α : Type} : ∀ {l : List α} {i : Nat} {x : α}, l[i]? = some x → l.take (i + 1) = l.take i ++ [x]
  | a :: l, 0, x, h => by
    cases h
    rfl
  | a :: l, i + 1, x, h => by
    have q := take_next (l := l) (i := i) h
    rw [List.take_succ_cons, List.take_succ_cons, q]
    rfl
theorem due_next {ps : List (Str × Bool)} {i : Nat} {p : Str × Bool} (h : ps[i]? = some p) : due (ps.take (i + 1)) = if p.2 = true then due (ps.take i) ++ [p.1] else due (ps.take i) := by
  rw [take_next h]
  unfold due
  rw [List.filter_append, List.map_append]
  by_cases e : p.2 = true
  · rw [if_pos e, List.filter_cons_of_pos e]
    rfl
  · rw [if_neg e, List.filter_cons_of_neg e]
    simp
theorem due_len (ps : List (Str × Bool)) : (due ps).length ≤ ps.length := by
  unfold due
  rw [List.length_map]
  exact List.length_filter_le _ _
end Own
namespace Own
open PySem PySem.Spec PyProof.Rows L2
abbrev gMark : TG → TG → TGs := fun a b => gCons a (gCons b gNil)
/-- [mark for mark, holds in S if holds], mark in slot 2, holds in slot 3 -/
theorem lc_marks {K : PySem.W.Frag} {S : Addr} {v : List V} {ps : List (Str × Bool)} {H1 : Hp} {x0 x1 x2 x3 : Option V} {Q : VK} (hS : H1 S = some (.lst v)) (hp : PairsAt H1 v ps) (hl : ps.length ≤ 1000)
    (q : ∀ D H2, H1 D = none → Same H1 H2 → H2 D = some (.lst ((due ps).map V.str)) → Q (.ref D) H2) (D : Addr) (nD : H1 D = none) :
    ∃ W : Nat → Nat → Hp → Prop, (∃ m, W 0 m (upd H1 D (.lst []))) ∧ ∀ i m H, W i m H →
      ((Itl K S).stop i H ∧ Q (.ref D) H) ∨ ((Itl K S).go i H ∧ ∃ Nx : Hp → Prop, (∀ H', Nx H' → ∃ m', m' < m ∧ W (i + 1) m' H') ∧ ∀ x H', (Itl K S).yld i H x H' → gTup K 2 (gCons (gName 2) (gCons (gName 3) gNil)) x (wipe [x0, x1, x2, x3] [2, 3]) H' fun σ2 H2 => wipe σ2 [2, 3] = wipe [x0, x1, x2, x3] [2, 3] ∧ tB (tVar 3) σ2 H2 fun b H3 =>
        if b = true then tVar 2 σ2 H3 fun y H4 => ∃ acc, H4 D = some (.lst acc) ∧ acc.length < sizeLine ∧ Nx (upd H4 D (.lst (acc ++ [y]))) else Nx H3) := by
  have lv := hp.len
  refine lc_list (K := K) (a := S) (xs := v) (Qd := Q (.ref D)) (fun i H2 => H2 D = some (.lst ((due (ps.take i)).map V.str)) ∧ Same H1 H2) ⟨by rw [List.take_zero]; exact upd_same, same_upd (Same.refl H1) nD⟩ (fun i H2 _ z => SqL.of (z.2 _ _ hS)) ?_ ?_
  · rintro i x H2 hi ⟨hD, sm⟩
    obtain ⟨t, p, rfl, hpi, ht⟩ := PairsAt.get hp hi
    have dn := due_next hpi
    refine ⟨t, _, rfl, SqT.of (sm _ _ ht), rfl, _, _, rfl, _, _, rfl, rfl, rfl, _, rfl, _, rfl, ?_⟩
    refine ite2 (fun hb => ?_) (fun hb => ?_)
    · rw [if_pos hb] at dn
      refine ⟨_, rfl, _, hD, ?_, ?_, fun b o e => ?_⟩
      · have z1 := due_len (ps.take i)
        have z2 : (ps.take i).length ≤ ps.length := by rw [List.length_take]; omega
        rw [List.length_map]
        exact Nat.lt_of_le_of_lt (show _ ≤ 100000 by omega) (by decide)
      · rw [upd_same, dn, List.map_append]
        rfl
      · rw [upd_ne (ne_of_none e nD)]
        exact sm b o e
    · rw [if_neg hb] at dn
      exact ⟨by rw [dn]; exact hD, sm⟩
  · rintro H2 ⟨hD, sm⟩
    refine q D H2 nD sm ?_
    rw [hD, lv, List.take_length]
end Own

set_option Elab.async false
set_option linter.all false
set_option maxRecDepth 100000
set_option maxHeartbeats 4000000
namespace Own
open PySem PySem.Spec PyProof.Rows L2
/-- {k: v}, k a tuple of ints and texts -/
def tDT1 (tk tv : TE) : TE := fun σ H Q => ∀ p, H p = none → tk σ (upd H p (.dT [])) fun x H1 => tv σ H1 fun y H2 => ∃ (b : Addr) (ks : List Key), x = .ref b ∧ H2 b = some (.tup (ks.map kV)) ∧ H2 p = some (.dT []) ∧ Q (.ref p) (upd H2 p (.dT [(ks, y)]))
section
variable {X : Cx} {k v : Expr} {tk tv : TE} {pos : Pos}
theorem pe_dispT1 (hu : X.A.units + 64 < cLine) (hk : PE X k tk) (hv : PE X v tv) : PE X (.Dict [some k] [v] pos) (tDT1 tk tv) := by
  constructor
  intro pins s σ H Q I q
  have hn := I.hok.fresh (Nat.le_refl s.heap.objs.size)
  have I1 := I.laid (a := s.heap.objs.size) (o := .dT []) (h' := s.heap.push { cls := .type "dict", data := .dict #[] }) (t' := s.toks) (fun _ _ z => Heap.get?_push_of_some _ z) (Nat.le_refl _) (dt_empty s.heap I.big)
  have hs : (evalEachOpt [some k] X.env).zip ((evalEach [v] X.env).map fun v => do let x ← v; standAt pos; pure x) = [(eval k X.env, do let x ← eval v X.env; standAt pos; pure x)].map fun p => (some p.1, p.2) := rfl
  rw [arm_eval_Dict, hs, dictDisplay_pairs _ (fun z => by cases z) (by show 1 < 17; decide)]
  refine wpAny_bind (wpAny_standAt (wpAny_bind ?_))
  unfold subDict
  refine wpAny_bind (wpAny_alloc ?_)
  refine wpAny_bind (wpAny_holding ?_)
  rw [if_pos (show ([(eval k X.env, do let x ← eval v X.env; standAt pos; pure x)] : List (Sem Value × Sem Value)).length ≤ 15 from by show 1 ≤ 15; decide)]
  refine wpAny_bind (evalPairs_cons (thn (hk.run pins _ σ _ _ I1 (q _ hn)) fun u s1 ⟨x, H1, J1, rx, q1⟩ => wpAny_bind (thn (hv.run pins s1 σ H1 _ J1 q1) fun r s2 ⟨y, H2, J2, ry, q2⟩ => wpAny_bind (wpAny_standAt (wpAny_pure (evalPairs_nil ?_))))))
  obtain ⟨b, ks, rfl, hb, hp, q2⟩ := q2
  cases (show u = Value.ref b from rx)
  obtain ⟨z, hd, xs, rel, dd⟩ := dt_of J2.hok hp
  cases rel
  refine wpAny_holding ?_
  show wpAny _ _ (forIn [(Value.ref b, r)] PUnit.unit _ >>= _) _ _ _
  rw [List.forIn_cons]
  refine wpAny_bind (wpAny_bind (wpAny_bind (wpAny_dictSet_heap (knd := tupleKind (mixKind X.prog X.w)) (show X.A.units < cLine by omega) (key_of J2.hok hb) dd (fun h' dd' hs' => ?_) (by show 0 ≤ sizeLine; decide))))
  refine wpAny_pure ?_
  show wpAny _ _ (forIn [] PUnit.unit _) _ _ _
  rw [List.forIn_nil]
  refine wpAny_pure (wpAny_pure (wpAny_pure (wpAny_pure ⟨V.ref s.heap.objs.size, _, ?_, rfl, q2⟩)))
  obtain ⟨o, es, ep, ho, h2, h3, h4, _, h5⟩ := dd'
  refine d_write J2 (by rw [hp]; exact True.intro) hs' ⟨o, ho⟩ ⟨(by show 1 ≤ sizeLine; decide), hd, _, Paired.cons ⟨rfl, ?_, ry⟩ .nil, o, es, ep, ho, h2, h3, h4, h5⟩
  show upd H2 s.heap.objs.size _ b = _
  rw [upd_ne (ne_of hb hp (fun z => nomatch z))]
  exact hb
end
end Own

set_option Elab.async false
set_option linter.all false
set_option maxRecDepth 100000
set_option maxHeartbeats 4000000
namespace Own
open PySem PySem.Spec PyProof.Rows L2
/-! data that are made while the state of the draws stands at d -/
theorem sb {d : Addr} {H H' : Hp} (a : Same H H') : But d H H' := fun c o e _ => a c o e
/-- d is in use -/
abbrev Used (H : Hp) (d : Addr) : Prop := ∃ o, H d = some o
theorem Used.same {H H' : Hp} {d : Addr} (s : Same H H') (h : Used H d) : Used H' d := by
  obtain ⟨o, e⟩ := h
  exact ⟨o, s _ _ e⟩
theorem del_same_but {H H' : Hp} {d : Addr} (s : But d H H') : Same (del H d) (del H' d) := fun b o e => by
  by_cases hb : b = d
  · rw [hb, del_same] at e
    cases e
  · rw [del_ne hb] at e ⊢
    exact s b o e hb
theorem del_sub {H : Hp} {d : Addr} : Same (del H d) H := fun b o e => by
  by_cases hb : b = d
  · rw [hb, del_same] at e
    cases e
  · rw [del_ne hb] at e
    exact e
theorem del_of {H : Hp} {d b : Addr} {o : HO} (h : H b = some o) (n : b ≠ d) : del H d b = some o := by
  rw [del_ne n]
  exact h
/-- te gives the datum, whatever stands beside -/
def Gv (K : PySem.W.Frag) (d : Addr) (σ : L2.St) (H0 : Hp) (te : TE) (dat : PyData) : Prop := ∀ (H : Hp) (Q : VK), Same (del H0 d) (del H d) → Used H d → (∀ v H', Same H H' → Dq K (del H' d) v dat → Q v H') → te σ H Q
def GvA (K : PySem.W.Frag) (d : Addr) (σ : L2.St) (H0 : Hp) (ta : TA) (ds : List PyData) : Prop := ∀ (H : Hp) (Q : List V → Hp → Prop), Same (del H0 d) (del H d) → Used H d → (∀ vs H', Same H H' → DqAll K (del H' d) vs ds → Q vs H') → ta σ H Q
section
variable {K : PySem.W.Frag} {d : Addr} {σ : L2.St} {H0 : Hp} {te tv : TE} {ta : TA} {dat dat2 : PyData} {ds : List PyData}
theorem gv_int {i : Int} : Gv K d σ H0 (tC (.int i)) (.int i) := fun H Q _ _ q => q _ H (Same.refl H) (.int i)
theorem gv_str {x : Str} : Gv K d σ H0 (tC (.str x)) (.str x) := fun H Q _ _ q => q _ H (Same.refl H) (.str x)
theorem gv_bl {b : Bool} : Gv K d σ H0 (tC (.bl b)) (.bool b) := fun H Q _ _ q => q _ H (Same.refl H) (.bl b)
theorem gv_non : Gv K d σ H0 (tC .non) .none := fun H Q _ _ q => q _ H (Same.refl H) .non
theorem gv_var {i : Nat} {v : V} (e : σ[i]? = some (some v)) (h : Dq K (del H0 d) v dat) : Gv K d σ H0 (tVar i) dat := fun H Q s _ q => ⟨v, e, q _ H (Same.refl H) (h.same s)⟩
theorem gva_nil : GvA K d σ H0 tNil [] := fun H Q _ _ q => q [] H (Same.refl H) .nil
theorem gva_cons (h : Gv K d σ H0 te dat) (r : GvA K d σ H0 ta ds) : GvA K d σ H0 (tCons te ta) (dat :: ds) := fun H Q s u q =>
  h H _ s u fun v H1 s1 d1 => r H1 _ (s.trans (del_same_but (sb s1))) (u.same s1) fun vs H2 s2 d2 => q _ _ (s1.trans s2) (.cons (d1.same (del_same_but (sb s2))) d2)
theorem new_ne {H : Hp} {p : Addr} (u : Used H d) (hp : H p = none) : p ≠ d := by
  obtain ⟨o, e⟩ := u
  exact (ne_of_none e hp).symm
theorem gv_lst (r : GvA K d σ H0 ta ds) (hl : ds.length ≤ 1000) : Gv K d σ H0 (tLst ta) (.list ds) := fun H Q s u q =>
  r H _ s u fun vs H1 s1 d1 => ⟨by rw [d1.len]; exact line200 (by omega), fun p hp => q _ _ (same_upd s1 hp) (.lst (SqL.of (del_of upd_same (new_ne (u.same s1) hp))) (d1.same (del_same_but (sb (same_upd (Same.refl H1) hp)))))⟩
theorem gv_tup (r : GvA K d σ H0 ta ds) (hl : ds.length ≤ 1000) : Gv K d σ H0 (tTup ta) (.tuple ds) := fun H Q s u q =>
  r H _ s u fun vs H1 s1 d1 => ⟨by rw [d1.len]; exact line200 (by omega), fun p hp => q _ _ (same_upd s1 hp) (.tup (SqT.of (del_of upd_same (new_ne (u.same s1) hp))) (d1.same (del_same_but (sb (same_upd (Same.refl H1) hp)))))⟩
theorem gv_dict0 : Gv K d σ H0 tDNewK (.dict []) := fun H Q s u q p hp => q _ _ (same_upd (Same.refl H) hp) (.dk (kvs := []) (ds := []) (del_of upd_same (new_ne u hp)) .nil)
/-- {k: i}, a text and an int -/
theorem gv_dict1 {x : Str} {i : Int} : Gv K d σ H0 (tDisp [(tC (.str x), tC (.int i))]) (.dict [(.str x, .int i)]) := fun H Q s u q p hp => by
  refine ⟨upd_same, [(.inr x, .int i)], rfl, (by show 1 ≤ 15; decide), ?_⟩
  have e : upd (upd H p (.dK [])) p (.dK (mergeK [] [((Sum.inr x : Key), V.int i)])) = upd H p (.dK [((Sum.inr x : Key), V.int i)]) := by rw [upd_upd]; rfl
  rw [e]
  exact q _ _ (same_upd (Same.refl H) hp) (.dk (kvs := [((Sum.inr x : Key), V.int i)]) (ds := [.int i]) (del_of upd_same (new_ne u hp)) (.cons (.int i) .nil))
/-- {(i, j): []} -/
theorem gv_dictT {i j : Int} : Gv K d σ H0 (tDT1 (tTup (tCons (tC (.int i)) (tCons (tC (.int j)) tNil))) (tLst tNil)) (.dict [(.tuple [.int i, .int j], .list [])]) := fun H Q s u q p hp => by
  have npd := new_ne u hp
  refine ⟨(by show 2 ≤ sizeLine; decide), fun t ht => ⟨(by show 0 ≤ sizeLine; decide), fun l hl => ?_⟩⟩
  have s1 : Same H (upd (upd H p (.dT [])) t (.tup [.int i, .int j])) := same_upd (same_upd (Same.refl H) hp) ht
  have s2 := same_upd s1 hl (o := .lst [])
  have npt : p ≠ t := fun z => by rw [← z, upd_same] at ht; cases ht
  have e1 : (upd (upd H p (.dT [])) t (.tup [.int i, .int j])) p = some (.dT []) := by rw [upd_ne npt]; exact upd_same
  have e2 : (upd (upd H p (.dT [])) t (.tup [.int i, .int j])) t = some (.tup ([(Sum.inl i : Key), Sum.inl j].map kV)) := upd_same
  have f1 := (same_upd (Same.refl _) hl (o := .lst [])) _ _ e1
  have f2 := (same_upd (Same.refl _) hl (o := .lst [])) _ _ e2
  have nld := new_ne (u.same s1) hl
  have nlp : l ≠ p := fun z => by rw [z, e1] at hl; cases hl
  refine ⟨t, [.inl i, .inl j], rfl, f2, f1, ?_⟩
  refine q _ _ (fun b o e => ?_) (.dt (kvs := [([(Sum.inl i : Key), Sum.inl j], .ref l)]) (ds := [.list []]) (del_of upd_same npd) (.cons (.lst (SqL.of (del_of (by rw [upd_ne nlp]; exact upd_same) nld)) .nil) .nil))
  rw [upd_ne (ne_of_none e hp)]
  exact s2 _ _ e
end
end Own

set_option Elab.async false
set_option linter.all false
set_option maxRecDepth 100000
set_option maxHeartbeats 4000000
namespace Own
open PySem PySem.Spec PyProof.Rows L2
/-! data whose text is short -/
structure Fit (m n : Nat) (d : PyData) : Prop where
  sh : d.showable = true
  dp : d.depth ≤ m
  lf : d.leavesShort 100 = true
  wt : d.weight ≤ n
structure FitAll (m n : Nat) (ds : List PyData) : Prop where
  sh : PyData.showableAll ds = true
  dp : PyData.depthAll ds ≤ m
  lf : PyData.leavesShortAll 100 ds = true
  wt : PyData.weightAll ds ≤ n
theorem Fit.mono {m n m' n' : Nat} {d : PyData} (h : Fit m n d) (a : m ≤ m') (b : n ≤ n') : Fit m' n' d := ⟨h.sh, Nat.le_trans h.dp a, h.lf, Nat.le_trans h.wt b⟩
theorem FitAll.nil {m n : Nat} : FitAll m n [] := ⟨rfl, Nat.zero_le _, rfl, Nat.zero_le _⟩
theorem FitAll.cons {m n k : Nat} {d : PyData} {ds : List PyData} (h : Fit m n d) (r : FitAll m k ds) : FitAll m (n + 1 + k) (d :: ds) := by
  refine ⟨?_, ?_, ?_, ?_⟩
  · simp only [PyData.showableAll, h.sh, r.sh, Bool.and_self]
  · simp only [PyData.depthAll]
    have := h.dp
    have := r.dp
    omega
  · simp only [PyData.leavesShortAll, h.lf, r.lf, Bool.and_self]
  · simp only [PyData.weightAll]
    have := h.wt
    have := r.wt
    omega
theorem Fit.list {m n : Nat} {ds : List PyData} (h : FitAll m n ds) : Fit (m + 1) n (.list ds) := by
  refine ⟨?_, ?_, ?_, ?_⟩
  · simp only [PyData.showable, h.sh]
  · simp only [PyData.depth]
    have := h.dp
    omega
  · simp only [PyData.leavesShort, h.lf]
  · simp only [PyData.weight]
    exact h.wt
theorem Fit.tuple {m n : Nat} {ds : List PyData} (h : FitAll m n ds) : Fit (m + 1) n (.tuple ds) := by
  refine ⟨?_, ?_, ?_, ?_⟩
  · simp only [PyData.showable, h.sh]
  · simp only [PyData.depth]
    have := h.dp
    omega
  · simp only [PyData.leavesShort, h.lf]
  · simp only [PyData.weight]
    exact h.wt
theorem Fit.int {i : Int} (h : i.natAbs < 10 ^ 70) : Fit 0 300 (.int i) := by
  have l := int_text_length_le10 (k := 70) (by decide) h
  have h2 : i.natAbs < 2 ^ 250 := Nat.lt_trans h (by decide)
  have hl : i.natAbs.log2 < 250 := by
    by_cases z : i.natAbs = 0
    · rw [z]
      decide
    · exact (Nat.log2_lt z).mpr h2
  refine ⟨?_, ?_, ?_, ?_⟩
  · simp only [PyData.showable]
    exact decide_eq_true (by omega)
  · simp only [PyData.depth]
    exact Nat.le_refl 0
  · simp only [PyData.leavesShort, PyData.shown]
    refine decide_eq_true ?_
    rw [PySem.ofString_length]
    omega
  · simp only [PyData.weight]
    split <;> omega
theorem Fit.size {m n : Nat} {d : PyData} (h : Fit m n d) (hn : n ≤ 100000) : d.shown.length ≤ sizeLine := by
  have q := PyData.shown_le 100 (by decide) d h.lf
  have w := h.wt
  rw [sizeLine_eq]
  omega
def nestT : Nat → PyData → PyData
  | 0, d => d
  | i + 1, d => .tuple [nestT i d]
theorem fit_nest {m n : Nat} {d : PyData} (h : Fit m n d) : ∀ i, Fit (m + i) (n + i) (nestT i d)
  | 0 => h
  | i + 1 => Fit.tuple (FitAll.cons (k := 0) (fit_nest h i) .nil)
/-- short data -/
abbrev Short (d : PyData) : Prop := Fit 45 600 d
theorem short_int {i : Int} (h : i.natAbs < 10 ^ 70) : Short (.int i) := (Fit.int h).mono (by decide) (by decide)
end Own

set_option Elab.async false
set_option linter.all false
set_option maxRecDepth 100000
set_option maxHeartbeats 4000000
namespace Own
open PySem PySem.Spec PyProof.Rows L2
theorem div_many {l m : Int} (m0 : 0 < m) (m1 : m ≤ 1000000000) : CDivW l m := by
  have e : (2 : Nat) ^ 40 = 1099511627776 := by decide
  exact wide_div (b := 40) m0 (by omega) (by decide) (by decide)
def top (i : Nat) : Stmt := PySem.Challenge.pw_owncells_k24_exceptions.main.body.getD i (.Pass ⟨0, 0, 0, 0⟩)
abbrev sBegun : Stmt := top 12
abbrev sDraw : Stmt := top 13
section
variable {P : Program} {w : World} {K : PySem.W.Frag} {mg : Str → Option Value} {base : Heap}
theorem scDraw : FnScope ["m", "many", "found", "spot", "cells", "added", "cell", "blend"] ["m", "many"] (defScope sDraw) := ⟨rfl, rfl, rfl, by decide +kernel, rfl, by decide +kernel, by decide +kernel⟩
theorem ok_draw {f : Addr} {fd : FuncData} (F : Fun K "_law_draw" "_law_draw" sDraw f fd) (bI : mg "int" = none) (bL : mg "len" = none) : FnOk P w K mg base CX0 1 f fd ["m", "many"] spDraw := by
  refine F.ok scDraw (fun vs H Q E h => ?_) (fun cdv A outer s H vs Q E hr h => ?_)
  · obtain ⟨d, n, many, rfl, _⟩ := h
    rfl
  · obtain ⟨d, n, many, rfl, ⟨l, sd, sp, c, xs, hd, hc, hx, hx2, s0, s1, p0, p1⟩, hn, m0, m1, k⟩ := h
    have hu := hu_of hr
    have ndc : d ≠ c := ne_of hd hc (by intro z; cases z)
    refine ⟨_, pss_cons (ps_if (pt_cmpR op_gt (pe_dget hu (pv 0) pe_str (fun _ _ => rfl)) pe_int (nomark _))
        (pss_cons (ps_set (i := 2) scDraw.nd rfl (Or.inl rfl) (pe_op op_mod (pe_callTy call_int1 (by rfl) bI (by decide +kernel) (pa_cons (pe_dget hu (pv 0) pe_str (fun _ _ => rfl)) pa_nil)) (pv 1)))
        (pss_cons (ps_dput hu (pv 0) pe_str (pe_op op_fdivW (pe_dget hu (pv 0) pe_str (fun _ _ => rfl)) (pv 1)) rfl)
        (pss_one (ps_ret (pv 2)))))
        pss_nil)
      (pss_cons (ps_set (i := 3) scDraw.nd rfl (Or.inl rfl) (pe_dget hu (pv 0) pe_str (fun _ _ => rfl)))
      (pss_cons (ps_dput hu (pv 0) pe_str (pe_op op_add (pv 3) pe_int) rfl)
      (pss_cons (ps_par (i := 4) (j := 5) rfl scDraw.nd rfl rfl (by decide) rfl rfl (pa_cons (pe_dget hu (pv 0) pe_str (fun _ _ => rfl)) (pa_cons (pe_op op_add (pe_dget hu (pv 0) pe_str (fun _ _ => rfl)) (pe_op op_mul (pe_op op_mul pe_int (pv 3)) (pv 3))) pa_nil)) (by rfl))
      (pss_cons (ps_set (i := 6) scDraw.nd rfl (Or.inl rfl) (pe_ix ix_list (pv 4) (pe_op op_mod (pe_callTy call_int1 (by rfl) bI (by decide +kernel) (pa_cons (pv 3) pa_nil)) (pe_callB call_len_seq (by rfl) bL PySem.boot_len (pa_cons (pv 4) pa_nil))) (fun _ _ => rfl)))
      (pss_cons (ps_set (i := 7) scDraw.nd rfl (Or.inl rfl) (pe_op op_mod (pe_callTy call_int1 (by rfl) bI (by decide +kernel) (pa_cons (pe_op op_add (pe_op op_mul (pv 6) (pe_op op_add (pe_op op_mul pe_int (pv 3)) pe_int)) (pv 5)) pa_nil)) pe_int))
      (pss_cons (ps_set (i := 7) scDraw.nd rfl (Or.inl rfl) (pe_op op_mod (pe_callTy call_int1 (by rfl) bI (by decide +kernel) (pa_cons (pe_op op_add (pe_op op_add (pe_op op_mul (pv 7) (pv 7)) (pe_op op_mul pe_int (pv 3))) (pe_dget hu (pv 0) pe_str (fun _ _ => rfl))) pa_nil)) pe_int))
      (pss_one (ps_ret (pe_op op_mod (pe_op op_fdiv (pe_op op_mod (pe_callTy call_int1 (by rfl) bI (by decide +kernel) (pa_cons (pe_op op_add (pe_op op_mul (pv 7) pe_int) (pv 3)) pa_nil)) pe_int) pe_int) (pv 1)))))))))), ?_⟩
    -- if m['left'] > 0
    refine ⟨_, rfl, d, _, rfl, drw_left ▸ DGet.k (k := kLeft) hd, _, _, rfl, rfl, _, rfl, ?_⟩
    refine ite2 (fun hl => ?_) (fun hl => ?_)
    · refine ⟨_, rfl, d, _, rfl, drw_left ▸ DGet.k (k := kLeft) hd, Or.inl ⟨_, rfl, _, rfl, _, _, rfl, rfl, m0, ?_⟩⟩
      refine ⟨_, rfl, d, _, rfl, drw_left ▸ DGet.k (k := kLeft) hd, _, rfl, _, _, rfl, rfl, div_many m0 m1, ?_⟩
      refine ⟨_, rfl, d, _, rfl, drw_putLeft ▸ DPut.k (k := kLeft) hd (by show 4 < sizeLine; decide), ?_⟩
      refine ⟨_, rfl, k _ _ (Int.emod_nonneg _ (by omega)) (Int.emod_lt_of_pos _ m0) ⟨_, sd, sp, c, xs, upd_same, by rw [upd_ne ndc.symm]; exact hc, hx, hx2, s0, s1, p0, by omega⟩ fun b o e hb => by rw [upd_ne hb]; exact e⟩
    · refine ⟨_, rfl, d, _, rfl, drw_spot ▸ DGet.k (k := kSpot) hd, ?_⟩
      refine ⟨_, rfl, _, _, rfl, rfl, _, rfl, d, _, rfl, drw_putSpot ▸ DPut.k (k := kSpot) hd (by show 4 < sizeLine; decide), ?_⟩
      have hd' : (upd H d (.dK (drw l sd c (sp + 1)))) d = some (.dK (drw l sd c (sp + 1))) := upd_same
      have hc' : (upd H d (.dK (drw l sd c (sp + 1)))) c = some (.lst (xs.map V.int)) := by rw [upd_ne ndc.symm]; exact hc
      refine ⟨_, rfl, d, _, rfl, drw_cells ▸ DGet.k (k := kCells) hd', _, rfl, d, _, rfl, drw_seed ▸ DGet.k (k := kSeed) hd', ?_⟩
      have sq : 0 ≤ 40503 * sp ∧ 40503 * sp ≤ 40503000000 := by omega
      refine ⟨_, rfl, _, _, rfl, rfl, .inl ⟨by decide, by decide⟩, _, rfl, _, _, rfl, rfl, .inl ⟨by omega, by omega⟩, _, _, rfl, rfl, _, _, rfl, ?_⟩
      have hlen : 0 < xs.length := List.length_pos_iff.mpr hx
      have hj0 : 0 ≤ sp % ((xs.map V.int).length : Int) := Int.emod_nonneg _ (by rw [List.length_map]; omega)
      have hj1 : sp % ((xs.map V.int).length : Int) < xs.length := by
        have z := Int.emod_lt_of_pos sp (b := ((xs.map V.int).length : Int)) (by rw [List.length_map]; omega)
        rw [List.length_map] at z ⊢
        exact z
      obtain ⟨j, hj⟩ : ∃ j : Nat, sp % ((xs.map V.int).length : Int) = j := ⟨_, (Int.toNat_of_nonneg hj0).symm⟩
      have hjl : j < xs.length := by omega
      have hget : (xs.map V.int)[j]? = some (.int xs[j]) := by simp [hjl]
      refine ⟨_, rfl, _, rfl, Or.inl ⟨_, rfl, _, rfl, c, _, rfl, .inl (SqL.of hc'), _, _, rfl, rfl, (by rw [List.length_map]; omega), c, _, _, _, rfl, rfl, SqL.of hc', at_of hj hget, ?_⟩⟩
      -- blend
      refine ⟨_, rfl, _, rfl, _, _, rfl, rfl, .inl ⟨by decide, by decide⟩, _, _, rfl, rfl, _, _, rfl, rfl, .inr ⟨by omega, by omega⟩, _, rfl, _, _, rfl, rfl, Or.inl ⟨_, rfl, _, _, rfl, rfl, (by show (0 : Int) < 2147483647; decide), ?_⟩⟩
      have b0 := Int.emod_nonneg (xs[j] * (2 * sp + 3) + (sd + 40503 * sp * sp)) (b := 2147483647) (by decide)
      have b1 := Int.emod_lt_of_pos (xs[j] * (2 * sp + 3) + (sd + 40503 * sp * sp)) (b := 2147483647) (by decide)
      generalize hB : (xs[j] * (2 * sp + 3) + (sd + 40503 * sp * sp)) % 2147483647 = B at b0 b1 ⊢
      refine ⟨_, rfl, _, rfl, _, _, rfl, rfl, .inl ⟨by omega, by omega⟩, _, rfl, _, _, rfl, rfl, .inl ⟨by decide, by decide⟩, _, _, rfl, rfl, _, rfl, d, _, rfl, drw_seed ▸ DGet.k (k := kSeed) hd', _, _, rfl, rfl,
        Or.inl ⟨_, rfl, _, _, rfl, rfl, (by show (0 : Int) < 2147483629; decide), ?_⟩⟩
      have c0 := Int.emod_nonneg (B * B + 69621 * sp + sd) (b := 2147483629) (by decide)
      have c1 := Int.emod_lt_of_pos (B * B + 69621 * sp + sd) (b := 2147483629) (by decide)
      generalize hC : (B * B + 69621 * sp + sd) % 2147483629 = D at c0 c1 ⊢
      refine ⟨_, rfl, _, _, rfl, rfl, .inl ⟨by omega, by omega⟩, _, rfl, _, _, rfl, rfl, Or.inl ⟨_, rfl, _, _, rfl, rfl, (by show (0 : Int) < 2147483647; decide), _, _, rfl, rfl, ⟨by decide, by decide⟩, _, rfl, _, _, rfl, rfl, m0, ?_⟩⟩
      exact k _ _ (Int.emod_nonneg _ (by omega)) (Int.emod_lt_of_pos _ m0) ⟨l, sd, sp + 1, c, xs, hd', hc', hx, hx2, s0, s1, by omega, by omega⟩ fun b o e hb => by rw [upd_ne hb]; exact e
theorem int_item {ns : List Int} {i : Nat} {x : V} (h : (ns.map V.int)[i]? = some x) : ∃ z, x = V.int z := by
  rw [List.getElem?_map] at h
  cases e : ns[i]? with
  | none =>
    rw [e] at h
    cases h
  | some z =>
    rw [e] at h
    exact ⟨z, (Option.some.inj h).symm⟩
theorem scBegun : FnScope ["script", "k", "cells", "cell", "great", "seed"] ["script", "k"] (defScope sBegun) := ⟨rfl, rfl, rfl, by decide +kernel, rfl, by decide +kernel, by decide +kernel⟩
theorem ok_begun {f : Addr} {fd : FuncData} (F : Fun K "_law_begun" "_law_begun" sBegun f fd) (bI : mg "int" = none) : FnOk P w K mg base CX0 1 f fd ["script", "k"] (spBegun K) := by
  refine F.ok scBegun (fun vs H Q E h => ?_) (fun cdv A outer s H vs Q E hr h => ?_)
  · obtain ⟨a, k, ns, rfl, _⟩ := h
    rfl
  · obtain ⟨a, k, ns, rfl, hS, hlen, k0, k1, done⟩ := h
    have hu := hu_of hr
    refine ⟨_, pss_cons (ps_set (i := 2) scBegun.nd rfl (Or.inl rfl) (pe_op op_cat (pe_slice sl_list (pv 0) (po_some (pv 1)) po_none) (pe_slice sl_list (pv 0) po_none (po_some (pv 1)))))
      (pss_cons (ps_setLc (i := 4) (own := [("cell", 3)]) (g := gName 3) rfl scBegun.nd rfl rfl (sw_true rfl rfl rfl (by decide +kernel)) (pi_list (pv 2)) (blkOk_by (own := [("cell", 3)]) (N := ["script", "k", "cells", "cell", "great", "seed"]) (sc := defScope sBegun) (by decide +kernel))
          (fun _ _ _ _ _ => pg_name (i := 3) scBegun.nd rfl (Or.inl rfl)) (fun _ _ _ _ _ => pts_one (pt_cmpR op_ge (pv 3) (pe_op op_pow pe_int pe_int) (nomark _))) (fun _ _ _ _ _ => pv 3))
      (pss_cons (ps_set (i := 5) scBegun.nd rfl (Or.inl rfl) (pe_op op_add pe_int (pv 1)))
      (pss_cons (ps_for PassesOwn.never rfl (pi_list (pv 2)) (pg_name (i := 3) scBegun.nd rfl (Or.inl rfl))
          (pss_one (ps_set (i := 5) scBegun.nd rfl (Or.inl rfl) (pe_op op_mod (pe_callTy call_int1 (by rfl) bI (by decide +kernel) (pa_cons (pe_op op_add (pe_op op_mul (pv 5) pe_int) (pv 3)) pa_nil)) pe_int))))
      (pss_one (ps_ret (pe_disp (pps_cons pe_str (pe_ifExp (pt_cmpR (op_neD hr.units) (pv 4) (pe_lst pa_nil) (nomark _)) (pe_ix ix_list (pv 4) pe_int (fun _ _ => rfl)) pe_int)
          (pps_cons pe_str (pv 5) (pps_cons pe_str (pe_op op_cat (pv 2) (pe_lst (pa_cons (pe_op op_add (pe_op op_mul pe_int (pv 1)) pe_int) pa_nil))) (pps_cons pe_str pe_int pps_nil)))) (by rfl) (by rfl) (fun z => by cases z) (by decide))))))), ?_⟩
    obtain ⟨m1, e1, l1⟩ := cut_ints ns (some k) none
    obtain ⟨m2, e2, l2⟩ := cut_ints ns none (some k)
    -- digits_so
    refine ⟨_, rfl, _, rfl, k, rfl, a, _, rfl, hS, fun p1 np1 => ?_⟩
    refine ⟨_, rfl, _, rfl, k, rfl, a, _, rfl, (same_upd (Same.refl H) np1).seq hS, fun p2 np2 => ?_⟩
    rw [e1] at np2 ⊢
    rw [e2]
    have n12 : p1 ≠ p2 := fun z => by
      rw [← z, upd_same] at np2
      cases np2
    refine ⟨p1, p2, _, _, rfl, rfl, by rw [upd_ne n12, upd_same], upd_same, (by rw [List.length_map, List.length_map]; exact line200 (by omega)), fun D nD => ?_⟩
    rw [← List.map_append]
    have s1 := same_upd (same_upd (same_upd (Same.refl H) np1) np2) nD (o := .lst ((m1 ++ m2).map V.int))
    have hD : (upd (upd (upd H p1 (HO.lst (List.map V.int m1))) p2 (HO.lst (List.map V.int m2))) D (HO.lst ((m1 ++ m2).map V.int))) D = some (.lst ((m1 ++ m2).map V.int)) := upd_same
    have lm : (m1 ++ m2).length ≤ 126 := by rw [List.length_append]; omega
    generalize upd (upd (upd H p1 (HO.lst (List.map V.int m1))) p2 (HO.lst (List.map V.int m2))) D (HO.lst ((m1 ++ m2).map V.int)) = H1 at s1 hD ⊢
    generalize m1 ++ m2 = ms at hD lm ⊢
    -- great
    refine ⟨_, rfl, D, rfl, ⟨_, SqL.of hD⟩, fun G nG => lc_list (K := K) (a := D) (xs := ms.map V.int) (fun i H2 => ∃ gs : List Int, H2 G = some (.lst (gs.map V.int)) ∧ gs.length ≤ i ∧ Same H1 H2)
      ⟨[], upd_same, Nat.le_refl _, same_upd (Same.refl H1) nG⟩ (fun i H2 _ ⟨_, _, _, q⟩ => SqL.of (q _ _ hD)) ?_ ?_⟩
    · rintro i x H2 hi ⟨gs, hG, lg, q⟩
      have il : i < ms.length := by
        have z := (List.getElem?_eq_some_iff.mp hi).1
        rw [List.length_map] at z
        exact z
      obtain ⟨z, rfl⟩ := int_item hi
      refine ⟨rfl, _, rfl, _, _, rfl, rfl, ⟨by decide, by decide, by decide⟩, _, _, rfl, rfl, _, rfl, ?_⟩
      refine ite2 (fun hl => ?_) (fun hl => ?_)
      · refine ⟨_, rfl, _, hG, ?_, gs ++ [z], ?_, ?_, fun b o e => ?_⟩
        · rw [List.length_map]
          exact Nat.lt_of_le_of_lt (show gs.length ≤ 100000 by omega) (by decide)
        · rw [upd_same, List.map_append]
          rfl
        · rw [List.length_append]
          show gs.length + 1 ≤ i + 1
          omega
        · rw [upd_ne (ne_of_none e nG)]
          exact q b o e
      · exact ⟨gs, hG, by omega, q⟩
    · rintro H2 ⟨gs, hG, lg, q⟩
      rw [List.length_map] at lg
      have s2 : Same H H2 := s1.trans q
      have hD2 := q _ _ hD
      -- seed
      refine ⟨_, rfl, _, _, rfl, rfl, ?_⟩
      refine ⟨_, rfl, D, rfl, ⟨_, SqL.of hD2⟩, for_list (K := K) (a := D) (xs := ms.map V.int) (fun i σ H3 => ∃ (sd : Int) (c : Option V), σ = [some (.ref a), some (.int k), some (.ref D), c, some (.ref G), some (.int sd)] ∧ 0 ≤ sd ∧ sd < 2147483647 ∧ H3 = H2)
        ⟨97 + k, none, rfl, by omega, by omega, rfl⟩ (fun i σ H3 _ ⟨_, _, _, _, _, e⟩ => e ▸ SqL.of hD2) ?_ ?_⟩
      · rintro i x σ H3 hi ⟨sd, c, rfl, s0, s1, rfl⟩
        obtain ⟨z, rfl⟩ := int_item hi
        refine ⟨_, rfl, _, _, rfl, rfl, .inl ⟨by omega, by omega⟩, _, rfl, _, _, rfl, rfl, Or.inl ⟨_, rfl, _, _, rfl, rfl, (by show (0 : Int) < 2147483647; decide), ?_⟩⟩
        exact ⟨_, _, rfl, Int.emod_nonneg _ (by decide), Int.emod_lt_of_pos _ (by decide), rfl⟩
      · rintro σ H3 ⟨sd, c, rfl, sd0, sd1, rfl⟩
        -- the dict
        intro p np
        have hGp : (upd H3 p (HO.dK [])) G = some (.lst (gs.map V.int)) := by rw [upd_ne (ne_of_none hG np)]; exact hG
        refine ⟨_, rfl, (by show 0 ≤ sizeLine; decide), fun e ne => ⟨_, _, .lst (SqL.of (by rw [upd_ne (ne_of_none hGp ne)]; exact hGp)) (ints_dp gs), .lst (SqL.of upd_same) .nil, shaped_ints gs, by decide, _, rfl, ?_⟩⟩
        have fin : ∀ z : Int, tPairs [(tC (V.str (Str.ofString "seed")), tVar 5), (tC (V.str (Str.ofString "cells")),
            tOp rCat (tVar 2) (tLst (tCons (tOp (rI0 fun i j => V.int (i + j)) (tOp (rI CMul fun i j => V.int (i * j)) (tC (V.int 31)) (tVar 1)) (tC (V.int 5))) tNil))), (tC (V.str (Str.ofString "spot")), tC (V.int 0))]
            [some (V.ref a), some (V.int k), some (V.ref D), c, some (V.ref G), some (V.int sd)] (upd (upd H3 p (HO.dK [])) e (HO.lst [])) fun ps H2 => H2 p = some (HO.dK []) ∧
              ∃ kvs : List (Key × V), ((V.str (Str.ofString "left"), V.int z) :: ps) = List.map (fun kv => (kV kv.fst, kv.snd)) kvs ∧ kvs.length ≤ 15 ∧ Q (V.ref p) (upd H2 p (HO.dK (mergeK [] kvs))) := by
          intro z
          have pe : p ≠ e := fun z => by rw [← z, upd_same] at ne; cases ne
          have hDp : (upd (upd H3 p (HO.dK [])) e (HO.lst [])) D = some (.lst (ms.map V.int)) := by
            have h1 : (upd H3 p (HO.dK [])) D = some (.lst (ms.map V.int)) := by rw [upd_ne (ne_of_none hD2 np)]; exact hD2
            rw [upd_ne (ne_of_none h1 ne)]
            exact h1
          have hp4 : (upd (upd H3 p (HO.dK [])) e (HO.lst [])) p = some (.dK []) := by rw [upd_ne pe, upd_same]
          have s4 : Same H3 (upd (upd H3 p (HO.dK [])) e (HO.lst [])) := same_upd (same_upd (Same.refl H3) np) ne
          generalize upd (upd H3 p (HO.dK [])) e (HO.lst []) = H4 at hDp hp4 s4 ⊢
          refine ⟨_, rfl, _, rfl, _, rfl, _, _, rfl, rfl, .inl ⟨by decide, by decide⟩, _, _, rfl, rfl, (by show 1 ≤ sizeLine; decide), fun u nu => ?_⟩
          have hDu : (upd H4 u (HO.lst [V.int (31 * k + 5)])) D = some (.lst (ms.map V.int)) := by rw [upd_ne (ne_of_none hDp nu)]; exact hDp
          refine ⟨D, u, _, _, rfl, rfl, hDu, upd_same, (by rw [List.length_map]; exact line200 (by show ms.length + 1 ≤ 100000; omega)), fun t nt => ?_⟩
          have hpu : (upd H4 u (HO.lst [V.int (31 * k + 5)])) p = some (.dK []) := by rw [upd_ne (ne_of_none hp4 nu)]; exact hp4
          refine ⟨(by rw [upd_ne (ne_of_none hpu nt)]; exact hpu), drw z sd t 0, rfl, (by show 4 ≤ 15; decide), ?_⟩
          rw [drw_merge]
          have s5 : Same H4 (upd (upd H4 u (HO.lst [V.int (31 * k + 5)])) t (HO.lst (ms.map V.int ++ [V.int (31 * k + 5)]))) := same_upd (same_upd (Same.refl H4) nu) nt
          have hp5 := s5 _ _ hp4
          refine done p _ (s2.free np) (fun b o z => ?_) ⟨z, sd, 0, t, ms ++ [31 * k + 5], upd_same, ?_, by simp, (by rw [List.length_append]; show ms.length + 1 ≤ 200; omega), sd0, sd1, by decide, by decide⟩
          · rw [upd_ne (ne_of_none (s2 _ _ z) np)]
            exact s5 _ _ (s4 _ _ (s2 _ _ z))
          · rw [upd_ne (ne_of_none hpu nt).symm, upd_same, List.map_append]
            rfl
        refine ite2 (fun hl => ?_) (fun hl => ?_)
        · cases gs with
          | nil => exact absurd hl (by decide)
          | cons g r => exact ⟨_, rfl, G, _, _, .int g, rfl, rfl, SqL.of (by rw [upd_ne (ne_of_none hGp ne)]; exact hGp), at_of (j := 0) rfl rfl, fin g⟩
        · exact fin 0
end
end Own

set_option Elab.async false
set_option linter.all false
set_option maxRecDepth 100000
set_option maxHeartbeats 4000000
namespace Own
open PySem PySem.Spec PyProof.Rows L2
structure Adr where
  prog : Addr
  lot : Addr
  rnd : Addr
  num : Addr
  box : Addr
  form : Addr
  deal : Addr
  paper : Addr
  great : Addr
  nest : Addr
/-- the classes that are asked after, in their order -/
def askd (A : Adr) : List Value := [.ref A.prog, .ref A.lot, .ref A.rnd, .ref A.num, .ref A.box, .ref A.form, .ref A.deal, .ref A.paper, .ref A.great, .ref A.nest, .type "ValueError", .type "OverflowError", .type "LookupError", .type "RuntimeError", .type "TypeError", .type "Exception"]
def wrds : List Str := ["program", "lot", "round", "number", "box", "form", "dealing", "paper", "great", "own", "sort", "over", "look", "run", "kind", "any"]
structure TX (K : PySem.W.Frag) (mg : Str → Option Value) (A : Adr) : Prop where
  g_prog : mg "BadProgram" = some (.ref A.prog)
  g_lot : mg "BadLot" = some (.ref A.lot)
  g_rnd : mg "BadRound" = some (.ref A.rnd)
  g_num : mg "BadNumber" = some (.ref A.num)
  g_box : mg "BadBox" = some (.ref A.box)
  g_form : mg "BadForm" = some (.ref A.form)
  g_deal : mg "BadDealing" = some (.ref A.deal)
  g_paper : mg "BadPaper" = some (.ref A.paper)
  g_great : mg "TooGreat" = some (.ref A.great)
  g_nest : mg "NestError" = some (.ref A.nest)
  b_ValueError : mg "ValueError" = none
  b_OverflowError : mg "OverflowError" = none
  b_LookupError : mg "LookupError" = none
  b_RuntimeError : mg "RuntimeError" = none
  b_TypeError : mg "TypeError" = none
  b_Exception : mg "Exception" = none
  b_isi : mg "isinstance" = none
def bit_prog : List Bool := [true, false, false, false, false, false, false, false, false, true, true, false, false, false, false, true]
def bit_lot : List Bool := [false, true, false, false, false, false, false, false, false, true, true, false, false, false, false, true]
def bit_rnd : List Bool := [false, false, true, false, false, false, false, false, false, true, true, false, false, false, false, true]
def bit_num : List Bool := [false, false, false, true, false, false, false, false, false, true, true, false, false, false, false, true]
def bit_box : List Bool := [false, false, false, false, true, false, false, false, false, true, true, false, false, false, false, true]
def bit_form : List Bool := [false, false, false, false, false, true, false, false, false, true, true, false, false, false, false, true]
def bit_deal : List Bool := [false, false, false, false, false, false, true, false, false, true, true, false, false, false, false, true]
def bit_paper : List Bool := [false, false, false, false, false, false, false, true, false, true, true, false, false, false, false, true]
def bit_great : List Bool := [false, false, false, false, false, false, false, false, true, false, false, true, false, false, false, true]
def bit_nest : List Bool := [false, false, false, false, false, false, false, false, false, true, true, false, false, false, false, true]
abbrev sMarks : Stmt := top 14
section
variable {P : Program} {w : World} {K : PySem.W.Frag} {mg : Str → Option Value} {base : Heap} {A : Adr}
def spMarks (K : PySem.W.Frag) (A : Adr) : Sp := fun vs H Q _ => ∃ (a C : Addr) (bs : List Bool), vs = [.ref a] ∧ IsX H a C ∧ ExcC K C ∧ Kits K C (askd A) bs ∧
  ∀ (p : Addr) (H' : Hp), H p = none → Same H H' → H' p = some (.lst ((due (wrds.zip bs)).map V.str)) → Q (.ref p) H'
theorem scMarks : FnScope ["error", "some", "mark", "holds"] ["error"] (defScope sMarks) := ⟨rfl, rfl, rfl, by decide +kernel, rfl, by decide +kernel, by decide +kernel⟩
theorem lkM_prog : GN (defScope sMarks) "BadProgram" := by decide +kernel
theorem lkM_lot : GN (defScope sMarks) "BadLot" := by decide +kernel
theorem lkM_rnd : GN (defScope sMarks) "BadRound" := by decide +kernel
theorem lkM_num : GN (defScope sMarks) "BadNumber" := by decide +kernel
theorem lkM_box : GN (defScope sMarks) "BadBox" := by decide +kernel
theorem lkM_form : GN (defScope sMarks) "BadForm" := by decide +kernel
theorem lkM_deal : GN (defScope sMarks) "BadDealing" := by decide +kernel
theorem lkM_paper : GN (defScope sMarks) "BadPaper" := by decide +kernel
theorem lkM_great : GN (defScope sMarks) "TooGreat" := by decide +kernel
theorem lkM_nest : GN (defScope sMarks) "NestError" := by decide +kernel
theorem lkM_ValueError : GN (defScope sMarks) "ValueError" := by decide +kernel
theorem bt_ValueError : bootBuiltins "ValueError" = some (.type "ValueError") := by decide +kernel
theorem lkM_OverflowError : GN (defScope sMarks) "OverflowError" := by decide +kernel
theorem bt_OverflowError : bootBuiltins "OverflowError" = some (.type "OverflowError") := by decide +kernel
theorem lkM_LookupError : GN (defScope sMarks) "LookupError" := by decide +kernel
theorem bt_LookupError : bootBuiltins "LookupError" = some (.type "LookupError") := by decide +kernel
theorem lkM_RuntimeError : GN (defScope sMarks) "RuntimeError" := by decide +kernel
theorem bt_RuntimeError : bootBuiltins "RuntimeError" = some (.type "RuntimeError") := by decide +kernel
theorem lkM_TypeError : GN (defScope sMarks) "TypeError" := by decide +kernel
theorem bt_TypeError : bootBuiltins "TypeError" = some (.type "TypeError") := by decide +kernel
theorem lkM_Exception : GN (defScope sMarks) "Exception" := by decide +kernel
theorem bt_Exception : bootBuiltins "Exception" = some (.type "Exception") := by decide +kernel
theorem lkM_isi : GN (defScope sMarks) "isinstance" := by decide +kernel
theorem bt_isi : bootBuiltins "isinstance" = some (.builtin "isinstance") := by decide +kernel
theorem ok_marks {f : Addr} {fd : FuncData} (F : Fun K "_law_marks" "_law_marks" sMarks f fd) (T : TX K mg A) : FnOk P w K mg base CX0 1 f fd ["error"] (spMarks K A) := by
  refine F.ok scMarks (fun vs H Q E h => ?_) (fun cdv B outer s H vs Q E hr h => ?_)
  · obtain ⟨a, C, bs, rfl, _⟩ := h
    rfl
  · obtain ⟨a, C, bs, rfl, hx, hC, hk, done⟩ := h
    match bs, hk with
    | [b0, b1, b2, b3, b4, b5, b6, b7, b8, b9, b10, b11, b12, b13, b14, b15], hk =>
    obtain ⟨e0, e1, e2, e3, e4, e5, e6, e7, e8, e9, e10, e11, e12, e13, e14, e15, _⟩ := hk
    refine ⟨_, pss_cons (ps_set (i := 1) scMarks.nd rfl (Or.inl rfl) (pe_lst (pa_cons (pe_tup (pa_cons pe_str (pa_cons (pe_callB call_isX (gl_of rfl lkM_isi) T.b_isi bt_isi (pa_cons (pv 0) (pa_cons (pe_glob (v := .ref A.prog) (gl_of rfl lkM_prog) T.g_prog rfl) pa_nil))) pa_nil))) (pa_cons (pe_tup (pa_cons pe_str (pa_cons (pe_callB call_isX (gl_of rfl lkM_isi) T.b_isi bt_isi (pa_cons (pv 0) (pa_cons (pe_glob (v := .ref A.lot) (gl_of rfl lkM_lot) T.g_lot rfl) pa_nil))) pa_nil))) pa_nil))))
      (pss_cons (ps_set (i := 1) scMarks.nd rfl (Or.inl rfl) (pe_op op_cat (pv 1) (pe_lst (pa_cons (pe_tup (pa_cons pe_str (pa_cons (pe_callB call_isX (gl_of rfl lkM_isi) T.b_isi bt_isi (pa_cons (pv 0) (pa_cons (pe_glob (v := .ref A.rnd) (gl_of rfl lkM_rnd) T.g_rnd rfl) pa_nil))) pa_nil))) (pa_cons (pe_tup (pa_cons pe_str (pa_cons (pe_callB call_isX (gl_of rfl lkM_isi) T.b_isi bt_isi (pa_cons (pv 0) (pa_cons (pe_glob (v := .ref A.num) (gl_of rfl lkM_num) T.g_num rfl) pa_nil))) pa_nil))) pa_nil)))))
      (pss_cons (ps_set (i := 1) scMarks.nd rfl (Or.inl rfl) (pe_op op_cat (pv 1) (pe_lst (pa_cons (pe_tup (pa_cons pe_str (pa_cons (pe_callB call_isX (gl_of rfl lkM_isi) T.b_isi bt_isi (pa_cons (pv 0) (pa_cons (pe_glob (v := .ref A.box) (gl_of rfl lkM_box) T.g_box rfl) pa_nil))) pa_nil))) (pa_cons (pe_tup (pa_cons pe_str (pa_cons (pe_callB call_isX (gl_of rfl lkM_isi) T.b_isi bt_isi (pa_cons (pv 0) (pa_cons (pe_glob (v := .ref A.form) (gl_of rfl lkM_form) T.g_form rfl) pa_nil))) pa_nil))) pa_nil)))))
      (pss_cons (ps_set (i := 1) scMarks.nd rfl (Or.inl rfl) (pe_op op_cat (pv 1) (pe_lst (pa_cons (pe_tup (pa_cons pe_str (pa_cons (pe_callB call_isX (gl_of rfl lkM_isi) T.b_isi bt_isi (pa_cons (pv 0) (pa_cons (pe_glob (v := .ref A.deal) (gl_of rfl lkM_deal) T.g_deal rfl) pa_nil))) pa_nil))) (pa_cons (pe_tup (pa_cons pe_str (pa_cons (pe_callB call_isX (gl_of rfl lkM_isi) T.b_isi bt_isi (pa_cons (pv 0) (pa_cons (pe_glob (v := .ref A.paper) (gl_of rfl lkM_paper) T.g_paper rfl) pa_nil))) pa_nil))) pa_nil)))))
      (pss_cons (ps_set (i := 1) scMarks.nd rfl (Or.inl rfl) (pe_op op_cat (pv 1) (pe_lst (pa_cons (pe_tup (pa_cons pe_str (pa_cons (pe_callB call_isX (gl_of rfl lkM_isi) T.b_isi bt_isi (pa_cons (pv 0) (pa_cons (pe_glob (v := .ref A.great) (gl_of rfl lkM_great) T.g_great rfl) pa_nil))) pa_nil))) (pa_cons (pe_tup (pa_cons pe_str (pa_cons (pe_callB call_isX (gl_of rfl lkM_isi) T.b_isi bt_isi (pa_cons (pv 0) (pa_cons (pe_glob (v := .ref A.nest) (gl_of rfl lkM_nest) T.g_nest rfl) pa_nil))) pa_nil))) pa_nil)))))
      (pss_cons (ps_set (i := 1) scMarks.nd rfl (Or.inl rfl) (pe_op op_cat (pv 1) (pe_lst (pa_cons (pe_tup (pa_cons pe_str (pa_cons (pe_callB call_isX (gl_of rfl lkM_isi) T.b_isi bt_isi (pa_cons (pv 0) (pa_cons (pe_bltn (v := .ty "ValueError") (gl_of rfl lkM_ValueError) T.b_ValueError bt_ValueError rfl) pa_nil))) pa_nil))) (pa_cons (pe_tup (pa_cons pe_str (pa_cons (pe_callB call_isX (gl_of rfl lkM_isi) T.b_isi bt_isi (pa_cons (pv 0) (pa_cons (pe_bltn (v := .ty "OverflowError") (gl_of rfl lkM_OverflowError) T.b_OverflowError bt_OverflowError rfl) pa_nil))) pa_nil))) pa_nil)))))
      (pss_cons (ps_set (i := 1) scMarks.nd rfl (Or.inl rfl) (pe_op op_cat (pv 1) (pe_lst (pa_cons (pe_tup (pa_cons pe_str (pa_cons (pe_callB call_isX (gl_of rfl lkM_isi) T.b_isi bt_isi (pa_cons (pv 0) (pa_cons (pe_bltn (v := .ty "LookupError") (gl_of rfl lkM_LookupError) T.b_LookupError bt_LookupError rfl) pa_nil))) pa_nil))) (pa_cons (pe_tup (pa_cons pe_str (pa_cons (pe_callB call_isX (gl_of rfl lkM_isi) T.b_isi bt_isi (pa_cons (pv 0) (pa_cons (pe_bltn (v := .ty "RuntimeError") (gl_of rfl lkM_RuntimeError) T.b_RuntimeError bt_RuntimeError rfl) pa_nil))) pa_nil))) pa_nil)))))
      (pss_cons (ps_set (i := 1) scMarks.nd rfl (Or.inl rfl) (pe_op op_cat (pv 1) (pe_lst (pa_cons (pe_tup (pa_cons pe_str (pa_cons (pe_callB call_isX (gl_of rfl lkM_isi) T.b_isi bt_isi (pa_cons (pv 0) (pa_cons (pe_bltn (v := .ty "TypeError") (gl_of rfl lkM_TypeError) T.b_TypeError bt_TypeError rfl) pa_nil))) pa_nil))) (pa_cons (pe_tup (pa_cons pe_str (pa_cons (pe_callB call_isX (gl_of rfl lkM_isi) T.b_isi bt_isi (pa_cons (pv 0) (pa_cons (pe_bltn (v := .ty "Exception") (gl_of rfl lkM_Exception) T.b_Exception bt_Exception rfl) pa_nil))) pa_nil))) pa_nil)))))
      (pss_one (ps_ret (pe_lc (own := [("mark", 2), ("holds", 3)]) (g := gTup K 2 (gCons (gName 2) (gCons (gName 3) gNil))) (tt := tB (tVar 3)) rfl scMarks.nd (pi_list (pv 1)) (blkOk_by (own := [("mark", 2), ("holds", 3)]) (N := ["error", "some", "mark", "holds"]) (sc := defScope sMarks) (by decide +kernel))
        (fun _ _ _ _ _ => pg_tup rfl (pgs_cons (pg_name (i := 2) scMarks.nd rfl (Or.inl rfl)) (pgs_cons (pg_name (i := 3) scMarks.nd rfl (Or.inl rfl)) pgs_nil))) (fun _ _ _ _ _ => pts_one (pt_val (pv 3))) (fun _ _ _ _ _ => pv 2))))))))))), ?_⟩
    refine rd_set (line0 (by rfl) hx hC (.own _) e0 (.own _) e1 fun S1 H1 v1 s1 g1 p1 => ?_)
    refine rd_set (lineI (by rfl) (by rfl) g1 p1 (Nat.le_of_ble_eq_true rfl) (hx.same s1) hC (.own _) e2 (.own _) e3 fun S2 H2 v2 z2 g2 p2 => ?_)
    have s2 := s1.trans z2
    refine rd_set (lineI (by rfl) (by rfl) g2 p2 (Nat.le_of_ble_eq_true rfl) (hx.same s2) hC (.own _) e4 (.own _) e5 fun S3 H3 v3 z3 g3 p3 => ?_)
    have s3 := s2.trans z3
    refine rd_set (lineI (by rfl) (by rfl) g3 p3 (Nat.le_of_ble_eq_true rfl) (hx.same s3) hC (.own _) e6 (.own _) e7 fun S4 H4 v4 z4 g4 p4 => ?_)
    have s4 := s3.trans z4
    refine rd_set (lineI (by rfl) (by rfl) g4 p4 (Nat.le_of_ble_eq_true rfl) (hx.same s4) hC (.own _) e8 (.own _) e9 fun S5 H5 v5 z5 g5 p5 => ?_)
    have s5 := s4.trans z5
    refine rd_set (lineI (by rfl) (by rfl) g5 p5 (Nat.le_of_ble_eq_true rfl) (hx.same s5) hC (.ty _) e10 (.ty _) e11 fun S6 H6 v6 z6 g6 p6 => ?_)
    have s6 := s5.trans z6
    refine rd_set (lineI (by rfl) (by rfl) g6 p6 (Nat.le_of_ble_eq_true rfl) (hx.same s6) hC (.ty _) e12 (.ty _) e13 fun S7 H7 v7 z7 g7 p7 => ?_)
    have s7 := s6.trans z7
    refine rd_set (lineI (by rfl) (by rfl) g7 p7 (Nat.le_of_ble_eq_true rfl) (hx.same s7) hC (.ty _) e14 (.ty _) e15 fun S8 H8 v8 z8 g8 p8 => ?_)
    have s8 := s7.trans z8
    refine ⟨_, rfl, S8, rfl, ⟨_, SqL.of g8⟩, fun D nD => lc_marks g8 p8 (Nat.le_of_ble_eq_true rfl) (fun D H2 n2 q2 d2 => done D H2 (s8.free n2) (s8.trans q2) ?_) D nD⟩
    rw [d2]
    rfl
end
end Own

set_option Elab.async false
set_option linter.all false
set_option maxRecDepth 100000
set_option maxHeartbeats 4000000
namespace Own
open PySem PySem.Spec PyProof.Rows L2
/-- exceptions that are made of v, class by class with the field's name -/
inductive MadeL (H : Hp) (v : V) : List V → List (Addr × Str) → Prop
  | nil : MadeL H v [] []
  | cons {a : Addr} {xs : List V} {c : Addr × Str} {cs : List (Addr × Str)} (x : XAt H a c.1 [(c.2, v)]) (r : MadeL H v xs cs) : MadeL H v (.ref a :: xs) (c :: cs)
theorem MadeL.same {H H' : Hp} {v : V} (s : Same H H') : ∀ {xs : List V} {cs : List (Addr × Str)}, MadeL H v xs cs → MadeL H' v xs cs
  | _, _, .nil => .nil
  | _, _, .cons x r => .cons (x.same s) (MadeL.same s r)
theorem MadeL.append {H : Hp} {v : V} {ys : List V} {ds : List (Addr × Str)} (b : MadeL H v ys ds) : ∀ {xs : List V} {cs : List (Addr × Str)}, MadeL H v xs cs → MadeL H v (xs ++ ys) (cs ++ ds)
  | _, _, .nil => b
  | _, _, .cons x r => .cons x (MadeL.append b r)
theorem MadeL.len {H : Hp} {v : V} : ∀ {xs : List V} {cs : List (Addr × Str)}, MadeL H v xs cs → xs.length = cs.length
  | _, _, .nil => rfl
  | _, _, .cons _ r => by rw [List.length_cons, List.length_cons, r.len]
theorem MadeL.get {H : Hp} {v : V} : ∀ {xs : List V} {cs : List (Addr × Str)} {i : Nat} {y : V}, MadeL H v xs cs → xs[i]? = some y → ∃ a c, y = .ref a ∧ cs[i]? = some c ∧ XAt H a c.1 [(c.2, v)]
  | _, _, 0, _, .cons x r, e => by
    cases e
    exact ⟨_, _, rfl, rfl, x⟩
  | _, _, i + 1, _, .cons x r, e => MadeL.get (i := i) r e
/-- ta makes such ones -/
def MkA (v : V) (σ : L2.St) (H0 : Hp) (ta : TA) (cs : List (Addr × Str)) : Prop := ∀ (H : Hp) (Q : List V → Hp → Prop), Same H0 H → (∀ vs H', Same H H' → MadeL H' v vs cs → Q vs H') → ta σ H Q
theorem mka_nil {v : V} {σ : L2.St} {H0 : Hp} : MkA v σ H0 tNil [] := fun H Q _ q => q [] H (Same.refl H) .nil
theorem mka_cons {v : V} {σ : L2.St} {H0 : Hp} {C : Addr} {f : Str} {ta : TA} {cs : List (Addr × Str)} (h0 : σ[0]? = some (some v)) (r : MkA v σ H0 ta cs) :
    MkA v σ H0 (tCons (fun σ H Q => tCons (tVar 0) tNil σ H fun vs H1 => vs.length ≤ 1000 ∧ rMkX C (spI1 C f) vs H1 Q) ta) ((C, f) :: cs) := fun H Q s q =>
  ⟨v, h0, Nat.le_of_ble_eq_true rfl, mk1 fun a H1 _ s1 x1 => r H1 _ (s.trans s1) fun vs H2 s2 m => q _ _ (s1.trans s2) (.cons (c := (C, f)) (x1.same s2) m)⟩
theorem mka_consK {v : V} {σ : L2.St} {H0 : Hp} {C : Addr} {f : Str} {ta : TA} {cs : List (Addr × Str)} (h0 : σ[0]? = some (some v)) (r : MkA v σ H0 ta cs) :
    MkA v σ H0 (tCons (fun σ H Q => tCons (tVar 0) tNil σ H fun vs H1 => vs.length = ([f] : List Str).length ∧ rMkX C (spI1 C f) vs H1 Q) ta) ((C, f) :: cs) := fun H Q s q =>
  ⟨v, h0, rfl, mk1 fun a H1 _ s1 x1 => r H1 _ (s.trans s1) fun vs H2 s2 m => q _ _ (s1.trans s2) (.cons (c := (C, f)) (x1.same s2) m)⟩
theorem mka_use {v : V} {σ : L2.St} {H : Hp} {ta : TA} {cs : List (Addr × Str)} {Q : List V → Hp → Prop} (h : MkA v σ H ta cs) (q : ∀ vs H', Same H H' → MadeL H' v vs cs → Q vs H') : ta σ H Q := h H Q (Same.refl H) q
theorem rd_lst {ta : TA} {σ : L2.St} {H : Hp} {Q : VK} (h : ta σ H fun xs H1 => xs.length ≤ sizeLine ∧ ∀ p, H1 p = none → Q (.ref p) (upd H1 p (.lst xs))) : tLst ta σ H Q := h
theorem rd_op {r : R2} {ta tb : TE} {σ : L2.St} {H : Hp} {Q : VK} (h : ta σ H fun x H1 => tb σ H1 fun y H2 => r x y H2 Q) : tOp r ta tb σ H Q := h
section
variable {P : Program} {w : World} {K : PySem.W.Frag} {mg : Str → Option Value} {base : Heap} {A : Adr}
abbrev sI_prog : Stmt := inClass (top 2) 0
theorem scI_prog : FnScope ["self", "place"] ["self", "place"] (defScope sI_prog) := ⟨rfl, rfl, rfl, by decide +kernel, rfl, by decide +kernel, by decide +kernel⟩
theorem okI_prog {f : Addr} {fd : FuncData} (F : Fun K "__init__" "BadProgram.__init__" sI_prog f fd) (o : OexA K A.prog) (t : PySem.W.takerIn K A.prog "place" = some none) : FnOk P w K mg base CX0 1 f fd ["self", "place"] (spI1 A.prog "place") := by
  refine F.ok scI_prog (fun vs H Q E h => ?_) (fun cdv B outer s H vs Q E hr h => ?_)
  · obtain ⟨a, v, rfl, _⟩ := h
    rfl
  · obtain ⟨a, v, rfl, ha, k⟩ := h
    exact ⟨_, pss_one (ps_ostA (pv 0) (pv 1)), ⟨_, rfl, _, rfl, a, A.prog, rfl, o, t, ha, fun d hd hda => k d hd hda⟩⟩
theorem bI_prog {f : Addr} {fd : FuncData} (F : Fun K "__init__" "BadProgram.__init__" sI_prog f fd) : Binds K fd ["self", "place"] [] := F.binds fun _ _ _ _ _ _ us hl => match us, hl with | [_, _], _ => rfl
theorem kI_prog {f : Addr} {fd : FuncData} (F : Fun K "__init__" "BadProgram.__init__" sI_prog f fd) : ∀ (s' : Shared) (self : Value) (us : List Value), us.length = 1 → BindsTo s' fd ⟨[self], (["place"] : List Str).zip us⟩ ((["self", "place"] : List Str).zip (self :: us)) := by
  intro s' self us hl
  obtain ⟨oc, od, kV, doc, pm, an, cdv, ct, osl, rfl, lk, hcd⟩ := F.ex
  match us, hl with
  | [u], _ => exact BindsTo.of_eq rfl
abbrev sI_lot : Stmt := inClass (top 3) 0
theorem scI_lot : FnScope ["self", "value"] ["self", "value"] (defScope sI_lot) := ⟨rfl, rfl, rfl, by decide +kernel, rfl, by decide +kernel, by decide +kernel⟩
theorem okI_lot {f : Addr} {fd : FuncData} (F : Fun K "__init__" "BadLot.__init__" sI_lot f fd) (o : OexA K A.lot) (t : PySem.W.takerIn K A.lot "value" = some none) : FnOk P w K mg base CX0 1 f fd ["self", "value"] (spI1 A.lot "value") := by
  refine F.ok scI_lot (fun vs H Q E h => ?_) (fun cdv B outer s H vs Q E hr h => ?_)
  · obtain ⟨a, v, rfl, _⟩ := h
    rfl
  · obtain ⟨a, v, rfl, ha, k⟩ := h
    exact ⟨_, pss_one (ps_ostA (pv 0) (pv 1)), ⟨_, rfl, _, rfl, a, A.lot, rfl, o, t, ha, fun d hd hda => k d hd hda⟩⟩
theorem bI_lot {f : Addr} {fd : FuncData} (F : Fun K "__init__" "BadLot.__init__" sI_lot f fd) : Binds K fd ["self", "value"] [] := F.binds fun _ _ _ _ _ _ us hl => match us, hl with | [_, _], _ => rfl
theorem kI_lot {f : Addr} {fd : FuncData} (F : Fun K "__init__" "BadLot.__init__" sI_lot f fd) : ∀ (s' : Shared) (self : Value) (us : List Value), us.length = 1 → BindsTo s' fd ⟨[self], (["value"] : List Str).zip us⟩ ((["self", "value"] : List Str).zip (self :: us)) := by
  intro s' self us hl
  obtain ⟨oc, od, kV, doc, pm, an, cdv, ct, osl, rfl, lk, hcd⟩ := F.ex
  match us, hl with
  | [u], _ => exact BindsTo.of_eq rfl
abbrev sI_rnd : Stmt := inClass (top 4) 0
theorem scI_rnd : FnScope ["self", "value"] ["self", "value"] (defScope sI_rnd) := ⟨rfl, rfl, rfl, by decide +kernel, rfl, by decide +kernel, by decide +kernel⟩
theorem okI_rnd {f : Addr} {fd : FuncData} (F : Fun K "__init__" "BadRound.__init__" sI_rnd f fd) (o : OexA K A.rnd) (t : PySem.W.takerIn K A.rnd "value" = some none) : FnOk P w K mg base CX0 1 f fd ["self", "value"] (spI1 A.rnd "value") := by
  refine F.ok scI_rnd (fun vs H Q E h => ?_) (fun cdv B outer s H vs Q E hr h => ?_)
  · obtain ⟨a, v, rfl, _⟩ := h
    rfl
  · obtain ⟨a, v, rfl, ha, k⟩ := h
    exact ⟨_, pss_one (ps_ostA (pv 0) (pv 1)), ⟨_, rfl, _, rfl, a, A.rnd, rfl, o, t, ha, fun d hd hda => k d hd hda⟩⟩
theorem bI_rnd {f : Addr} {fd : FuncData} (F : Fun K "__init__" "BadRound.__init__" sI_rnd f fd) : Binds K fd ["self", "value"] [] := F.binds fun _ _ _ _ _ _ us hl => match us, hl with | [_, _], _ => rfl
theorem kI_rnd {f : Addr} {fd : FuncData} (F : Fun K "__init__" "BadRound.__init__" sI_rnd f fd) : ∀ (s' : Shared) (self : Value) (us : List Value), us.length = 1 → BindsTo s' fd ⟨[self], (["value"] : List Str).zip us⟩ ((["self", "value"] : List Str).zip (self :: us)) := by
  intro s' self us hl
  obtain ⟨oc, od, kV, doc, pm, an, cdv, ct, osl, rfl, lk, hcd⟩ := F.ex
  match us, hl with
  | [u], _ => exact BindsTo.of_eq rfl
abbrev sI_num : Stmt := inClass (top 5) 0
theorem scI_num : FnScope ["self", "value"] ["self", "value"] (defScope sI_num) := ⟨rfl, rfl, rfl, by decide +kernel, rfl, by decide +kernel, by decide +kernel⟩
theorem okI_num {f : Addr} {fd : FuncData} (F : Fun K "__init__" "BadNumber.__init__" sI_num f fd) (o : OexA K A.num) (t : PySem.W.takerIn K A.num "value" = some none) : FnOk P w K mg base CX0 1 f fd ["self", "value"] (spI1 A.num "value") := by
  refine F.ok scI_num (fun vs H Q E h => ?_) (fun cdv B outer s H vs Q E hr h => ?_)
  · obtain ⟨a, v, rfl, _⟩ := h
    rfl
  · obtain ⟨a, v, rfl, ha, k⟩ := h
    exact ⟨_, pss_one (ps_ostA (pv 0) (pv 1)), ⟨_, rfl, _, rfl, a, A.num, rfl, o, t, ha, fun d hd hda => k d hd hda⟩⟩
theorem bI_num {f : Addr} {fd : FuncData} (F : Fun K "__init__" "BadNumber.__init__" sI_num f fd) : Binds K fd ["self", "value"] [] := F.binds fun _ _ _ _ _ _ us hl => match us, hl with | [_, _], _ => rfl
theorem kI_num {f : Addr} {fd : FuncData} (F : Fun K "__init__" "BadNumber.__init__" sI_num f fd) : ∀ (s' : Shared) (self : Value) (us : List Value), us.length = 1 → BindsTo s' fd ⟨[self], (["value"] : List Str).zip us⟩ ((["self", "value"] : List Str).zip (self :: us)) := by
  intro s' self us hl
  obtain ⟨oc, od, kV, doc, pm, an, cdv, ct, osl, rfl, lk, hcd⟩ := F.ex
  match us, hl with
  | [u], _ => exact BindsTo.of_eq rfl
abbrev sI_box : Stmt := inClass (top 6) 0
theorem scI_box : FnScope ["self", "value"] ["self", "value"] (defScope sI_box) := ⟨rfl, rfl, rfl, by decide +kernel, rfl, by decide +kernel, by decide +kernel⟩
theorem okI_box {f : Addr} {fd : FuncData} (F : Fun K "__init__" "BadBox.__init__" sI_box f fd) (o : OexA K A.box) (t : PySem.W.takerIn K A.box "value" = some none) : FnOk P w K mg base CX0 1 f fd ["self", "value"] (spI1 A.box "value") := by
  refine F.ok scI_box (fun vs H Q E h => ?_) (fun cdv B outer s H vs Q E hr h => ?_)
  · obtain ⟨a, v, rfl, _⟩ := h
    rfl
  · obtain ⟨a, v, rfl, ha, k⟩ := h
    exact ⟨_, pss_one (ps_ostA (pv 0) (pv 1)), ⟨_, rfl, _, rfl, a, A.box, rfl, o, t, ha, fun d hd hda => k d hd hda⟩⟩
theorem bI_box {f : Addr} {fd : FuncData} (F : Fun K "__init__" "BadBox.__init__" sI_box f fd) : Binds K fd ["self", "value"] [] := F.binds fun _ _ _ _ _ _ us hl => match us, hl with | [_, _], _ => rfl
theorem kI_box {f : Addr} {fd : FuncData} (F : Fun K "__init__" "BadBox.__init__" sI_box f fd) : ∀ (s' : Shared) (self : Value) (us : List Value), us.length = 1 → BindsTo s' fd ⟨[self], (["value"] : List Str).zip us⟩ ((["self", "value"] : List Str).zip (self :: us)) := by
  intro s' self us hl
  obtain ⟨oc, od, kV, doc, pm, an, cdv, ct, osl, rfl, lk, hcd⟩ := F.ex
  match us, hl with
  | [u], _ => exact BindsTo.of_eq rfl
abbrev sI_form : Stmt := inClass (top 7) 0
theorem scI_form : FnScope ["self", "value"] ["self", "value"] (defScope sI_form) := ⟨rfl, rfl, rfl, by decide +kernel, rfl, by decide +kernel, by decide +kernel⟩
theorem okI_form {f : Addr} {fd : FuncData} (F : Fun K "__init__" "BadForm.__init__" sI_form f fd) (o : OexA K A.form) (t : PySem.W.takerIn K A.form "value" = some none) : FnOk P w K mg base CX0 1 f fd ["self", "value"] (spI1 A.form "value") := by
  refine F.ok scI_form (fun vs H Q E h => ?_) (fun cdv B outer s H vs Q E hr h => ?_)
  · obtain ⟨a, v, rfl, _⟩ := h
    rfl
  · obtain ⟨a, v, rfl, ha, k⟩ := h
    exact ⟨_, pss_one (ps_ostA (pv 0) (pv 1)), ⟨_, rfl, _, rfl, a, A.form, rfl, o, t, ha, fun d hd hda => k d hd hda⟩⟩
theorem bI_form {f : Addr} {fd : FuncData} (F : Fun K "__init__" "BadForm.__init__" sI_form f fd) : Binds K fd ["self", "value"] [] := F.binds fun _ _ _ _ _ _ us hl => match us, hl with | [_, _], _ => rfl
theorem kI_form {f : Addr} {fd : FuncData} (F : Fun K "__init__" "BadForm.__init__" sI_form f fd) : ∀ (s' : Shared) (self : Value) (us : List Value), us.length = 1 → BindsTo s' fd ⟨[self], (["value"] : List Str).zip us⟩ ((["self", "value"] : List Str).zip (self :: us)) := by
  intro s' self us hl
  obtain ⟨oc, od, kV, doc, pm, an, cdv, ct, osl, rfl, lk, hcd⟩ := F.ex
  match us, hl with
  | [u], _ => exact BindsTo.of_eq rfl
abbrev sI_deal : Stmt := inClass (top 8) 0
theorem scI_deal : FnScope ["self", "place"] ["self", "place"] (defScope sI_deal) := ⟨rfl, rfl, rfl, by decide +kernel, rfl, by decide +kernel, by decide +kernel⟩
theorem okI_deal {f : Addr} {fd : FuncData} (F : Fun K "__init__" "BadDealing.__init__" sI_deal f fd) (o : OexA K A.deal) (t : PySem.W.takerIn K A.deal "place" = some none) : FnOk P w K mg base CX0 1 f fd ["self", "place"] (spI1 A.deal "place") := by
  refine F.ok scI_deal (fun vs H Q E h => ?_) (fun cdv B outer s H vs Q E hr h => ?_)
  · obtain ⟨a, v, rfl, _⟩ := h
    rfl
  · obtain ⟨a, v, rfl, ha, k⟩ := h
    exact ⟨_, pss_one (ps_ostA (pv 0) (pv 1)), ⟨_, rfl, _, rfl, a, A.deal, rfl, o, t, ha, fun d hd hda => k d hd hda⟩⟩
theorem bI_deal {f : Addr} {fd : FuncData} (F : Fun K "__init__" "BadDealing.__init__" sI_deal f fd) : Binds K fd ["self", "place"] [] := F.binds fun _ _ _ _ _ _ us hl => match us, hl with | [_, _], _ => rfl
theorem kI_deal {f : Addr} {fd : FuncData} (F : Fun K "__init__" "BadDealing.__init__" sI_deal f fd) : ∀ (s' : Shared) (self : Value) (us : List Value), us.length = 1 → BindsTo s' fd ⟨[self], (["place"] : List Str).zip us⟩ ((["self", "place"] : List Str).zip (self :: us)) := by
  intro s' self us hl
  obtain ⟨oc, od, kV, doc, pm, an, cdv, ct, osl, rfl, lk, hcd⟩ := F.ex
  match us, hl with
  | [u], _ => exact BindsTo.of_eq rfl
abbrev sI_paper : Stmt := inClass (top 9) 0
theorem scI_paper : FnScope ["self", "word"] ["self", "word"] (defScope sI_paper) := ⟨rfl, rfl, rfl, by decide +kernel, rfl, by decide +kernel, by decide +kernel⟩
theorem okI_paper {f : Addr} {fd : FuncData} (F : Fun K "__init__" "BadPaper.__init__" sI_paper f fd) (o : OexA K A.paper) (t : PySem.W.takerIn K A.paper "word" = some none) : FnOk P w K mg base CX0 1 f fd ["self", "word"] (spI1 A.paper "word") := by
  refine F.ok scI_paper (fun vs H Q E h => ?_) (fun cdv B outer s H vs Q E hr h => ?_)
  · obtain ⟨a, v, rfl, _⟩ := h
    rfl
  · obtain ⟨a, v, rfl, ha, k⟩ := h
    exact ⟨_, pss_one (ps_ostA (pv 0) (pv 1)), ⟨_, rfl, _, rfl, a, A.paper, rfl, o, t, ha, fun d hd hda => k d hd hda⟩⟩
theorem bI_paper {f : Addr} {fd : FuncData} (F : Fun K "__init__" "BadPaper.__init__" sI_paper f fd) : Binds K fd ["self", "word"] [] := F.binds fun _ _ _ _ _ _ us hl => match us, hl with | [_, _], _ => rfl
theorem kI_paper {f : Addr} {fd : FuncData} (F : Fun K "__init__" "BadPaper.__init__" sI_paper f fd) : ∀ (s' : Shared) (self : Value) (us : List Value), us.length = 1 → BindsTo s' fd ⟨[self], (["word"] : List Str).zip us⟩ ((["self", "word"] : List Str).zip (self :: us)) := by
  intro s' self us hl
  obtain ⟨oc, od, kV, doc, pm, an, cdv, ct, osl, rfl, lk, hcd⟩ := F.ex
  match us, hl with
  | [u], _ => exact BindsTo.of_eq rfl
abbrev sI_great : Stmt := inClass (top 10) 0
theorem scI_great : FnScope ["self", "most"] ["self", "most"] (defScope sI_great) := ⟨rfl, rfl, rfl, by decide +kernel, rfl, by decide +kernel, by decide +kernel⟩
theorem okI_great {f : Addr} {fd : FuncData} (F : Fun K "__init__" "TooGreat.__init__" sI_great f fd) (o : OexA K A.great) (t : PySem.W.takerIn K A.great "most" = some none) : FnOk P w K mg base CX0 1 f fd ["self", "most"] (spI1 A.great "most") := by
  refine F.ok scI_great (fun vs H Q E h => ?_) (fun cdv B outer s H vs Q E hr h => ?_)
  · obtain ⟨a, v, rfl, _⟩ := h
    rfl
  · obtain ⟨a, v, rfl, ha, k⟩ := h
    exact ⟨_, pss_one (ps_ostA (pv 0) (pv 1)), ⟨_, rfl, _, rfl, a, A.great, rfl, o, t, ha, fun d hd hda => k d hd hda⟩⟩
theorem bI_great {f : Addr} {fd : FuncData} (F : Fun K "__init__" "TooGreat.__init__" sI_great f fd) : Binds K fd ["self", "most"] [] := F.binds fun _ _ _ _ _ _ us hl => match us, hl with | [_, _], _ => rfl
theorem kI_great {f : Addr} {fd : FuncData} (F : Fun K "__init__" "TooGreat.__init__" sI_great f fd) : ∀ (s' : Shared) (self : Value) (us : List Value), us.length = 1 → BindsTo s' fd ⟨[self], (["most"] : List Str).zip us⟩ ((["self", "most"] : List Str).zip (self :: us)) := by
  intro s' self us hl
  obtain ⟨oc, od, kV, doc, pm, an, cdv, ct, osl, rfl, lk, hcd⟩ := F.ex
  match us, hl with
  | [u], _ => exact BindsTo.of_eq rfl
/-- the classes that are made, with their __init__ -/
structure TI (K : PySem.W.Frag) (A : Adr) : Prop where
  m_prog : ∃ fI fd, XA K A.prog fI ∧ Fun K "__init__" "BadProgram.__init__" sI_prog fI fd
  n_prog : PySem.W.findIn K (.ref A.prog) "place" = some none
  t_prog : PySem.W.takerIn K A.prog "place" = some none
  m_lot : ∃ fI fd, XA K A.lot fI ∧ Fun K "__init__" "BadLot.__init__" sI_lot fI fd
  n_lot : PySem.W.findIn K (.ref A.lot) "value" = some none
  t_lot : PySem.W.takerIn K A.lot "value" = some none
  m_rnd : ∃ fI fd, XA K A.rnd fI ∧ Fun K "__init__" "BadRound.__init__" sI_rnd fI fd
  n_rnd : PySem.W.findIn K (.ref A.rnd) "value" = some none
  t_rnd : PySem.W.takerIn K A.rnd "value" = some none
  m_num : ∃ fI fd, XA K A.num fI ∧ Fun K "__init__" "BadNumber.__init__" sI_num fI fd
  n_num : PySem.W.findIn K (.ref A.num) "value" = some none
  t_num : PySem.W.takerIn K A.num "value" = some none
  m_box : ∃ fI fd, XA K A.box fI ∧ Fun K "__init__" "BadBox.__init__" sI_box fI fd
  n_box : PySem.W.findIn K (.ref A.box) "value" = some none
  t_box : PySem.W.takerIn K A.box "value" = some none
  m_form : ∃ fI fd, XA K A.form fI ∧ Fun K "__init__" "BadForm.__init__" sI_form fI fd
  n_form : PySem.W.findIn K (.ref A.form) "value" = some none
  t_form : PySem.W.takerIn K A.form "value" = some none
  m_deal : ∃ fI fd, XA K A.deal fI ∧ Fun K "__init__" "BadDealing.__init__" sI_deal fI fd
  n_deal : PySem.W.findIn K (.ref A.deal) "place" = some none
  t_deal : PySem.W.takerIn K A.deal "place" = some none
  m_paper : ∃ fI fd, XA K A.paper fI ∧ Fun K "__init__" "BadPaper.__init__" sI_paper fI fd
  n_paper : PySem.W.findIn K (.ref A.paper) "word" = some none
  t_paper : PySem.W.takerIn K A.paper "word" = some none
  m_great : ∃ fI fd, XA K A.great fI ∧ Fun K "__init__" "TooGreat.__init__" sI_great fI fd
  n_great : PySem.W.findIn K (.ref A.great) "most" = some none
  t_great : PySem.W.takerIn K A.great "most" = some none
abbrev sDue : Stmt := top 15
abbrev sWords : Stmt := top 16
abbrev sPlace : Stmt := top 17
abbrev sNames : Stmt := top 18
abbrev sFields : Stmt := top 19
def nine : List Str := ["program", "lot", "round", "number", "box", "form", "dealing", "paper", "great"]
def spWords : Sp := fun vs H Q _ => vs = [] ∧ ∀ (p : Addr) (H' : Hp), H p = none → Same H H' → H' p = some (.lst (nine.map V.str)) → Q (.ref p) H'
theorem scWords : FnScope [] [] (defScope sWords) := ⟨rfl, rfl, rfl, by decide +kernel, rfl, by decide +kernel, by decide +kernel⟩
theorem ok_words {f : Addr} {fd : FuncData} (F : Fun K "_law_words" "_law_words" sWords f fd) : FnOk P w K mg base CX0 1 f fd [] spWords := by
  refine F.ok scWords (fun vs H Q E h => ?_) (fun cdv B outer s H vs Q E hr h => ?_)
  · obtain ⟨rfl, _⟩ := h
    rfl
  · obtain ⟨rfl, done⟩ := h
    refine ⟨_, pss_one (ps_ret (pe_lst (pa_cons pe_str (pa_cons pe_str (pa_cons pe_str (pa_cons pe_str (pa_cons pe_str (pa_cons pe_str (pa_cons pe_str (pa_cons pe_str (pa_cons pe_str pa_nil))))))))))), (by show 9 ≤ sizeLine; decide), fun p hp => ?_⟩
    exact done p _ hp (same_upd (Same.refl H) hp) upd_same
/-- the words that are due -/
def dueW (n : Str) : List Str := if decide (V.str n = V.str "great") = true then [n, "over", "any"] else [n, "own", "sort", "any"]
def spDue : Sp := fun vs H Q _ => ∃ n : Str, vs = [.str n] ∧ ∀ (p : Addr) (H' : Hp), H p = none → Same H H' → H' p = some (.lst ((dueW n).map V.str)) → Q (.ref p) H'
theorem scDue : FnScope ["mark"] ["mark"] (defScope sDue) := ⟨rfl, rfl, rfl, by decide +kernel, rfl, by decide +kernel, by decide +kernel⟩
theorem ok_due {f : Addr} {fd : FuncData} (F : Fun K "_law_due" "_law_due" sDue f fd) : FnOk P w K mg base CX0 1 f fd ["mark"] spDue := by
  refine F.ok scDue (fun vs H Q E h => ?_) (fun cdv B outer s H vs Q E hr h => ?_)
  · obtain ⟨n, rfl, _⟩ := h
    rfl
  · obtain ⟨n, rfl, done⟩ := h
    refine ⟨_, pss_one (ps_ret (pe_ifExp (pt_cmpR op_eq (pv 0) pe_str (nomark _)) (pe_lst (pa_cons (pv 0) (pa_cons pe_str (pa_cons pe_str pa_nil)))) (pe_lst (pa_cons (pv 0) (pa_cons pe_str (pa_cons pe_str (pa_cons pe_str pa_nil))))))), ?_⟩
    refine ⟨_, rfl, rfl, _, rfl, ?_⟩
    unfold dueW at done
    refine ite2 (fun hb => ?_) (fun hb => ?_)
    · rw [if_pos hb] at done
      exact ⟨_, rfl, Nat.le_of_ble_eq_true rfl, fun p hp => done p _ hp (same_upd (Same.refl H) hp) upd_same⟩
    · rw [if_neg hb] at done
      exact ⟨_, rfl, Nat.le_of_ble_eq_true rfl, fun p hp => done p _ hp (same_upd (Same.refl H) hp) upd_same⟩
/-- the classes that are made, with the names of their fields -/
def kinds (A : Adr) : List (Addr × Str) := [(A.prog, "place"), (A.lot, "value"), (A.rnd, "value"), (A.num, "value"), (A.box, "value"), (A.form, "value"), (A.deal, "place"), (A.paper, "word"), (A.great, "most")]
def spMade (A : Adr) : Sp := fun vs H Q _ => ∃ v : V, vs = [v] ∧ ∀ (S : Addr) (H' : Hp) (xs : List V), H S = none → Same H H' → H' S = some (.lst xs) → MadeL H' v xs (kinds A) → Q (.ref S) H'
theorem scPlace : FnScope ["thing", "found"] ["thing"] (defScope sPlace) := ⟨rfl, rfl, rfl, by decide +kernel, rfl, by decide +kernel, by decide +kernel⟩
theorem scNames : FnScope ["thing", "found"] ["thing"] (defScope sNames) := ⟨rfl, rfl, rfl, by decide +kernel, rfl, by decide +kernel, by decide +kernel⟩
theorem ok_place {f : Addr} {fd : FuncData} (F : Fun K "_law_by_place" "_law_by_place" sPlace f fd) (T : TX K mg A) (I : TI K A) : FnOk P w K mg base CX0 3 f fd ["thing"] (spMade A) := by
  refine F.ok scPlace (fun vs H Q E h => ?_) (fun cdv B outer s H vs Q E hr h => ?_)
  · obtain ⟨v, rfl, _⟩ := h
    rfl
  · obtain ⟨v, rfl, done⟩ := h
    obtain ⟨f_prog, d_prog, X_prog, F_prog⟩ := I.m_prog
    have G_prog : FnOk P w K mg base CX0 1 f_prog d_prog ["self", "place"] (spI1 A.prog "place") := okI_prog F_prog X_prog.o I.t_prog
    obtain ⟨f_lot, d_lot, X_lot, F_lot⟩ := I.m_lot
    have G_lot : FnOk P w K mg base CX0 1 f_lot d_lot ["self", "value"] (spI1 A.lot "value") := okI_lot F_lot X_lot.o I.t_lot
    obtain ⟨f_rnd, d_rnd, X_rnd, F_rnd⟩ := I.m_rnd
    have G_rnd : FnOk P w K mg base CX0 1 f_rnd d_rnd ["self", "value"] (spI1 A.rnd "value") := okI_rnd F_rnd X_rnd.o I.t_rnd
    obtain ⟨f_num, d_num, X_num, F_num⟩ := I.m_num
    have G_num : FnOk P w K mg base CX0 1 f_num d_num ["self", "value"] (spI1 A.num "value") := okI_num F_num X_num.o I.t_num
    obtain ⟨f_box, d_box, X_box, F_box⟩ := I.m_box
    have G_box : FnOk P w K mg base CX0 1 f_box d_box ["self", "value"] (spI1 A.box "value") := okI_box F_box X_box.o I.t_box
    obtain ⟨f_form, d_form, X_form, F_form⟩ := I.m_form
    have G_form : FnOk P w K mg base CX0 1 f_form d_form ["self", "value"] (spI1 A.form "value") := okI_form F_form X_form.o I.t_form
    obtain ⟨f_deal, d_deal, X_deal, F_deal⟩ := I.m_deal
    have G_deal : FnOk P w K mg base CX0 1 f_deal d_deal ["self", "place"] (spI1 A.deal "place") := okI_deal F_deal X_deal.o I.t_deal
    obtain ⟨f_paper, d_paper, X_paper, F_paper⟩ := I.m_paper
    have G_paper : FnOk P w K mg base CX0 1 f_paper d_paper ["self", "word"] (spI1 A.paper "word") := okI_paper F_paper X_paper.o I.t_paper
    obtain ⟨f_great, d_great, X_great, F_great⟩ := I.m_great
    have G_great : FnOk P w K mg base CX0 1 f_great d_great ["self", "most"] (spI1 A.great "most") := okI_great F_great X_great.o I.t_great
    refine ⟨_, pss_cons (ps_set (i := 1) scPlace.nd rfl (Or.inl rfl) (pe_lst (pa_cons (pe_mka X_prog G_prog hr (bI_prog F_prog) (gl_of (sc := defScope sPlace) rfl (by decide +kernel)) T.g_prog (pa_cons (pv 0) pa_nil)) (pa_cons (pe_mka X_lot G_lot hr (bI_lot F_lot) (gl_of (sc := defScope sPlace) rfl (by decide +kernel)) T.g_lot (pa_cons (pv 0) pa_nil)) (pa_cons (pe_mka X_rnd G_rnd hr (bI_rnd F_rnd) (gl_of (sc := defScope sPlace) rfl (by decide +kernel)) T.g_rnd (pa_cons (pv 0) pa_nil)) (pa_cons (pe_mka X_num G_num hr (bI_num F_num) (gl_of (sc := defScope sPlace) rfl (by decide +kernel)) T.g_num (pa_cons (pv 0) pa_nil)) (pa_cons (pe_mka X_box G_box hr (bI_box F_box) (gl_of (sc := defScope sPlace) rfl (by decide +kernel)) T.g_box (pa_cons (pv 0) pa_nil)) pa_nil))))))) (pss_one (ps_ret (pe_op op_cat (pv 1) (pe_lst (pa_cons (pe_mka X_form G_form hr (bI_form F_form) (gl_of (sc := defScope sPlace) rfl (by decide +kernel)) T.g_form (pa_cons (pv 0) pa_nil)) (pa_cons (pe_mka X_deal G_deal hr (bI_deal F_deal) (gl_of (sc := defScope sPlace) rfl (by decide +kernel)) T.g_deal (pa_cons (pv 0) pa_nil)) (pa_cons (pe_mka X_paper G_paper hr (bI_paper F_paper) (gl_of (sc := defScope sPlace) rfl (by decide +kernel)) T.g_paper (pa_cons (pv 0) pa_nil)) (pa_cons (pe_mka X_great G_great hr (bI_great F_great) (gl_of (sc := defScope sPlace) rfl (by decide +kernel)) T.g_great (pa_cons (pv 0) pa_nil)) pa_nil)))))))), ?_⟩
    refine rd_set (rd_lst (mka_use (mka_cons (v := v) (σ := [some v, none]) (C := A.prog) (f := "place") rfl (mka_cons (v := v) (σ := [some v, none]) (C := A.lot) (f := "value") rfl (mka_cons (v := v) (σ := [some v, none]) (C := A.rnd) (f := "value") rfl (mka_cons (v := v) (σ := [some v, none]) (C := A.num) (f := "value") rfl (mka_cons (v := v) (σ := [some v, none]) (C := A.box) (f := "value") rfl mka_nil))))) fun xs H1 s1 m1 => ⟨line200 (by rw [m1.len]; exact Nat.le_of_ble_eq_true rfl), fun p np => ?_⟩))
    have s2 := same_upd s1 np (o := .lst xs)
    refine rd_ret (rd_op ⟨_, rfl, rd_lst (mka_use (mka_cons (v := v) (σ := [some v, some (.ref p)]) (C := A.form) (f := "value") rfl (mka_cons (v := v) (σ := [some v, some (.ref p)]) (C := A.deal) (f := "place") rfl (mka_cons (v := v) (σ := [some v, some (.ref p)]) (C := A.paper) (f := "word") rfl (mka_cons (v := v) (σ := [some v, some (.ref p)]) (C := A.great) (f := "most") rfl mka_nil)))) fun ys H3 s3 m3 => ⟨line200 (by rw [m3.len]; exact Nat.le_of_ble_eq_true rfl), fun q nq => ?_⟩)⟩)
    have s4 := same_upd s3 nq (o := .lst ys)
    refine ⟨p, q, xs, ys, rfl, rfl, s4 _ _ upd_same, upd_same, line200 (by rw [m1.len, m3.len]; exact Nat.le_of_ble_eq_true rfl), fun S nS => ?_⟩
    have s5 := same_upd s4 nS (o := .lst (xs ++ ys))
    have s6 := same_upd (Same.refl H1) np (o := .lst xs)
    exact done S _ _ ((s2.trans s4).free nS) (s2.trans s5) upd_same (MadeL.append (m3.same (same_upd (same_upd (Same.refl H3) nq) nS)) (m1.same (s6.trans s5)))
theorem ok_names {f : Addr} {fd : FuncData} (F : Fun K "_law_by_names" "_law_by_names" sNames f fd) (T : TX K mg A) (I : TI K A) : FnOk P w K mg base CX0 3 f fd ["thing"] (spMade A) := by
  refine F.ok scNames (fun vs H Q E h => ?_) (fun cdv B outer s H vs Q E hr h => ?_)
  · obtain ⟨v, rfl, _⟩ := h
    rfl
  · obtain ⟨v, rfl, done⟩ := h
    obtain ⟨f_prog, d_prog, X_prog, F_prog⟩ := I.m_prog
    have G_prog : FnOk P w K mg base CX0 1 f_prog d_prog ["self", "place"] (spI1 A.prog "place") := okI_prog F_prog X_prog.o I.t_prog
    obtain ⟨f_lot, d_lot, X_lot, F_lot⟩ := I.m_lot
    have G_lot : FnOk P w K mg base CX0 1 f_lot d_lot ["self", "value"] (spI1 A.lot "value") := okI_lot F_lot X_lot.o I.t_lot
    obtain ⟨f_rnd, d_rnd, X_rnd, F_rnd⟩ := I.m_rnd
    have G_rnd : FnOk P w K mg base CX0 1 f_rnd d_rnd ["self", "value"] (spI1 A.rnd "value") := okI_rnd F_rnd X_rnd.o I.t_rnd
    obtain ⟨f_num, d_num, X_num, F_num⟩ := I.m_num
    have G_num : FnOk P w K mg base CX0 1 f_num d_num ["self", "value"] (spI1 A.num "value") := okI_num F_num X_num.o I.t_num
    obtain ⟨f_box, d_box, X_box, F_box⟩ := I.m_box
    have G_box : FnOk P w K mg base CX0 1 f_box d_box ["self", "value"] (spI1 A.box "value") := okI_box F_box X_box.o I.t_box
    obtain ⟨f_form, d_form, X_form, F_form⟩ := I.m_form
    have G_form : FnOk P w K mg base CX0 1 f_form d_form ["self", "value"] (spI1 A.form "value") := okI_form F_form X_form.o I.t_form
    obtain ⟨f_deal, d_deal, X_deal, F_deal⟩ := I.m_deal
    have G_deal : FnOk P w K mg base CX0 1 f_deal d_deal ["self", "place"] (spI1 A.deal "place") := okI_deal F_deal X_deal.o I.t_deal
    obtain ⟨f_paper, d_paper, X_paper, F_paper⟩ := I.m_paper
    have G_paper : FnOk P w K mg base CX0 1 f_paper d_paper ["self", "word"] (spI1 A.paper "word") := okI_paper F_paper X_paper.o I.t_paper
    obtain ⟨f_great, d_great, X_great, F_great⟩ := I.m_great
    have G_great : FnOk P w K mg base CX0 1 f_great d_great ["self", "most"] (spI1 A.great "most") := okI_great F_great X_great.o I.t_great
    refine ⟨_, pss_cons (ps_set (i := 1) scNames.nd rfl (Or.inl rfl) (pe_lst (pa_cons (pe_mkaK (ks := ["place"]) (ga := fun l => l) X_prog G_prog hr (kI_prog F_prog) (fun r _ => r) (gl_of (sc := defScope sNames) rfl (by decide +kernel)) T.g_prog (pk_cons (pv 0) pk_nil)) (pa_cons (pe_mkaK (ks := ["value"]) (ga := fun l => l) X_lot G_lot hr (kI_lot F_lot) (fun r _ => r) (gl_of (sc := defScope sNames) rfl (by decide +kernel)) T.g_lot (pk_cons (pv 0) pk_nil)) (pa_cons (pe_mkaK (ks := ["value"]) (ga := fun l => l) X_rnd G_rnd hr (kI_rnd F_rnd) (fun r _ => r) (gl_of (sc := defScope sNames) rfl (by decide +kernel)) T.g_rnd (pk_cons (pv 0) pk_nil)) (pa_cons (pe_mkaK (ks := ["value"]) (ga := fun l => l) X_num G_num hr (kI_num F_num) (fun r _ => r) (gl_of (sc := defScope sNames) rfl (by decide +kernel)) T.g_num (pk_cons (pv 0) pk_nil)) pa_nil)))))) (pss_cons (ps_set (i := 1) scNames.nd rfl (Or.inl rfl) (pe_op op_cat (pv 1) (pe_lst (pa_cons (pe_mkaK (ks := ["value"]) (ga := fun l => l) X_box G_box hr (kI_box F_box) (fun r _ => r) (gl_of (sc := defScope sNames) rfl (by decide +kernel)) T.g_box (pk_cons (pv 0) pk_nil)) (pa_cons (pe_mkaK (ks := ["value"]) (ga := fun l => l) X_form G_form hr (kI_form F_form) (fun r _ => r) (gl_of (sc := defScope sNames) rfl (by decide +kernel)) T.g_form (pk_cons (pv 0) pk_nil)) (pa_cons (pe_mkaK (ks := ["place"]) (ga := fun l => l) X_deal G_deal hr (kI_deal F_deal) (fun r _ => r) (gl_of (sc := defScope sNames) rfl (by decide +kernel)) T.g_deal (pk_cons (pv 0) pk_nil)) pa_nil)))))) (pss_one (ps_ret (pe_op op_cat (pv 1) (pe_lst (pa_cons (pe_mkaK (ks := ["word"]) (ga := fun l => l) X_paper G_paper hr (kI_paper F_paper) (fun r _ => r) (gl_of (sc := defScope sNames) rfl (by decide +kernel)) T.g_paper (pk_cons (pv 0) pk_nil)) (pa_cons (pe_mkaK (ks := ["most"]) (ga := fun l => l) X_great G_great hr (kI_great F_great) (fun r _ => r) (gl_of (sc := defScope sNames) rfl (by decide +kernel)) T.g_great (pk_cons (pv 0) pk_nil)) pa_nil))))))), ?_⟩
    refine rd_set (rd_lst (mka_use (mka_consK (v := v) (σ := [some v, none]) (C := A.prog) (f := "place") rfl (mka_consK (v := v) (σ := [some v, none]) (C := A.lot) (f := "value") rfl (mka_consK (v := v) (σ := [some v, none]) (C := A.rnd) (f := "value") rfl (mka_consK (v := v) (σ := [some v, none]) (C := A.num) (f := "value") rfl mka_nil)))) fun xs H1 s1 m1 => ⟨line200 (by rw [m1.len]; exact Nat.le_of_ble_eq_true rfl), fun p np => ?_⟩))
    have s2 := same_upd s1 np (o := .lst xs)
    refine rd_set (rd_op ⟨_, rfl, rd_lst (mka_use (mka_consK (v := v) (σ := [some v, some (.ref p)]) (C := A.box) (f := "value") rfl (mka_consK (v := v) (σ := [some v, some (.ref p)]) (C := A.form) (f := "value") rfl (mka_consK (v := v) (σ := [some v, some (.ref p)]) (C := A.deal) (f := "place") rfl mka_nil))) fun ys H3 s3 m3 => ⟨line200 (by rw [m3.len]; exact Nat.le_of_ble_eq_true rfl), fun q nq => ?_⟩)⟩)
    have s4 := same_upd s3 nq (o := .lst ys)
    refine ⟨p, q, xs, ys, rfl, rfl, s4 _ _ upd_same, upd_same, line200 (by rw [m1.len, m3.len]; exact Nat.le_of_ble_eq_true rfl), fun S nS => ?_⟩
    have s5 := same_upd s4 nS (o := .lst (xs ++ ys))
    have s6 := same_upd (Same.refl H1) np (o := .lst xs)
    have m5 : MadeL _ v (xs ++ ys) _ := MadeL.append (m3.same (same_upd (same_upd (Same.refl H3) nq) nS)) (m1.same (s6.trans s5))
    have t5 := s2.trans s5
    refine rd_ret (rd_op ⟨_, rfl, rd_lst (mka_use (mka_consK (v := v) (σ := [some v, some (.ref S)]) (C := A.paper) (f := "word") rfl (mka_consK (v := v) (σ := [some v, some (.ref S)]) (C := A.great) (f := "most") rfl mka_nil)) fun zs H6 s7 m7 => ⟨line200 (by rw [m7.len]; exact Nat.le_of_ble_eq_true rfl), fun r nr => ?_⟩)⟩)
    have s8 := same_upd s7 nr (o := .lst zs)
    refine ⟨S, r, _, zs, rfl, rfl, s8 _ _ upd_same, upd_same, line200 (by rw [m5.len, m7.len]; exact Nat.le_of_ble_eq_true rfl), fun U nU => ?_⟩
    have s9 := same_upd s8 nU (o := .lst ((xs ++ ys) ++ zs))
    exact done U _ _ ((t5.trans s8).free nU) (t5.trans s9) upd_same (MadeL.append (m7.same (same_upd (same_upd (Same.refl H6) nr) nU)) (m5.same s9))
def spFields (A : Adr) : Sp := fun vs H Q _ => ∃ (S : Addr) (xs : List V) (v : V), vs = [.ref S] ∧ H S = some (.lst xs) ∧ MadeL H v xs (kinds A) ∧
  ∀ (p : Addr) (H' : Hp), H p = none → Same H H' → H' p = some (.lst [v, v, v, v, v, v, v, v, v]) → Q (.ref p) H'
theorem scFields : FnScope ["row", "found"] ["row"] (defScope sFields) := ⟨rfl, rfl, rfl, by decide +kernel, rfl, by decide +kernel, by decide +kernel⟩
theorem ok_fields {f : Addr} {fd : FuncData} (F : Fun K "_law_fields" "_law_fields" sFields f fd) (I : TI K A) : FnOk P w K mg base CX0 1 f fd ["row"] (spFields A) := by
  refine F.ok scFields (fun vs H Q E h => ?_) (fun cdv B outer s H vs Q E hr h => ?_)
  · obtain ⟨S, xs, v, rfl, _⟩ := h
    rfl
  · obtain ⟨S, xs, v, rfl, hS, m, done⟩ := h
    rcases m with _ | ⟨x1, m⟩
    rcases m with _ | ⟨x2, m⟩
    rcases m with _ | ⟨x3, m⟩
    rcases m with _ | ⟨x4, m⟩
    rcases m with _ | ⟨x5, m⟩
    rcases m with _ | ⟨x6, m⟩
    rcases m with _ | ⟨x7, m⟩
    rcases m with _ | ⟨x8, m⟩
    rcases m with _ | ⟨x9, m⟩
    obtain ⟨_, _, X1, _⟩ := I.m_prog
    obtain ⟨_, _, X2, _⟩ := I.m_lot
    obtain ⟨_, _, X3, _⟩ := I.m_rnd
    obtain ⟨_, _, X4, _⟩ := I.m_num
    obtain ⟨_, _, X5, _⟩ := I.m_box
    obtain ⟨_, _, X6, _⟩ := I.m_form
    obtain ⟨_, _, X7, _⟩ := I.m_deal
    obtain ⟨_, _, X8, _⟩ := I.m_paper
    obtain ⟨_, _, X9, _⟩ := I.m_great
    refine ⟨_, pss_cons (ps_set (i := 1) scFields.nd rfl (Or.inl rfl) (pe_lst (pa_cons (pe_xf (pe_ix ix_list (pv 0) pe_int (fun _ _ => rfl))) (pa_cons (pe_xf (pe_ix ix_list (pv 0) pe_int (fun _ _ => rfl))) (pa_cons (pe_xf (pe_ix ix_list (pv 0) pe_int (fun _ _ => rfl))) (pa_cons (pe_xf (pe_ix ix_list (pv 0) pe_int (fun _ _ => rfl))) (pa_cons (pe_xf (pe_ix ix_list (pv 0) pe_int (fun _ _ => rfl))) pa_nil))))))) (pss_one (ps_ret (pe_op op_cat (pv 1) (pe_lst (pa_cons (pe_xf (pe_ix ix_list (pv 0) pe_int (fun _ _ => rfl))) (pa_cons (pe_xf (pe_ix ix_list (pv 0) pe_int (fun _ _ => rfl))) (pa_cons (pe_xf (pe_ix ix_list (pv 0) pe_int (fun _ _ => rfl))) (pa_cons (pe_xf (pe_ix ix_list (pv 0) pe_int (fun _ _ => rfl))) pa_nil)))))))), ?_⟩
    refine ⟨_, rfl, S, _, _, _, rfl, rfl, SqL.of hS, at_of (j := 0) rfl rfl, _, A.prog, _, v, rfl, x1, X1.e, I.n_prog, rfl, ?_⟩
    refine ⟨_, rfl, S, _, _, _, rfl, rfl, SqL.of hS, at_of (j := 1) rfl rfl, _, A.lot, _, v, rfl, x2, X2.e, I.n_lot, rfl, ?_⟩
    refine ⟨_, rfl, S, _, _, _, rfl, rfl, SqL.of hS, at_of (j := 2) rfl rfl, _, A.rnd, _, v, rfl, x3, X3.e, I.n_rnd, rfl, ?_⟩
    refine ⟨_, rfl, S, _, _, _, rfl, rfl, SqL.of hS, at_of (j := 3) rfl rfl, _, A.num, _, v, rfl, x4, X4.e, I.n_num, rfl, ?_⟩
    refine ⟨_, rfl, S, _, _, _, rfl, rfl, SqL.of hS, at_of (j := 4) rfl rfl, _, A.box, _, v, rfl, x5, X5.e, I.n_box, rfl, ?_⟩
    refine ⟨Nat.le_of_ble_eq_true rfl, fun p hp => ?_⟩
    have g := same_upd (Same.refl H) hp (o := .lst [v, v, v, v, v])
    refine ⟨_, rfl, ?_⟩
    refine ⟨_, rfl, S, _, _, _, rfl, rfl, SqL.of (g _ _ hS), at_of (j := 5) rfl rfl, _, A.form, _, v, rfl, x6.same g, X6.e, I.n_form, rfl, ?_⟩
    refine ⟨_, rfl, S, _, _, _, rfl, rfl, SqL.of (g _ _ hS), at_of (j := 6) rfl rfl, _, A.deal, _, v, rfl, x7.same g, X7.e, I.n_deal, rfl, ?_⟩
    refine ⟨_, rfl, S, _, _, _, rfl, rfl, SqL.of (g _ _ hS), at_of (j := 7) rfl rfl, _, A.paper, _, v, rfl, x8.same g, X8.e, I.n_paper, rfl, ?_⟩
    refine ⟨_, rfl, S, _, _, _, rfl, rfl, SqL.of (g _ _ hS), at_of (j := 8) rfl rfl, _, A.great, _, v, rfl, x9.same g, X9.e, I.n_great, rfl, ?_⟩
    refine ⟨Nat.le_of_ble_eq_true rfl, fun q hq => ?_⟩
    have g2 := same_upd (Same.refl _) hq (o := .lst [v, v, v, v])
    refine ⟨p, q, _, _, rfl, rfl, g2 _ _ upd_same, upd_same, Nat.le_of_ble_eq_true rfl, fun r nr => ?_⟩
    have g3 := same_upd g2 nr (o := .lst ([v, v, v, v, v] ++ [v, v, v, v]))
    exact done r _ (g.free (g2.free nr)) (g.trans g3) upd_same
end
end Own

set_option Elab.async false
set_option linter.all false
set_option maxRecDepth 100000
set_option maxHeartbeats 4000000
namespace Own
open PySem PySem.Spec PyProof.Rows L2
section
variable {P : Program} {w : World} {K : PySem.W.Frag} {mg : Str → Option Value} {base : Heap} {A : Adr}
abbrev sRight : Stmt := top 20
abbrev sValues : Stmt := top 21
abbrev sNests : Stmt := top 22
abbrev sLaw : Stmt := top 23
/-- nineteen things, with two drawn numbers -/
def things (r1 r2 : Int) : List PyData := [.none, .int 0, .bool true, .int (-1), .int (10 ^ 59 + r2), .str "", .str "form", .str "tied", .tuple [], .tuple [.int 2, .int 1, .int 3], .tuple [.int 1, .str "write"]] ++
  [.list [.int 1, .list [.int 2]], .list [], .dict [], .dict [(.str "place", .int 1)], .dict [(.tuple [.int 0, .int 1], .list [])], .tuple [.tuple [.int 0], .tuple [.int 1, .none]], nestT 40 (.list [.int r1]), .str "word'\\"]
theorem things_short {r1 r2 : Int} (a0 : 0 ≤ r1) (a1 : r1 < 7) (b0 : 0 ≤ r2) (b1 : r2 < 1000000) : ∀ d ∈ things r1 r2, Short d := by
  intro d hd
  unfold things at hd
  simp only [List.cons_append, List.nil_append, List.mem_cons, List.not_mem_nil, or_false] at hd
  rcases hd with rfl | rfl | rfl | rfl | rfl | rfl | rfl | rfl | rfl | rfl | rfl | rfl | rfl | rfl | rfl | rfl | rfl | rfl | rfl
  case inr.inr.inr.inr.inl =>
    refine short_int ?_
    have e : (10 : Int) ^ 59 + r2 < 10 ^ 60 := by
      have z : (10 : Int) ^ 59 + 1000000 < 10 ^ 60 := by decide
      omega
    have e0 : (0 : Int) ≤ 10 ^ 59 + r2 := by
      have z : (0 : Int) ≤ 10 ^ 59 := by decide
      omega
    have : ((10 : Int) ^ 59 + r2).natAbs < 10 ^ 60 := by omega
    exact Nat.lt_trans this (by decide)
  all_goals first
    | exact ⟨by decide +kernel, by decide +kernel, by decide +kernel, by decide +kernel⟩
    | exact (fit_nest (Fit.list (FitAll.cons (k := 0) (Fit.int (Nat.lt_trans (show r1.natAbs < 10 from by omega) (by decide))) .nil)) 40).mono (by decide) (by decide)
theorem DqAll.append {H : Hp} : ∀ {xs ys : List V} {ds es : List PyData}, DqAll K H xs ds → DqAll K H ys es → DqAll K H (xs ++ ys) (ds ++ es)
  | [], _, [], _, _, b => b
  | _ :: _, _, _ :: _, _, .cons h r, b => .cons h (DqAll.append r b)
def spValues (K : PySem.W.Frag) : Sp := fun vs H Q _ => ∃ (d : Addr) (n : Int), vs = [.ref d] ∧ DrawAt H d n ∧ 0 ≤ n ∧ n ≤ 1000 ∧
  ∀ (S : Addr) (H' : Hp) (xs : List V) (ds : List PyData), But d H H' → DrawAt H' d (n + 2) → del H' d S = some (.lst xs) → DqAll K (del H' d) xs ds → ds.length = 19 → (∀ d ∈ ds, Short d) → Q (.ref S) H'
theorem scValues : FnScope ["m", "deep", "turn", "some"] ["m"] (defScope sValues) := ⟨rfl, rfl, rfl, by decide +kernel, rfl, by decide +kernel, by decide +kernel⟩
theorem ok_values {f fD : Addr} {fd fdD : FuncData} (F : Fun K "_law_values" "_law_values" sValues f fd) (FD : Fun K "_law_draw" "_law_draw" sDraw fD fdD) (gD : mg "_law_draw" = some (.ref fD)) (bI : mg "int" = none) (bL : mg "len" = none) (bR : mg "range" = none) :
    FnOk P w K mg base CX0 2 f fd ["m"] (spValues K) := by
  have GD : FnOk P w K mg base CX0 1 fD fdD ["m", "many"] spDraw := ok_draw FD bI bL
  have bD : Binds K fdD ["m", "many"] [] := FD.binds fun _ _ _ _ _ _ us hl => match us, hl with | [_, _], _ => rfl
  refine F.ok scValues (fun vs H Q E h => ?_) (fun cdv B outer s H vs Q E hr h => ?_)
  · obtain ⟨d, n, rfl, _⟩ := h
    rfl
  · obtain ⟨d, n, rfl, hD, n0, n1, done⟩ := h
    have hu := hr.units
    have g : ∀ {X : Cx}, X.env.scope = defScope sValues → Gl X "_law_draw" := fun e => gl_of e (by decide +kernel)
    refine ⟨_, pss_cons (ps_set (i := 1) scValues.nd rfl (Or.inl rfl) (pe_lst (pa_cons (pe_call GD hr (g rfl) gD FD.kp bD .nil pass0 (pa_cons (pv 0) (pa_cons pe_int pa_nil))) pa_nil)))
      (pss_cons (ps_for PassesOwn.never rfl (pi_range1 rfl bR (pa_cons pe_int pa_nil)) (pg_name (i := 2) scValues.nd rfl (Or.inl rfl)) (pss_one (ps_set (i := 1) scValues.nd rfl (Or.inl rfl) (pe_tup (pa_cons (pv 1) pa_nil)))))
      (pss_cons (ps_set (i := 3) scValues.nd rfl (Or.inl rfl) (pe_lst (pa_cons pe_non (pa_cons pe_int (pa_cons pe_bl (pa_cons (pe_un un_neg pe_int) (pa_cons (pe_op op_add (pe_op op_pow pe_int pe_int) (pe_call GD hr (g rfl) gD FD.kp bD .nil pass0 (pa_cons (pv 0) (pa_cons (pe_op op_pow pe_int pe_int) pa_nil)))) (pa_cons pe_str (pa_cons pe_str (pa_cons pe_str (pa_cons (pe_tup pa_nil) (pa_cons (pe_tup (pa_cons pe_int (pa_cons pe_int (pa_cons pe_int pa_nil)))) (pa_cons (pe_tup (pa_cons pe_int (pa_cons pe_str pa_nil))) pa_nil)))))))))))))
      (pss_one (ps_ret (pe_op op_cat (pv 3) (pe_lst (pa_cons (pe_lst (pa_cons pe_int (pa_cons (pe_lst (pa_cons pe_int pa_nil)) pa_nil))) (pa_cons (pe_lst pa_nil) (pa_cons pe_dnewK (pa_cons (pe_disp (pps_cons pe_str pe_int pps_nil) (by rfl) (by rfl) (fun z => by cases z) (by decide)) (pa_cons (pe_dispT1 hu (pe_tup (pa_cons pe_int (pa_cons pe_int pa_nil))) (pe_lst pa_nil)) (pa_cons (pe_tup (pa_cons (pe_tup (pa_cons pe_int pa_nil)) (pa_cons (pe_tup (pa_cons pe_int (pa_cons pe_non pa_nil))) pa_nil))) (pa_cons (pv 1) (pa_cons pe_str pa_nil)))))))))))))), ?_⟩
    refine ⟨_, rfl, d, n, 7, rfl, hD, by omega, by decide, by decide, fun r1 H1 a0 a1 D1 b1 => ⟨Nat.le_of_ble_eq_true rfl, fun p hp => ?_⟩⟩
    have u1 : Used H1 d := let ⟨_, _, _, _, _, e, _⟩ := D1; ⟨_, e⟩
    have s2 : Same H1 (upd H1 p (.lst [.int r1])) := same_upd (Same.refl H1) hp
    have q2 : Dq K (del (upd H1 p (.lst [.int r1])) d) (.ref p) (nestT 0 (.list [.int r1])) := .lst (SqL.of (del_of upd_same (new_ne u1 hp))) (.cons (.int r1) .nil)
    refine ⟨40, rfl, by decide, by decide, for_range (n := 40) (fun i σ H' => ∃ (v : V) (c : Option V), σ = [some (.ref d), some v, c, none] ∧ Same H1 H' ∧ Dq K (del H' d) v (nestT i (.list [.int r1]))) ⟨_, none, rfl, s2, q2⟩ ?_ ?_⟩
    · rintro i σ H' hi ⟨v, c, rfl, s3, q3⟩
      refine ⟨_, rfl, Nat.le_of_ble_eq_true rfl, fun t ht => ⟨_, _, rfl, same_upd s3 ht, ?_⟩⟩
      exact .tup (SqT.of (del_of upd_same (new_ne (u1.same s3) ht))) (.cons (q3.same (del_same_but (sb (same_upd (Same.refl H') ht)))) .nil)
    · rintro σ H' ⟨v, c, rfl, s3, q3⟩
      have hD3 : DrawAt H' d (n + 1) := D1.same s3
      refine ⟨_, rfl, _, _, rfl, rfl, ⟨by decide, by decide, by decide⟩, _, rfl, _, _, rfl, rfl, ⟨by decide, by decide, by decide⟩, d, n + 1, _, rfl, hD3, by omega, by decide, by decide, fun r2 H2 c0 c1 D2 b2 => ⟨_, _, rfl, rfl, ?_⟩⟩
      have c1' : r2 < 1000000 := c1
      have u2 : Used H2 d := let ⟨_, _, _, _, _, e, _⟩ := D2; ⟨_, e⟩
      have q4 := q3.same (del_same_but b2)
      refine (gva_cons (K := K) (dat := .str "") gv_str (gva_cons (dat := .str "form") gv_str (gva_cons (dat := .str "tied") gv_str (gva_cons (gv_tup gva_nil (by decide)) (gva_cons (gv_tup (gva_cons gv_int (gva_cons gv_int (gva_cons gv_int gva_nil))) (Nat.le_of_ble_eq_true rfl))
        (gva_cons (gv_tup (gva_cons gv_int (gva_cons gv_str gva_nil)) (Nat.le_of_ble_eq_true rfl)) gva_nil)))))) H2 _ (Same.refl _) u2 fun vs H3 s5 q5 => ?_
      have l5 := q5.len
      refine ⟨by show _ + 1 + 1 + 1 + 1 + 1 ≤ sizeLine; rw [l5]; exact line200 (Nat.le_of_ble_eq_true rfl), fun p2 hp2 => ?_⟩
      have u3 := u2.same s5
      have s6 := same_upd s5 hp2 (o := .lst (.non :: .int 0 :: .bl true :: .int (-1) :: .int (10 ^ 59 + r2) :: vs))
      have u4 := u2.same s6
      refine ⟨_, rfl, ?_⟩
      refine (gva_cons (K := K) (gv_lst (gva_cons gv_int (gva_cons (gv_lst (gva_cons gv_int gva_nil) (Nat.le_of_ble_eq_true rfl)) gva_nil)) (Nat.le_of_ble_eq_true rfl)) (gva_cons (gv_lst gva_nil (Nat.le_of_ble_eq_true rfl)) (gva_cons gv_dict0 (gva_cons gv_dict1 (gva_cons gv_dictT
        (gva_cons (gv_tup (gva_cons (gv_tup (gva_cons gv_int gva_nil) (Nat.le_of_ble_eq_true rfl)) (gva_cons (gv_tup (gva_cons gv_int (gva_cons gv_non gva_nil)) (Nat.le_of_ble_eq_true rfl)) gva_nil)) (Nat.le_of_ble_eq_true rfl))
        (gva_cons (gv_var (i := 1) rfl q4) (gva_cons gv_str gva_nil)))))))) _ _ (del_same_but (sb s6)) u4 fun ws H4 s7 q7 => ?_
      have l7 := q7.len
      refine ⟨by rw [l7]; exact line200 (Nat.le_of_ble_eq_true rfl), fun p3 hp3 => ?_⟩
      have s8 := (s6.trans s7).trans (same_upd (Same.refl _) hp3 (o := .lst ws))
      have f2 := (s7.trans (same_upd (Same.refl _) hp3 (o := .lst ws))) _ _ upd_same
      have w3 := (u2.same s5)
      refine ⟨p2, p3, _, _, rfl, rfl, f2, upd_same, (by show vs.length + 1 + 1 + 1 + 1 + 1 + ws.length ≤ sizeLine; rw [l5, l7]; exact line200 (Nat.le_of_ble_eq_true rfl)), fun S hS => ?_⟩
      have s9 := s8.trans (same_upd (Same.refl _) hS (o := .lst (.non :: .int 0 :: .bl true :: .int (-1) :: .int (10 ^ 59 + r2) :: vs ++ ws)))
      have b9 : But d H2 _ := sb s9
      have k5 : Same (del H3 d) _ := del_same_but (d := d) (sb ((((same_upd (Same.refl H3) hp2 (o := .lst (.non :: .int 0 :: .bl true :: .int (-1) :: .int (10 ^ 59 + r2) :: vs))).trans s7).trans (same_upd (Same.refl _) hp3 (o := .lst ws))).trans (same_upd (Same.refl _) hS (o := .lst (.non :: .int 0 :: .bl true :: .int (-1) :: .int (10 ^ 59 + r2) :: vs ++ ws)))))
      have k7 : Same (del H4 d) _ := del_same_but (d := d) (sb ((same_upd (Same.refl H4) hp3 (o := .lst ws)).trans (same_upd (Same.refl _) hS (o := .lst (.non :: .int 0 :: .bl true :: .int (-1) :: .int (10 ^ 59 + r2) :: vs ++ ws)))))
      refine done S _ _ (things r1 r2) (b1.trans ((sb s3).trans (b2.trans b9))) (by have z := D2.same s9; rwa [show n + 1 + 1 = n + 2 from by omega] at z) (del_of upd_same (new_ne (u2.same s8) hS)) ?_ rfl (things_short a0 a1 c0 c1')
      exact DqAll.append (.cons .non (.cons (.int 0) (.cons (.bl true) (.cons (.int (-1)) (.cons (.int _) (q5.same k5)))))) (q7.same k7)
end
end Own

set_option Elab.async false
set_option linter.all false
set_option maxRecDepth 100000
set_option maxHeartbeats 4000000
namespace Own
open PySem PySem.Spec PyProof.Rows L2
section
variable {P : Program} {w : World} {K : PySem.W.Frag} {mg : Str → Option Value} {base : Heap} {A : Adr}
/-- of what classes the made ones are -/
structure TK (K : PySem.W.Frag) (A : Adr) : Prop where
  prog : Kits K A.prog (askd A) bit_prog
  lot : Kits K A.lot (askd A) bit_lot
  rnd : Kits K A.rnd (askd A) bit_rnd
  num : Kits K A.num (askd A) bit_num
  box : Kits K A.box (askd A) bit_box
  form : Kits K A.form (askd A) bit_form
  deal : Kits K A.deal (askd A) bit_deal
  paper : Kits K A.paper (askd A) bit_paper
  great : Kits K A.great (askd A) bit_great
  nest : Kits K A.nest (askd A) bit_nest
abbrev veT : List Value := [.type "ValueError", .type "Exception", .type "BaseException", .type "object"]
/-- the class that has no __init__ of its own -/
structure TN (K : PySem.W.Frag) (A : Adr) : Prop where
  e : ExcC K A.nest
  k : PySem.W.keepIn K (.ref A.nest) = true
  q : PySem.W.excIn K A.nest veT "ValueError.__new__" = true
def spRight (K : PySem.W.Frag) (A : Adr) : Sp := fun vs H Q _ => ∃ (S : Addr) (xs : List V) (v : V) (d1 : PyData), vs = [.ref S, v] ∧ H S = some (.lst xs) ∧ MadeL H v xs (kinds A) ∧ Dq K H v d1 ∧ Short d1 ∧ ∀ H', Same H H' → Q (.bl true) H'
theorem scRight : FnScope ["row", "thing", "mark", "error"] ["row", "thing"] (defScope sRight) := ⟨rfl, rfl, rfl, by decide +kernel, rfl, by decide +kernel, by decide +kernel⟩
theorem dp_strs {H : Hp} {p : Addr} : ∀ ns : List Str, DpAll K H (ns.map V.str) (ns.map PyData.str)
  | [] => .nil
  | n :: r => .cons (.str n) (dp_strs (p := p) r)
theorem dp_words {H : Hp} {p : Addr} {ns : List Str} (h : H p = some (.lst (ns.map V.str))) : Dp K H (.ref p) (.list (ns.map PyData.str)) := .lst (SqL.of h) (dp_strs (p := p) ns)
/-- the nine, one by one -/
theorem made_at {H : Hp} {xs : List V} {v : V} (I : TI K A) (T : TK K A) (m : MadeL H v xs (kinds A)) {i : Nat} {x y : V} (ex : (nine.map V.str)[i]? = some x) (ey : xs[i]? = some y) :
    ∃ (n : Str) (a C : Addr) (bs : List Bool), x = .str n ∧ y = .ref a ∧ IsX H a C ∧ ExcC K C ∧ Kits K C (askd A) bs ∧ due (wrds.zip bs) = dueW n ∧
      SeqAt.shaped (.list ((dueW n).map PyData.str)) = true ∧ PyData.eqv (.list ((dueW n).map PyData.str)) (.list ((dueW n).map PyData.str)) = true := by
  obtain ⟨_, _, X1, _⟩ := I.m_prog
  obtain ⟨_, _, X2, _⟩ := I.m_lot
  obtain ⟨_, _, X3, _⟩ := I.m_rnd
  obtain ⟨_, _, X4, _⟩ := I.m_num
  obtain ⟨_, _, X5, _⟩ := I.m_box
  obtain ⟨_, _, X6, _⟩ := I.m_form
  obtain ⟨_, _, X7, _⟩ := I.m_deal
  obtain ⟨_, _, X8, _⟩ := I.m_paper
  obtain ⟨_, _, X9, _⟩ := I.m_great
  obtain ⟨a, c, rfl, e1, xa⟩ := m.get ey
  match i, ex, e1 with
  | 0, ex, e1 => cases ex; cases e1; exact ⟨_, a, _, _, rfl, rfl, .inl ⟨_, xa⟩, X1.e, T.prog, by decide +kernel, by decide +kernel, by decide +kernel⟩
  | 1, ex, e1 => cases ex; cases e1; exact ⟨_, a, _, _, rfl, rfl, .inl ⟨_, xa⟩, X2.e, T.lot, by decide +kernel, by decide +kernel, by decide +kernel⟩
  | 2, ex, e1 => cases ex; cases e1; exact ⟨_, a, _, _, rfl, rfl, .inl ⟨_, xa⟩, X3.e, T.rnd, by decide +kernel, by decide +kernel, by decide +kernel⟩
  | 3, ex, e1 => cases ex; cases e1; exact ⟨_, a, _, _, rfl, rfl, .inl ⟨_, xa⟩, X4.e, T.num, by decide +kernel, by decide +kernel, by decide +kernel⟩
  | 4, ex, e1 => cases ex; cases e1; exact ⟨_, a, _, _, rfl, rfl, .inl ⟨_, xa⟩, X5.e, T.box, by decide +kernel, by decide +kernel, by decide +kernel⟩
  | 5, ex, e1 => cases ex; cases e1; exact ⟨_, a, _, _, rfl, rfl, .inl ⟨_, xa⟩, X6.e, T.form, by decide +kernel, by decide +kernel, by decide +kernel⟩
  | 6, ex, e1 => cases ex; cases e1; exact ⟨_, a, _, _, rfl, rfl, .inl ⟨_, xa⟩, X7.e, T.deal, by decide +kernel, by decide +kernel, by decide +kernel⟩
  | 7, ex, e1 => cases ex; cases e1; exact ⟨_, a, _, _, rfl, rfl, .inl ⟨_, xa⟩, X8.e, T.paper, by decide +kernel, by decide +kernel, by decide +kernel⟩
  | 8, ex, e1 => cases ex; cases e1; exact ⟨_, a, _, _, rfl, rfl, .inl ⟨_, xa⟩, X9.e, T.great, by decide +kernel, by decide +kernel, by decide +kernel⟩
theorem ok_right {f fM fF fW fU : Addr} {fd fdM fdF fdW fdU : FuncData} (F : Fun K "_law_are_right" "_law_are_right" sRight f fd) (FM : Fun K "_law_marks" "_law_marks" sMarks fM fdM) (FF : Fun K "_law_fields" "_law_fields" sFields fF fdF) (FW : Fun K "_law_words" "_law_words" sWords fW fdW)
    (FU : Fun K "_law_due" "_law_due" sDue fU fdU) (gM : mg "_law_marks" = some (.ref fM)) (gF : mg "_law_fields" = some (.ref fF)) (gW : mg "_law_words" = some (.ref fW)) (gU : mg "_law_due" = some (.ref fU)) (bR : mg "repr" = none) (bZ : mg "zip" = none) (T : TX K mg A) (I : TI K A) (TK : TK K A) :
    FnG P w K mg base CX0 3 f fd ["row", "thing"] (spRight K A) := by
  have GM : FnOk P w K mg base CX0 1 fM fdM ["error"] (spMarks K A) := ok_marks FM T
  have GF : FnOk P w K mg base CX0 1 fF fdF ["row"] (spFields A) := ok_fields FF I
  have GW : FnOk P w K mg base CX0 1 fW fdW [] spWords := ok_words FW
  have GU : FnOk P w K mg base CX0 1 fU fdU ["mark"] spDue := ok_due FU
  have bM : Binds K fdM ["error"] [] := FM.binds fun _ _ _ _ _ _ us hl => match us, hl with | [_], _ => rfl
  have bF : Binds K fdF ["row"] [] := FF.binds fun _ _ _ _ _ _ us hl => match us, hl with | [_], _ => rfl
  have bW : Binds K fdW [] [] := FW.binds fun _ _ _ _ _ _ us hl => match us, hl with | [], _ => rfl
  have bU : Binds K fdU ["mark"] [] := FU.binds fun _ _ _ _ _ _ us hl => match us, hl with | [_], _ => rfl
  refine fnG_ok F scRight (fun vs H Q E h => ?_) (fun cdv B hq outer s H vs Q E hr h => ?_)
  · obtain ⟨S, xs, v, d1, rfl, _⟩ := h
    rfl
  · obtain ⟨S, xs, v, d1, rfl, hS, mk, q1, f1, done⟩ := h
    have hu := hr.units
    have hr1 := hr.mono (show 1 ≤ 2 by decide)
    have g : ∀ {X : Cx} {x : Str}, X.env.scope = defScope sRight → Own.GN (defScope sRight) x → Gl X x := fun e h => gl_of e h
    refine ⟨_, pss_cons (ps_if (pt_cmpR op_ne (pe_callB (call_repr hq hu) (g rfl (by decide +kernel)) bR boot_repr (pa_cons (pe_call GF hr1 (g rfl (by decide +kernel)) gF FF.kp bF .nil pass0 (pa_cons (pv 0) pa_nil)) pa_nil))
        (pe_callB (call_repr hq hu) (g rfl (by decide +kernel)) bR boot_repr (pa_cons (pe_op op_rep (pe_lst (pa_cons (pv 1) pa_nil)) pe_int) pa_nil)) (nomark _)) (pss_one (ps_ret pe_bl)) pss_nil)
      (pss_one (ps_ret (pe_cmpR (op_eqD hu) (pe_lc (own := [("mark", 2), ("error", 3)]) (g := gTup K 2 (gCons (gName 2) (gCons (gName 3) gNil))) (by rfl) scRight.nd
          (pi_zip (g rfl (by decide +kernel)) bZ (pa_cons (pe_call0 GW hr1 (g rfl (by decide +kernel)) gW FW.kp bW .nil pass0) (pa_cons (pv 0) pa_nil)))
          (blkOk_by (own := [("mark", 2), ("error", 3)]) (N := ["row", "thing", "mark", "error"]) (sc := defScope sRight) (by decide +kernel))
          (fun _ _ _ _ _ => pg_tup rfl (pgs_cons (pg_name (i := 2) scRight.nd rfl (Or.inl rfl)) (pgs_cons (pg_name (i := 3) scRight.nd rfl (Or.inl rfl)) pgs_nil)))
          (fun _ _ _ _ _ => pts_one (pt_cmpR (r := rNeD K) (op_neD (by exact hu)) (pe_call GM (by exact hr1) (by rfl) gM FM.kp bM .nil pass0 (pa_cons (pv 3) pa_nil)) (pe_call GU (by exact hr1) (by rfl) gU FU.kp bU .nil pass0 (pa_cons (pv 2) pa_nil)) (nomark _)))
          (fun _ _ _ _ _ => pv 2)) (pe_lst pa_nil) (nomark _)))), ?_⟩
    refine ⟨_, rfl, S, xs, v, rfl, hS, mk, fun p1 H1 n1 s1 h1 => ?_⟩
    have fl : Fit 46 100000 (.list [d1, d1, d1, d1, d1, d1, d1, d1, d1]) := (Fit.list (FitAll.cons f1 (FitAll.cons f1 (FitAll.cons f1 (FitAll.cons f1 (FitAll.cons f1 (FitAll.cons f1 (FitAll.cons f1 (FitAll.cons f1 (FitAll.cons (k := 0) f1 .nil)))))))))).mono (by decide) (by decide)
    have lk : ∀ {H' : Hp} {p : Addr}, Same H H' → H' p = some (.lst [v, v, v, v, v, v, v, v, v]) → Dq K H' (.ref p) (.list [d1, d1, d1, d1, d1, d1, d1, d1, d1]) := fun s h => .lst (SqL.of h) (.cons (q1.same s) (.cons (q1.same s) (.cons (q1.same s) (.cons (q1.same s) (.cons (q1.same s) (.cons (q1.same s) (.cons (q1.same s) (.cons (q1.same s) (.cons (q1.same s) .nil)))))))))
    refine ⟨_, _, rfl, lk s1 h1, fl.sh, Nat.le_trans fl.dp (by decide), fl.size (by decide), ?_⟩
    refine ⟨_, rfl, Nat.le_of_ble_eq_true rfl, fun p2 n2 => ?_⟩
    have s2 := same_upd s1 n2 (o := .lst [v])
    refine ⟨p2, 9, [v], rfl, rfl, upd_same, by decide, by decide, Nat.le_of_ble_eq_true rfl, fun p3 n3 => ?_⟩
    have s5 := same_upd s2 n3 (o := .lst [v, v, v, v, v, v, v, v, v])
    refine ⟨_, _, rfl, lk s5 upd_same, fl.sh, Nat.le_trans fl.dp (by decide), fl.size (by decide), ?_⟩
    refine ⟨rfl, _, rfl, ?_⟩
    refine ite2 (fun hb => by simp at hb) (fun _ => ?_)
    refine ⟨rfl, fun pW HW nW sW hW => ⟨_, rfl, ?_⟩⟩
    have s6 := s5.trans sW
    refine ⟨pW, S, nine.map V.str, xs, rfl, SqL.of hW, SqL.of (s6 _ _ hS), fun D nD => ?_⟩
    have lx : min (nine.map V.str).length xs.length = 9 := by
      rw [mk.len]
      rfl
    refine lc_it (walk_zip lx.symm) (fun i H2 => H2 D = some (.lst []) ∧ Same HW H2) ⟨upd_same, same_upd (Same.refl HW) nD⟩ (fun i H2 _ z => ⟨SqL.of (z.2 _ _ hW), SqL.of (z.2 _ _ (s6 _ _ hS))⟩) ?_ ?_
    · rintro i x H2 H3 hi ⟨hD, sm⟩ ⟨T', x', y', rfl, nT, rfl, ex, ey⟩
      obtain ⟨n, a, C, bs, rfl, rfl, hx, hC, hk, e1, e2, e3⟩ := made_at I TK mk ex ey
      have s7 := s6.trans sm
      have s8 := same_upd s7 nT (o := .tup [.str n, .ref a])
      refine ⟨T', _, rfl, SqT.of upd_same, rfl, _, _, rfl, _, _, rfl, rfl, rfl, ?_⟩
      refine ⟨_, rfl, a, C, bs, rfl, hx.same s8, hC, hk, fun pM HM nM sM hM => ?_⟩
      rw [e1] at hM
      refine ⟨_, rfl, n, rfl, fun pL HL nL sL hL => ?_⟩
      refine ⟨_, _, dp_words (sL _ _ hM), dp_words hL, e2, e2, _, rfl, ?_⟩
      rw [e3]
      have sZ := ((same_upd (Same.refl H2) nT (o := .tup [.str n, .ref a])).trans sM).trans sL
      exact ⟨sZ _ _ hD, sm.trans sZ⟩
    · rintro H2 ⟨hD, sm⟩
      refine ⟨Nat.le_of_ble_eq_true rfl, fun pE nE => ?_⟩
      have sE := same_upd (Same.refl H2) nE (o := .lst [])
      refine ⟨.list [], .list [], .lst (SqL.of (sE _ _ hD)) .nil, .lst (SqL.of upd_same) .nil, rfl, rfl, ?_⟩
      have e0 : PyData.eqv (.list []) (.list []) = true := by decide +kernel
      rw [e0]
      exact done _ ((s6.trans sm).trans sE)
def spNests : Sp := fun vs H Q _ => ∃ v u : V, vs = [v, u] ∧ ∀ H', Same H H' → Q (.bl true) H'
theorem scNests : FnScope ["thing", "far", "some", "error"] ["thing", "far"] (defScope sNests) := ⟨rfl, rfl, rfl, by decide +kernel, rfl, by decide +kernel, by decide +kernel⟩
theorem ok_nests {f fM : Addr} {fd fdM : FuncData} (F : Fun K "_law_nests_right" "_law_nests_right" sNests f fd) (FM : Fun K "_law_marks" "_law_marks" sMarks fM fdM) (gM : mg "_law_marks" = some (.ref fM)) (gN : mg "NestError" = some (.ref A.nest)) (T : TX K mg A) (N : TN K A) (TK : TK K A) :
    FnOk P w K mg base CX0 2 f fd ["thing", "far"] spNests := by
  have GM : FnOk P w K mg base CX0 1 fM fdM ["error"] (spMarks K A) := ok_marks FM T
  have bM : Binds K fdM ["error"] [] := FM.binds fun _ _ _ _ _ _ us hl => match us, hl with | [_], _ => rfl
  refine F.ok scNests (fun vs H Q E h => ?_) (fun cdv B outer s H vs Q E hr h => ?_)
  · obtain ⟨v, u, rfl, _⟩ := h
    rfl
  · obtain ⟨v, u, rfl, done⟩ := h
    have hu := hr.units
    have g : ∀ {X : Cx} {x : Str}, X.env.scope = defScope sNests → Own.GN (defScope sNests) x → Gl X x := fun e h => gl_of e h
    refine ⟨_, pss_cons (ps_set (i := 2) scNests.nd rfl (Or.inl rfl) (pe_lst (pa_cons (pe_mkn0 PySem.F.excBase_ValueError N.q N.k (g rfl (by decide +kernel)) gN) (pa_cons (pe_mkn PySem.F.excBase_ValueError N.q N.k (g rfl (by decide +kernel)) gN (pa_cons (pv 0) pa_nil))
        (pa_cons (pe_mkn PySem.F.excBase_ValueError N.q N.k (g rfl (by decide +kernel)) gN (pa_cons (pv 0) (pa_cons (pv 1) pa_nil))) (pa_cons (pe_mkn PySem.F.excBase_ValueError N.q N.k (g rfl (by decide +kernel)) gN (pa_cons pe_str pa_nil)) pa_nil))))))
      (pss_one (ps_ret (pe_cmpR (op_eqD hu) (pe_lc (own := [("error", 3)]) (g := gName 3) (by rfl) scNests.nd (pi_list (pv 2))
          (blkOk_by (own := [("error", 3)]) (N := ["thing", "far", "some", "error"]) (sc := defScope sNests) (by decide +kernel)) (fun _ _ _ _ _ => pg_name (i := 3) scNests.nd rfl (Or.inl rfl))
          (fun _ _ _ _ _ => pts_one (pt_cmpR (r := rNeD K) (op_neD (by exact hu)) (pe_call GM (by exact hr) (by rfl) gM FM.kp bM .nil pass0 (pa_cons (pv 3) pa_nil)) (pe_lst (pa_cons pe_str (pa_cons pe_str (pa_cons pe_str pa_nil)))) (nomark _)))
          (fun _ _ _ _ _ => pv 3)) (pe_lst pa_nil) (nomark _)))), ?_⟩
    intro a1 n1
    have s1 := same_upd (Same.refl H) n1 (o := exo a1 A.nest none)
    refine ⟨_, rfl, Nat.le_of_ble_eq_true rfl, fun a2 n2 => ?_⟩
    have s2 := same_upd (Same.refl _) n2 (o := exo a2 A.nest none)
    refine ⟨_, rfl, _, rfl, Nat.le_of_ble_eq_true rfl, fun a3 n3 => ?_⟩
    have s3 := same_upd (Same.refl _) n3 (o := exo a3 A.nest none)
    refine ⟨Nat.le_of_ble_eq_true rfl, fun a4 n4 => ?_⟩
    have s4 := same_upd (Same.refl _) n4 (o := exo a4 A.nest none)
    refine ⟨Nat.le_of_ble_eq_true rfl, fun p np => ?_⟩
    have s5 := same_upd (Same.refl _) np (o := .lst [.ref a1, .ref a2, .ref a3, .ref a4])
    have x1 := (((s2.trans s3).trans s4).trans s5) _ _ upd_same
    have x2 := ((s3.trans s4).trans s5) _ _ upd_same
    have x3 := (s4.trans s5) _ _ upd_same
    have x4 := s5 _ _ upd_same
    have s6 := (((s1.trans s2).trans s3).trans s4).trans s5
    have hp : (upd (upd (upd (upd (upd H a1 (exo a1 A.nest none)) a2 (exo a2 A.nest none)) a3 (exo a3 A.nest none)) a4 (exo a4 A.nest none)) p (.lst [.ref a1, .ref a2, .ref a3, .ref a4])) p = some (.lst [.ref a1, .ref a2, .ref a3, .ref a4]) := upd_same
    generalize upd (upd (upd (upd (upd H a1 (exo a1 A.nest none)) a2 (exo a2 A.nest none)) a3 (exo a3 A.nest none)) a4 (exo a4 A.nest none)) p (.lst [.ref a1, .ref a2, .ref a3, .ref a4]) = HW at x1 x2 x3 x4 s6 hp ⊢
    refine ⟨_, rfl, p, rfl, ⟨_, SqL.of hp⟩, fun D nD => ?_⟩
    refine lc_list (K := K) (a := p) (xs := [.ref a1, .ref a2, .ref a3, .ref a4]) (fun i H2 => H2 D = some (.lst []) ∧ Same HW H2) ⟨upd_same, same_upd (Same.refl HW) nD⟩ (fun i H2 _ z => SqL.of (z.2 _ _ hp)) ?_ ?_
    · rintro i x H2 hi ⟨hD, sm⟩
      have hx : ∃ a, x = .ref a ∧ HW a = some (exo a A.nest none) := by
        match i, hi with
        | 0, hi => cases hi; exact ⟨_, rfl, x1⟩
        | 1, hi => cases hi; exact ⟨_, rfl, x2⟩
        | 2, hi => cases hi; exact ⟨_, rfl, x3⟩
        | 3, hi => cases hi; exact ⟨_, rfl, x4⟩
      obtain ⟨a, rfl, xa⟩ := hx
      refine ⟨rfl, _, rfl, a, A.nest, bit_nest, rfl, .inr (sm _ _ xa), N.e, TK.nest, fun pM HM nM sM hM => ?_⟩
      have e1 : due (wrds.zip bit_nest) = [("own" : Str), "sort", "any"] := by decide +kernel
      rw [e1] at hM
      refine ⟨Nat.le_of_ble_eq_true rfl, fun pL nL => ?_⟩
      have sL := same_upd (Same.refl HM) nL (o := .lst [.str "own", .str "sort", .str "any"])
      have e3 : PyData.eqv (.list (([("own" : Str), "sort", "any"] : List Str).map PyData.str)) (.list (([("own" : Str), "sort", "any"] : List Str).map PyData.str)) = true := by decide +kernel
      refine ⟨_, _, dp_words (sL _ _ hM), dp_words (ns := [("own" : Str), "sort", "any"]) upd_same, by decide +kernel, by decide +kernel, _, rfl, ?_⟩
      rw [e3]
      have sZ := sM.trans sL
      exact ⟨sZ _ _ hD, sm.trans sZ⟩
    · rintro H2 ⟨hD, sm⟩
      refine ⟨Nat.le_of_ble_eq_true rfl, fun pE nE => ?_⟩
      have sE := same_upd (Same.refl H2) nE (o := .lst [])
      refine ⟨.list [], .list [], .lst (SqL.of (sE _ _ hD)) .nil, .lst (SqL.of upd_same) .nil, rfl, rfl, ?_⟩
      have e0 : PyData.eqv (.list []) (.list []) = true := by decide +kernel
      rw [e0]
      exact done _ ((s6.trans sm).trans sE)
end
end Own

set_option Elab.async false
set_option linter.all false
set_option maxRecDepth 100000
set_option maxHeartbeats 4000000
namespace Own
open PySem PySem.Spec PyProof.Rows L2
theorem DqAll.get {K : PySem.W.Frag} {H : Hp} : ∀ {xs : List V} {ds : List PyData}, DqAll K H xs ds → ∀ {i : Nat} {x : V}, xs[i]? = some x → ∃ d, d ∈ ds ∧ Dq K H x d
  | _ :: _, _ :: _, .cons h r, 0, _, e => by
    cases e
    exact ⟨_, List.mem_cons_self, h⟩
  | _ :: _, _ :: _, .cons h r, i + 1, _, e => by
    obtain ⟨d, m, q⟩ := DqAll.get r (i := i) e
    exact ⟨d, List.mem_cons_of_mem _ m, q⟩
theorem pick_at {K : PySem.W.Frag} {H : Hp} {xs : List V} {ds : List PyData} (q : DqAll K H xs ds) (sh : ∀ d ∈ ds, Short d) {r : Int} (r0 : 0 ≤ r) (r1 : r < (xs.length : Int)) : ∃ v d, atI xs r = some v ∧ Dq K H v d ∧ Short d := by
  obtain ⟨j, rfl⟩ := Int.eq_ofNat_of_zero_le r0
  have hj : j < xs.length := by omega
  obtain ⟨d, m, k⟩ := DqAll.get q (i := j) (x := xs[j]) (List.getElem?_eq_getElem hj)
  exact ⟨_, d, at_of (j := j) rfl (List.getElem?_eq_getElem hj), k, sh d m⟩
theorem two_fit {d1 d2 : PyData} (f1 : Short d1) (f2 : Short d2) : Fit 46 100000 (.list [d1, d2]) := (Fit.list (FitAll.cons f1 (FitAll.cons (k := 0) f2 .nil))).mono (by decide) (by decide)
section
variable {P : Program} {w : World} {K : PySem.W.Frag} {mg : Str → Option Value} {base : Heap} {A : Adr}
structure TL (mg : Str → Option Value) : Prop where
  len : mg "len" = none
  min : mg "min" = none
  range : mg "range" = none
  repr : mg "repr" = none
  zip : mg "zip" = none
  int : mg "int" = none
def spLaw (K : PySem.W.Frag) : Sp := fun vs H Q _ => ∃ (a : Addr) (ns : List Int), vs = [.ref a] ∧ SqL K H a (ns.map V.int) ∧ ns.length ≤ 63 ∧ ∀ H', Q (.bl true) H'
theorem scLaw : FnScope ["script", "k", "m", "some", "thing", "far", "kept_so", "rows", "again", "row"] ["script"] (defScope sLaw) := ⟨rfl, rfl, rfl, by decide +kernel, rfl, by decide +kernel, by decide +kernel⟩
theorem ok_law {f fB fV fD fP fN fR fX : Addr} {fd fdB fdV fdD fdP fdN fdR fdX : FuncData} (F : Fun K "law" "law" sLaw f fd)
    (FB : Fun K "_law_begun" "_law_begun" sBegun fB fdB) (FV : Fun K "_law_values" "_law_values" sValues fV fdV) (FD : Fun K "_law_draw" "_law_draw" sDraw fD fdD) (FP : Fun K "_law_by_place" "_law_by_place" sPlace fP fdP)
    (FN : Fun K "_law_by_names" "_law_by_names" sNames fN fdN) (FR : Fun K "_law_are_right" "_law_are_right" sRight fR fdR) (FX : Fun K "_law_nests_right" "_law_nests_right" sNests fX fdX)
    (gB : mg "_law_begun" = some (.ref fB)) (gV : mg "_law_values" = some (.ref fV)) (gD : mg "_law_draw" = some (.ref fD)) (gP : mg "_law_by_place" = some (.ref fP)) (gN : mg "_law_by_names" = some (.ref fN)) (gR : mg "_law_are_right" = some (.ref fR)) (gX : mg "_law_nests_right" = some (.ref fX))
    (GR : ∀ base : Heap, FnG P w K mg base CX0 3 fR fdR ["row", "thing"] (spRight K A)) (GX : ∀ base : Heap, FnOk P w K mg base CX0 2 fX fdX ["thing", "far"] spNests) (TXm : TX K mg A) (TIm : TI K A) (T : TL mg) : FnG P w K mg base CX0 4 f fd ["script"] (spLaw K) := by
  have GB : FnOk P w K mg base CX0 1 fB fdB ["script", "k"] (spBegun K) := ok_begun FB T.int
  have GV : FnOk P w K mg base CX0 2 fV fdV ["m"] (spValues K) := ok_values FV FD gD T.int T.len T.range
  have GD : FnOk P w K mg base CX0 1 fD fdD ["m", "many"] spDraw := ok_draw FD T.int T.len
  have GP : FnOk P w K mg base CX0 3 fP fdP ["thing"] (spMade A) := ok_place FP TXm TIm
  have GN : FnOk P w K mg base CX0 3 fN fdN ["thing"] (spMade A) := ok_names FN TXm TIm
  have GR := GR base
  have GX := GX base
  have bB : Binds K fdB ["script", "k"] [] := FB.binds fun _ _ _ _ _ _ us hl => match us, hl with | [_, _], _ => rfl
  have bV : Binds K fdV ["m"] [] := FV.binds fun _ _ _ _ _ _ us hl => match us, hl with | [_], _ => rfl
  have bD : Binds K fdD ["m", "many"] [] := FD.binds fun _ _ _ _ _ _ us hl => match us, hl with | [_, _], _ => rfl
  have bP : Binds K fdP ["thing"] [] := FP.binds fun _ _ _ _ _ _ us hl => match us, hl with | [_], _ => rfl
  have bN : Binds K fdN ["thing"] [] := FN.binds fun _ _ _ _ _ _ us hl => match us, hl with | [_], _ => rfl
  have bR : Binds K fdR ["row", "thing"] [] := FR.binds fun _ _ _ _ _ _ us hl => match us, hl with | [_, _], _ => rfl
  have bX : Binds K fdX ["thing", "far"] [] := FX.binds fun _ _ _ _ _ _ us hl => match us, hl with | [_, _], _ => rfl
  refine fnG_ok F scLaw (fun vs H Q E h => ?_) (fun cdv B hq outer s H vs Q E hr h => ?_)
  · obtain ⟨a, ns, rfl, _⟩ := h
    rfl
  · obtain ⟨a, ns, rfl, hS, hlen, done⟩ := h
    have hu := hr.units
    have hr1 := hr.mono (show 1 ≤ 3 by decide)
    have hr2 := hr.mono (show 2 ≤ 3 by decide)
    have g : ∀ {X : Cx} {x : Str}, X.env.scope = defScope sLaw → Own.GN (defScope sLaw) x → Gl X x := fun e h => gl_of e h
    refine ⟨_, PSs.nox (pss_cons (ps_for PassesOwn.never rfl (pi_range1 (g rfl (by decide +kernel)) T.range (pa_cons (pe_op op_add pe_int (pe_callB (call_min2 rfl) (g rfl (by decide +kernel)) T.min boot_min (pa_cons (pe_callB call_len_seq (g rfl (by decide +kernel)) T.len boot_len (pa_cons (pv 0) pa_nil)) (pa_cons pe_int pa_nil)))) pa_nil)) (pg_name (i := 1) scLaw.nd rfl (Or.inl rfl)) (pss_cons (ps_set (i := 2) scLaw.nd rfl (Or.inl rfl) (pe_call GB hr1 (g rfl (by decide +kernel)) gB FB.kp bB .nil pass0 (pa_cons (pv 0) (pa_cons (pv 1) pa_nil))))
      (pss_cons (ps_set (i := 3) scLaw.nd rfl (Or.inl rfl) (pe_call GV hr2 (g rfl (by decide +kernel)) gV FV.kp bV .nil pass0 (pa_cons (pv 2) pa_nil)))
      (pss_one (ps_for PassesOwn.never rfl (pi_list (pv 3)) (pg_name (i := 4) scLaw.nd rfl (Or.inr rfl)) (pss_cons (ps_set (i := 5) scLaw.nd rfl (Or.inl rfl) (pe_ix ix_list (pv 3) (pe_call GD hr1 (g rfl (by decide +kernel)) gD FD.kp bD .nil pass0 (pa_cons (pv 2) (pa_cons (pe_callB call_len_seq (g rfl (by decide +kernel)) T.len boot_len (pa_cons (pv 3) pa_nil)) pa_nil))) (fun _ _ => rfl)))
      (pss_cons (ps_set (i := 6) scLaw.nd rfl (Or.inl rfl) (pe_callB (call_repr hq hu) (g rfl (by decide +kernel)) T.repr boot_repr (pa_cons (pe_lst (pa_cons (pv 4) (pa_cons (pv 5) pa_nil))) pa_nil)))
      (pss_cons (ps_set (i := 7) scLaw.nd rfl (Or.inl rfl) (pe_lst (pa_cons (pe_call GP hr (g rfl (by decide +kernel)) gP FP.kp bP .nil pass0 (pa_cons (pv 4) pa_nil)) (pa_cons (pe_call GN hr (g rfl (by decide +kernel)) gN FN.kp bN .nil pass0 (pa_cons (pv 4) pa_nil)) pa_nil))))
      (pss_cons (ps_set (i := 8) scLaw.nd rfl (Or.inl rfl) (pe_call GP hr (g rfl (by decide +kernel)) gP FP.kp bP .nil pass0 (pa_cons (pv 5) pa_nil)))
      (pss_cons (ps_if (pt_cmpR (op_neD hu) (pe_lc (own := [("row", 9)]) (g := gName 9) (by rfl) scLaw.nd (pi_list (pv 7)) (blkOk_by (own := [("row", 9)]) (N := ["script", "k", "m", "some", "thing", "far", "kept_so", "rows", "again", "row"]) (sc := defScope sLaw) (by decide +kernel)) (fun _ _ _ _ _ => pg_name (i := 9) scLaw.nd rfl (Or.inl rfl))
        (fun _ _ _ _ _ => pts_one (pt_not (pt_val (pe_callG (by exact hq) GR (by exact hr) (by rfl) gR FR.kp bR (pa_cons (pv 9) (pa_cons (pv 4) pa_nil)))))) (fun _ _ _ _ _ => pv 9)) (pe_lst pa_nil) (nomark _)) (pss_one (ps_ret pe_bl)) pss_nil)
      (pss_cons (ps_if (PW.pt (pw_or (pt_not (pt_val (pe_callG hq GR hr (g rfl (by decide +kernel)) gR FR.kp bR (pa_cons (pv 8) (pa_cons (pv 5) pa_nil))))) (pw_or (pt_not (pt_val (pe_callG hq GR hr (g rfl (by decide +kernel)) gR FR.kp bR (pa_cons (pe_ix ix_list (pv 7) pe_int (fun _ _ => rfl)) (pa_cons (pv 4) pa_nil))))) (pw_or1 (pt_cmpR op_ne (pe_callB (call_repr hq hu) (g rfl (by decide +kernel)) T.repr boot_repr (pa_cons (pe_lst (pa_cons (pv 4) (pa_cons (pv 5) pa_nil))) pa_nil)) (pv 6) (nomark _)))))) (pss_one (ps_ret pe_bl)) pss_nil)
      (pss_one (ps_if (pt_not (pt_val (pe_call GX hr2 (g rfl (by decide +kernel)) gX FX.kp bX .nil pass0 (pa_cons (pv 4) (pa_cons (pv 5) pa_nil))))) (pss_one (ps_ret pe_bl)) pss_nil)))))))))))))
      (pss_one (ps_ret pe_bl))), ?_⟩
    -- range(1 + min(len(script), 3))
    refine ⟨_, rfl, a, ns.map V.int, rfl, .inl hS, _, _, rfl, _, _, rfl, rfl, _, rfl, ?_⟩
    have hJ : ∃ J : Nat, (1 + (if (3 : Int) < ((ns.map V.int).length : Int) then (3 : Int) else ((ns.map V.int).length : Int))) = (J : Int) ∧ J ≤ 4 := by
      split
      · exact ⟨4, rfl, Nat.le_refl _⟩
      · exact ⟨1 + (ns.map V.int).length, by omega, by omega⟩
    obtain ⟨J, eJ, lJ⟩ := hJ
    rw [eJ, Int.toNat_natCast]
    refine ⟨by omega, by omega, for_range (n := J) (fun i σ H' => ∃ c1 c2 c3 c4 c5 c6 c7 c8 c9 : Option V, σ = [some (.ref a), c1, c2, c3, c4, c5, c6, c7, c8, c9] ∧ Same H H') ⟨none, none, none, none, none, none, none, none, none, rfl, Same.refl H⟩ ?_ ?_⟩
    · rintro i σ H1 hi ⟨c1, c2, c3, c4, c5, c6, c7, c8, c9, rfl, s1⟩
      refine ⟨_, rfl, _, rfl, a, 0 + i, ns, rfl, s1.seq hS, hlen, by omega, by omega, fun d H2 nd s2 D2 => ?_⟩
      refine ⟨_, rfl, d, 0, rfl, D2, by decide, by decide, fun S H3 xs ds b3 D3 hS3 q3 l3 f3 => ?_⟩
      have nSd : S ≠ d := fun z => by
        rw [z, del_same] at hS3
        cases hS3
      have gS : H3 S = some (.lst xs) := by rwa [del_ne nSd] at hS3
      have lx : xs.length = 19 := q3.len.trans l3
      refine ⟨_, rfl, S, rfl, ⟨_, SqL.of gS⟩, for_list (K := K) (a := S) (xs := xs) (fun j σ H' => ∃ c4 c5 c6 c7 c8 c9 : Option V, σ = [some (.ref a), some (.int (0 + i)), some (.ref d), some (.ref S), c4, c5, c6, c7, c8, c9] ∧ But d H3 H' ∧ DrawAt H' d (2 + (j : Int)))
        ⟨_, _, _, _, _, _, rfl, But.refl d H3, (show DrawAt H3 d (2 + ((0 : Nat) : Int)) from D3)⟩ (fun j σ H' _ ⟨_, _, _, _, _, _, _, b, _⟩ => SqL.of (b _ _ gS nSd)) ?_ ?_⟩
      · rintro j x σ H4 hj ⟨c4, c5, c6, c7, c8, c9, rfl, b4, D4⟩
        have jl : j < 19 := by
          have := (List.getElem?_eq_some_iff.mp hj).1
          omega
        obtain ⟨dx, mx, qx⟩ := q3.get hj
        have fx := f3 _ mx
        -- far
        refine ⟨_, rfl, _, rfl, _, rfl, S, xs, rfl, .inl (SqL.of (b4 _ _ gS nSd)), d, _, (xs.length : Int), rfl, D4, by omega, by omega, by omega, fun r1 H5 r10 r11 D5 b5 => ?_⟩
        have b5 := b4.trans b5
        obtain ⟨y, dy, ey, qy, fy⟩ := pick_at q3 f3 r10 r11
        refine ⟨S, xs, r1, y, rfl, rfl, SqL.of (b5 _ _ gS nSd), ey, ?_⟩
        have full : ∀ {H' : Hp} {v : V} {dd : PyData}, But d H3 H' → Dq K (del H3 d) v dd → Dq K H' v dd := fun b q => (q.same (del_same_but b)).same del_sub
        -- kept_so
        have f3' := two_fit fx fy
        have lk : ∀ {H' : Hp} {p : Addr}, But d H3 H' → H' p = some (.lst [x, y]) → Dq K H' (.ref p) (.list [dx, dy]) := fun b h => .lst (SqL.of h) (.cons (full b qx) (.cons (full b qy) .nil))
        refine ⟨_, rfl, _, rfl, Nat.le_of_ble_eq_true rfl, fun p1 n1 => ?_⟩
        have t1 := same_upd (Same.refl H5) n1 (o := .lst [x, y])
        have b7 := b5.trans (sb t1)
        refine ⟨_, _, rfl, lk b7 upd_same, f3'.sh, Nat.le_trans f3'.dp (by decide), f3'.size (by decide), ?_⟩
        -- rows, again
        refine ⟨_, rfl, x, rfl, fun S1 H8 xs1 n8 s8 h8 m8 => ?_⟩
        refine ⟨_, rfl, x, rfl, fun S2 H9 xs2 n9 s9 h9 m9 => ?_⟩
        refine ⟨Nat.le_of_ble_eq_true rfl, fun R nR => ?_⟩
        have sR := same_upd (Same.refl H9) nR (o := .lst [.ref S1, .ref S2])
        refine ⟨_, rfl, y, rfl, fun S3 H10 xs3 n10 s10 h10 m10 => ?_⟩
        have hR : H10 R = some (.lst [.ref S1, .ref S2]) := s10 _ _ upd_same
        have s910 : Same H9 H10 := sR.trans s10
        have s810 := s9.trans s910
        have b10 := b7.trans (sb (s8.trans s810))
        -- no row is wrong
        refine ⟨_, rfl, R, rfl, ⟨_, SqL.of hR⟩, fun D nD => ?_⟩
        refine lc_list (K := K) (a := R) (xs := [.ref S1, .ref S2]) (fun i H2 => H2 D = some (.lst []) ∧ Same H10 H2) ⟨upd_same, same_upd (Same.refl H10) nD⟩ (fun i H2 _ z => SqL.of (z.2 _ _ hR)) ?_ ?_
        · rintro i z H2 hi ⟨hD, sm⟩
          have hz : ∃ (T : Addr) (zs : List V), z = .ref T ∧ H10 T = some (.lst zs) ∧ MadeL H10 x zs (kinds A) := by
            match i, hi with
            | 0, hi => cases hi; exact ⟨_, xs1, rfl, s810 _ _ h8, m8.same s810⟩
            | 1, hi => cases hi; exact ⟨_, xs2, rfl, s910 _ _ h9, m9.same s910⟩
          obtain ⟨T, zs, rfl, hT, mT⟩ := hz
          have bz := b10.trans (sb sm)
          refine ⟨rfl, _, rfl, _, rfl, T, zs, x, dx, rfl, sm _ _ hT, mT.same sm, full bz qx, fx, fun H' s' => ⟨_, rfl, ite2 (fun zz => by cases zz) (fun _ => ⟨s' _ _ hD, sm.trans s'⟩)⟩⟩
        rintro H11 ⟨hD, s11⟩
        have b11 := b10.trans (sb s11)
        refine ⟨Nat.le_of_ble_eq_true rfl, fun pE nE => ?_⟩
        have sE := same_upd (Same.refl H11) nE (o := .lst [])
        refine ⟨.list [], .list [], .lst (SqL.of (sE _ _ hD)) .nil, .lst (SqL.of upd_same) .nil, rfl, rfl, _, rfl, ?_⟩
        have e0 : PyData.eqv (.list []) (.list []) = true := by decide +kernel
        rw [e0]
        refine ite2 (fun zz => by cases zz) (fun _ => ?_)
        have b12 := b11.trans (sb sE)
        have s12 := s11.trans sE
        -- again, the first row, as they were
        refine ⟨_, rfl, _, rfl, S3, xs3, y, dy, rfl, s12 _ _ h10, m10.same s12, full b12 qy, fy, fun H13 s13 => ⟨_, rfl, ite2 (fun zz => by cases zz) (fun _ => ?_)⟩⟩
        have b13 := b12.trans (sb s13)
        have s13' := s12.trans s13
        refine ⟨_, rfl, R, _, _, _, rfl, rfl, SqL.of (s13' _ _ hR), at_of (j := 0) rfl rfl, _, rfl, S1, xs1, x, dx, rfl, (s810.trans s13') _ _ h8, m8.same (s810.trans s13'), full b13 qx, fx, fun H14 s14 => ⟨_, rfl, ite2 (fun zz => by cases zz) (fun _ => ?_)⟩⟩
        have b14 := b13.trans (sb s14)
        refine ⟨_, rfl, _, rfl, Nat.le_of_ble_eq_true rfl, fun p2 n2 => ?_⟩
        have t2 := same_upd (Same.refl H14) n2 (o := .lst [x, y])
        have b15 := b14.trans (sb t2)
        refine ⟨_, _, rfl, lk b15 upd_same, f3'.sh, Nat.le_trans f3'.dp (by decide), f3'.size (by decide), ?_⟩
        refine ⟨_, rfl, rfl, _, rfl, ?_⟩
        refine ite2 (fun hb => by simp at hb) (fun _ => ?_)
        -- NestError
        refine ⟨_, rfl, _, rfl, x, y, rfl, fun H16 s16 => ⟨_, rfl, ite2 (fun zz => by cases zz) (fun _ => ?_)⟩⟩
        have b16 := b15.trans (sb s16)
        have D16 := ((D5.same t1).same s8).same (s810.trans (s13'.trans ((s14.trans t2).trans s16)))
        refine ⟨_, _, _, _, _, _, rfl, b16, ?_⟩
        have e : (2 + ((j + 1 : Nat) : Int)) = 2 + (j : Int) + 1 := by omega
        rw [e]
        exact D16
      · rintro σ H4 ⟨c4, c5, c6, c7, c8, c9, rfl, b4, D4⟩
        refine ⟨_, _, _, _, _, _, _, _, _, rfl, fun b o e => ?_⟩
        have e1 := s1 b o e
        have nb : b ≠ d := ne_of_none e1 nd
        exact b4 _ _ (b3 _ _ (s2 _ _ e1) nb) nb
    · rintro σ H1 ⟨c1, c2, c3, c4, c5, c6, c7, c8, c9, rfl, s1⟩
      exact done H1
end
end Own

set_option Elab.async false
set_option linter.all false
set_option maxRecDepth 100000
set_option maxHeartbeats 4000000
namespace Own
open PySem PySem.Spec PyProof.Rows L2
/-! a law whose promise holds where nothing is being shown -/
/-- the script's own object -/
abbrev scr (vs : List Value) : Obj := { cls := .type "list", data := .seq vs.toArray }
/-- the heap of which only the script is told, if the top has not written it -/
def onlyS (K : PySem.W.Frag) (a : Addr) (vs : List Value) (ns : List Int) : Hp := fun b => if b = a ∧ K.lookup a = none then some (.frz (scr vs) (.lst (ns.map V.int))) else none
theorem onlyS_some {K : PySem.W.Frag} {a b : Addr} {vs : List Value} {ns : List Int} {u : HO} (h : onlyS K a vs ns b = some u) : b = a ∧ K.lookup a = none ∧ u = .frz (scr vs) (.lst (ns.map V.int)) := by
  unfold onlyS at h
  split at h
  · rename_i q
    cases h
    exact ⟨q.1, q.2, rfl⟩
  · cases h
theorem onlyS_none {K : PySem.W.Frag} {a b : Addr} {vs : List Value} {ns : List Int} (h : b = a → K.lookup a ≠ none) : onlyS K a vs ns b = none := if_neg fun q => h q.1 q.2
section
variable {P : Program} {w : World} {K : PySem.W.Frag} {mg mb : Str → Option Value} {k : Nat} {fa a : Addr} {fd : FuncData} {x : Str} {sp : Sp} {s1 : Shared} {vs : List Value} {ns : List Int}
theorem callG (KX : K.In s1.heap) (hns : s1.heap.Ns mainGlobals mg) (hb : s1.heap.Ns builtinsNs mb) (hbb : ∀ y : Str, y ≠ "__name__" → mb y = bootBuiltins y) (hlim : s1.heap.NoLimit) (hg : s1.gens = #[])
    (ha : s1.heap.get? a = some (scr vs)) (hi : IntsAre vs ns) (hl : ns.length ≤ sizeLine) (hr : Room k callerA) (hbind : ∀ (s : Shared) (u : Value), BindsTo s fd ⟨[u], []⟩ [(x, u)])
    (F : ∀ base : Heap, K.In base → base.Ns mainGlobals mg → FnG P w K mg base CX0 k fa fd [x] sp) (hsp : ∀ H : Hp, SqL K H a (ns.map V.int) → sp [.ref a] H (fun v _ => v = .bl true) E0) :
    codeAny (model P w) callerA (.call (.ref fa) ⟨[.ref a], []⟩) (fun r s' => r = .ok (.ret (.bool true)) ∧ PySem.OldK s1.heap s'.heap ∧ s'.os = s1.os ∧ AllBare s'.gens) s1 := by
  have rv := vals_ints hi
  have sq : SqL K (onlyS K a vs ns) a (ns.map V.int) := by
    by_cases q : K.lookup a = none
    · exact .inl (.inr ⟨scr vs, if_pos ⟨rfl, q⟩⟩)
    · obtain ⟨o, ho⟩ := Option.ne_none_iff_exists'.mp q
      have e := (KX a o ho).symm.trans ha
      cases e
      exact .inr ⟨_, vs.toArray, _, ho, rfl, rfl, rfl, by rw [List.size_toArray, hi.length]; exact hl, by simpa using rv⟩
  have hok : HOk P w (onlyS K a vs ns) s1.heap := fun b u z => by
    obtain ⟨rfl, _, rfl⟩ := onlyS_some z
    exact ⟨ha, by rw [List.length_map]; exact hl, vs, _, rv, ha⟩
  have other : ∀ {b : Addr} {o : Obj}, s1.heap.get? b = some o → (b = a → K.lookup a ≠ none) → (hidT s1.heap (onlyS K a vs ns)).get? b = some o := fun e n => hidT_get e (onlyS_none n)
  have names : ∀ {b : Addr} {m : Str → Option Value}, s1.heap.Ns b m → (hidT s1.heap (onlyS K a vs ns)).Ns b m := by
    rintro b m ⟨o, es, ep, e, dd, r⟩
    refine ⟨o, es, ep, other e (fun q => ?_), dd, r⟩
    rw [q, ha] at e
    cases e
    cases (show Data.seq vs.toArray _ = Data.dict es ep from dd)
  have inK : K.In (hidT s1.heap (onlyS K a vs ns)) := fun b o e => other (KX b o e) fun q z => by
    rw [q, z] at e
    cases e
  obtain ⟨mc, l1, l2⟩ := hlim
  have e0 : Env0 P w K mg (hidT s1.heap (onlyS K a vs ns)) callerA [] s1 (onlyS K a vs ns) :=
    { frames := rfl, mod := ⟨inK, names hns, ⟨mb, names hb, hbb⟩, ⟨mc, names l1, l2⟩⟩, bs := fun b o e => of_hidT e, bsz := Nat.le_of_eq (hidT_size _ _), funs := trivial, frf := fun b hb => (by cases hb), hok := hok, bare := .of_eq hg }
  have run := (F _ inK (names hns)).run callerA rfl [] s1 _ ⟨[.ref a], []⟩ [.ref a] [.ref a] _ E0 hr e0 (hbind s1 (.ref a)) (.cons rfl .nil) (hsp _ sq)
  refine codeAny_mono run fun r s' h => ?_
  match r, h with
  | .error _, h => exact h.elim
  | .ok .next, h => exact h.elim
  | .ok .brk, h => exact h.elim
  | .ok .cont, h => exact h.elim
  | .ok (.ret u), ⟨v, H', os, bare, un, hok', ru, q⟩ =>
    cases (show v = .bl true from q)
    cases (show u = Value.bool true from ru)
    refine ⟨rfl, PySem.OldK.of_keep fun b o e => ?_, os, bare⟩
    cases z : onlyS K a vs ns b with
    | none => exact un.keep b o e z (fun y => by cases y) (by simp)
    | some u =>
      obtain ⟨rfl, _, rfl⟩ := onlyS_some z
      have e1 := (hok' _ _ (un.frzs _ _ _ z)).1
      rw [ha] at e
      cases e
      exact e1
end
theorem walkG {l : PySem.W.OpenLaw} {n k : Nat} {q : Program} {loose : List Str} {XP : (Str → Option Value) → Heap → Prop} {YP : World → Heap → Prop} {d : DefRec} {K : Params → PySem.W.Frag} {sp : PySem.W.Frag → Sp} {x : Str}
    (hn : l.most = some n) (hn2 : n ≤ sizeLine) (hdf : d.params.defaults = []) (hr : Room k callerA) (hY : ∀ (w : World) (h : Heap), YP w h → (K w.params).In h)
    (F : ∀ (w : World) (mg : Str → Option Value) (fa : Addr) (h : Heap), (K w.params).In h → h.Ns mainGlobals mg → mg d.name = some (.ref fa) →
      ∃ fd : FuncData, (∀ (s : Shared) (u : Value), BindsTo s fd ⟨[u], []⟩ [(x, u)]) ∧ ∀ base : Heap, (K w.params).In base → base.Ns mainGlobals mg → FnG l.prog w (K w.params) mg base CX0 k fa fd [x] (sp (K w.params)))
    (hsp : ∀ (K : PySem.W.Frag) (H : Hp) (a : Addr) (ns : List Int), ns.length ≤ n → SqL K H a (ns.map V.int) → sp K [.ref a] H (fun v _ => v = .bl true) E0) :
    PySem.W.WalkO q loose XP YP l.row.toRowW d [] (fun f vs => PySem.call f vs) := by
  refine Att.attach_call hn hdf fun w s0 s1 mg mb fa o pm cd doc a vs ns G Y ho hd hcd hmg hobj hints hlen hg => ?_
  obtain ⟨fd, hb, hF⟩ := F w mg fa _ (hY w _ Y) G.T.g hmg
  exact callG (hY w _ Y) G.T.g G.T.b G.T.builtins G.T.nolimit hg hobj hints (Nat.le_trans hlen hn2) hr hb hF fun H h => hsp _ H a ns hlen h
end Own

set_option Elab.async false
set_option linter.all false
set_option maxRecDepth 100000
set_option maxHeartbeats 4000000
namespace Own
open PySem PySem.Spec PyProof.Rows L2
section
variable {K : PySem.W.Frag}
theorem fun_ex {x qual : Str} {st : Stmt} {f : Addr} {oc : Value} {od an : Option Addr} {osl : Array (Option Value)} {kV doc pm cdv ct : Value} (l : K.lookup f = some ⟨oc, od, .func (PySem.W.fnOf x qual (defArgs st) (defBody st) (defScope st) .none kV doc pm an cdv ct), osl⟩)
    (c : PySem.W.codeIn K cdv qual = true) (k : PySem.W.keepIn K (.ref f) = true) : ∃ fd, Fun K x qual st f fd := ⟨_, fun_mk (st := st) l c k⟩
/-- what is asked of a class that is made -/
theorem cls_mk {B newId initId : String} {bmB : List Value} {C fI N : Addr} {nm q qual : Str} {st : Stmt} {bs bm : List Value} {sn : List Str} {sub : List Value} {ab : Bool} {col : Option Bool} {dd : Option Addr} {m0 m1 m2 m3 m5 : Option Value}
    {oc : Value} {od an : Option Addr} {osl : Array (Option Value)} {kV doc pm cdv ct : Value} (F : ExcBaseFacts B newId initId bmB) (SF : StoreFacts B bmB "object.__setattr__" "object") (ov : PySem.W.excOver K C bmB = true)
    (xL : K.lookup C = some (excClassObj nm q C N bs bm true sn sub ab col dd m0 m1 m2 m3 m5 newId)) (xM : PySem.W.excTail bmB bm = true)
    (sa : PySem.W.findIn K (.ref C) "__setattr__" = some (some (.builtin "object.__setattr__"))) (eC : PySem.W.subIn K (.ref C) (.type "BaseException") = some true) (tC : PySem.W.typeIn K (.ref C) = some (.type "type")) (kC : PySem.W.keepIn K (.ref C) = true)
    (hg : PySem.W.findIn K (.ref C) "__getattribute__" = some (some (.builtin "BaseException.__getattribute__"))) (hk : PySem.W.findIn K (.ref C) "__getattr__" = some none) (hd : PySem.W.hasDictIn K C = true)
    (ha : PySem.W.findIn K (.ref C) "__class__" = some (some (.builtin "object.__class__"))) (hn : PySem.W.specialIn K (.builtin "object.__class__") "__get__" = some (some (.builtin "getset_descriptor.__get__"))) (ht : PySem.W.takesIn K (.builtin "object.__class__") = some true)
    (hm : PySem.W.mroIn K C (.type "object") = some true) (ini : PySem.W.findIn K (.ref C) "__init__" = some (some (.ref fI))) (tyI : PySem.W.typeIn K (.ref fI) = some (.type "function"))
    (lI : K.lookup fI = some ⟨oc, od, .func (PySem.W.fnOf "__init__" qual (defArgs st) (defBody st) (defScope st) .none kV doc pm an cdv ct), osl⟩) (cI : PySem.W.codeIn K cdv qual = true) (kI : PySem.W.keepIn K (.ref fI) = true) :
    ∃ fI fd, XA K C fI ∧ Fun K "__init__" qual st fI fd :=
  ⟨fI, _, ⟨⟨⟨B, newId, initId, bmB, F, SF, ov, nm, q, N, bs, bm, sn, sub, ab, col, dd, m0, m1, m2, m3, m5, xL, xM⟩, sa, tC, kC⟩, ⟨hg, hk, eC, hd, ha, hn, ht, hm⟩, ini, tyI⟩, fun_mk (st := st) lI cI kI⟩
end
theorem all_mk {P : Program} {w : World} {K : PySem.W.Frag} {h : Heap} {mg : Str → Option Value} {fa C_prog C_lot C_rnd C_num C_box C_form C_deal C_paper C_great C_nest fB fD fM fU fW fP fN fF fR fV fX fL : Addr} (X : K.In h) (G : h.Ns mainGlobals mg) (hfa : mg "law" = some (.ref fa))
    (c_prog : PySem.W.nsIn K mainGlobals "BadProgram" = some (some (.ref C_prog)))
    (c_lot : PySem.W.nsIn K mainGlobals "BadLot" = some (some (.ref C_lot)))
    (c_rnd : PySem.W.nsIn K mainGlobals "BadRound" = some (some (.ref C_rnd)))
    (c_num : PySem.W.nsIn K mainGlobals "BadNumber" = some (some (.ref C_num)))
    (c_box : PySem.W.nsIn K mainGlobals "BadBox" = some (some (.ref C_box)))
    (c_form : PySem.W.nsIn K mainGlobals "BadForm" = some (some (.ref C_form)))
    (c_deal : PySem.W.nsIn K mainGlobals "BadDealing" = some (some (.ref C_deal)))
    (c_paper : PySem.W.nsIn K mainGlobals "BadPaper" = some (some (.ref C_paper)))
    (c_great : PySem.W.nsIn K mainGlobals "TooGreat" = some (some (.ref C_great)))
    (c_nest : PySem.W.nsIn K mainGlobals "NestError" = some (some (.ref C_nest)))
    (b_ValueError : PySem.W.nsIn K mainGlobals "ValueError" = some none)
    (b_OverflowError : PySem.W.nsIn K mainGlobals "OverflowError" = some none)
    (b_LookupError : PySem.W.nsIn K mainGlobals "LookupError" = some none)
    (b_RuntimeError : PySem.W.nsIn K mainGlobals "RuntimeError" = some none)
    (b_TypeError : PySem.W.nsIn K mainGlobals "TypeError" = some none)
    (b_Exception : PySem.W.nsIn K mainGlobals "Exception" = some none)
    (z_len : PySem.W.nsIn K mainGlobals "len" = some none)
    (z_min : PySem.W.nsIn K mainGlobals "min" = some none)
    (z_range : PySem.W.nsIn K mainGlobals "range" = some none)
    (z_repr : PySem.W.nsIn K mainGlobals "repr" = some none)
    (z_zip : PySem.W.nsIn K mainGlobals "zip" = some none)
    (z_int : PySem.W.nsIn K mainGlobals "int" = some none)
    (z_isinstance : PySem.W.nsIn K mainGlobals "isinstance" = some none)
    (aB : PySem.W.nsIn K mainGlobals "_law_begun" = some (some (.ref fB)))
    (uB : ∃ fd, Fun K "_law_begun" "_law_begun" sBegun fB fd)
    (aD : PySem.W.nsIn K mainGlobals "_law_draw" = some (some (.ref fD)))
    (uD : ∃ fd, Fun K "_law_draw" "_law_draw" sDraw fD fd)
    (aM : PySem.W.nsIn K mainGlobals "_law_marks" = some (some (.ref fM)))
    (uM : ∃ fd, Fun K "_law_marks" "_law_marks" sMarks fM fd)
    (aU : PySem.W.nsIn K mainGlobals "_law_due" = some (some (.ref fU)))
    (uU : ∃ fd, Fun K "_law_due" "_law_due" sDue fU fd)
    (aW : PySem.W.nsIn K mainGlobals "_law_words" = some (some (.ref fW)))
    (uW : ∃ fd, Fun K "_law_words" "_law_words" sWords fW fd)
    (aP : PySem.W.nsIn K mainGlobals "_law_by_place" = some (some (.ref fP)))
    (uP : ∃ fd, Fun K "_law_by_place" "_law_by_place" sPlace fP fd)
    (aN : PySem.W.nsIn K mainGlobals "_law_by_names" = some (some (.ref fN)))
    (uN : ∃ fd, Fun K "_law_by_names" "_law_by_names" sNames fN fd)
    (aF : PySem.W.nsIn K mainGlobals "_law_fields" = some (some (.ref fF)))
    (uF : ∃ fd, Fun K "_law_fields" "_law_fields" sFields fF fd)
    (aR : PySem.W.nsIn K mainGlobals "_law_are_right" = some (some (.ref fR)))
    (uR : ∃ fd, Fun K "_law_are_right" "_law_are_right" sRight fR fd)
    (aV : PySem.W.nsIn K mainGlobals "_law_values" = some (some (.ref fV)))
    (uV : ∃ fd, Fun K "_law_values" "_law_values" sValues fV fd)
    (aX : PySem.W.nsIn K mainGlobals "_law_nests_right" = some (some (.ref fX)))
    (uX : ∃ fd, Fun K "_law_nests_right" "_law_nests_right" sNests fX fd)
    (aL : PySem.W.nsIn K mainGlobals "law" = some (some (.ref fL)))
    (uL : ∃ fd, Fun K "law" "law" sLaw fL fd)
    (m_prog : ∃ fI fd, XA K C_prog fI ∧ Fun K "__init__" "BadProgram.__init__" sI_prog fI fd)
    (n_prog : PySem.W.findIn K (.ref C_prog) "place" = some none)
    (w_prog : PySem.W.takerIn K C_prog "place" = some none)
    (m_lot : ∃ fI fd, XA K C_lot fI ∧ Fun K "__init__" "BadLot.__init__" sI_lot fI fd)
    (n_lot : PySem.W.findIn K (.ref C_lot) "value" = some none)
    (w_lot : PySem.W.takerIn K C_lot "value" = some none)
    (m_rnd : ∃ fI fd, XA K C_rnd fI ∧ Fun K "__init__" "BadRound.__init__" sI_rnd fI fd)
    (n_rnd : PySem.W.findIn K (.ref C_rnd) "value" = some none)
    (w_rnd : PySem.W.takerIn K C_rnd "value" = some none)
    (m_num : ∃ fI fd, XA K C_num fI ∧ Fun K "__init__" "BadNumber.__init__" sI_num fI fd)
    (n_num : PySem.W.findIn K (.ref C_num) "value" = some none)
    (w_num : PySem.W.takerIn K C_num "value" = some none)
    (m_box : ∃ fI fd, XA K C_box fI ∧ Fun K "__init__" "BadBox.__init__" sI_box fI fd)
    (n_box : PySem.W.findIn K (.ref C_box) "value" = some none)
    (w_box : PySem.W.takerIn K C_box "value" = some none)
    (m_form : ∃ fI fd, XA K C_form fI ∧ Fun K "__init__" "BadForm.__init__" sI_form fI fd)
    (n_form : PySem.W.findIn K (.ref C_form) "value" = some none)
    (w_form : PySem.W.takerIn K C_form "value" = some none)
    (m_deal : ∃ fI fd, XA K C_deal fI ∧ Fun K "__init__" "BadDealing.__init__" sI_deal fI fd)
    (n_deal : PySem.W.findIn K (.ref C_deal) "place" = some none)
    (w_deal : PySem.W.takerIn K C_deal "place" = some none)
    (m_paper : ∃ fI fd, XA K C_paper fI ∧ Fun K "__init__" "BadPaper.__init__" sI_paper fI fd)
    (n_paper : PySem.W.findIn K (.ref C_paper) "word" = some none)
    (w_paper : PySem.W.takerIn K C_paper "word" = some none)
    (m_great : ∃ fI fd, XA K C_great fI ∧ Fun K "__init__" "TooGreat.__init__" sI_great fI fd)
    (n_great : PySem.W.findIn K (.ref C_great) "most" = some none)
    (w_great : PySem.W.takerIn K C_great "most" = some none)
    (e_nest : ExcC K C_nest)
    (k_nest : PySem.W.keepIn K (.ref C_nest) = true)
    (q_nest : PySem.W.excIn K C_nest veT "ValueError.__new__" = true)
    (t_prog : kitsB K C_prog (askd ⟨C_prog, C_lot, C_rnd, C_num, C_box, C_form, C_deal, C_paper, C_great, C_nest⟩) bit_prog = true)
    (t_lot : kitsB K C_lot (askd ⟨C_prog, C_lot, C_rnd, C_num, C_box, C_form, C_deal, C_paper, C_great, C_nest⟩) bit_lot = true)
    (t_rnd : kitsB K C_rnd (askd ⟨C_prog, C_lot, C_rnd, C_num, C_box, C_form, C_deal, C_paper, C_great, C_nest⟩) bit_rnd = true)
    (t_num : kitsB K C_num (askd ⟨C_prog, C_lot, C_rnd, C_num, C_box, C_form, C_deal, C_paper, C_great, C_nest⟩) bit_num = true)
    (t_box : kitsB K C_box (askd ⟨C_prog, C_lot, C_rnd, C_num, C_box, C_form, C_deal, C_paper, C_great, C_nest⟩) bit_box = true)
    (t_form : kitsB K C_form (askd ⟨C_prog, C_lot, C_rnd, C_num, C_box, C_form, C_deal, C_paper, C_great, C_nest⟩) bit_form = true)
    (t_deal : kitsB K C_deal (askd ⟨C_prog, C_lot, C_rnd, C_num, C_box, C_form, C_deal, C_paper, C_great, C_nest⟩) bit_deal = true)
    (t_paper : kitsB K C_paper (askd ⟨C_prog, C_lot, C_rnd, C_num, C_box, C_form, C_deal, C_paper, C_great, C_nest⟩) bit_paper = true)
    (t_great : kitsB K C_great (askd ⟨C_prog, C_lot, C_rnd, C_num, C_box, C_form, C_deal, C_paper, C_great, C_nest⟩) bit_great = true)
    (t_nest : kitsB K C_nest (askd ⟨C_prog, C_lot, C_rnd, C_num, C_box, C_form, C_deal, C_paper, C_great, C_nest⟩) bit_nest = true) :
    ∃ fd : FuncData, (∀ (s : Shared) (u : Value), BindsTo s fd ⟨[u], []⟩ [("script", u)]) ∧ ∀ base : Heap, K.In base → base.Ns mainGlobals mg → FnG P w K mg base CX0 4 fa fd ["script"] (spLaw K) := by
  have e := hfa.symm.trans (PySem.W.mg_of X G aL)
  cases e
  have T : TX K mg ⟨C_prog, C_lot, C_rnd, C_num, C_box, C_form, C_deal, C_paper, C_great, C_nest⟩ := ⟨PySem.W.mg_of X G c_prog, PySem.W.mg_of X G c_lot, PySem.W.mg_of X G c_rnd, PySem.W.mg_of X G c_num, PySem.W.mg_of X G c_box, PySem.W.mg_of X G c_form, PySem.W.mg_of X G c_deal, PySem.W.mg_of X G c_paper, PySem.W.mg_of X G c_great, PySem.W.mg_of X G c_nest, PySem.W.mg_none_of X G b_ValueError, PySem.W.mg_none_of X G b_OverflowError, PySem.W.mg_none_of X G b_LookupError, PySem.W.mg_none_of X G b_RuntimeError, PySem.W.mg_none_of X G b_TypeError, PySem.W.mg_none_of X G b_Exception, PySem.W.mg_none_of X G z_isinstance⟩
  have I : TI K ⟨C_prog, C_lot, C_rnd, C_num, C_box, C_form, C_deal, C_paper, C_great, C_nest⟩ := ⟨m_prog, n_prog, w_prog, m_lot, n_lot, w_lot, m_rnd, n_rnd, w_rnd, m_num, n_num, w_num, m_box, n_box, w_box, m_form, n_form, w_form, m_deal, n_deal, w_deal, m_paper, n_paper, w_paper, m_great, n_great, w_great⟩
  have TK : TK K ⟨C_prog, C_lot, C_rnd, C_num, C_box, C_form, C_deal, C_paper, C_great, C_nest⟩ := ⟨kits_of t_prog, kits_of t_lot, kits_of t_rnd, kits_of t_num, kits_of t_box, kits_of t_form, kits_of t_deal, kits_of t_paper, kits_of t_great, kits_of t_nest⟩
  have N : TN K ⟨C_prog, C_lot, C_rnd, C_num, C_box, C_form, C_deal, C_paper, C_great, C_nest⟩ := ⟨e_nest, k_nest, q_nest⟩
  have T0 : TL mg := ⟨PySem.W.mg_none_of X G z_len, PySem.W.mg_none_of X G z_min, PySem.W.mg_none_of X G z_range, PySem.W.mg_none_of X G z_repr, PySem.W.mg_none_of X G z_zip, PySem.W.mg_none_of X G z_int⟩
  obtain ⟨dB, FB⟩ := uB
  obtain ⟨dD, FD⟩ := uD
  obtain ⟨dM, FM⟩ := uM
  obtain ⟨dU, FU⟩ := uU
  obtain ⟨dW, FW⟩ := uW
  obtain ⟨dP, FP⟩ := uP
  obtain ⟨dN, FN⟩ := uN
  obtain ⟨dF, FF⟩ := uF
  obtain ⟨dR, FR⟩ := uR
  obtain ⟨dV, FV⟩ := uV
  obtain ⟨dX, FX⟩ := uX
  obtain ⟨dL, FL⟩ := uL
  have GR : ∀ base : Heap, FnG P w K mg base CX0 3 fR dR ["row", "thing"] (spRight K ⟨C_prog, C_lot, C_rnd, C_num, C_box, C_form, C_deal, C_paper, C_great, C_nest⟩) := fun base => ok_right FR FM FF FW FU (PySem.W.mg_of X G aM) (PySem.W.mg_of X G aF) (PySem.W.mg_of X G aW) (PySem.W.mg_of X G aU) T0.repr T0.zip T I TK
  have GX : ∀ base : Heap, FnOk P w K mg base CX0 2 fX dX ["thing", "far"] spNests := fun base => ok_nests FX FM (PySem.W.mg_of X G aM) (PySem.W.mg_of X G c_nest) T N TK
  refine ⟨dL, fun s u => ?_, fun base _ _ => ok_law FL FB FV FD FP FN FR FX (PySem.W.mg_of X G aB) (PySem.W.mg_of X G aV) (PySem.W.mg_of X G aD) (PySem.W.mg_of X G aP) (PySem.W.mg_of X G aN) (PySem.W.mg_of X G aR) (PySem.W.mg_of X G aX) GR GX T I T0⟩
  obtain ⟨oc, od, kV, doc, pm, an, cdv, ct, osl, rfl, lk, hcd⟩ := FL.ex
  exact .of_eq rfl
theorem walk {l : PySem.W.OpenLaw} {q : Program} {loose : List Str} {XP : (Str → Option Value) → Heap → Prop} {YP : World → Heap → Prop} {d : DefRec} {K : Params → PySem.W.Frag} (hn : l.most = some 63) (hdf : d.params.defaults = [])
    (hY : ∀ (w : World) (h : Heap), YP w h → (K w.params).In h)
    (F : ∀ (w : World) (mg : Str → Option Value) (fa : Addr) (h : Heap), (K w.params).In h → h.Ns mainGlobals mg → mg d.name = some (.ref fa) →
      ∃ fd : FuncData, (∀ (s : Shared) (u : Value), BindsTo s fd ⟨[u], []⟩ [("script", u)]) ∧ ∀ base : Heap, (K w.params).In base → base.Ns mainGlobals mg → FnG l.prog w (K w.params) mg base CX0 4 fa fd ["script"] (spLaw (K w.params))) :
    PySem.W.WalkO q loose XP YP l.row.toRowW d [] (fun f vs => PySem.call f vs) :=
  walkG (n := 63) (k := 4) (x := "script") (sp := spLaw) hn (by decide) hdf ⟨rfl, by decide, by decide⟩ hY F fun _ _ a ns hl hS => ⟨a, ns, rfl, hS, hl, fun _ => rfl⟩
end Own

set_option Elab.async false
set_option maxRecDepth 100000
open PySem PySem.W PyProof.Rows
set_option maxHeartbeats 0 in
theorem PySem.Challenge.cw_owncells_k24_exceptions_holds : PySem.Challenge.rw_owncells_k24_exceptions.Holds := by
  w_on; o_law; k_head; (case hw => w_witness2)
  k_fill
  refine Own.walk (l := PySem.Challenge.rw_owncells_k24_exceptions) rfl rfl (fun w h Y => PySem.W.kIn_of Y) ?F
  case F =>
    intro w mg fa h KX G hmg
    refine' Own.all_mk KX G hmg ?c_prog ?c_lot ?c_rnd ?c_num ?c_box ?c_form ?c_deal ?c_paper ?c_great ?c_nest ?b_ValueError ?b_OverflowError ?b_LookupError ?b_RuntimeError ?b_TypeError ?b_Exception ?z_len ?z_min ?z_range ?z_repr ?z_zip ?z_int ?z_isinstance ?aB ?uB ?aD ?uD ?aM ?uM ?aU ?uU ?aW ?uW ?aP ?uP ?aN ?uN ?aF ?uF ?aR ?uR ?aV ?uV ?aX ?uX ?aL ?uL ?m_prog ?n_prog ?w_prog ?m_lot ?n_lot ?w_lot ?m_rnd ?n_rnd ?w_rnd ?m_num ?n_num ?w_num ?m_box ?n_box ?w_box ?m_form ?n_form ?w_form ?m_deal ?n_deal ?w_deal ?m_paper ?n_paper ?w_paper ?m_great ?n_great ?w_great ?e_nest ?k_nest ?q_nest ?t_prog ?t_lot ?t_rnd ?t_num ?t_box ?t_form ?t_deal ?t_paper ?t_great ?t_nest
    (case c_prog => k_is)
    (case c_lot => k_is)
    (case c_rnd => k_is)
    (case c_num => k_is)
    (case c_box => k_is)
    (case c_form => k_is)
    (case c_deal => k_is)
    (case c_paper => k_is)
    (case c_great => k_is)
    (case c_nest => k_is)
    (case b_ValueError => k_is)
    (case b_OverflowError => k_is)
    (case b_LookupError => k_is)
    (case b_RuntimeError => k_is)
    (case b_TypeError => k_is)
    (case b_Exception => k_is)
    (case z_len => k_is)
    (case z_min => k_is)
    (case z_range => k_is)
    (case z_repr => k_is)
    (case z_zip => k_is)
    (case z_int => k_is)
    (case z_isinstance => k_is)
    (case aB => k_is)
    (case uB => refine' Own.fun_ex ?l ?c ?k; (case l => k_is); (case c => k_is); (case k => k_is))
    (case aD => k_is)
    (case uD => refine' Own.fun_ex ?l ?c ?k; (case l => k_is); (case c => k_is); (case k => k_is))
    (case aM => k_is)
    (case uM => refine' Own.fun_ex ?l ?c ?k; (case l => k_is); (case c => k_is); (case k => k_is))
    (case aU => k_is)
    (case uU => refine' Own.fun_ex ?l ?c ?k; (case l => k_is); (case c => k_is); (case k => k_is))
    (case aW => k_is)
    (case uW => refine' Own.fun_ex ?l ?c ?k; (case l => k_is); (case c => k_is); (case k => k_is))
    (case aP => k_is)
    (case uP => refine' Own.fun_ex ?l ?c ?k; (case l => k_is); (case c => k_is); (case k => k_is))
    (case aN => k_is)
    (case uN => refine' Own.fun_ex ?l ?c ?k; (case l => k_is); (case c => k_is); (case k => k_is))
    (case aF => k_is)
    (case uF => refine' Own.fun_ex ?l ?c ?k; (case l => k_is); (case c => k_is); (case k => k_is))
    (case aR => k_is)
    (case uR => refine' Own.fun_ex ?l ?c ?k; (case l => k_is); (case c => k_is); (case k => k_is))
    (case aV => k_is)
    (case uV => refine' Own.fun_ex ?l ?c ?k; (case l => k_is); (case c => k_is); (case k => k_is))
    (case aX => k_is)
    (case uX => refine' Own.fun_ex ?l ?c ?k; (case l => k_is); (case c => k_is); (case k => k_is))
    (case aL => k_is)
    (case uL => refine' Own.fun_ex ?l ?c ?k; (case l => k_is); (case c => k_is); (case k => k_is))
    (case m_prog => refine' Own.cls_mk PySem.F.excBase_ValueError PySem.F.store_ValueError ?ov ?xL ?xM ?sa ?eC ?tC ?kC ?hg ?hk ?hd ?ha ?hn ?ht ?hm ?ini ?tyI ?lI ?cI ?kI; (case ov => kernel_rfl); (case xL => k_is); (case xM => decide +kernel); (case sa => k_is); (case eC => k_is); (case tC => k_is); (case kC => k_is); (case hg => k_is); (case hk => k_is); (case hd => k_is); (case ha => k_is); (case hn => k_is); (case ht => k_is); (case hm => k_is); (case ini => k_is); (case tyI => k_is); (case lI => k_is); (case cI => k_is); (case kI => k_is))
    (case n_prog => k_is)
    (case w_prog => k_is)
    (case m_lot => refine' Own.cls_mk PySem.F.excBase_ValueError PySem.F.store_ValueError ?ov ?xL ?xM ?sa ?eC ?tC ?kC ?hg ?hk ?hd ?ha ?hn ?ht ?hm ?ini ?tyI ?lI ?cI ?kI; (case ov => kernel_rfl); (case xL => k_is); (case xM => decide +kernel); (case sa => k_is); (case eC => k_is); (case tC => k_is); (case kC => k_is); (case hg => k_is); (case hk => k_is); (case hd => k_is); (case ha => k_is); (case hn => k_is); (case ht => k_is); (case hm => k_is); (case ini => k_is); (case tyI => k_is); (case lI => k_is); (case cI => k_is); (case kI => k_is))
    (case n_lot => k_is)
    (case w_lot => k_is)
    (case m_rnd => refine' Own.cls_mk PySem.F.excBase_ValueError PySem.F.store_ValueError ?ov ?xL ?xM ?sa ?eC ?tC ?kC ?hg ?hk ?hd ?ha ?hn ?ht ?hm ?ini ?tyI ?lI ?cI ?kI; (case ov => kernel_rfl); (case xL => k_is); (case xM => decide +kernel); (case sa => k_is); (case eC => k_is); (case tC => k_is); (case kC => k_is); (case hg => k_is); (case hk => k_is); (case hd => k_is); (case ha => k_is); (case hn => k_is); (case ht => k_is); (case hm => k_is); (case ini => k_is); (case tyI => k_is); (case lI => k_is); (case cI => k_is); (case kI => k_is))
    (case n_rnd => k_is)
    (case w_rnd => k_is)
    (case m_num => refine' Own.cls_mk PySem.F.excBase_ValueError PySem.F.store_ValueError ?ov ?xL ?xM ?sa ?eC ?tC ?kC ?hg ?hk ?hd ?ha ?hn ?ht ?hm ?ini ?tyI ?lI ?cI ?kI; (case ov => kernel_rfl); (case xL => k_is); (case xM => decide +kernel); (case sa => k_is); (case eC => k_is); (case tC => k_is); (case kC => k_is); (case hg => k_is); (case hk => k_is); (case hd => k_is); (case ha => k_is); (case hn => k_is); (case ht => k_is); (case hm => k_is); (case ini => k_is); (case tyI => k_is); (case lI => k_is); (case cI => k_is); (case kI => k_is))
    (case n_num => k_is)
    (case w_num => k_is)
    (case m_box => refine' Own.cls_mk PySem.F.excBase_ValueError PySem.F.store_ValueError ?ov ?xL ?xM ?sa ?eC ?tC ?kC ?hg ?hk ?hd ?ha ?hn ?ht ?hm ?ini ?tyI ?lI ?cI ?kI; (case ov => kernel_rfl); (case xL => k_is); (case xM => decide +kernel); (case sa => k_is); (case eC => k_is); (case tC => k_is); (case kC => k_is); (case hg => k_is); (case hk => k_is); (case hd => k_is); (case ha => k_is); (case hn => k_is); (case ht => k_is); (case hm => k_is); (case ini => k_is); (case tyI => k_is); (case lI => k_is); (case cI => k_is); (case kI => k_is))
    (case n_box => k_is)
    (case w_box => k_is)
    (case m_form => refine' Own.cls_mk PySem.F.excBase_ValueError PySem.F.store_ValueError ?ov ?xL ?xM ?sa ?eC ?tC ?kC ?hg ?hk ?hd ?ha ?hn ?ht ?hm ?ini ?tyI ?lI ?cI ?kI; (case ov => kernel_rfl); (case xL => k_is); (case xM => decide +kernel); (case sa => k_is); (case eC => k_is); (case tC => k_is); (case kC => k_is); (case hg => k_is); (case hk => k_is); (case hd => k_is); (case ha => k_is); (case hn => k_is); (case ht => k_is); (case hm => k_is); (case ini => k_is); (case tyI => k_is); (case lI => k_is); (case cI => k_is); (case kI => k_is))
    (case n_form => k_is)
    (case w_form => k_is)
    (case m_deal => refine' Own.cls_mk PySem.F.excBase_ValueError PySem.F.store_ValueError ?ov ?xL ?xM ?sa ?eC ?tC ?kC ?hg ?hk ?hd ?ha ?hn ?ht ?hm ?ini ?tyI ?lI ?cI ?kI; (case ov => kernel_rfl); (case xL => k_is); (case xM => decide +kernel); (case sa => k_is); (case eC => k_is); (case tC => k_is); (case kC => k_is); (case hg => k_is); (case hk => k_is); (case hd => k_is); (case ha => k_is); (case hn => k_is); (case ht => k_is); (case hm => k_is); (case ini => k_is); (case tyI => k_is); (case lI => k_is); (case cI => k_is); (case kI => k_is))
    (case n_deal => k_is)
    (case w_deal => k_is)
    (case m_paper => refine' Own.cls_mk PySem.F.excBase_ValueError PySem.F.store_ValueError ?ov ?xL ?xM ?sa ?eC ?tC ?kC ?hg ?hk ?hd ?ha ?hn ?ht ?hm ?ini ?tyI ?lI ?cI ?kI; (case ov => kernel_rfl); (case xL => k_is); (case xM => decide +kernel); (case sa => k_is); (case eC => k_is); (case tC => k_is); (case kC => k_is); (case hg => k_is); (case hk => k_is); (case hd => k_is); (case ha => k_is); (case hn => k_is); (case ht => k_is); (case hm => k_is); (case ini => k_is); (case tyI => k_is); (case lI => k_is); (case cI => k_is); (case kI => k_is))
    (case n_paper => k_is)
    (case w_paper => k_is)
    (case m_great => refine' Own.cls_mk PySem.F.excBase_OverflowError PySem.F.store_OverflowError ?ov ?xL ?xM ?sa ?eC ?tC ?kC ?hg ?hk ?hd ?ha ?hn ?ht ?hm ?ini ?tyI ?lI ?cI ?kI; (case ov => kernel_rfl); (case xL => k_is); (case xM => decide +kernel); (case sa => k_is); (case eC => k_is); (case tC => k_is); (case kC => k_is); (case hg => k_is); (case hk => k_is); (case hd => k_is); (case ha => k_is); (case hn => k_is); (case ht => k_is); (case hm => k_is); (case ini => k_is); (case tyI => k_is); (case lI => k_is); (case cI => k_is); (case kI => k_is))
    (case n_great => k_is)
    (case w_great => k_is)
    (case e_nest => refine' ⟨?hg, ?hk, ?hs, ?hd, ?ha, ?hn, ?ht, ?hm⟩; (case hg => k_is); (case hk => k_is); (case hs => k_is); (case hd => k_is); (case ha => k_is); (case hn => k_is); (case ht => k_is); (case hm => k_is))
    (case k_nest => k_is)
    (case q_nest => kernel_rfl)
    (case t_prog => kernel_rfl)
    (case t_lot => kernel_rfl)
    (case t_rnd => kernel_rfl)
    (case t_num => kernel_rfl)
    (case t_box => kernel_rfl)
    (case t_form => kernel_rfl)
    (case t_deal => kernel_rfl)
    (case t_paper => kernel_rfl)
    (case t_great => kernel_rfl)
    (case t_nest => kernel_rfl)
#print axioms PySem.Challenge.cw_owncells_k24_exceptions_holds
