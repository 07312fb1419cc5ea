import PyProof.Rows.All
import Wide.All
import OpenK.AllK
import Wide.FinOn
import PyProof.ReprRoads
import PyProof.Rows.NestShow
import HandS.ForMost
import HandS.ForExc
import HandS.ExcInit
import HandS.ExcValue
import HandS.ExcIs
import KE.KExcIs
import HandS.ExcField
import HandS.Deep
import HandS.Defaults
import HandS.HeadEnd
import HandS.Lambda
import HandS.Head0
import HandS.Head1
import HandS.Head2
import HandS.HeadHook1
import HandS.HeadHook2
import HandS.HeadHook4
import HandS.EndTab
import HandS.HeadNt
import HandS.Style
import HandS.IsInst
import HandS.TupLe
import KE.GoesNew
import KE.GoesMore
import HandS.Walk
import HandS.Zip
import PyProof.P3Eq
import HandS.OwnEq
import HandS.SlotsOwn
import KE.KOpsOwn
import HandS.ClsMeth
import HandS.Star
import HandS.Wide
import PyProof.TwoTypes
import HandS.TupMul
import PyProof.FactsAll.int_1
import HandS.ExcOwn
import HandS.Small
import PySem.Challenge.RW_risingread_k04_arithmetic_by_value
set_option Elab.async false
set_option linter.all false
set_option maxRecDepth 100000
set_option maxHeartbeats 2000000
/-! Own rules over the hand layer: repr of data, exceptions as values, counts, defs that lean on an empty row of guards. -/
namespace Ru
open PySem PySem.Spec PyProof.Rows L2

/-! ### repr of data -/
def rRepr (K : PySem.W.Frag) : List V → Hp → VK → Prop := fun xs H Q =>
  ∃ (a : Addr) (d : PyData), xs = [.ref a] ∧ Dp K H (.ref a) d ∧ d.showable = true ∧ d.hasDict = false ∧ d.depth ≤ 40 ∧ d.shown.length ≤ sizeLine ∧ Q (.str d.shown) H
theorem call_reprD {X : Cx} (hg : X.A.guards = some []) (hu : X.A.units + 64 < cLine) : CallR X (.builtin "repr") (rRepr X.K) := by
  intro pins s σ H xs us Q I r h
  obtain ⟨a, d, rfl, hd, hs, hn, hdp, hsz, q⟩ := h
  obtain ⟨u, rfl, ru⟩ := vals1 r
  cases ru
  obtain ⟨as, r1⟩ := Dp.reads I d _ _ hd rfl
  exact repr_of_reads' r1 hs (PyData.noDict_hsm hn) hg (by omega) (fun _ _ e => e) (fun h' u tk hk => ⟨.str d.shown, H, I.kept (t' := tk) hk, ⟨u, rfl⟩, q⟩) hsz

/-! ### how often a flat value stands in a list -/
theorem countP_eqU {x : V} : ∀ {xs : List V} {us : List Value}, Vals xs us → xs.all flatV = true → us.countP (eqU x) = xs.countP fun y => eqV y x
  | _, _, .nil, _ => rfl
  | y :: xs, u :: us, .cons r t, f => by
    rw [List.all_cons, Bool.and_eq_true] at f
    rw [List.countP_cons, List.countP_cons, eqU_of r f.1, countP_eqU t f.2]
def rCntF (K : PySem.W.Frag) : V → List V → Hp → VK → Prop := fun x xs H Q =>
  ∃ (p : Addr) (ys : List V) (k : V), x = .ref p ∧ xs = [k] ∧ SqL K H p ys ∧ flatV k = true ∧ ys.all flatV = true ∧ Q (.int ((ys.countP fun y => eqV y k) : Nat)) H
theorem mt_countF {X : Cx} : MtR X "list.count" (rCntF X.K) := by
  intro pins s σ H x xs v us Q I rx rxs h
  obtain ⟨p, ys, k, rfl, rfl, hs, fk, fy, q⟩ := h
  cases rx
  obtain ⟨u, rfl, ru⟩ := rxs.one
  obtain ⟨its, rv, ⟨⟨cls, dd, data, sl⟩, n, ho, hc, hdn, hd⟩, hlen⟩ := I.list hs
  simp only at hc hd
  subst hc hd
  refine call_meets PySem.F.slot_list_count ⟨_, ho, rfl⟩ PySem.F.entry_list_count (PySem.F.args_list_count_2 _ _)
    (SeqAt.list_countAt p its.toArray n dd sl u (eqU k)) ⟨ho, fun y hy => mem_eqAt ru fk rv fy y (by simpa using hy), ?_⟩
  have ec : its.toArray.toList.countP (eqU k) = ys.countP fun y => eqV y k := countP_eqU rv fy
  refine ⟨.int ((ys.countP fun y => eqV y k) : Nat), H, I.tok _, ⟨s.toks, ?_⟩, q⟩
  show Value.int ((its.toArray.toList.countP (eqU k) : Nat) : Int) s.toks = _
  rw [ec]

/-! ### own exceptions as values -/
/-- at e an exception of the class at C, with these fields of its own -/
def ExAt (H : Hp) (e C : Addr) (fs : List (Str × V)) : Prop := (fs = [] ∧ H e = some (ExO (.ref C) e)) ∨ ∃ d, H e = some (exo e C (some d)) ∧ H d = some (exd d fs)
theorem ExAt.same {H H' : Hp} {e C : Addr} {fs : List (Str × V)} (s : Same H H') (h : ExAt H e C fs) : ExAt H' e C fs := by
  rcases h with ⟨h1, h2⟩ | ⟨d, h1, h2⟩
  · exact .inl ⟨h1, s _ _ h2⟩
  · exact .inr ⟨d, s _ _ h1, s _ _ h2⟩
/-- the object itself, for the library's looks -/
theorem ExAt.inst {X : Cx} {pins : List (Addr × Obj)} {σ : L2.St} {H : Hp} {s : Shared} (I : Inv X pins σ H s) {e C : Addr} {fs : List (Str × V)} (h : ExAt H e C fs) :
    ∃ (ox : Obj) (od : Option Obj), PySem.W.InstAt s.heap e ox C od ∧ ∀ f v, fs.lookup f = some v → ∃ o u, od = some o ∧ PySem.W.lookIn f o = some (some u) ∧ RelV v u := by
  rcases h with ⟨h1, h2⟩ | ⟨d, h1, h2⟩
  · subst h1
    obtain ⟨⟨oe, vs, ho, hz, hd, _⟩, _, _⟩ := I.hok e _ h2
    obtain ⟨oc, odi, oda, osl⟩ := oe
    obtain ⟨z1, z2⟩ := hz
    dsimp only at z1 z2 hd
    subst z1 z2 hd
    exact ⟨_, none, ⟨ho, rfl, rfl, trivial⟩, fun f v q => nomatch q⟩
  · obtain ⟨t1, ho⟩ := exo_at I.hok h1
    obtain ⟨mA, hns, hr⟩ := exd_at I.hok h2
    obtain ⟨od, hod, hl⟩ := lookIn_ns hns
    refine ⟨_, some od, ⟨ho, rfl, rfl, hod⟩, fun f v q => ?_⟩
    obtain ⟨u, hu, ru⟩ := RelO.some_of (v := v) (o := mA f) (by rw [← q]; exact hr f)
    exact ⟨od, u, rfl, by rw [hl, hu], ru⟩

/-- what the written part says of an own exception class whose objects are looked at -/
structure ExK (K : PySem.W.Frag) (D : Addr) : Prop where
  hcl : (PySem.W.clsIn K D).isSome = true
  hga : PySem.W.findIn K (.ref D) "__getattribute__" = some (some (.builtin "BaseException.__getattribute__"))
  hgt : PySem.W.findIn K (.ref D) "__getattr__" = some none
  hsub : PySem.W.subIn K (.ref D) (.type "BaseException") = some true
  hdc : PySem.W.hasDictIn K D = true
  ha : PySem.W.findIn K (.ref D) "__class__" = some (some (.builtin "object.__class__"))
  hn : PySem.W.specialIn K (.builtin "object.__class__") "__get__" = some (some (.builtin "getset_descriptor.__get__"))
  htk : PySem.W.takesIn K (.builtin "object.__class__") = some true
  hm : PySem.W.mroIn K D (.type "object") = some true
/-- isinstance(e, c) -/
def rIsX (K : PySem.W.Frag) : List V → Hp → VK → Prop := fun xs H Q =>
  ∃ (e D : Addr) (fs : List (Str × V)) (c : V) (cv : Value) (b : Bool), xs = [.ref e, c] ∧ ExAt H e D fs ∧ ExK K D ∧ (∀ u, RelV c u → u = cv) ∧ PySem.W.kitOne K (.ref D) cv = some b ∧ Q (.bl b) H
theorem call_isX {X : Cx} : CallR X (.builtin "isinstance") (rIsX X.K) := by
  intro pins s σ H xs us Q I r h
  obtain ⟨e, D, fs, c, cv, b, rfl, he, C, hcv, ek, q⟩ := h
  cases r with
  | cons rx rr =>
    cases rr with
    | cons rt rr =>
      cases rr
      cases rx
      have ec := hcv _ rt
      subst ec
      obtain ⟨ox, od, J, _⟩ := he.inst I
      exact PySem.W.kia_one (PySem.W.kitx_exc C.hcl C.hga C.hgt C.hsub C.ha C.hn C.htk C.hm) I.kIn J ek (fun z => nomatch z) fun tk => ⟨.bl b, H, I.kept (t' := tk) fun _ _ z => z, rfl, q⟩
/-- e.f -/
def tExF (K : PySem.W.Frag) (f : Str) (te : TE) : TE := fun σ H Q => te σ H fun x H1 =>
  ∃ (e D : Addr) (fs : List (Str × V)) (v : V), x = .ref e ∧ ExAt H1 e D fs ∧ ExK K D ∧ PySem.W.findIn K (.ref D) f = some none ∧ fs.lookup f = some v ∧ Q v H1
theorem pe_exf {X : Cx} {e : Expr} {te : TE} {pos : Pos} {n : Str} (he : PE X e te) (hb : attributeBase e n X.env (eval e X.env) = eval e X.env := by rfl) : PE X (.Attribute e n pos) (tExF X.K n te) := by
  refine ⟨fun pins s σ H Q I h => ?_⟩
  refine attr_of hb (thn (he.run pins s σ H _ I h) fun u s1 hh => ?_)
  obtain ⟨x, H1, I1, rx, a, D, fs, v, ex, hx, T, hno, hl, q⟩ := hh
  subst ex
  obtain rfl : u = Value.ref a := rx
  obtain ⟨ox, od, J, hf⟩ := hx.inst I1
  obtain ⟨o, u, rfl, hlk, ru⟩ := hf n v hl
  exact HandSPX.exc_get I1.kIn J T.hga T.hgt T.hsub (PySem.W.findObj_own T.hdc hno rfl hlk) (handed_of ru) ⟨v, H1, I1.tok _, ru, q⟩

/-! ### making them -/
/-- X('u'): a class without an own __init__ -/
def tEx0 (C : Addr) (ta : TE) : TE := fun σ H Q => ta σ H fun _ H1 => ∀ e H2, Same H1 H2 → H1 e = none → ExAt H2 e C [] → Q (.ref e) H2
theorem weaken {X : Cx} {e : Expr} {t t' : TE} (h : PE X e t) (f : ∀ σ H Q, t' σ H Q → t σ H Q) : PE X e t' := ⟨fun pins s σ H Q I q => h.run pins s σ H Q I (f σ H Q q)⟩
theorem pe_ex0 {X : Cx} {C : Addr} {bmB : List Value} {B newId initId : String} {x : Str} {e : Expr} {te : TE} {p pos : Pos} (F : ExcBaseFacts B newId initId bmB) (q : PySem.W.excIn X.K C bmB newId = true)
    (gC : X.mg x = some (.ref C)) (kC : PySem.W.keepIn X.K (.ref C) = true) (hg : Gl X x) (he : PE X e te) (hs : starEach [e] X.env = (false, eval e X.env) :: starEach [] X.env := by rfl) (hdb : (x == ("__debug__" : Str)) = false := by decide)
    (hm : ∀ σ H (Q Q' : VK), (∀ v H', Q v H' → Q' v H') → te σ H Q → te σ H Q') :
    PE X (.Call (.Name x p) [e] [] pos) (tEx0 C te) :=
  weaken (pe_exc1 F q gC kC hg he hs hdb) fun σ H Q h => hm σ H _ _ (fun v H1 h1 a ha => h1 a _ (fun b o z => by rw [upd_ne (ne_of_none z ha)]; exact z) ha (.inl ⟨rfl, upd_same⟩)) h
/-- X(e, ..): the class has an own __init__ that keeps sp -/
def tExI (C : Addr) (sp : Sp) (ta : TA) : TE := fun σ H Q => ta σ H fun vs H1 => vs.length ≤ 1000 ∧ ∀ a, H1 a = none →
  sp (.ref a :: vs) (upd H1 a (exo a C none)) (fun v H2 => v = .non ∧ Q (.ref a) H2) fun _ _ _ => False
theorem pe_exI {X : Cx} {x : Str} {C fI : Addr} {k : Nat} {fd : FuncData} {ps : List Str} {sp : Sp} {e : Expr} {es : List Expr} {ta : TA} {p pos : Pos} (T : OexC X.K C) (iC : PySem.W.findIn X.K (.ref C) "__init__" = some (some (.ref fI)))
    (tI : PySem.W.typeIn X.K (.ref fI) = some (.type "function")) (G : FnOk X.prog X.w X.K X.mg X.base CX0 k fI fd ps sp) (hr : Room (k + 1) X.A) (hb : Binds X.K fd ps []) (hg : Gl X x) (hm : X.mg x = some (.ref C)) (ha : PA X (e :: es) ta)
    (hdb : (x == ("__debug__" : Str)) = false := by decide) (he : starEach (e :: es) X.env = (false, eval e X.env) :: starEach es X.env := by rfl) (hpl : (backTo pos (starEach es X.env)).any (·.1) = false := by rfl) :
    PE X (.Call (.Name x p) (e :: es) [] pos) (tExI C sp ta) := by
  constructor
  intro pins s σ H Q I h
  obtain ⟨nm, q, N, bs, bm, sn, sub, ab, col, dd, k0, k1, k2, k3, k5, hC, hbm⟩ := T.cls
  refine wpAny_Call_Name_kw (ld_glob I hg hm ?_ hdb)
  refine PySem.W.callWith_K (h₀ := X.base) I.ok.mod.kin T.kC ?_ he hpl
  refine thn (ha.run pos pins s σ H _ I h) ?_
  rintro us ⟨hp, g, dr, tk, os⟩ ⟨vs, H1, I1, r1, hz, q1⟩
  refine ⟨I1.kIn, ?_⟩
  show wpAny _ _ (call (.ref C) us) _ _ _
  let a : Addr := hp.objs.size + 1
  have lt1 : hp.objs.size ≤ a := Nat.le_succ _
  have hn : H1 a = none := I1.hok.fresh lt1
  have hq := q1 a hn
  have old : ∀ b o, hp.get? b = some o → ((hp.push (PySem.W.kdv_tup us)).push (PySem.HandSPX.excO C hp.objs.size)).get? b = some o := fun b o z => Heap.get?_push_of_some _ (Heap.get?_push_of_some _ z)
  have new : ((hp.push (PySem.W.kdv_tup us)).push (PySem.HandSPX.excO C hp.objs.size)).get? a = some (PySem.HandSPX.excO C hp.objs.size) := by
    show ((hp.push (PySem.W.kdv_tup us)).push (PySem.HandSPX.excO C hp.objs.size)).get? (hp.objs.size + 1) = _
    heap_get
  have I2 : Inv X pins σ (upd H1 a (exo a C none)) ⟨(hp.push (PySem.W.kdv_tup us)).push (PySem.HandSPX.excO C hp.objs.size), g, dr, tk, os⟩ := I1.laid (t' := tk) old lt1 (exo_ok new)
  have r2 : Vals (V.ref a :: vs) (Value.ref a :: us) := .cons rfl r1
  have hl : (Value.ref a :: us ++ []).length = ps.length := by
    rw [List.append_nil, ← r2.length]
    exact G.len _ _ _ _ hq
  have hus : us.length ≤ sizeLine := by
    rw [← Paired.length r1, sizeLine_eq]
    omega
  refine wpAny_call (PySem.HandSPX.call_own F.excBase_ValueError (fun Y => PySem.HandSPX.refsVE_contains Y bm hbm) (I1.kIn _ _ hC) (PySem.W.looks_findIn I1.kIn iC) (fun self => PySem.W.bind_fn I1.kIn self tI) hus ?_)
  have bd := hb _ (Value.ref a :: us) I2.kIn hl
  rw [List.append_nil] at bd
  refine codeAny_mono (G.run _ X.stack _ _ ⟨Value.ref a :: us, []⟩ (Value.ref a :: us) _ _ (fun _ _ _ => False) (hr.make C us []) (I2.env0.make C us []) bd r2 hq) fun r s' z => ?_
  match r, z with
  | .ok (.ret u), z =>
    obtain ⟨v, H2, J, rv, ev, q2⟩ := I2.after z
    subst ev
    exact ⟨rv, .ref a, H2, J, rfl, q2⟩
  | .error er, z => exact z.elim
end Ru

set_option Elab.async false
set_option linter.all false
set_option maxRecDepth 100000
set_option maxHeartbeats 2000000
namespace Ru
open PySem PySem.Spec PyProof.Rows L2
/-! ### defs that lean on an empty row of guards (repr of containers) -/
structure FnG (P : Program) (w : World) (K : PySem.W.Frag) (mg : Str → Option Value) (base : Heap) (CX : CXT) (k : Nat) (f : Addr) (fd : FuncData) (ps : List Str) (sp : Sp) : Prop where
  len : ∀ vs H Q E, sp vs H Q E → vs.length = ps.length
  run : ∀ (A : Around) (outer : List Env) (s : Shared) (H : Hp) (args : Args) (us : List Value) (vs : List V) (Q : VK) (E : XK), A.guards = some [] → Room k A → Env0 P w K mg base A outer s H →
    BindsTo s fd args (ps.zip us) → Vals vs us → sp vs H Q E → codeAny (model P w) A (.call (.ref f) args) (CR CX outer P w H s Q E) s
section
variable {P : Program} {w : World} {K : PySem.W.Frag} {mg : Str → Option Value} {base : Heap} {CX : CXT} {x qual : Str} {params : Arguments} {body : List Stmt} {scope : Scope} {dvs : List V} {kws : List (Str × V)} {f : Addr} {fd : FuncData} {N ps : List Str} {k : Nat} {sp : Sp}
theorem FnG.of (F : FnOk P w K mg base CX k f fd ps sp) : FnG P w K mg base CX k f fd ps sp := ⟨F.len, fun A o s H a us vs Q E _ hr => F.run A o s H a us vs Q E hr⟩
/-- the rule for such a def -/
theorem okG (F : FunD K x qual params body scope dvs kws f fd) (S : FnScope N ps scope) (len : ∀ vs H Q E, sp vs H Q E → vs.length = ps.length)
    (hb : ∀ (cdv : Value) (A : Around) (outer : List Env) (s : Shared) (H : Hp) (vs : List V) (Q : VK) (E : XK), A.guards = some [] → Room k (A.deeper (envOfC qual scope s.heap.objs.size f cdv)) → sp vs H Q E →
      ∃ t, PSs (cxOf CX P w K mg base N qual scope f cdv A outer s H E) body t ∧ t { nx := fun _ H' => Q .non H', rt := Q } (start N vs) H) : FnG P w K mg base CX (k + 1) f fd ps sp := by
  obtain ⟨_, _, _, _, _, _, _, code, _, _, e, lk, hcd, _⟩ := F.ex
  subst e
  exact ⟨len, fun A outer s H args us vs Q E g r e0 b v h => LamX.run_ofS lk hcd S r e0 b v (len vs H Q E h) fun r' => hb code A outer s H vs Q E g r' h⟩
end
section
variable {X : Cx} {CX : CXT} {k : Nat} {f : Addr} {fd : FuncData} {ps : List Str} {sp : Sp} {dvs : List V} {ds : List Value} {E : XK} {x : Str} {p pos : Pos} {e : Expr} {es : List Expr} {t : TA}
theorem pe_callG (hG : X.A.guards = some []) (F : FnG X.prog X.w X.K X.mg X.base CX k f fd ps sp) (hr : Room k X.A) (hg : Gl X x) (hm : X.mg x = some (.ref f)) (hk : PySem.W.keepIn X.K (.ref f) = true) (hb : Binds X.K fd ps ds) (hd : Vals dvs ds) (hx : Passes CX X E)
    (ha : PA X (e :: es) t) (hdb : (x == ("__debug__" : Str)) = false := by decide) (he : starEach (e :: es) X.env = (false, eval e X.env) :: starEach es X.env := by rfl) (hpl : (backTo pos (starEach es X.env)).any (·.1) = false := by rfl) :
    PE X (.Call (.Name x p) (e :: es) [] pos) (tCall sp dvs E t) := by
  constructor
  intro pins s σ H Q I h
  refine wpAny_Call_Name_kw (ld_glob I hg hm ?_ hdb)
  refine PySem.W.callWith_K (h₀ := X.base) I.ok.mod.kin hk ?_ he hpl
  refine thn (ha.run pos pins s σ H _ I h) ?_
  rintro us s1 ⟨vs, H1, I1, r, q⟩
  have r2 := r.append hd
  have hl : (us ++ ds).length = ps.length := r2.length.symm.trans (F.len _ _ _ _ q)
  refine ⟨I1.kIn, wpAny_call (codeAny_mono (F.run X.A X.stack s1 H1 ⟨us, []⟩ _ _ Q E hG hr I1.env0 (hb s1 us I1.kIn hl) r2 q) ?_)⟩
  intro r s' z
  match r, z with
  | .error er, z => exact hx pins σ H1 s1 er s' I1 z
  | .ok (.ret u), z => exact I1.after z
end

/-! ### the law's entry, at the caller that has no guards -/
section
variable {P : Program} {w : World} {K : PySem.W.Frag} {mg mb : Str → Option Value} {k : Nat} {fa a : Addr} {fd : FuncData} {x : Str} {sp : Sp} {s : Shared} {vs : List Value} {ns : List Int}
/-- the heap in which at most the script is tracked, locked -/
def onlyAt (a : Addr) (o : Obj) (u : HO) : Hp := fun b => if b = a then some (.frz o u) else none
theorem entry (KX : K.In s.heap) (hns : s.heap.Ns mainGlobals mg) (hb : s.heap.Ns builtinsNs mb) (hbb : ∀ x : Str, x ≠ "__name__" → mb x = bootBuiltins x) (hlim : s.heap.NoLimit) (hg : s.gens = #[])
    (ha : s.heap.get? a = some { cls := .type "list", data := .seq vs.toArray }) (hi : IntsAre vs ns) (hl : ns.length ≤ sizeLine) (hr : Room k callerA)
    (F : ∀ base : Heap, K.In base → base.Ns mainGlobals mg → FnG P w K mg base CX0 k fa fd [x] sp) (bd : ∀ (s : Shared) (u : Value), BindsTo s fd ⟨[u], []⟩ [(x, u)])
    (hsp : ∀ H : Hp, Only H → SqL K H a (ns.map V.int) → sp [.ref a] H (fun v _ => v = .bl true) E0) :
    codeAny (model P w) callerA (.call (.ref fa) ⟨[.ref a], []⟩) (fun r s' => r = .ok (.ret (.bool true)) ∧ OldK s.heap s'.heap ∧ s'.os = s.os ∧ AllBare s'.gens) s := by
  have rv := vals_ints hi
  have main : ∀ H : Hp, Only H → SqL K H a (ns.map V.int) → HOk P w H s.heap → (∀ b, H b ≠ none → b = a) → (∀ o, K.lookup a = some o → H a = none) →
      codeAny (model P w) callerA (.call (.ref fa) ⟨[.ref a], []⟩) (fun r s' => r = .ok (.ret (.bool true)) ∧ OldK s.heap s'.heap ∧ s'.os = s.os ∧ AllBare s'.gens) s := by
    intro H only sq hok off kno
    have nod : ∀ {b : Addr} {m : Str → Option Value}, s.heap.Ns b m → (hidT s.heap H).Ns b m := by
      rintro b m ⟨o, es, ep, e, d, r⟩
      refine ⟨o, es, ep, hidT_get e ?_, d, r⟩
      cases q : H b with
      | none => rfl
      | some u =>
        have z := off b (by rw [q]; simp)
        subst z
        rw [ha] at e
        cases e
        cases (show Data.seq vs.toArray _ = Data.dict es ep from d)
    have kin : K.In (hidT s.heap H) := by
      intro b o e
      refine hidT_get (KX b o e) ?_
      cases q : H b with
      | none => rfl
      | some u =>
        have z := off b (by rw [q]; simp)
        subst z
        rw [kno o e] at q
        cases q
    have md : Mod K mg (hidT s.heap H) := ⟨kin, nod hns, ⟨mb, nod hb, hbb⟩, hlim.imp fun mc z => ⟨nod z.1, z.2⟩⟩
    have e0 : Env0 P w K mg (hidT s.heap H) callerA [] s H :=
      { frames := rfl, mod := md, bs := fun b o e => of_hidT e, bsz := Nat.le_of_eq (hidT_size _ _), funs := trivial, frf := fun b z => (List.not_mem_nil z).elim, hok := hok, bare := .of_eq hg }
    refine codeAny_mono ((F _ kin (nod hns)).run callerA [] s H ⟨[.ref a], []⟩ [.ref a] [.ref a] _ _ rfl hr e0 (bd s (.ref a)) (.cons rfl .nil) (hsp H only sq)) ?_
    intro r s' z
    match r, z with
    | .ok (.ret u), ⟨v, H', os, bare, un, hok', r', q⟩ =>
      subst q
      obtain rfl : u = Value.bool true := r'
      refine ⟨rfl, OldK.of_keep fun b o e => ?_, os, bare⟩
      cases hb : H b with
      | none => exact un.keep b o e hb (fun z => (List.not_mem_nil z).elim) (fun z => (List.not_mem_nil z).elim)
      | some u =>
        rcases only b with q | ⟨ob, xs, q⟩
        · rw [hb] at q
          cases q
        · have e1 := (hok b _ q).1
          have e2 := (hok' b _ (un.frzs b ob _ q)).1
          rw [e] at e1
          cases e1
          exact e2
  cases hk : K.lookup a with
  | none =>
    refine main (onlyAt a { cls := .type "list", data := .seq vs.toArray } (.lst (ns.map V.int))) (fun b => ?_) (.inl (.inr ⟨_, if_pos rfl⟩)) (fun b u z => ?_) (fun b z => ?_) fun o z => by rw [hk] at z; cases z
    · by_cases e : b = a
      · exact .inr ⟨_, _, if_pos e⟩
      · exact .inl (if_neg e)
    · by_cases e : b = a
      · rw [show onlyAt a { cls := .type "list", data := .seq vs.toArray } (.lst (ns.map V.int)) b = some _ from if_pos e] at z
        cases z
        subst e
        exact ⟨ha, by rw [List.length_map]; exact hl, vs, _, rv, ha⟩
      · rw [show onlyAt a { cls := .type "list", data := .seq vs.toArray } (.lst (ns.map V.int)) b = none from if_neg e] at z
        cases z
    · by_cases e : b = a
      · exact e
      · exact (z (if_neg e)).elim
  | some o =>
    have e := KX a o hk
    rw [ha] at e
    cases e
    exact main (fun _ => none) (fun _ => .inl rfl) (.inr ⟨_, vs.toArray, _, hk, rfl, rfl, rfl, by rw [List.size_toArray, hi.length]; exact hl, by simpa using rv⟩) (fun b u z => by cases (show (none : Option HO) = some u from z)) (fun b z => (z rfl).elim) fun _ _ => rfl
end
/-- the law, from its def's promise -/
theorem walkG {l : PySem.W.OpenLaw} {n k : Nat} {q : Program} {loose : List Str} {XP : (Str → Option Value) → Heap → Prop} {YP : World → Heap → Prop} {d : DefRec} {x : Str}
    (hn : l.most = some n) (hn2 : n ≤ sizeLine) (hdf : d.params.defaults = []) (hr : Room k callerA)
    (F : ∀ (w : World) (mg : Str → Option Value) (fa : Addr) (h : Heap), YP w h → h.Ns mainGlobals mg → mg d.name = some (.ref fa) →
      ∃ (K : PySem.W.Frag) (fd : FuncData) (sp : Sp), K.In h ∧ (∀ (s : Shared) (u : Value), BindsTo s fd ⟨[u], []⟩ [(x, u)]) ∧
        (∀ (H : Hp) (a : Addr) (ns : List Int), ns.length ≤ n → Only H → SqL K H a (ns.map V.int) → sp [.ref a] H (fun v _ => v = .bl true) E0) ∧
        ∀ base : Heap, K.In base → base.Ns mainGlobals mg → FnG l.prog w K mg base CX0 k fa fd [x] sp) :
    PySem.W.WalkO q loose XP YP l.row.toRowW d [] (fun f vs => PySem.call f vs) := by
  refine Att.attach_call hn hdf fun w s₀ s₁ mg mb fa o pm cd doc a vs ns G Y ho hd hcd hmg hobj hints hlen hg => ?_
  obtain ⟨K, fd, sp, kx, bd, hsp, hF⟩ := F w mg fa _ Y G.T.g hmg
  exact entry kx G.T.g G.T.b G.T.builtins G.T.nolimit hg hobj hints (Nat.le_trans hlen hn2) hr hF bd fun H o sq => hsp H a ns hlen o sq
end Ru

set_option Elab.async false
set_option linter.all false
set_option maxRecDepth 100000
set_option maxHeartbeats 2000000
namespace Ru
open PySem PySem.Spec PyProof.Rows L2
/-! ### a Hook with one more look of one's own -/
abbrev AlX : Type := He.AlD × Bool
def obsX (n : Nat) (fa : List He.Fa) (fn : List He.DefD) (ex : PySem.W.Frag → Bool) (g : Addr → Option Obj) : AlX := (He.obsDG n fa fn g, ex (He.frG g (He.asD g n)))
def hookX (n : Nat) (fa : List He.Fa) (fn : List He.DefD) (ex : PySem.W.Frag → Bool) : PySem.W.Hook where
  α := AlX
  obs := fun s => obsX n fa fn ex s.heap.get?
  val := fun _ => (He.valD fn, true)
  says := fun _ h => ∃ K : PySem.W.Frag, K.In h ∧ He.SaysD fa fn K ∧ ex K = true
  of := fun _ _ e => ⟨_, He.frG_in, congrArg Prod.fst e, congrArg Prod.snd e⟩
  keeps := fun _ _ _ ⟨K, a, b, c⟩ k => ⟨K, PySem.W.Frag.In.keeps a k, b, c⟩
theorem obsX_eq {n : Nat} {fa : List He.Fa} {fn : List He.DefD} {ex : PySem.W.Frag → Bool} {g : Addr → Option Obj} {s : Shared} (h : ∀ a, g a = s.heap.get? a) : obsX n fa fn ex g = (hookX n fa fn ex).obs s := by
  have e : g = s.heap.get? := funext h
  rw [e] <;> rfl

/-! ### own exception classes, as the written part has them -/
def optB (a b : Option Bool) : Bool := decide (a = b)
def exKB (K : PySem.W.Frag) (D : Addr) : Bool :=
  (PySem.W.clsIn K D).isSome && He.eqO (PySem.W.findIn K (.ref D) "__getattribute__") (some (some (.builtin "BaseException.__getattribute__"))) && He.eqO (PySem.W.findIn K (.ref D) "__getattr__") (some none) &&
  optB (PySem.W.subIn K (.ref D) (.type "BaseException")) (some true) && PySem.W.hasDictIn K D && He.eqO (PySem.W.findIn K (.ref D) "__class__") (some (some (.builtin "object.__class__"))) && optB (PySem.W.mroIn K D (.type "object")) (some true)
/-- what is the same for all of them -/
def exAllB (K : PySem.W.Frag) : Bool := He.eqO (PySem.W.specialIn K (.builtin "object.__class__") "__get__") (some (some (.builtin "getset_descriptor.__get__"))) && optB (PySem.W.takesIn K (.builtin "object.__class__")) (some true)
theorem exKB_ok {K : PySem.W.Frag} {D : Addr} (a : exAllB K = true) (h : exKB K D = true) : ExK K D := by
  unfold exKB at h
  unfold exAllB at a
  simp only [Bool.and_eq_true] at h a
  obtain ⟨⟨⟨⟨⟨⟨h1, h2⟩, h3⟩, h4⟩, h5⟩, h6⟩, h7⟩ := h
  exact ⟨h1, He.eqO_ok h2, He.eqO_ok h3, of_decide_eq_true h4, h5, He.eqO_ok h6, He.eqO_ok a.1, of_decide_eq_true a.2, of_decide_eq_true h7⟩
/-- a class with an own __init__ -/
def oexB (K : PySem.W.Frag) (C : Addr) : Bool := (match K.lookup C with
  | some ⟨.type "type", _, .cls cd, sl⟩ => (match cd.mro, sl.toList with
    | .ref C' :: bm, [_, _, _, _, some (.builtin n), _] => C' == C && n == "ValueError.__new__" && !cd.hasDel && cd.hasDict && PySem.HandSPX.refsVE bm
    | _, _ => false)
  | _ => false) && He.eqO (PySem.W.findIn K (.ref C) "__setattr__") (some (some (.builtin "object.__setattr__"))) && optB (PySem.W.subIn K (.ref C) (.type "BaseException")) (some true) &&
  decide (PySem.W.typeIn K (.ref C) = some (.type "type")) && PySem.W.keepIn K (.ref C) && He.eqO (PySem.W.findIn K (.ref C) "__init__") (some (some (.ref (He.ma K C "__init__")))) && decide (PySem.W.typeIn K (.ref (He.ma K C "__init__")) = some (.type "function"))
theorem oexB_ok {K : PySem.W.Frag} {C : Addr} (h : oexB K C = true) :
    OexC K C ∧ PySem.W.findIn K (.ref C) "__init__" = some (some (.ref (He.ma K C "__init__"))) ∧ PySem.W.typeIn K (.ref (He.ma K C "__init__")) = some (.type "function") := by
  unfold oexB at h
  rw [Bool.and_eq_true, Bool.and_eq_true, Bool.and_eq_true, Bool.and_eq_true, Bool.and_eq_true, Bool.and_eq_true] at h
  obtain ⟨⟨⟨⟨⟨⟨h1, h2⟩, h3⟩, h4⟩, h5⟩, h6⟩, h7⟩ := h
  refine ⟨⟨?_, He.eqO_ok h2, of_decide_eq_true h3, of_decide_eq_true h4, h5⟩, He.eqO_ok h6, of_decide_eq_true h7⟩
  split at h1
  · rename_i dd cd sl ho
    split at h1
    · rename_i C' bm k0 k1 k2 k3 n k5 hm hs
      simp only [Bool.and_eq_true, beq_iff_eq, Bool.not_eq_true'] at h1
      obtain ⟨⟨⟨⟨rfl, rfl⟩, hdel⟩, hdc⟩, hb⟩ := h1
      obtain ⟨nm, bs, mro, ns, qn, hd, sn, sub, ab, col, del⟩ := cd
      dsimp only at hm hdel hdc
      subst hm hdel hdc
      obtain ⟨l⟩ := sl
      dsimp only at hs
      subst hs
      exact ⟨nm, qn, ns, bs, bm, sn, sub, ab, col, dd, k0, k1, k2, k3, k5, ho, hb⟩
    · cases h1
  · cases h1
/-- a class right under R, itself right under ValueError -/
def mroB (K : PySem.W.Frag) (R C : Addr) : Bool := decide ((PySem.W.clsIn K C).map (·.mro) = some (.ref C :: .ref R :: He.veBase)) && decide (PySem.W.typeIn K (.ref C) = some (.type "type"))
def mroR (K : PySem.W.Frag) (R : Addr) : Bool := decide ((PySem.W.clsIn K R).map (·.mro) = some (.ref R :: He.veBase)) && decide (PySem.W.typeIn K (.ref R) = some (.type "type"))
theorem kit_at {K : PySem.W.Frag} {C D : Addr} {m md : List Value} (h : (PySem.W.clsIn K C).map (·.mro) = some (.ref C :: m)) (hd : (PySem.W.clsIn K D).map (·.mro) = some md) (ht : PySem.W.typeIn K (.ref D) = some (.type "type")) :
    PySem.W.kitOne K (.ref C) (.ref D) = some ((Value.ref C :: m).contains (.ref D)) := by
  unfold PySem.W.kitOne
  by_cases e : (Value.ref C == Value.ref D) = true
  · rw [if_pos e]
    have e2 := beq_iff_eq.mp e
    rw [← e2]
    simp
  · rw [if_neg e]
    obtain ⟨cd, hc, hm⟩ := Option.map_eq_some_iff.mp h
    obtain ⟨dd, hd1, _⟩ := Option.map_eq_some_iff.mp hd
    unfold PySem.W.kitCls
    dsimp only
    rw [hd1, ht]
    simp only [Option.isSome_some, beq_self_eq_true, Bool.and_self, if_true]
    show PySem.W.mroIn K C (.ref D) = _
    unfold PySem.W.mroIn
    rw [hc, Option.bind_some, hm]
    simp
theorem kit_ve {K : PySem.W.Frag} {C : Addr} {m : List Value} (h : (PySem.W.clsIn K C).map (·.mro) = some (.ref C :: m)) : PySem.W.kitOne K (.ref C) (.type "ValueError") = some ((Value.ref C :: m).contains (.type "ValueError")) := by
  obtain ⟨cd, hc, hm⟩ := Option.map_eq_some_iff.mp h
  have e : (Value.ref C == Value.type "ValueError") = false := by simp
  have k : PySem.W.kitMeta "ValueError" = true := by decide +kernel
  unfold PySem.W.kitOne PySem.W.kitCls
  rw [e]
  simp only [Bool.false_eq_true, if_false, k, if_true]
  show PySem.W.mroIn K C _ = _
  unfold PySem.W.mroIn
  rw [hc, Option.bind_some, hm]
  simp
end Ru

set_option Elab.async false
set_option linter.all false
set_option maxRecDepth 100000
set_option maxHeartbeats 2000000
namespace Ru
open PySem PySem.Spec PyProof.Rows L2
theorem weakenA {X : Cx} {es : List Expr} {t t' : TA} (h : PA X es t) (f : ∀ σ H Q, t' σ H Q → t σ H Q) : PA X es t' := ⟨fun pos pins s σ H Q I q => h.run pos pins s σ H Q I (f σ H Q q)⟩
theorem weakenS {X : Cx} {st : Stmt} {t t' : TS} (h : PS X st t) (f : ∀ D σ H, t' D σ H → t D σ H) : PS X st t' := ⟨fun pins s σ H D I q => h.run pins s σ H D I (f D σ H q)⟩
theorem upd_new {H : Hp} {a : Addr} {o : HO} (h : H a = none) : Same H (upd H a o) := fun b u z => by rw [upd_ne (ne_of_none z h)]; exact z

/-! ### what __init__ of an exception with one, two, three fields does -/
/-- self.f = v for each field, in order -/
def spIni (K : PySem.W.Frag) (C : Addr) (fs : List Str) : Sp := fun vs H Q _ => ∃ (a : Addr) (us : List V), vs = .ref a :: us ∧ us.length = fs.length ∧ OexC K C ∧ (∀ f ∈ fs, PySem.W.findIn K (.ref C) f = some none) ∧ H a = some (exo a C none) ∧
  ∀ H', (∀ b o, H b = some o → b ≠ a → H' b = some o) → ExAt H' a C (fs.zip us).reverse → Q .non H'
theorem exd_lst {d : Addr} {fs : List (Str × V)} {xs : List V} : exd d fs ≠ .lst xs := fun z => by cases (show HO.ext _ = HO.lst xs from z)
/-- one field -/
theorem ini1 {P : Program} {w : World} {K : PySem.W.Frag} {mg : Str → Option Value} {base : Heap} {f C : Addr} {fd : FuncData} {qual g : Str} {pa : Arguments} {sc : Scope} {q1 q2 q3 q4 : Pos}
    (F : FunD K "__init__" qual pa [.Assign [.Attribute (.Name "self" q1) g q2] (.Name g q3) q4] sc [] [] f fd) (S : FnScope ["self", g] ["self", g] sc) (v0 : Vis sc "self") (v1 : Vis sc g)
    (e1 : (g == ("__debug__" : Str)) = false := by decide) (e2 : (g == ("__classdict__" : Str)) = false := by decide) : FnOk P w K mg base CX0 1 f fd ["self", g] (spIni K C [g]) := by
  refine F.ok S (fun vs H Q E h => ?_) (fun cdv A outer s H vs Q E hr h => ?_)
  · obtain ⟨a, us, rfl, hl, _⟩ := h
    simp [hl]
  · obtain ⟨a, us, rfl, hl, T, hno, ha, k⟩ := h
    match us, hl with
    | [v], _ =>
      refine ⟨_, PSs.nox (pss_one (ps_ost (pe_var (i := 0) rfl v0) (pe_var (i := 1) rfl v1 e1 e2))), ?_⟩
      refine ⟨v, rfl, .ref a, rfl, a, C, rfl, T, hno g List.mem_cons_self, .inl ⟨ha, fun dx hn ne => ?_⟩⟩
      refine k _ (fun b o z hb => ?_) (.inr ⟨dx, upd_same, ?_⟩)
      · rw [upd_ne hb, upd_ne (ne_of_none z hn)]
        exact z
      · rw [upd_ne ne, upd_same]
        rfl
/-- two fields -/
theorem ini2 {P : Program} {w : World} {K : PySem.W.Frag} {mg : Str → Option Value} {base : Heap} {f C : Addr} {fd : FuncData} {qual g g' : Str} {pa : Arguments} {sc : Scope} {q1 q2 q3 q4 r1 r2 r3 r4 : Pos}
    (F : FunD K "__init__" qual pa [.Assign [.Attribute (.Name "self" q1) g q2] (.Name g q3) q4, .Assign [.Attribute (.Name "self" r1) g' r2] (.Name g' r3) r4] sc [] [] f fd) (S : FnScope ["self", g, g'] ["self", g, g'] sc)
    (v0 : Vis sc "self") (v1 : Vis sc g) (v2 : Vis sc g')
    (e1 : (g == ("__debug__" : Str)) = false := by decide) (e2 : (g == ("__classdict__" : Str)) = false := by decide) (e3 : (g' == ("__debug__" : Str)) = false := by decide) (e4 : (g' == ("__classdict__" : Str)) = false := by decide) :
    FnOk P w K mg base CX0 1 f fd ["self", g, g'] (spIni K C [g, g']) := by
  refine F.ok S (fun vs H Q E h => ?_) (fun cdv A outer s H vs Q E hr h => ?_)
  · obtain ⟨a, us, rfl, hl, _⟩ := h
    simp [hl]
  · obtain ⟨a, us, rfl, hl, T, hno, ha, k⟩ := h
    match us, hl with
    | [v, u], _ =>
      refine ⟨_, PSs.nox (pss_cons (ps_ost (pe_var (i := 0) rfl v0) (pe_var (i := 1) rfl v1 e1 e2)) (pss_one (ps_ost (pe_var (i := 0) rfl v0) (pe_var (i := 2) rfl v2 e3 e4)))), ?_⟩
      refine ⟨v, rfl, .ref a, rfl, a, C, rfl, T, hno g List.mem_cons_self, .inl ⟨ha, fun dx hn ne => ?_⟩⟩
      refine ⟨u, rfl, .ref a, rfl, a, C, rfl, T, hno g' (List.mem_cons_of_mem _ List.mem_cons_self), .inr ⟨dx, _, upd_same, by rw [upd_ne ne, upd_same], by show 1 ≤ 900; decide, ?_⟩⟩
      refine k _ (fun b o z hb => ?_) (.inr ⟨dx, ?_, upd_same⟩)
      · rw [upd_ne (ne_of_none z hn), upd_ne hb, upd_ne (ne_of_none z hn)]
        exact z
      · rw [upd_ne (Ne.symm ne), upd_same]
/-- three fields -/
theorem ini3 {P : Program} {w : World} {K : PySem.W.Frag} {mg : Str → Option Value} {base : Heap} {f C : Addr} {fd : FuncData} {qual g g' g'' : Str} {pa : Arguments} {sc : Scope} {q1 q2 q3 q4 r1 r2 r3 r4 t1 t2 t3 t4 : Pos}
    (F : FunD K "__init__" qual pa [.Assign [.Attribute (.Name "self" q1) g q2] (.Name g q3) q4, .Assign [.Attribute (.Name "self" r1) g' r2] (.Name g' r3) r4, .Assign [.Attribute (.Name "self" t1) g'' t2] (.Name g'' t3) t4] sc [] [] f fd)
    (S : FnScope ["self", g, g', g''] ["self", g, g', g''] sc) (v0 : Vis sc "self") (v1 : Vis sc g) (v2 : Vis sc g') (v3 : Vis sc g'')
    (e1 : (g == ("__debug__" : Str)) = false := by decide) (e2 : (g == ("__classdict__" : Str)) = false := by decide) (e3 : (g' == ("__debug__" : Str)) = false := by decide) (e4 : (g' == ("__classdict__" : Str)) = false := by decide)
    (e5 : (g'' == ("__debug__" : Str)) = false := by decide) (e6 : (g'' == ("__classdict__" : Str)) = false := by decide) : FnOk P w K mg base CX0 1 f fd ["self", g, g', g''] (spIni K C [g, g', g'']) := by
  refine F.ok S (fun vs H Q E h => ?_) (fun cdv A outer s H vs Q E hr h => ?_)
  · obtain ⟨a, us, rfl, hl, _⟩ := h
    simp [hl]
  · obtain ⟨a, us, rfl, hl, T, hno, ha, k⟩ := h
    match us, hl with
    | [v, u, t], _ =>
      refine ⟨_, PSs.nox (pss_cons (ps_ost (pe_var (i := 0) rfl v0) (pe_var (i := 1) rfl v1 e1 e2)) (pss_cons (ps_ost (pe_var (i := 0) rfl v0) (pe_var (i := 2) rfl v2 e3 e4)) (pss_one (ps_ost (pe_var (i := 0) rfl v0) (pe_var (i := 3) rfl v3 e5 e6))))), ?_⟩
      refine ⟨v, rfl, .ref a, rfl, a, C, rfl, T, hno g List.mem_cons_self, .inl ⟨ha, fun dx hn ne => ?_⟩⟩
      refine ⟨u, rfl, .ref a, rfl, a, C, rfl, T, hno g' (List.mem_cons_of_mem _ List.mem_cons_self), .inr ⟨dx, _, upd_same, by rw [upd_ne ne, upd_same], by show 1 ≤ 900; decide, ?_⟩⟩
      refine ⟨t, rfl, .ref a, rfl, a, C, rfl, T, hno g'' (List.mem_cons_of_mem _ (List.mem_cons_of_mem _ List.mem_cons_self)), .inr ⟨dx, _, by rw [upd_ne (Ne.symm ne), upd_same], upd_same, by show 2 ≤ 900; decide, ?_⟩⟩
      refine k _ (fun b o z hb => ?_) (.inr ⟨dx, ?_, upd_same⟩)
      · rw [upd_ne (ne_of_none z hn), upd_ne (ne_of_none z hn), upd_ne hb, upd_ne (ne_of_none z hn)]
        exact z
      · rw [upd_ne (Ne.symm ne), upd_ne (Ne.symm ne), upd_same]

/-! ### rows of exceptions -/
inductive AllEx (H : Hp) : List V → List (Addr × List (Str × V)) → Prop
  | nil : AllEx H [] []
  | cons {e C : Addr} {fs : List (Str × V)} {es : List V} {ts : List (Addr × List (Str × V))} : ExAt H e C fs → AllEx H es ts → AllEx H (.ref e :: es) ((C, fs) :: ts)
theorem AllEx.same {H H' : Hp} (s : Same H H') : ∀ {es : List V} {ts : List (Addr × List (Str × V))}, AllEx H es ts → AllEx H' es ts
  | _, _, .nil => .nil
  | _, _, .cons a b => .cons (a.same s) (AllEx.same s b)
theorem AllEx.length {H : Hp} : ∀ {es : List V} {ts : List (Addr × List (Str × V))}, AllEx H es ts → es.length = ts.length
  | _, _, .nil => rfl
  | _, _, .cons _ b => congrArg Nat.succ b.length
theorem AllEx.app {H : Hp} {es' : List V} {ts' : List (Addr × List (Str × V))} (b : AllEx H es' ts') : ∀ {es : List V} {ts : List (Addr × List (Str × V))}, AllEx H es ts → AllEx H (es ++ es') (ts ++ ts')
  | _, _, .nil => b
  | _, _, .cons a r => .cons a (AllEx.app b r)
theorem AllEx.at {H : Hp} : ∀ {es : List V} {ts : List (Addr × List (Str × V))} {i : Nat} {C : Addr} {fs : List (Str × V)}, AllEx H es ts → ts[i]? = some (C, fs) → ∃ e, es[i]? = some (.ref e) ∧ ExAt H e C fs
  | _, _, _, _, _, .nil, h => by simp at h
  | _, _, 0, _, _, .cons a _, h => by
    simp only [List.getElem?_cons_zero, Option.some.injEq, Prod.mk.injEq] at h
    obtain ⟨rfl, rfl⟩ := h
    exact ⟨_, rfl, a⟩
  | _, _, i + 1, C, fs, .cons _ b, h => by
    obtain ⟨e, h1, h2⟩ := AllEx.at (i := i) (C := C) (fs := fs) b (by simpa using h)
    exact ⟨e, by simpa using h1, h2⟩
/-- three names hold v1, v2, v3 -/
def C3 (v1 v2 v3 : V) (σ : L2.St) : Prop := σ[0]? = some (some v1) ∧ σ[1]? = some (some v2) ∧ σ[2]? = some (some v3)
def tV (v1 v2 v3 : V) (C : Addr) (fs : List (Str × V)) : TE := fun σ H Q => C3 v1 v2 v3 σ ∧ ∀ e H', Same H H' → ExAt H' e C fs → Q (.ref e) H'
def tVs (v1 v2 v3 : V) (ts : List (Addr × List (Str × V))) : TA := fun σ H Q => C3 v1 v2 v3 σ ∧ ∀ es H', Same H H' → AllEx H' es ts → Q es H'
section
variable {X : Cx} {v1 v2 v3 : V} {C : Addr} {fs : List (Str × V)} {ts : List (Addr × List (Str × V))} {e : Expr} {es : List Expr}
theorem pv_nil : PA X [] (tVs v1 v2 v3 []) := weakenA pa_nil fun σ H Q h => h.2 [] H (Same.refl H) .nil
theorem pv_cons (a : PE X e (tV v1 v2 v3 C fs)) (b : PA X es (tVs v1 v2 v3 ts)) (hs : starEach (e :: es) X.env = (false, eval e X.env) :: starEach es X.env := by rfl) : PA X (e :: es) (tVs v1 v2 v3 ((C, fs) :: ts)) :=
  weakenA (pa_cons a b hs) fun σ H Q h => ⟨h.1, fun x H1 s1 ex => ⟨h.1, fun xs H2 s2 all => h.2 _ H2 (s1.trans s2) (.cons (ex.same s2) all)⟩⟩
theorem v_bare {te : TE} (a : PE X e (tEx0 C te)) (h : ∀ σ H (Q : VK), (∀ v, Q v H) → te σ H Q) : PE X e (tV v1 v2 v3 C []) :=
  weaken a fun σ H Q q => h σ H _ fun v e H2 s1 _ ex => q.2 e H2 s1 ex
theorem v_own {ta : TA} {gs : List Str} {us : List V} (T : OexC X.K C) (hno : ∀ f ∈ gs, PySem.W.findIn X.K (.ref C) f = some none) (hl : us.length = gs.length) (h3 : us.length ≤ 1000) (a : PE X e (tExI C (spIni X.K C gs) ta)) (h : ∀ σ H (Q : List V → Hp → Prop), C3 v1 v2 v3 σ → Q us H → ta σ H Q) :
    PE X e (tV v1 v2 v3 C (gs.zip us).reverse) :=
  weaken a fun σ H Q q => h σ H _ q.1 ⟨h3, fun x hx => ⟨x, us, rfl, hl, T, hno, upd_same, fun H' k ex => ⟨rfl, q.2 x H' (fun b o z => k b o (by rw [upd_ne (ne_of_none z hx)]; exact z) (ne_of_none z hx)) ex⟩⟩⟩
end
end Ru

set_option Elab.async false
set_option linter.all false
set_option maxRecDepth 100000
set_option maxHeartbeats 4000000
namespace Ru
open PySem PySem.Spec PyProof.Rows L2
/-! ### an exception that is kept behind its try -/
/-- a caught exception: its class, its own dict -/
def ExC2 (a : Addr) (cls : Value) (d : Option Addr) : HO := .ext fun h => ∃ (oe : Obj) (vs : Array Value), h.get? a = some oe ∧ Zc cls d oe ∧ oe.data = .fields vs
theorem exC2_ok {P : Program} {w : World} {H : Hp} {h : Heap} {a : Addr} {cls : Value} {d : Option Addr} {oe : Obj} {vs : Array Value} (e : h.get? a = some oe) (z : Zc cls d oe) (hd : oe.data = .fields vs) : ObjOk P w H h a (ExC2 a cls d) :=
  ⟨⟨oe, vs, e, z, hd⟩, ⟨oe, e⟩, fun _ _ ⟨o, v, q, r⟩ k => ⟨o, v, k o q, r⟩⟩
section
variable {X : Cx} {pins : List (Addr × Obj)} {σ : L2.St} {H : Hp} {s : Shared} {a : Addr} {oe : Obj} {o : HO}
/-- what was pinned is tracked from now on -/
theorem promote (I : Inv X ((a, oe) :: pins) σ H s) (n0 : X.s_0.heap.get? a = none) (hp : ∀ p ∈ X.pn ++ pins, p.1 ≠ a) (ob : ObjOk X.prog X.w (upd H a o) s.heap a o) : Inv X pins σ (upd H a o) s := by
  obtain ⟨ha, na, nL, nF, nc⟩ := I.pin (a, oe) (List.mem_append_right _ List.mem_cons_self)
  have ne : ∀ {b : Addr} {u : HO}, H b = some u → b ≠ a := fun {b u} e => ne_of_none e na
  refine ⟨I.ok, I.os, I.bare, ⟨I.base.keep, I.base.slot, fun b u e n hx => ?_, I.base.there, fun b xs e => ?_, fun b u v e => ?_, fun b ps e => ?_⟩, I.loc, I.cell, ?_, fun x c e => ?_, fun p h => ?_, I.hok.laidN (fun _ _ z => z) na ob, I.len⟩
  · rw [upd_ne (fun z => by rw [z, n0] at e; cases e)]
    exact I.base.free b u e n hx
  · have q := I.base.tups b xs e
    rw [upd_ne (ne q)]
    exact q
  · have q := I.base.frzs b u v e
    rw [upd_ne (ne q)]
    exact q
  · obtain ⟨m, q⟩ := I.base.tbls b ps e
    exact ⟨m, by rw [upd_ne (ne q)]; exact q⟩
  · rw [upd_ne (Ne.symm nL)]
    exact I.free
  · obtain ⟨v, oc, hc, hd⟩ := I.cell x c e
    have nca : c ≠ a := fun z => by
      rw [z, ha] at hc
      cases hc
      exact nc v hd
    rw [upd_ne nca]
    exact I.freeC x c e
  · obtain ⟨q1, q2, q3, q4, q5⟩ := I.pin p (by
      rcases List.mem_append.mp h with h | h
      · exact List.mem_append_left _ h
      · exact List.mem_append_right _ (List.mem_cons_of_mem _ h))
    exact ⟨q1, by rw [upd_ne (hp p h)]; exact q2, q3, q4, q5⟩
/-- behind an except suite, its exception still pinned -/
theorem unsuiteP (I : Inv (X.suite a ((a, oe) :: (X.pn ++ pins))) [] σ H s) (ok : X.Ok) : Inv X ((a, oe) :: pins) σ H s :=
  ⟨ok, I.os, I.bare, I.base, I.loc, I.cell, I.free, I.freeC, fun p hp => I.pin p (by
    show p ∈ ((a, oe) :: (X.pn ++ pins)) ++ []
    rw [List.append_nil]
    rcases List.mem_append.mp hp with h | h
    · exact List.mem_cons_of_mem _ (List.mem_append_left _ h)
    · rcases List.mem_cons.mp h with h | h
      · rw [h]
        exact List.mem_cons_self
      · exact List.mem_cons_of_mem _ (List.mem_append_right _ h)), I.hok, I.len⟩
end
/-- what the clause wishes: behind its suite the name (slot i) is gone, the exception is an object like others -/
def wKeep (K : PySem.W.Frag) (c : Value) (i : Nat) (ts : Addr → Value → Option Addr → TS) (Wout : WX) (D : Ends) : WX := fun cls d σ H =>
  ∃ b, PySem.W.exmOne K cls c = some b ∧ (b = true → ∀ a, H a = none → ts a cls d
      { nx := fun σ' H' => D.nx (σ'.set i none) (upd H' a (ExC2 a cls d)), rt := fun v H' => D.rt v (upd H' a (ExC2 a cls d)), bk := fun σ' H' => D.bk (σ'.set i none) (upd H' a (ExC2 a cls d)), ct := fun σ' H' => D.ct (σ'.set i none) (upd H' a (ExC2 a cls d)) }
      (σ.set i (some (.ref a))) H) ∧ (b = false → Wout cls d σ H)
section
variable {X : Cx} {x n : Str} {c : Value} {i : Nat} {body suite : List Stmt} {b₀ : Stmt} {np pos pos' : Pos} {tb : WX → TS} {ts : Addr → Value → Option Addr → TS} {Wout : WX}
theorem ps_try_keep (hs : X.stack = X.env :: X.outer) (hf : X.env.frame = some X.env.locals) (hex : X.ex = []) (hN : X.N.Nodup) (hi : X.N[i]? = some n) (hln : X.env.kindOf n = some .local) (hc : Names X x c) (tk : Takes X Wout)
    (hb : ∀ (W : WX) (pn : List (Addr × Obj)) (xe : Value → Shared → Prop), Takes (X.tr pn xe) W → PassesOwn (model X.prog X.w) X.A X.env xe → PSs (X.tr pn xe) body (tb W))
    (hsu : ∀ (a : Addr) (oe : Obj) (cls : Value) (d : Option Addr) (pn : List (Addr × Obj)), Zc cls d oe → (∃ vs, oe.data = .fields vs) → PSs (X.suite a ((a, oe) :: pn)) (b₀ :: suite) (ts a cls d)) :
    PS X (.Try body [.ExceptHandler (some (.Name x np)) (some n) (b₀ :: suite) pos'] [] [] pos) (fun D σ H => tb (wKeep X.K c i ts Wout D) D σ H) := by
  constructor
  intro pins s σ H D I h
  have ok := I.ok
  have hfr : X.A.frames = some (X.env :: X.outer) := ok.frames.trans (by rw [hs])
  refine wpAny_Try_except ?_
  have bodyRun := hb (wKeep X.K c i ts Wout D) (X.pn ++ pins)
    (fun e s₁ => wpAny (model X.prog X.w) X.A (noteFrame e X.env) (fun _ s₂ => wpAny (model X.prog X.w) X.A (setFlight e none)
      (fun _ s₃ => wpAny (model X.prog X.w) X.A (handleBy e X.env [.ExceptHandler (some (.Name x np)) (some n) (b₀ :: suite) pos']) (SP X pins D) X.xe s₃) X.xe s₂) X.xe s₁)
  refine wpAny_mono ((bodyRun ?cau PassesOwn.looking).run [] s σ H D (I.toTry _) h) ?fine (fun e s1 z => z)
  case fine =>
    intro f s1 z
    match f, z with
    | .next, ⟨σ', H', J, q⟩ => exact wpAny_execs_nil ⟨σ', H', J.ofTry ok, q⟩
    | .brk, ⟨σ', H', J, q⟩ => exact ⟨σ', H', J.ofTry ok, q⟩
    | .cont, ⟨σ', H', J, q⟩ => exact ⟨σ', H', J.ofTry ok, q⟩
    | .ret u, ⟨v, σ', H', J, r, q⟩ => exact ⟨v, σ', H', J.ofTry ok, r, q⟩
  case cau =>
    rintro u s' ⟨a, B, sI, pins', σ', H', cls, d, rfl, J', nb, up, sky, na, os, ag, b, hb1, hyes, hno⟩
    have J : Inv X pins σ' H' sI := J'.ofTry ok
    have sky2 : Sky B (X.env :: X.outer) a (Zc cls d) X.env.locals s'.heap := hs ▸ sky
    have nB : B.get? a = none := by
      rcases sky2 with ⟨_, z, _⟩ | ⟨_, z, _⟩ | ⟨_, z, _⟩
      · exact z
      · exact z
      · exact z
    show wpAny _ X.A (noteFrame (.ref a) X.env) _ _ _
    refine Sky.land Zc.steady hfr hf sky2 ?_
    intro h3 fl3 up3
    have J3 : Inv X pins σ' H' { s' with heap := h3 } := J.landed nb fl3.1 (up.trans up3) os ag
    obtain ⟨oe3, vs3, he3, hz3, hd3⟩ := fl3.there
    have nfr : a ∉ frs (X.env :: X.outer) := by
      intro hm
      obtain ⟨_, o', e', hnf⟩ := fl3.2.2.1.mem hm
      rw [he3] at e'
      cases e'
      exact hnf _ hd3
    have nL : a ≠ X.env.locals := by
      intro z
      exact nfr (List.mem_filterMap.mpr ⟨X.env, List.mem_cons_self, hf.trans (by rw [z])⟩)
    have nF : a ∉ X.fs := by
      intro hm
      obtain ⟨e, he, q⟩ := List.mem_filterMap.mp hm
      exact nfr (List.mem_filterMap.mpr ⟨e, List.mem_cons_of_mem _ he, q⟩)
    have nI : sI.heap.get? a = none := by
      cases q : sI.heap.get? a with
      | none => rfl
      | some u =>
        have z := nb a u q (by
          show a ∉ frs X.stack
          rw [hs]
          exact nfr)
        rw [nB] at z
        cases z
    have n0 : X.s_0.heap.get? a = none := by
      cases q : X.s_0.heap.get? a with
      | none => rfl
      | some u =>
        obtain ⟨o', z⟩ := J.base.there a u q (by rw [hex]; exact List.not_mem_nil)
        rw [nI] at z
        cases z
    have nps : ∀ p ∈ X.pn ++ pins, p.1 ≠ a := by
      intro p hp z
      have q := (J.pin p hp).1
      rw [z, nI] at q
      cases q
    have S3 := J3.suite he3 hd3 na nL nF
    refine wpAny_handleBy_cons (codeAny_handlers_test ?_) (by intro q; cases q)
    have LT : PySem.W.Looks (model X.prog X.w) h3 (typeOf (.ref a)) cls := fun A Q E s k q => wpAny_typeOf_ref (k _ _ he3) (by rw [hz3.1]; exact q)
    have LM := PySem.W.exm_one (M := model X.prog X.w) (J3.kIn) LT hb1
    have test : ∀ {Q : Value → Shared → Prop} {E : Value → Shared → Prop}, Q c { s' with heap := h3 } → wpAny (model X.prog X.w) (X.A.mark (some (.ref a))) (eval (.Name x np) X.env) Q E { s' with heap := h3 } := by
      intro Q E q
      obtain ⟨hg, hdbg, hm⟩ := hc
      rcases hm with hm | ⟨hm, hv, hnn⟩
      · exact ld_glob (X := X.suite a ((a, oe3) :: (X.pn ++ pins))) S3 hg hm q hdbg
      · exact ld_blt (X := X.suite a ((a, oe3) :: (X.pn ++ pins))) S3 hg hm hv q hnn hdbg
    refine test (LM.here ?_)
    cases b with
    | false =>
      show wpAny _ X.A (handleBy (.ref a) X.env []) _ _ _
      refine wpAny_handleBy_nil ?_
      obtain ⟨k1, k2, k3, oe, vs, T, oT, ts', he, hz, hd, h1, hr⟩ := id fl3
      have go : wpAny (model X.prog X.w) X.A (setFlight (.ref a) X.env.frame) (fun _ s4 => wpAny (model X.prog X.w) X.A (throw (.ref a) : Sem Flow) (SP X pins D) X.xe s4) X.xe { s' with heap := h3 } := by
        rw [hf]
        refine HandSPX.setFlight_upZ fl3 ?_
        intro h4 hh4 up4
        exact wpAny_throw (tk _ _ ⟨a, B, sI, pins, σ', H', cls, d, rfl, J, nb, (up.trans up3).trans up4, .inr (.inr (hs.symm ▸ hh4)), na, os, ag, hno rfl⟩)
      unfold PySem.passOn
      refine wpAny_bind (wpAny_field he hd h1 ?_)
      have nT : ¬ ((Value.ref T == Value.none) = true) := by simp
      rw [if_neg nT]
      first
        | exact wpAny_bind go
        | exact wpAny_bind (wpAny_pure (wpAny_bind go))
    | true =>
      refine codeAny_handlers_suite_as ?_
      refine HandSPX.lands_againZ fl3 ?_
      intro h4 fl4 up4
      have J4 : Inv X pins σ' H' { s' with heap := h4 } := J.landed nb fl4.1 ((up.trans up3).trans up4) os ag
      obtain ⟨oe4, vs4, he4, hz4, hd4⟩ := fl4.there
      refine store_ok (X := X.suite a ((a, oe4) :: (X.pn ++ pins))) (v := .ref a) (J4.suite he4 hd4 na nL nF) hN hi (.inl hln) rfl ?_ (.inr hln)
      intro s5 S5
      refine wpAny_mono ((hsu a oe4 cls d (X.pn ++ pins) hz4 ⟨_, hd4⟩).run [] s5 _ H' _ S5 (hyes rfl a na)) ?_ (fun _ _ z => z.elim)
      intro f s6 z
      have leave : ∀ {σ6 : L2.St} {H6 : Hp} {Q : Shared → Prop}, Inv (X.suite a ((a, oe4) :: (X.pn ++ pins))) [] σ6 H6 s6 → (∀ s7, Inv X pins (σ6.set i none) (upd H6 a (ExC2 a cls d)) s7 → Q s7) →
          wpAny (model X.prog X.w) X.A (do bindName X.env n .none; unbindBehindTheSuite X.env n pos') (fun _ s7 => Q s7) X.xe s6 := by
        intro σ6 H6 Q S6 hq
        refine gone_ok (unsuiteP S6 ok) hN hi hln ?_
        intro s7 J7
        refine hq s7 (promote J7 n0 nps ?_)
        obtain ⟨e7, _⟩ := J7.pin (a, oe4) (List.mem_append_right _ List.mem_cons_self)
        exact exC2_ok e7 hz4 hd4
      match f, z with
      | .next, ⟨σ6, H6, S6, q6⟩ => exact leave S6 fun s7 J7 => ⟨_, _, J7, q6⟩
      | .brk, ⟨σ6, H6, S6, q6⟩ => exact leave S6 fun s7 J7 => ⟨_, _, J7, q6⟩
      | .cont, ⟨σ6, H6, S6, q6⟩ => exact leave S6 fun s7 J7 => ⟨_, _, J7, q6⟩
      | .ret u, ⟨v6, σ6, H6, S6, r6, q6⟩ => exact leave S6 fun s7 J7 => ⟨_, _, _, J7, r6, q6⟩
end
end Ru

set_option Elab.async false
set_option linter.all false
set_option maxRecDepth 100000
set_option maxHeartbeats 2000000
namespace Ru
open PySem PySem.Spec PyProof.Rows L2
theorem ifC {c A B : Prop} [Decidable c] (h1 : c → A) (h2 : ¬ c → B) : if decide c = true then A else B := by
  by_cases h : c
  · rw [if_pos (decide_eq_true h)]
    exact h1 h
  · rw [if_neg (by rw [decide_eq_false h]; exact Bool.false_ne_true)]
    exact h2 h
/-- the state of the draws as a list: the script's numbers, the next one's place, what is left of a great one -/
structure PenL (H : Hp) (d l : Addr) (cells : List Int) (a r : Int) : Prop where
  dk : H d = some (.lst [.ref l, .int a, .int r])
  cl : H l = some (.lst (cells.map V.int))
  len : cells.length ≤ 63
  a0 : 0 ≤ a
  r0 : 0 ≤ r
section
variable {H H' : Hp} {d l : Addr} {cells : List Int} {a r z : Int}
theorem PenL.ne (P : PenL H d l cells a r) : l ≠ d := fun e => by
  have h1 := P.dk
  rw [← e, P.cl] at h1
  have h2 : cells.map V.int = [.ref l, .int a, .int r] := by injection (Option.some.inj h1)
  cases cells with
  | nil => cases h2
  | cons x xs => cases h2
theorem PenL.same (s : Same H H') (P : PenL H d l cells a r) : PenL H' d l cells a r := ⟨s _ _ P.dk, s _ _ P.cl, P.len, P.a0, P.r0⟩
theorem PenL.but (P : PenL H d l cells a r) {a' r' : Int} (h1 : 0 ≤ a') (h2 : 0 ≤ r') : PenL (upd H d (.lst [.ref l, .int a', .int r'])) d l cells a' r' :=
  ⟨upd_same, by rw [upd_ne P.ne]; exact P.cl, P.len, h1, h2⟩
end
/-- all but what stands at d stays -/
def Bt (d : Addr) (H H' : Hp) : Prop := ∀ b o, H b = some o → b ≠ d → H' b = some o
theorem Bt.refl {d : Addr} {H : Hp} : Bt d H H := fun _ _ e _ => e
theorem Bt.trans {d : Addr} {H H1 H2 : Hp} (x : Bt d H H1) (y : Bt d H1 H2) : Bt d H H2 := fun b o e n => y b o (x b o e n) n
theorem Bt.of {d : Addr} {H H' : Hp} (s : Same H H') : Bt d H H' := fun b o e _ => s b o e
theorem Bt.put {d : Addr} {H : Hp} {u : HO} : Bt d H (upd H d u) := fun b o e n => by rw [upd_ne n]; exact e
/-- a number from 0 to m - 1 is drawn; nothing but the pen's list changes -/
def spTakeL : Sp := fun vs H Q _ => ∃ (d l : Addr) (cells : List Int) (a r m : Int), vs = [.ref d, .int m] ∧ PenL H d l cells a r ∧ a ≤ 100000 ∧ 0 < m ∧ m < 1073741824 ∧
  ∀ (z a' r' : Int) (H' : Hp), 0 ≤ z → z < m → a' ≤ a + 1 → Bt d H H' → PenL H' d l cells a' r' → Q (.int z) H'
/-- a pen over the script -/
def spPenL (K : PySem.W.Frag) : Sp := fun vs H Q _ => ∃ (a : Addr) (ns : List Int), vs = [.ref a] ∧ SqL K H a (ns.map V.int) ∧ ns.length ≤ 63 ∧ ∀ (d l : Addr) (H' : Hp), Same H H' → PenL H' d l ns 0 0 → Q (.ref d) H'
theorem sq_leL {c : Int} {a : Int} (h0 : 0 ≤ a) (h1 : a ≤ 100000) (hc : c = 61051) : 0 ≤ c * a * a ∧ c * a * a ≤ 610510000000000 := by
  subst hc
  have h2 : 0 ≤ a * a := Int.mul_nonneg h0 h0
  have h3 : a * a ≤ 100000 * 100000 := Int.mul_le_mul h1 h1 h0 (by omega)
  have e : 61051 * a * a = 61051 * (a * a) := Int.mul_assoc _ _ _
  omega
/-- a product within two bounds -/
theorem mul_leL {x a : Int} {k : Int} (h0 : 0 ≤ x) (h1 : x < 2147483587) (h2 : 0 ≤ a) (h3 : a ≤ 100000) (k0 : 0 ≤ k) (k1 : k ≤ 1000) : 0 ≤ x * (2 * a + k) ∧ x * (2 * a + k) ≤ 2147483587 * 201000 := by
  refine ⟨Int.mul_nonneg h0 (by omega), Int.mul_le_mul (by omega) (by omega) (by omega) (by omega)⟩
theorem cutL63 {xs : List V} (h : xs.length ≤ 63) : cutV xs none (some 63) = xs := by
  show (xs.drop 0).take (min 63 xs.length - 0) = xs
  rw [Nat.min_eq_right h]
  simp
/-- an item of the numbers -/
theorem cellAt {cells : List Int} {k : Int} (h0 : 0 ≤ k) (h1 : k < cells.length) : ∃ c : Int, atI (cells.map V.int) k = some (.int c) := by
  obtain ⟨n, hn⟩ := Int.eq_ofNat_of_zero_le h0
  have hlt : n < cells.length := by omega
  exact ⟨cells[n], at_of hn (by rw [List.getElem?_map, List.getElem?_eq_getElem hlt]; rfl)⟩
def intsD (cells : List Int) : List PyData := cells.map PyData.int
theorem dp_ints {K : PySem.W.Frag} {H : Hp} : ∀ {cells : List Int}, DpAll K H (cells.map V.int) (intsD cells)
  | [] => .nil
  | _ :: _ => .cons (.int _) dp_ints
theorem lay_ints : ∀ {cells : List Int}, PyData.canLayAll0 (intsD cells) = true
  | [] => by simp [intsD, PyData.canLayAll0]
  | z :: zs => by
    have h := lay_ints (cells := zs)
    simp only [intsD, List.map_cons, PyData.canLayAll0, PyData.canLay0, Bool.true_and] at h ⊢
    exact h
theorem deep_ints : ∀ {cells : List Int}, PyData.depthAll (intsD cells) ≤ 1
  | [] => by simp [intsD, PyData.depthAll]
  | z :: zs => by
    have h := deep_ints (cells := zs)
    simp only [intsD, List.map_cons, PyData.depthAll, PyData.depth] at h ⊢
    omega
theorem shaped_ints {cells : List Int} : SeqAt.shaped (.list (intsD cells)) = true := by
  have h1 := deep_ints (cells := cells)
  unfold SeqAt.shaped
  rw [Bool.and_eq_true]
  refine ⟨by rw [PyData.canLay0]; exact lay_ints, decide_eq_true ?_⟩
  rw [PyData.depth]
  omega
theorem shaped_nil : SeqAt.shaped (.list []) = true := shaped_ints (cells := [])
theorem eqv_nil {cells : List Int} : (!PyData.eqv (.list (intsD cells)) (.list [])) = !cells.isEmpty := by
  cases cells with
  | nil => simp [intsD, PyData.eqv, PyData.eqvAll]
  | cons z zs => simp [intsD, PyData.eqv, PyData.eqvAll]
end Ru

set_option Elab.async false
set_option linter.all false
set_option maxRecDepth 100000
set_option maxHeartbeats 2000000
namespace Ru
open PySem PySem.Spec PyProof.Rows L2
/-! ### a Hook over the globals' reach and sys.modules, without the code objects' empty tables, with one more look -/
/-- sys.modules stands in the written part as a dict -/
def smB (K : PySem.W.Frag) : Bool := match K.lookup sysModules with
  | some ⟨_, _, .dict _ _, _⟩ => true
  | _ => false
def SmK (K : PySem.W.Frag) : Prop := ∃ (o : Obj) (es : Array DictEntry) (n : Nat), K.lookup sysModules = some o ∧ o.data = .dict es n
theorem smB_ok {K : PySem.W.Frag} (h : smB K = true) : SmK K := by
  unfold smB at h
  split at h
  · rename_i a b es n sl e
    exact ⟨_, es, n, e, rfl⟩
  · cases h
structure SaysY (fa : List He.Fa) (fn : List He.DefD) (tf : List He.Defn) (ex : PySem.W.Frag → Bool) (h : Heap) (K : PySem.W.Frag) : Prop where
  d : He.SaysD fa fn K
  sm : smB K = true
  more : ex K = true
  hd : ∀ p ∈ tf, PySem.W.codeHdIn K (He.cT K p).1 (He.cT K p).2 = true
  out : ∀ p ∈ tf, K.lookup (He.cT K p).2 = none
  empty : ∀ p ∈ tf, h.get? (He.cT K p).2 = some { cls := .none, data := .fields #[] }
def kY (g : Addr → Option Obj) (n : Nat) : PySem.W.Frag := He.frT g (cStatics :: sysModules :: He.asD g n)
def obsY (n : Nat) (fa : List He.Fa) (fn : List He.DefD) (tf : List He.Defn) (ex : PySem.W.Frag → Bool) (g : Addr → Option Obj) : AlX := (He.obsD fa fn (kY g n), smB (kY g n) && (ex (kY g n) && He.tabsB g tf (kY g n)))
theorem saysY_of {n : Nat} {fa : List He.Fa} {fn : List He.DefD} {tf : List He.Defn} {ex : PySem.W.Frag → Bool} {h : Heap} (e : obsY n fa fn tf ex h.get? = (He.valD fn, true)) : SaysY fa fn tf ex h (kY h.get? n) := by
  have e1 : He.obsD fa fn (kY h.get? n) = He.valD fn := congrArg Prod.fst e
  have e2 : (smB (kY h.get? n) && (ex (kY h.get? n) && He.tabsB h.get? tf (kY h.get? n))) = true := congrArg Prod.snd e
  rw [Bool.and_eq_true, Bool.and_eq_true] at e2
  obtain ⟨h0, h1, h2⟩ := e2
  have key : ∀ p ∈ tf, PySem.W.codeHdIn (kY h.get? n) (He.cT (kY h.get? n) p).1 (He.cT (kY h.get? n) p).2 = true ∧ ∃ o, h.get? (He.cT (kY h.get? n) p).2 = some o ∧ He.emptyTab o = true := fun p hp => by
    have z := List.all_eq_true.mp h2 p hp
    rw [Bool.and_eq_true] at z
    refine ⟨z.1, ?_⟩
    have z2 := z.2
    cases q : h.get? (He.cT (kY h.get? n) p).2 with
    | none =>
      rw [q] at z2
      cases z2
    | some o =>
      rw [q] at z2
      exact ⟨o, rfl, z2⟩
  exact ⟨e1, h0, h1, fun p hp => (key p hp).1, fun p hp => by
    obtain ⟨_, o, q, z⟩ := key p hp
    exact He.frT_none q z, fun p hp => by
    obtain ⟨_, o, q, z⟩ := key p hp
    rw [q, He.emptyTab_eq z]⟩
def hookY (n : Nat) (fa : List He.Fa) (fn : List He.DefD) (tf : List He.Defn) (ex : PySem.W.Frag → Bool) : PySem.W.Hook where
  α := AlX
  obs := fun s => obsY n fa fn tf ex s.heap.get?
  val := fun _ => (He.valD fn, true)
  says := fun _ h => ∃ K : PySem.W.Frag, K.In h ∧ SaysY fa fn tf ex h K
  of := fun _ _ e => ⟨_, He.frT_in, saysY_of e⟩
  keeps := fun _ _ _ ⟨K, a, c⟩ k => ⟨K, PySem.W.Frag.In.keeps a k, ⟨c.d, c.sm, c.more, c.hd, c.out, fun p hp => k _ _ (c.empty p hp)⟩⟩
theorem obsY_eq {n : Nat} {fa : List He.Fa} {fn : List He.DefD} {tf : List He.Defn} {ex : PySem.W.Frag → Bool} {g : Addr → Option Obj} {s : Shared} (h : ∀ a, g a = s.heap.get? a) : obsY n fa fn tf ex g = (hookY n fa fn tf ex).obs s := by
  have e : g = s.heap.get? := funext h
  rw [e] <;> rfl
/-! ### the law's entry with tables, at the caller that has no guards -/
section
variable {P : Program} {w : World} {K : PySem.W.Frag} {mg mb : Str → Option Value} {k : Nat} {fa a : Addr} {fd : FuncData} {x : Str} {sp : Sp} {s : Shared} {vs : List Value} {ns : List Int} {cs : List (Addr × Addr)}
/-- where the tables and, if it is not written, the script are tracked -/
def trk (cs : List (Addr × Addr)) (scr : Option (Addr × HO)) : Hp := fun b => match scr with
  | some (a, u) => if b = a then some u else if b ∈ cs.map (·.2) then some (.tbl #[]) else none
  | none => if b ∈ cs.map (·.2) then some (.tbl #[]) else none
/-- what the start heap must grant -/
structure Head (K : PySem.W.Frag) (mg mb : Str → Option Value) (cs : List (Addr × Addr)) (h : Heap) : Prop where
  kin : K.In h
  ns : h.Ns mainGlobals mg
  b : h.Ns builtinsNs mb
  bb : ∀ x : Str, x ≠ "__name__" → mb x = bootBuiltins x
  lim : h.NoLimit
  hT : ∀ p ∈ cs, h.get? p.2 = some { cls := .none, data := .fields #[] }
  nT : ∀ p ∈ cs, K.lookup p.2 = none
  C : ∀ p ∈ cs, PySem.W.CodeHd h p.1 p.2
  bm : ∃ (bm : Addr) (ob : Obj), mg "__builtins__" = some (.ref bm) ∧ bm ≠ builtinsNs ∧ h.get? bm = some ob ∧ ob.cls = .type "module" ∧ ob.dict = some builtinsNs ∧ ob.data = .plain
/-- a tracked thing of the start: the script or an empty table -/
def StartH (cs : List (Addr × Addr)) (a : Addr) (scr : Obj) (xs : List V) (H : Hp) : Prop := ∀ b u, H b = some u → (b = a ∧ u = .frz scr (.lst xs)) ∨ (b ∈ cs.map (·.2) ∧ u = .tbl #[])
theorem entryT (Z : Head K mg mb cs s.heap) (hg : s.gens = #[]) (ha : s.heap.get? a = some { cls := .type "list", data := .seq vs.toArray }) (hi : IntsAre vs ns) (hl : ns.length ≤ sizeLine) (hr : Room k callerA)
    (F : ∀ base : Heap, K.In base → base.Ns mainGlobals mg → (∀ p ∈ cs, LamX.TabB base mg p.1 p.2) → FnG P w K mg base CX0 k fa fd [x] sp) (bd : ∀ (s : Shared) (u : Value), BindsTo s fd ⟨[u], []⟩ [(x, u)])
    (hsp : ∀ H : Hp, (∀ p ∈ cs, H p.2 = some (.tbl #[])) → SqL K H a (ns.map V.int) → sp [.ref a] H (fun v _ => v = .bl true) E0) :
    codeAny (model P w) callerA (.call (.ref fa) ⟨[.ref a], []⟩) (fun r s' => r = .ok (.ret (.bool true)) ∧ OldK s.heap s'.heap ∧ s'.os = s.os ∧ AllBare s'.gens) s := by
  have rv := vals_ints hi
  have tab : ∀ b : Addr, b ∈ cs.map (·.2) → s.heap.get? b = some { cls := .none, data := .fields #[] } := fun b hb => by
    obtain ⟨p, hp, e⟩ := List.mem_map.mp hb
    rw [← e]
    exact Z.hT p hp
  have tabK : ∀ b : Addr, b ∈ cs.map (·.2) → K.lookup b = none := fun b hb => by
    obtain ⟨p, hp, e⟩ := List.mem_map.mp hb
    rw [← e]
    exact Z.nT p hp
  have aT : a ∉ cs.map (·.2) := fun z => by
    have q := (tab a z).symm.trans ha
    cases q
  have main : ∀ H : Hp, (∀ p ∈ cs, H p.2 = some (.tbl #[])) → SqL K H a (ns.map V.int) → StartH cs a { cls := .type "list", data := .seq vs.toArray } (ns.map V.int) H → (H a ≠ none → K.lookup a = none) →
      codeAny (model P w) callerA (.call (.ref fa) ⟨[.ref a], []⟩) (fun r s' => r = .ok (.ret (.bool true)) ∧ OldK s.heap s'.heap ∧ s'.os = s.os ∧ AllBare s'.gens) s := by
    intro H hH hS st hK
    have hok : HOk P w H s.heap := fun b u e => by
      rcases st b u e with ⟨e1, e2⟩ | ⟨e1, e2⟩
      · subst e1 e2
        exact ⟨ha, by rw [List.length_map]; exact hl, vs, _, rv, ha⟩
      · subst e2
        exact tab b e1
    -- what is neither a plain list nor an empty table of the start is not tracked
    have off : ∀ {b : Addr} {o : Obj}, s.heap.get? b = some o → (∀ us n, o.data ≠ .seq us n) → o.data ≠ .fields #[] → H b = none := fun {b o} e n1 n2 => by
      cases q : H b with
      | none => rfl
      | some u =>
        rcases st b u q with ⟨e1, _⟩ | ⟨e1, _⟩
        · subst e1
          rw [ha] at e
          cases e
          exact (n1 _ _ rfl).elim
        · rw [tab b e1] at e
          cases e
          exact (n2 rfl).elim
    have kept : ∀ {b : Addr} {o : Obj}, s.heap.get? b = some o → (∀ us n, o.data ≠ .seq us n) → o.data ≠ .fields #[] → (hidT s.heap H).get? b = some o := fun e n1 n2 => hidT_get e (off e n1 n2)
    have nod : ∀ {b : Addr} {m : Str → Option Value}, s.heap.Ns b m → (hidT s.heap H).Ns b m := by
      rintro b m ⟨o, es, ep, e, d, r⟩
      refine ⟨o, es, ep, kept e (fun us n z => ?_) (fun z => ?_), d, r⟩
      · rw [d] at z
        cases z
      · rw [d] at z
        cases z
    have kin : K.In (hidT s.heap H) := by
      intro b o e
      refine hidT_get (Z.kin b o e) ?_
      cases q : H b with
      | none => rfl
      | some u =>
        rcases st b u q with ⟨e1, _⟩ | ⟨e1, _⟩
        · subst e1
          rw [hK (by rw [q]; exact Option.some_ne_none _)] at e
          cases e
        · rw [tabK b e1] at e
          cases e
    have md : Mod K mg (hidT s.heap H) := ⟨kin, nod Z.ns, ⟨mb, nod Z.b, Z.bb⟩, Z.lim.imp fun mc z => ⟨nod z.1, z.2⟩⟩
    have tb : ∀ p ∈ cs, LamX.TabB (hidT s.heap H) mg p.1 p.2 := fun p hp => by
      refine ⟨?_, ?_, fun z => ?_⟩
      · obtain ⟨o, us, file, tf, flags, tg, inF, text, tt, e1, r1, r2, r3, r⟩ := Z.C p hp
        refine ⟨o, us, file, tf, flags, tg, inF, text, tt, kept e1 (fun vs n z => ?_) (fun z => ?_), r1, r2, r3, r⟩
        · rw [r2] at z
          cases z
        · rw [r2] at z
          cases z
          simp at r3
      · obtain ⟨bm, ob, b1, b2, b3, b4, b5, b6⟩ := Z.bm
        have e2 := kept b3 (fun us n z => by rw [b6] at z; cases z) (fun z => by rw [b6] at z; cases z)
        refine ⟨bm, ob, b1, b2, fun q => ?_, fun q => ?_, e2, b4, b5, b6⟩
        · obtain ⟨o, es, ep, e, hd, _⟩ := Z.ns
          rw [q, e] at b3
          cases b3
          rw [hd] at b6
          cases b6
        · rw [q, Z.hT p hp] at b3
          cases b3
          cases b6
      · obtain ⟨o, es, ep, e, hd, _⟩ := Z.ns
        rw [z, Z.hT p hp] at e
        cases e
        cases hd
    have e0 : Env0 P w K mg (hidT s.heap H) callerA [] s H :=
      { frames := rfl, mod := md, bs := fun b o e => of_hidT e, bsz := Nat.le_of_eq (hidT_size _ _), funs := trivial, frf := fun b z => (List.not_mem_nil z).elim, hok := hok, bare := .of_eq hg }
    refine codeAny_mono ((F _ kin (nod Z.ns) tb).run callerA [] s H ⟨[.ref a], []⟩ [.ref a] [.ref a] _ _ rfl hr e0 (bd s (.ref a)) (.cons rfl .nil) (hsp H hH hS)) ?_
    intro r s' z
    match r, z with
    | .ok (.ret u), ⟨v, H', os, bare, un, hok', r', q⟩ =>
      subst q
      obtain rfl : u = Value.bool true := r'
      have row : ∀ b ∈ cs.map (·.2), ∃ more : Array Value, s'.heap.get? b = some { cls := .none, data := .fields more } := fun b hb => by
        obtain ⟨p, hp, e⟩ := List.mem_map.mp hb
        obtain ⟨more, z⟩ := un.tbls p.2 #[] (hH p hp)
        rw [← e]
        exact ⟨_, hok' p.2 _ z⟩
      have rest : ∀ b o, b ∉ cs.map (·.2) → s.heap.get? b = some o → s'.heap.get? b = some o := fun b o nb e => by
        cases hb : H b with
        | none => exact un.keep b o e hb (fun z => (List.not_mem_nil z).elim) (fun z => (List.not_mem_nil z).elim)
        | some u =>
          rcases st b u hb with ⟨_, e2⟩ | ⟨e1, _⟩
          · subst e2
            have e1 := (hok b _ hb).1
            have e2 := (hok' b _ (un.frzs b _ _ hb)).1
            rw [e] at e1
            cases e1
            exact e2
          · exact (nb e1).elim
      refine ⟨rfl, ⟨fun b o e => ?_, fun b o e => ?_⟩, os, bare⟩
      · by_cases hb : b ∈ cs.map (·.2)
        · obtain ⟨more, z⟩ := row b hb
          obtain ⟨p, hp, ep⟩ := List.mem_map.mp hb
          rw [tab b hb] at e
          cases e
          refine .inr (.inl ⟨?_, rfl, #[], more, rfl, by rw [Array.empty_append]; exact z⟩)
          rw [← ep]
          exact ((Z.C p hp).tab (Z.hT p hp)).isCodeTable
        · exact .inl (rest b o hb e)
      · by_cases hb : b ∈ cs.map (·.2)
        · obtain ⟨more, z⟩ := row b hb
          exact ⟨_, z⟩
        · exact ⟨o, rest b o hb e⟩
  have tin : ∀ (scr : Option (Addr × HO)) (b : Addr), b ∈ cs.map (·.2) → (∀ u, scr ≠ some (b, u)) → trk cs scr b = some (.tbl #[]) := fun scr b hb hn => by
    unfold trk
    cases scr with
    | none => exact if_pos hb
    | some q =>
      obtain ⟨c, u⟩ := q
      show (if b = c then some u else if b ∈ cs.map (·.2) then some (HO.tbl #[]) else none) = _
      rw [if_neg (fun e => hn u (by rw [e])), if_pos hb]
  cases hk : K.lookup a with
  | some o =>
    have e := Z.kin a o hk
    rw [ha] at e
    cases e
    refine main (trk cs none) (fun p hp => tin none _ (List.mem_map.mpr ⟨p, hp, rfl⟩) (fun u z => nomatch z)) (.inr ⟨_, vs.toArray, _, hk, rfl, rfl, rfl, by rw [List.size_toArray, hi.length]; exact hl, by simpa using rv⟩) (fun b u q => ?_) (fun z => ?_)
    · by_cases hb : b ∈ cs.map (·.2)
      · rw [tin none b hb (fun u z => nomatch z)] at q
        cases q
        exact .inr ⟨hb, rfl⟩
      · cases (if_neg hb).symm.trans (show (if b ∈ cs.map (·.2) then some (HO.tbl #[]) else none) = some u from q)
    · exact (z (if_neg aT)).elim
  | none =>
    have nA : ∀ b ∈ cs.map (·.2), b ≠ a := fun b hb e => aT (by rw [← e]; exact hb)
    refine main (trk cs (some (a, .frz { cls := .type "list", data := .seq vs.toArray } (.lst (ns.map V.int))))) (fun p hp => ?_) (.inl (.inr ⟨_, if_pos rfl⟩)) (fun b u q => ?_) (fun _ => hk)
    · have hb : p.2 ∈ cs.map (·.2) := List.mem_map.mpr ⟨p, hp, rfl⟩
      exact tin _ _ hb fun u z => nA _ hb (by cases z; rfl)
    · have q' : (if b = a then some (HO.frz { cls := .type "list", data := .seq vs.toArray } (.lst (ns.map V.int))) else if b ∈ cs.map (·.2) then some (HO.tbl #[]) else none) = some u := q
      by_cases hb : b = a
      · rw [if_pos hb] at q'
        cases q'
        exact .inl ⟨hb, rfl⟩
      · rw [if_neg hb] at q'
        by_cases hc : b ∈ cs.map (·.2)
        · rw [if_pos hc] at q'
          cases q'
          exact .inr ⟨hc, rfl⟩
        · rw [if_neg hc] at q'
          cases q'
end
/-- the law, from its def's promise, with tables -/
theorem walkT {l : PySem.W.OpenLaw} {n k : Nat} {q : Program} {loose : List Str} {XP : (Str → Option Value) → Heap → Prop} {YP : World → Heap → Prop} {d : DefRec} {x : Str}
    (hn : l.most = some n) (hn2 : n ≤ sizeLine) (hdf : d.params.defaults = []) (hr : Room k callerA)
    (F : ∀ (w : World) (mg : Str → Option Value) (fa : Addr) (h : Heap), YP w h → h.Ns mainGlobals mg → mg d.name = some (.ref fa) →
      ∃ (K : PySem.W.Frag) (cs : List (Addr × Addr)) (fd : FuncData) (sp : Sp), K.In h ∧ (∀ p ∈ cs, h.get? p.2 = some { cls := .none, data := .fields #[] }) ∧ (∀ p ∈ cs, K.lookup p.2 = none) ∧ (∀ p ∈ cs, PySem.W.CodeHd h p.1 p.2) ∧
        (∀ (s : Shared) (u : Value), BindsTo s fd ⟨[u], []⟩ [(x, u)]) ∧
        (∀ (H : Hp) (a : Addr) (ns : List Int), ns.length ≤ n → (∀ p ∈ cs, H p.2 = some (.tbl #[])) → SqL K H a (ns.map V.int) → sp [.ref a] H (fun v _ => v = .bl true) E0) ∧
        ∀ base : Heap, K.In base → base.Ns mainGlobals mg → (∀ p ∈ cs, LamX.TabB base mg p.1 p.2) → FnG l.prog w K mg base CX0 k fa fd [x] sp) :
    PySem.W.WalkO q loose XP YP l.row.toRowW d [] (fun f vs => PySem.call f vs) := by
  refine Att.attach_call hn hdf fun w s₀ s₁ mg mb fa o pm cd doc a vs ns G Y ho hd hcd hmg hobj hints hlen hg => ?_
  obtain ⟨K, cs, fd, sp, kx, hT, nT, C, bd, hsp, hF⟩ := F w mg fa _ Y G.T.g hmg
  exact entryT ⟨kx, G.T.g, G.T.b, G.T.builtins, G.T.nolimit, hT, nT, C, G.T.bmain⟩ hg hobj hints (Nat.le_trans hlen hn2) hr hF bd fun H hH sq => hsp H a ns hlen hH sq
end Ru

set_option Elab.async false
set_option linter.all false
set_option maxRecDepth 100000
set_option maxHeartbeats 2000000
namespace Ru
open PySem PySem.Spec PyProof.Rows L2
/-! ### .. and with defs that stand behind a record (classmethods) -/
def obsW (fw : List He5.DefA) (K : PySem.W.Frag) : He.AlD := (fw.all fun d => d.ok K, fw.map fun d => He5.fnA K (d.at_ K))
def valW (fw : List He5.DefA) : He.AlD := (true, fw.map He5.DefA.val)
theorem saysW_def {fw : List He5.DefA} {K : PySem.W.Frag} (c : obsW fw K = valW fw) (i : Nat) {d : He5.DefA} (h : fw[i]? = some d := by rfl) : ∃ fd, FunD K d.name d.qual d.params d.body d.scope (d.dvs K) (d.kws K) (d.at_ K) fd := by
  have c2 : (fw.all fun d => d.ok K) = true := congrArg (fun z : He.AlD => z.1) c
  have e : fw.map (fun d => He5.fnA K (d.at_ K)) = fw.map He5.DefA.val := congrArg (fun z : He.AlD => z.2) c
  have e2 : (fw.map fun d => He5.fnA K (d.at_ K))[i]? = (fw.map He5.DefA.val)[i]? := by rw [e]
  rw [List.getElem?_map, List.getElem?_map, h] at e2
  exact He5.DefA.funD (Option.some.inj e2) (List.all_eq_true.mp c2 d (List.mem_of_getElem? h))
abbrev AlZ : Type := AlX × He.AlD
def obsZ (n : Nat) (fa : List He.Fa) (fn : List He.DefD) (fw : List He5.DefA) (tf : List He.Defn) (ex : PySem.W.Frag → Bool) (g : Addr → Option Obj) : AlZ := (obsY n fa fn tf ex g, obsW fw (kY g n))
def hookZ (n : Nat) (fa : List He.Fa) (fn : List He.DefD) (fw : List He5.DefA) (tf : List He.Defn) (ex : PySem.W.Frag → Bool) : PySem.W.Hook where
  α := AlZ
  obs := fun s => obsZ n fa fn fw tf ex s.heap.get?
  val := fun _ => ((He.valD fn, true), valW fw)
  says := fun _ h => ∃ K : PySem.W.Frag, K.In h ∧ SaysY fa fn tf ex h K ∧ obsW fw K = valW fw
  of := fun _ _ e => ⟨_, He.frT_in, saysY_of (congrArg Prod.fst e), congrArg Prod.snd e⟩
  keeps := fun _ _ _ ⟨K, a, c, d⟩ k => ⟨K, PySem.W.Frag.In.keeps a k, ⟨c.d, c.sm, c.more, c.hd, c.out, fun p hp => k _ _ (c.empty p hp)⟩, d⟩
theorem obsZ_eq {n : Nat} {fa : List He.Fa} {fn : List He.DefD} {fw : List He5.DefA} {tf : List He.Defn} {ex : PySem.W.Frag → Bool} {g : Addr → Option Obj} {s : Shared} (h : ∀ a, g a = s.heap.get? a) : obsZ n fa fn fw tf ex g = (hookZ n fa fn fw tf ex).obs s := by
  have e : g = s.heap.get? := funext h
  rw [e] <;> rfl
end Ru

set_option Elab.async false
set_option linter.all false
set_option maxRecDepth 100000
set_option maxHeartbeats 2000000
namespace Ru
open PySem PySem.Spec PyProof.Rows L2
/-! ### data with small dicts of ints in it -/
mutual
inductive Dq (K : PySem.W.Frag) (d : Addr) (H : Hp) : V → PyData → Prop
  | non : Dq K d H .non .none
  | bl (b : Bool) : Dq K d H (.bl b) (.bool b)
  | int (i : Int) : Dq K d H (.int i) (.int i)
  | str (x : Str) : Dq K d H (.str x) (.str x)
  | lst {a : Addr} {xs : List V} {ds : List PyData} : SqL K H a xs → a ≠ d → DqA K d H xs ds → Dq K d H (.ref a) (.list ds)
  | tup {a : Addr} {xs : List V} {ds : List PyData} : Rd H a (.tup xs) → a ≠ d → DqA K d H xs ds → Dq K d H (.ref a) (.tuple ds)
  | d0 {a : Addr} : H a = some (.dK []) → a ≠ d → Dq K d H (.ref a) (.dict [])
  | d1 {a : Addr} {i j : Int} : H a = some (.dK [(Sum.inl i, .int j)]) → a ≠ d → Dq K d H (.ref a) (.dict [(.int i, .int j)])
inductive DqA (K : PySem.W.Frag) (d : Addr) (H : Hp) : List V → List PyData → Prop
  | nil : DqA K d H [] []
  | cons {v : V} {vs : List V} {x : PyData} {ds : List PyData} : Dq K d H v x → DqA K d H vs ds → DqA K d H (v :: vs) (x :: ds)
end
theorem Bt.rd {d a : Addr} {H H' : Hp} {u : HO} (s : Bt d H H') (n : a ≠ d) (h : Rd H a u) : Rd H' a u := by
  rcases h with h | ⟨o, h⟩
  · exact .inl (s _ _ h n)
  · exact .inr ⟨o, s _ _ h n⟩
theorem Bt.seq {d a : Addr} {K : PySem.W.Frag} {H H' : Hp} {xs : List V} (s : Bt d H H') (n : a ≠ d) (h : SqL K H a xs) : SqL K H' a xs := h.imp (s.rd n) id
theorem Bt.seqT {d a : Addr} {K : PySem.W.Frag} {H H' : Hp} {xs : List V} (s : Bt d H H') (n : a ≠ d) (h : SqT K H a xs) : SqT K H' a xs := h.imp (s.rd n) id
mutual
theorem Dq.bt {K : PySem.W.Frag} {d : Addr} {H H' : Hp} (s : Bt d H H') : ∀ {v : V} {x : PyData}, Dq K d H v x → Dq K d H' v x
  | _, _, .non => .non
  | _, _, .bl b => .bl b
  | _, _, .int i => .int i
  | _, _, .str x => .str x
  | _, _, .lst h n a => .lst (s.seq n h) n (DqA.bt s a)
  | _, _, .tup h n a => .tup (s.rd n h) n (DqA.bt s a)
  | _, _, .d0 h n => .d0 (s _ _ h n) n
  | _, _, .d1 h n => .d1 (s _ _ h n) n
theorem DqA.bt {K : PySem.W.Frag} {d : Addr} {H H' : Hp} (s : Bt d H H') : ∀ {vs : List V} {ds : List PyData}, DqA K d H vs ds → DqA K d H' vs ds
  | _, _, .nil => .nil
  | _, _, .cons a b => .cons (Dq.bt s a) (DqA.bt s b)
end
theorem Dq.same {K : PySem.W.Frag} {d : Addr} {H H' : Hp} (s : Same H H') {v : V} {x : PyData} (h : Dq K d H v x) : Dq K d H' v x := Dq.bt (.of s) h
theorem DqA.same {K : PySem.W.Frag} {d : Addr} {H H' : Hp} (s : Same H H') {v : List V} {x : List PyData} (h : DqA K d H v x) : DqA K d H' v x := DqA.bt (.of s) h
theorem DqA.app {K : PySem.W.Frag} {d : Addr} {H : Hp} : ∀ {vs : List V} {ds : List PyData} {us : List V} {es : List PyData}, DqA K d H vs ds → DqA K d H us es → DqA K d H (vs ++ us) (ds ++ es)
  | _, _, _, _, .nil, b => b
  | _, _, _, _, .cons a r, b => .cons a (r.app b)
theorem dq_ints {K : PySem.W.Frag} {d : Addr} {H : Hp} : ∀ {zs : List Int}, DqA K d H (zs.map V.int) (intsD zs)
  | [] => .nil
  | _ :: _ => .cons (.int _) dq_ints
section
variable {X : Cx} {pins : List (Addr × Obj)} {σ : L2.St} {H : Hp} {s : Shared} {dp : Addr}
theorem SmK.off (M : SmK X.K) (I : Inv X pins σ H s) {a : Addr} {o : Obj} (h : s.heap.get? a = some o) (hn : ∀ es n, o.data ≠ .dict es n) : sysModules ≠ a := fun e => by
  obtain ⟨o', es, n, h1, h2⟩ := M
  have h3 := I.kIn _ _ h1
  rw [e, h] at h3
  cases h3
  exact hn _ _ h2
theorem kv_nil {vs : List (Key × Value)} (r : KV ([] : List (Key × V)) vs) : vs = [] := by
  cases vs with
  | nil => rfl
  | cons z zs => cases r
theorem kv_one {k : Key} {v : V} {vs : List (Key × Value)} (r : KV [(k, v)] vs) : ∃ u, vs = [(k, u)] ∧ RelV v u := by
  cases r with
  | cons h t =>
    cases t
    rename_i y
    obtain ⟨a, b⟩ := y
    obtain ⟨h1, h2⟩ := h
    exact ⟨b, by rw [show a = k from by first | exact h1.symm | exact h1], by first | exact h2 | exact h2.2⟩
theorem pairs_one {P : Program} {w : World} {es : List DictEntry} {k : Int} {u : Value} (h : Pairs (mixKind P w) es [(Sum.inl k, u)]) : ∃ e, es = [e] ∧ e.key.isInt k = true ∧ e.val = u := by
  cases h with
  | cons h1 h2 t =>
    cases t
    exact ⟨_, rfl, h1, h2⟩
mutual
theorem Dq.reads (I : Inv X pins σ H s) (M : SmK X.K) : ∀ (d : PyData) (v : V) (u : Value), Dq X.K dp H v d → RelV v u → ∃ as, Reads s.heap u d as ∧ sysModules ∉ as
  | .none, _, _, h, r => by
    cases h
    cases r
    exact ⟨_, Reads.none, List.not_mem_nil⟩
  | .bool b, _, _, h, r => by
    cases h
    cases r
    exact ⟨_, Reads.bool b, List.not_mem_nil⟩
  | .int i, _, _, h, r => by
    cases h
    obtain ⟨t, rfl⟩ := r
    exact ⟨_, Reads.int i t, List.not_mem_nil⟩
  | .str x, _, _, h, r => by
    cases h
    obtain ⟨t, rfl⟩ := r
    exact ⟨_, Reads.str x t, List.not_mem_nil⟩
  | .list ds, _, _, h, r => by
    cases h with
    | lst hs _ ha =>
      cases r
      obtain ⟨its, rv, ⟨o, n, ho, hc, _, hd⟩, _⟩ := I.list hs
      obtain ⟨as, hr, hn⟩ := Dq.readsA I M ds _ its ha rv
      refine ⟨_, Reads.list ho hc hd hr, fun z => ?_⟩
      rcases List.mem_cons.mp z with z | z
      · exact M.off I ho (fun es n q => by rw [hd] at q; cases q) z
      · exact hn z
  | .tuple ds, _, _, h, r => by
    cases h with
    | tup hs _ ha =>
      cases r
      obtain ⟨its, rv, ⟨o, ho, hc, n, hd⟩, _⟩ := I.tuple (Or.inl hs)
      obtain ⟨as, hr, hn⟩ := Dq.readsA I M ds _ its ha rv
      exact ⟨_, Reads.tuple ho hc hd hr, hn⟩
  | .dict kvs, _, _, h, r => by
    cases h with
    | d0 h _ =>
      cases r
      obtain ⟨_, hsm, vs, kv, o, es, ep, ho, hx, hd, _, hp, _⟩ := dk_of I.hok h
      have e := kv_nil kv
      subst e
      have e2 : es.toList = [] := by
        have z := hp.length
        exact List.eq_nil_of_length_eq_zero z
      refine ⟨_, Reads.dict (as := []) (bs := []) ho hx.1 hd (by rw [e2]; exact ReadsAll.nil) (by rw [e2]; exact ReadsAll.nil), fun z => ?_⟩
      rcases List.mem_cons.mp z with z | z
      · rw [← z] at hsm
        simp at hsm
      · exact List.not_mem_nil z
    | d1 h _ =>
      cases r
      obtain ⟨_, hsm, vs, kv, o, es, ep, ho, hx, hd, _, hp, _⟩ := dk_of I.hok h
      obtain ⟨u, e, ru⟩ := kv_one kv
      subst e
      obtain ⟨en, e2, k1, k2⟩ := pairs_one hp
      obtain ⟨t, ek⟩ := Value.isInt_shape k1
      obtain ⟨t2, ev⟩ := ru
      refine ⟨_, Reads.dict (as := []) (bs := []) ho hx.1 hd ?_ ?_, fun z => ?_⟩
      · rw [e2]
        show ReadsAll s.heap [en.key] [PyData.int _] []
        rw [ek]
        exact ReadsAll.cons (as := []) (bs := []) (Reads.int _ _) .nil
      · rw [e2]
        show ReadsAll s.heap [en.val] [PyData.int _] []
        rw [k2, ev]
        exact ReadsAll.cons (as := []) (bs := []) (Reads.int _ _) .nil
      · rcases List.mem_cons.mp z with z | z
        · rw [← z] at hsm
          simp at hsm
        · exact List.not_mem_nil z
theorem Dq.readsA (I : Inv X pins σ H s) (M : SmK X.K) : ∀ (ds : List PyData) (vs : List V) (us : List Value), DqA X.K dp H vs ds → Vals vs us → ∃ as, ReadsAll s.heap us ds as ∧ sysModules ∉ as
  | [], _, _, h, r => by
    cases h
    cases r
    exact ⟨_, ReadsAll.nil, List.not_mem_nil⟩
  | d :: ds, _, _, h, r => by
    cases h with
    | cons h1 h2 =>
      cases r with
      | cons r1 r2 =>
        obtain ⟨as, q1, n1⟩ := Dq.reads I M d _ _ h1 r1
        obtain ⟨bs, q2, n2⟩ := Dq.readsA I M ds _ _ h2 r2
        exact ⟨_, ReadsAll.cons q1 q2, fun z => (List.mem_append.mp z).elim n1 n2⟩
end
end
/-- a datum that can be shown -/
structure Sh (d : PyData) : Prop where
  s : d.showable = true
  dp : d.depth ≤ 40
  l : d.shown.length ≤ sizeLine
/-- repr of such data -/
def rReprQ (K : PySem.W.Frag) : List V → Hp → VK → Prop := fun xs H Q => ∃ (v : V) (dp : Addr) (d : PyData), xs = [v] ∧ Dq K dp H v d ∧ Sh d ∧ Q (.str d.shown) H
theorem call_reprQ {X : Cx} (M : SmK X.K) (hg : X.A.guards = some []) (hu : X.A.units + 64 < cLine) : CallR X (.builtin "repr") (rReprQ X.K) := by
  intro pins s σ H xs us Q I r h
  obtain ⟨v, dp, d, rfl, hd, ⟨hs, hdp, hsz⟩, q⟩ := h
  obtain ⟨u, rfl, ru⟩ := vals1 r
  have obj : ∀ a : Addr, v = .ref a → wpAny (model X.prog X.w) X.A (call (.builtin "repr") [u]) (fun u s' => ∃ v H', Inv X pins σ H' s' ∧ RelV v u ∧ Q v H') X.xe s := fun a e => by
    subst e
    cases ru
    obtain ⟨as, r1, n1⟩ := Dq.reads I M d _ _ hd rfl
    exact repr_of_reads' r1 hs (fun _ => n1) hg (by omega) (fun _ _ e => e) (fun h' u tk hk => ⟨.str d.shown, H, I.kept (t' := tk) hk, ⟨u, rfl⟩, q⟩) hsz
  cases hd with
  | non =>
    cases ru
    exact PySem.P.repr_of_none ⟨.str "None", H, I.tok _, ⟨s.toks, rfl⟩, by simpa only [PyData.shown] using q⟩
  | bl b =>
    cases ru
    have e : (PyData.bool b).shown = if b = true then Str.ofString "True" else Str.ofString "False" := by cases b <;> rfl
    rw [e] at q
    exact PySem.P.repr_of_bool ⟨.str (if b = true then Str.ofString "True" else Str.ofString "False"), H, I.tok _, ⟨s.toks, rfl⟩, q⟩
  | int i =>
    obtain ⟨t, rfl⟩ := ru
    refine PySem.P.repr_of_int (by simpa only [PyData.showable, decide_eq_true_eq] using hs) ⟨.str (toString i), H, I.tok _, ⟨s.toks, rfl⟩, by simpa only [PyData.shown] using q⟩
  | str x =>
    obtain ⟨t, rfl⟩ := ru
    refine PySem.P.repr_of_str ⟨.str (reprText x), H, I.tok _, ⟨s.toks, rfl⟩, by simpa only [PyData.shown] using q⟩ (by simpa only [PyData.shown] using hsz)
  | lst _ _ _ => exact obj _ rfl
  | tup _ _ _ => exact obj _ rfl
  | d0 _ _ => exact obj _ rfl
  | d1 _ _ => exact obj _ rfl
end Ru

set_option Elab.async false
set_option linter.all false
set_option maxRecDepth 100000
set_option maxHeartbeats 2000000
namespace Ru
open PySem PySem.Spec PyProof.Rows L2
/-! ### t[::-1] of a tuple -/
theorem fm_congr {α β : Type} {f g : α → Option β} : ∀ {l : List α}, (∀ x ∈ l, f x = g x) → l.filterMap f = l.filterMap g
  | [], _ => rfl
  | x :: l, h => by
    rw [List.filterMap_cons, List.filterMap_cons, h x List.mem_cons_self, fm_congr fun y hy => h y (List.mem_cons_of_mem _ hy)]
theorem pick_rev (xs : Array Value) : ((List.range xs.size).filterMap fun (m : Nat) => xs[(((xs.size : Int) - 1) + (m : Int) * (-1)).toNat]?).toArray = xs.toList.reverse.toArray := by
  have e : ((List.range xs.size).map fun k => xs.size - 1 - k).filterMap (xs[·]?) = xs.toList.reverse := by
    rw [PySem.W.krv_range, List.filterMap_reverse, PySem.W.krv_all]
  rw [← e, List.filterMap_map]
  congr 1
  refine fm_congr fun m hm => ?_
  have := List.mem_range.mp hm
  show xs[(((xs.size : Int) - 1) + (m : Int) * (-1)).toNat]? = xs[xs.size - 1 - m]?
  congr 1
  omega
theorem places_rev (n : Nat) (h : 0 < n) : Builtin.Slice.slicePlaces ((n : Int) - 1) (-1) (-1) = n := by
  unfold Builtin.Slice.slicePlaces
  rw [if_neg (by decide), if_pos (by omega), show (- -1 : Int) = 1 by decide, Int.ediv_one]
  omega
section
variable {prog : Program} {w : World} {A : Around} {E : Value → Shared → Prop} {s : Shared}
/-- the three parts of [::-1] -/
theorem fields_rev {sl : Addr} {tk : Tok} {Q : Value × Value × Value → Shared → Prop} (hs : s.heap.IsSliceOf sl .none .none (.int (-1) tk)) (q : Q (.none, .none, .int (-1) tk) s) : wpAny (model prog w) A (Builtin.Slice.sliceFields (.ref sl)) Q E s := by
  obtain ⟨o, ho, _, hd⟩ := hs
  unfold Builtin.Slice.sliceFields
  refine wpAny_bind (wpAny_field (x := Value.none) ho hd rfl ?_)
  refine wpAny_bind (wpAny_field (x := Value.none) ho hd rfl ?_)
  refine wpAny_bind (wpAny_field (x := Value.int (-1) tk) ho hd rfl ?_)
  exact wpAny_pure q
/-- how [::-1] is applied to n items -/
theorem applied_rev {sl : Addr} {tk : Tok} {n : Nat} {Q : Int × Int × Nat → Shared → Prop} (hs : s.heap.IsSliceOf sl .none .none (.int (-1) tk)) (hn : 0 < n) (q : Q ((n : Int) - 1, -1, n) s) :
    wpAny (model prog w) A (Builtin.Slice.sliceApplied (.ref sl) (pure (n : Int))) Q E s := by
  have fin : wpAny (model prog w) A (pure ((n : Int) - 1, (-1 : Int), Builtin.Slice.slicePlaces ((n : Int) - 1) (-1) (-1))) Q E s := by
    rw [places_rev n hn]
    exact wpAny_pure q
  unfold Builtin.Slice.sliceApplied
  refine wpAny_bind (fields_rev hs ?_)
  refine wpAny_bind (HT.slicePart_ (.int (-1) tk) ?_)
  show wpAny _ _ (if ((-1 : Int) == 0) = true then _ else _) _ _ s
  rw [if_neg (by decide)]
  exact wpAny_bind (HT.slicePart_ .none (wpAny_bind (HT.slicePart_ .none (wpAny_bind (wpAny_pure fin)))))
end
/-- t[::-1], what the built-in does -/
theorem meets_rev {t sl : Addr} {its : Array Value} {tk : Tok} : Meets (Builtin.«tuple.__getitem__» ⟨[.ref t, .ref sl], []⟩) fun _ R s =>
    IsTup s.heap t its ∧ s.heap.IsSliceOf sl .none .none (.int (-1) tk) ∧ 0 < its.size ∧ its.size ≤ sizeLine ∧ R (.ok (.ret (.ref s.heap.objs.size))) { s with heap := s.heap.push { cls := .type "tuple", data := .seq its.toList.reverse.toArray } } := by
  intro prog w A R s ⟨ht, hs, h0, h1, q⟩
  have fits : sizeOk (.seq its.toList.reverse.toArray) := by
    show its.toList.reverse.toArray.size ≤ sizeLine
    simpa using h1
  have kind : s.TypeIs (.ref sl) "slice" := hs.elim fun o h => ⟨o, h.1, h.2.1⟩
  have other : ¬ ((((its.size : Int) - 1) == 0 && (-1 : Int) == 1 && its.size == its.size) = true) := fun e => by simp at e
  have last : wpAny (model prog w) A.in1 (Builtin.Tuple.tupleExact its.toList.reverse.toArray >>= fun x => ret x)
      (fun fin s' => match fin with | .done f => R (.ok f) s' | .again c' => c'.quiet = true ∧ codeAny (model prog w) A c' R s') (fun e s' => R (.error e) s') s :=
    wpAny_bind (wpAny_newObj_type (wpAny_pure q) fits)
  have cut : wpAny (model prog w) A.in1 (Builtin.Slice.sliceApplied (.ref sl) (pure ((its.size : Nat) : Int))) (fun r s' => r = ((its.size : Int) - 1, -1, its.size) ∧ s' = s) (fun e s' => R (.error e) s') s := applied_rev hs h0 ⟨rfl, rfl⟩
  show wpAny _ _ (Builtin.Tuple.tupleItemsOf (.ref t) >>= fun xs => _) _ _ s
  refine wpAny_bind (tupleItemsOf_ ht (wpAny_bind (wpAny_typeOf kind ?_)))
  rw [if_pos (beq_self_eq_true _)]
  refine wpAny_bind (wpAny_mono cut ?_ fun _ _ e => e)
  rintro r s' ⟨rfl, rfl⟩
  show wpAny _ _ (if (((its.size : Int) - 1) == 0 && (-1 : Int) == 1 && its.size == its.size) = true then _ else _) _ _ _
  rw [if_neg other, pick_rev]
  exact last
/-- t[sl] -/
theorem item_rev {prog : Program} {w : World} {A : Around} {E : Value → Shared → Prop} {s : Shared} {t sl : Addr} {its : Array Value} {tk : Tok} {Q : Value → Shared → Prop} (ht : IsTup s.heap t its) (hs : s.heap.IsSliceOf sl .none .none (.int (-1) tk)) (h0 : 0 < its.size) (h1 : its.size ≤ sizeLine)
    (q : Q (.ref s.heap.objs.size) { s with heap := s.heap.push { cls := .type "tuple", data := .seq its.toList.reverse.toArray } }) : wpAny (model prog w) A (getItem (.ref t) (.ref sl)) Q E s :=
  getItem_meets ht.typeIs (by decide) PySem.F.slot_tuple_getitem PySem.F.entry_tuple_getitem (PySem.F.args_tuple_getitem_2 _ _) meets_rev ⟨ht, hs, h0, h1, q⟩
/-- x[::-1] of a tuple that is not empty -/
def tRevT (K : PySem.W.Frag) (te : TE) : TE := fun σ H Q => te σ H fun x H1 => ∃ a xs, x = .ref a ∧ SqT K H1 a xs ∧ xs ≠ [] ∧ ∀ p, H1 p = none → Q (.ref p) (upd H1 p (.tup xs.reverse))
/-- the slice [::-1] is laid -/
theorem laid_rev {X : Cx} {pins : List (Addr × Obj)} {σ : L2.St} {H : Hp} {s : Shared} {k : Nat} {p1 p2 p3 : Pos} {R : Value → Shared → Prop} (I : Inv X pins σ H s)
    (h : ∀ (tk : Tok) (s' : Shared), Inv X pins σ H { s' with heap := s'.heap.push { cls := .type "slice", data := .fields #[.none, .none, .int (-1) tk] } } → R (.ref s'.heap.objs.size) { s' with heap := s'.heap.push { cls := .type "slice", data := .fields #[.none, .none, .int (-1) tk] } }) :
    wpAny (model X.prog X.w) X.A (eval (.Slice none none (some (.UnaryOp .USub (.Constant (.int 1) k p1) p2)) p3) X.env) R X.xe s := by
  have none_ : ∀ {s : Shared} {R : Value → Shared → Prop}, Inv X pins σ H s → (∀ s', Inv X pins σ H s' → R .none s') → wpAny (model X.prog X.w) X.A (evalPart none X.env) R X.xe s := fun {s R} J r =>
    wpAny_mono ((po_none (X := X)).run pins s σ H (fun o H2 => o = none ∧ H2 = H) J ⟨rfl, rfl⟩) (fun u s' ⟨o, H2, J2, pt, e1, e2⟩ => by
      subst e1 e2
      cases pt
      exact r s' J2) fun _ _ e => e
  refine wpAny_Slice (none_ I fun s1 I1 => none_ I1 fun s2 I2 => ?_)
  have neg : PO X (some (.UnaryOp .USub (.Constant (.int 1) k p1) p2)) _ := po_some (pe_un un_neg pe_int)
  refine wpAny_mono (neg.run pins s2 σ H (fun o H2 => o = some (-1) ∧ H2 = H) I2 ⟨1, rfl, -1, rfl, rfl, rfl⟩) (fun u s3 z => ?_) fun _ _ e => e
  obtain ⟨o, H3, I3, pt, e1, e2⟩ := z
  subst e1 e2
  cases pt
  exact h _ s3 (I3.kept (t' := s3.toks) fun _ _ q => Heap.get?_push_of_some _ q)
theorem pe_revT {X : Cx} {e : Expr} {te : TE} {k : Nat} {p1 p2 p3 pos : Pos} (he : PE X e te) : PE X (.Subscript e (.Slice none none (some (.UnaryOp .USub (.Constant (.int 1) k p1) p2)) p3) pos) (tRevT X.K te) := by
  constructor
  intro pins s σ H Q I h
  refine Subscript_ (wpAny_mono (he.run pins s σ H _ I h) ?_ fun _ _ e => e)
  rintro v s1 ⟨x, H1, I1, r1, a, xs, rfl, hx, hne, q⟩
  cases r1
  refine laid_rev I1 fun tk s2 I2 => ?_
  obtain ⟨its, rv, ht, hz⟩ := I2.tuple hx
  have size : its.toArray.size = xs.length := List.size_toArray.trans rv.length.symm
  have pos_ : 0 < xs.length := List.length_pos_iff.mpr hne
  refine tail_any (ops := [.ref a, .ref s2.heap.objs.size]) ht.typeIs PyProof.Rows.slot_tuple_getitem.lookup (item_rev ht (Heap.IsSliceOf.new _ _ _ _) (by omega) (by omega) ?_) (by with_unfolding_all rfl)
  refine ⟨.ref _, upd H1 _ (.tup xs.reverse), I2.laid (t' := s2.toks) (fun _ _ z => Heap.get?_push_of_some _ z) (Nat.le_refl _) ⟨by rw [List.length_reverse]; omega, _, rv.reverse, IsTup.new _ _⟩, rfl, q _ (I2.hok.fresh (Nat.le_refl _))⟩
end Ru

set_option Elab.async false
set_option linter.all false
set_option maxRecDepth 100000
set_option maxHeartbeats 2000000
namespace Ru
open PySem PySem.Spec PyProof.Rows L2
/-! ### a caught exception as a value -/
/-- at e a caught exception of the class at C, with these fields of its own -/
def CxAt (H : Hp) (e C : Addr) (fs : List (Str × V)) : Prop := (fs = [] ∧ H e = some (ExC2 e (.ref C) none)) ∨ ∃ d, H e = some (ExC2 e (.ref C) (some d)) ∧ H d = some (.xd fs)
theorem CxAt.same {H H' : Hp} {e C : Addr} {fs : List (Str × V)} (s : Same H H') (h : CxAt H e C fs) : CxAt H' e C fs := by
  rcases h with ⟨h1, h2⟩ | ⟨d, h1, h2⟩
  · exact .inl ⟨h1, s _ _ h2⟩
  · exact .inr ⟨d, s _ _ h1, s _ _ h2⟩
theorem CxAt.inst {X : Cx} {pins : List (Addr × Obj)} {σ : L2.St} {H : Hp} {s : Shared} (I : Inv X pins σ H s) {e C : Addr} {fs : List (Str × V)} (h : CxAt H e C fs) :
    ∃ (ox : Obj) (od : Option Obj), PySem.W.InstAt s.heap e ox C od ∧ ∀ f v, fs.lookup f = some v → ∃ o u, od = some o ∧ PySem.W.lookIn f o = some (some u) ∧ RelV v u := by
  rcases h with ⟨h1, h2⟩ | ⟨d, h1, h2⟩
  · subst h1
    obtain ⟨⟨oe, vs, ho, hz, hd⟩, _, _⟩ := I.hok e _ h2
    obtain ⟨oc, odi, oda, osl⟩ := oe
    obtain ⟨z1, z2⟩ := hz
    dsimp only at z1 z2 hd
    subst z1 z2 hd
    exact ⟨_, none, ⟨ho, rfl, rfl, trivial⟩, fun f v q => nomatch q⟩
  · obtain ⟨⟨oe, vs, ho, hz, hd⟩, _, _⟩ := I.hok e _ h1
    obtain ⟨oc, odi, oda, osl⟩ := oe
    obtain ⟨z1, z2⟩ := hz
    dsimp only at z1 z2 hd
    subst z1 z2 hd
    have hx : ObjOk X.prog X.w H s.heap d (.xd fs) := I.hok d _ h2
    obtain ⟨mA, hns, hr⟩ := hx
    obtain ⟨od, hod, hl⟩ := lookIn_ns hns
    refine ⟨_, some od, ⟨ho, rfl, rfl, hod⟩, fun f v q => ?_⟩
    obtain ⟨u, hu, ru⟩ := RelO.some_of (v := v) (o := mA f) (by rw [← q]; exact hr f)
    exact ⟨od, u, rfl, by rw [hl, hu], ru⟩
/-- isinstance(e, c) -/
def rIsC (K : PySem.W.Frag) : List V → Hp → VK → Prop := fun xs H Q =>
  ∃ (e D : Addr) (fs : List (Str × V)) (c : V) (cv : Value) (b : Bool), xs = [.ref e, c] ∧ CxAt H e D fs ∧ ExK K D ∧ ClsV c cv ∧ PySem.W.kitOne K (.ref D) cv = some b ∧ Q (.bl b) H
theorem call_isCx {X : Cx} : CallR X (.builtin "isinstance") (rIsC X.K) := by
  intro pins s σ H xs us Q I r h
  obtain ⟨e, D, fs, c, cv, b, rfl, he, C, hcv, ek, q⟩ := h
  cases r with
  | cons rx rr =>
    cases rr with
    | cons rt rr =>
      cases rr
      cases rx
      have ec := hcv.eq rt
      subst ec
      obtain ⟨ox, od, J, _⟩ := he.inst I
      exact PySem.W.kia_one (PySem.W.kitx_exc C.hcl C.hga C.hgt C.hsub C.ha C.hn C.htk C.hm) I.kIn J ek (fun z => nomatch z) fun tk => ⟨.bl b, H, I.kept (t' := tk) fun _ _ z => z, rfl, q⟩
/-- isinstance(e, (c1, c2, ..)) -/
def rIsCT (K : PySem.W.Frag) : List V → Hp → VK → Prop := fun xs H Q =>
  ∃ (e D : Addr) (fs : List (Str × V)) (tp : Addr) (cs : List V) (us : List Value) (b : Bool), xs = [.ref e, .ref tp] ∧ CxAt H e D fs ∧ ExK K D ∧ H tp = some (.tup cs) ∧ Paired ClsV cs us ∧ PySem.W.kitAny K (.ref D) us = some b ∧ Q (.bl b) H
theorem call_isCxT {X : Cx} : CallR X (.builtin "isinstance") (rIsCT X.K) := by
  intro pins s σ H xs us Q I r h
  obtain ⟨e, D, fs, tp, cs, ws, b, rfl, he, C, hT, k, ek, q⟩ := h
  obtain ⟨u1, u2, rfl, r1, r2⟩ := vals2 r
  cases r1
  cases (show u2 = Value.ref tp from r2)
  obtain ⟨ox, od, J, _⟩ := he.inst I
  obtain ⟨_, its, rv, o, h1, h2, n, h3⟩ := (show ObjOk X.prog X.w H s.heap tp (.tup cs) from I.hok tp _ hT)
  have e3 := ClsV.all k rv
  subst e3
  obtain ⟨oc, od2, dt, sl⟩ := o
  simp only at h2 h3
  subst h2 h3
  exact PySem.W.kia_tup (PySem.W.kitx_exc C.hcl C.hga C.hgt C.hsub C.ha C.hn C.htk C.hm) I.kIn J h1 ek (fun z => nomatch z) fun tk => ⟨.bl b, H, I.tok tk, rfl, q⟩
/-- e.f -/
def tCxF (K : PySem.W.Frag) (f : Str) (te : TE) : TE := fun σ H Q => te σ H fun x H1 =>
  ∃ (e D : Addr) (fs : List (Str × V)) (v : V), x = .ref e ∧ CxAt H1 e D fs ∧ ExK K D ∧ PySem.W.findIn K (.ref D) f = some none ∧ fs.lookup f = some v ∧ Q v H1
theorem pe_cxf {X : Cx} {e : Expr} {te : TE} {pos : Pos} {n : Str} (he : PE X e te) (hb : attributeBase e n X.env (eval e X.env) = eval e X.env := by rfl) : PE X (.Attribute e n pos) (tCxF X.K n te) := by
  refine ⟨fun pins s σ H Q I h => ?_⟩
  refine attr_of hb (thn (he.run pins s σ H _ I h) fun u s1 hh => ?_)
  obtain ⟨x, H1, I1, rx, a, D, fs, v, ex, hx, T, hno, hl, q⟩ := hh
  subst ex
  obtain rfl : u = Value.ref a := rx
  obtain ⟨ox, od, J, hf⟩ := hx.inst I1
  obtain ⟨o, u, rfl, hlk, ru⟩ := hf n v hl
  exact HandSPX.exc_get I1.kIn J T.hga T.hgt T.hsub (PySem.W.findObj_own T.hdc hno rfl hlk) (handed_of ru) ⟨v, H1, I1.tok _, ru, q⟩
end Ru

set_option Elab.async false
set_option linter.all false
set_option maxRecDepth 100000
set_option maxHeartbeats 2000000
namespace Ru
open PySem PySem.Spec PyProof.Rows L2
/-! ### a caught exception inside its suite -/
/-- its own fields -/
def XdAt (H : Hp) (d : Option Addr) (fs : List (Str × V)) : Prop := (d = none ∧ fs = []) ∨ ∃ dd, d = some dd ∧ H dd = some (.xd fs)
section
variable {X : Cx} {pins : List (Addr × Obj)} {σ : L2.St} {H : Hp} {s : Shared} {a C : Addr} {cls : Value} {d : Option Addr} {oe : Obj} {pn : List (Addr × Obj)} {fs : List (Str × V)}
theorem pin_inst (I : Inv (X.suite a ((a, oe) :: pn)) pins σ H s) (hz : Zc (.ref C) d oe) (hf : ∃ vs, oe.data = .fields vs) (h : XdAt H d fs) :
    ∃ (ox : Obj) (od : Option Obj), PySem.W.InstAt s.heap a ox C od ∧ ∀ f v, fs.lookup f = some v → ∃ o u, od = some o ∧ PySem.W.lookIn f o = some (some u) ∧ RelV v u := by
  obtain ⟨vs, hd⟩ := hf
  have ho : s.heap.get? a = some oe := (I.pin (a, oe) (List.mem_append_left _ List.mem_cons_self)).1
  rcases h with ⟨h1, h2⟩ | ⟨dd, h1, h2⟩
  · subst h1 h2
    obtain ⟨oc, odi, oda, osl⟩ := oe
    obtain ⟨z1, z2⟩ := hz
    dsimp only at z1 z2 hd
    subst z1 z2 hd
    exact ⟨_, none, ⟨ho, rfl, rfl, trivial⟩, fun f v q => nomatch q⟩
  · subst h1
    obtain ⟨oc, odi, oda, osl⟩ := oe
    obtain ⟨z1, z2⟩ := hz
    dsimp only at z1 z2 hd
    subst z1 z2 hd
    have hx : ObjOk X.prog X.w H s.heap dd (.xd fs) := I.hok dd _ h2
    obtain ⟨mA, hns, hr⟩ := hx
    obtain ⟨od, hod, hl⟩ := lookIn_ns hns
    refine ⟨_, some od, ⟨ho, rfl, rfl, hod⟩, fun f v q => ?_⟩
    obtain ⟨u, hu, ru⟩ := RelO.some_of (v := v) (o := mA f) (by rw [← q]; exact hr f)
    exact ⟨od, u, rfl, by rw [hl, hu], ru⟩
end
def rIsP (K : PySem.W.Frag) (cls : Value) (d : Option Addr) (a : Addr) : List V → Hp → VK → Prop := fun xs H Q =>
  ∃ (D : Addr) (fs : List (Str × V)) (c : V) (cv : Value) (b : Bool), xs = [.ref a, c] ∧ cls = .ref D ∧ XdAt H d fs ∧ ExK K D ∧ ClsV c cv ∧ PySem.W.kitOne K (.ref D) cv = some b ∧ Q (.bl b) H
theorem call_isP {X : Cx} {a : Addr} {cls : Value} {d : Option Addr} {oe : Obj} {pn : List (Addr × Obj)} (hz : Zc cls d oe) (hf : ∃ vs, oe.data = .fields vs) : CallR (X.suite a ((a, oe) :: pn)) (.builtin "isinstance") (rIsP X.K cls d a) := by
  intro pins s σ H xs us Q I r h
  obtain ⟨D, fs, c, cv, b, rfl, rfl, he, C, hcv, ek, q⟩ := h
  cases r with
  | cons rx rr =>
    cases rr with
    | cons rt rr =>
      cases rr
      cases rx
      have ec := hcv.eq rt
      subst ec
      obtain ⟨ox, od, J, _⟩ := pin_inst I hz hf he
      exact PySem.W.kia_one (PySem.W.kitx_exc C.hcl C.hga C.hgt C.hsub C.ha C.hn C.htk C.hm) I.kIn J ek (fun z => nomatch z) fun tk => ⟨.bl b, H, I.kept (t' := tk) fun _ _ z => z, rfl, q⟩
def rIsPT (K : PySem.W.Frag) (cls : Value) (d : Option Addr) (a : Addr) : List V → Hp → VK → Prop := fun xs H Q =>
  ∃ (D : Addr) (fs : List (Str × V)) (tp : Addr) (cs : List V) (us : List Value) (b : Bool), xs = [.ref a, .ref tp] ∧ cls = .ref D ∧ XdAt H d fs ∧ ExK K D ∧ H tp = some (.tup cs) ∧ Paired ClsV cs us ∧ PySem.W.kitAny K (.ref D) us = some b ∧ Q (.bl b) H
theorem call_isPT {X : Cx} {a : Addr} {cls : Value} {d : Option Addr} {oe : Obj} {pn : List (Addr × Obj)} (hz : Zc cls d oe) (hf : ∃ vs, oe.data = .fields vs) : CallR (X.suite a ((a, oe) :: pn)) (.builtin "isinstance") (rIsPT X.K cls d a) := by
  intro pins s σ H xs us Q I r h
  obtain ⟨D, fs, tp, cs, ws, b, rfl, rfl, he, C, hT, k, ek, q⟩ := h
  obtain ⟨u1, u2, rfl, r1, r2⟩ := vals2 r
  cases r1
  cases (show u2 = Value.ref tp from r2)
  obtain ⟨ox, od, J, _⟩ := pin_inst I hz hf he
  obtain ⟨_, its, rv, o, h1, h2, n, h3⟩ := (show ObjOk X.prog X.w H s.heap tp (.tup cs) from I.hok tp _ hT)
  have e3 := ClsV.all k rv
  subst e3
  obtain ⟨oc, od2, dt, sl⟩ := o
  simp only at h2 h3
  subst h2 h3
  exact PySem.W.kia_tup (PySem.W.kitx_exc C.hcl C.hga C.hgt C.hsub C.ha C.hn C.htk C.hm) I.kIn J h1 ek (fun z => nomatch z) fun tk => ⟨.bl b, H, I.tok tk, rfl, q⟩
/-- e.f -/
def tPxF (K : PySem.W.Frag) (cls : Value) (d : Option Addr) (a : Addr) (f : Str) (te : TE) : TE := fun σ H Q => te σ H fun x H1 =>
  ∃ (D : Addr) (fs : List (Str × V)) (v : V), x = .ref a ∧ cls = .ref D ∧ XdAt H1 d fs ∧ ExK K D ∧ PySem.W.findIn K (.ref D) f = some none ∧ fs.lookup f = some v ∧ Q v H1
theorem pe_pxf {X : Cx} {a : Addr} {cls : Value} {d : Option Addr} {oe : Obj} {pn : List (Addr × Obj)} {e : Expr} {te : TE} {pos : Pos} {n : Str} (hz : Zc cls d oe) (hf : ∃ vs, oe.data = .fields vs) (he : PE (X.suite a ((a, oe) :: pn)) e te)
    (hb : attributeBase e n X.env (eval e X.env) = eval e X.env := by rfl) : PE (X.suite a ((a, oe) :: pn)) (.Attribute e n pos) (tPxF X.K cls d a n te) := by
  refine ⟨fun pins s σ H Q I h => ?_⟩
  refine attr_of hb (thn (he.run pins s σ H _ I h) fun u s1 hh => ?_)
  obtain ⟨x, H1, I1, rx, D, fs, v, ex, ec, hx, T, hno, hl, q⟩ := hh
  subst ex ec
  obtain rfl : u = Value.ref a := rx
  obtain ⟨ox, od, J, hfl⟩ := pin_inst I1 hz hf hx
  obtain ⟨o, u, rfl, hlk, ru⟩ := hfl n v hl
  exact HandSPX.exc_get I1.kIn J T.hga T.hgt T.hsub (PySem.W.findObj_own T.hdc hno rfl hlk) (handed_of ru) ⟨v, H1, I1.tok _, ru, q⟩
/-- a new tuple: it doesn't lie where the exception lies -/
def tTupP (a : Addr) (t : TA) : TE := fun σ H Q => tTup t σ H fun v H' => ∃ p o, v = .ref p ∧ H' p = some o ∧ (p ≠ a → Q v H')
theorem pe_tupP {X : Cx} {a : Addr} {oe : Obj} {pn : List (Addr × Obj)} {es : List Expr} {t : TA} {x1 : _} {pos : Pos} (h : PA (X.suite a ((a, oe) :: pn)) es t) : PE (X.suite a ((a, oe) :: pn)) (.Tuple es x1 pos) (tTupP a t) := by
  refine ⟨fun pins s σ H Q I hq => thn ((pe_tup h).run pins s σ H _ I hq) fun u s1 hh => ?_⟩
  obtain ⟨v, H', I1, r, p, o, ev, eo, q⟩ := hh
  refine ⟨v, H', I1, r, q fun e => ?_⟩
  subst e
  have z := (I1.pin (p, oe) (List.mem_append_left _ List.mem_cons_self)).2.1
  have z : H' p = none := z
  rw [eo] at z
  cases z
end Ru

set_option Elab.async false
set_option linter.all false
set_option maxRecDepth 100000
set_option maxHeartbeats 2000000
namespace Ru
open PySem PySem.Spec PyProof.Rows L2
/-! ### what the first looks at a value say of a datum -/
def tyD : PyData → String
  | .none => "NoneType"
  | .bool _ => "bool"
  | .int _ => "int"
  | .str _ => "str"
  | .list _ => "list"
  | .tuple _ => "tuple"
  | .dict _ => "dict"
theorem tyX_lst {K : PySem.W.Frag} {H : Hp} {a : Addr} {xs : List V} (h : SqL K H a xs) : TyX K H (.ref a) (.type "list") := by
  rcases h with (h | ⟨o, h⟩) | ⟨o, its, n, h, c, _⟩
  · exact .base (.lst h)
  · exact .base (.frz h)
  · exact .kList h c
theorem tyX_tup {K : PySem.W.Frag} {H : Hp} {a : Addr} {xs : List V} (h : SqT K H a xs) : TyX K H (.ref a) (.type "tuple") := by
  rcases h with (h | ⟨o, h⟩) | ⟨o, its, n, h, c, _⟩
  · exact .base (.tup h)
  · exact .fTuple h
  · exact .kTuple h c
theorem Dq.ty {K : PySem.W.Frag} {d : Addr} {H : Hp} {v : V} {x : PyData} (h : Dq K d H v x) : TyX K H v (.type (tyD x)) := by
  cases h with
  | non => exact .base .non
  | bl b => exact .base (.bl b)
  | int i => exact .base (.int i)
  | str x => exact .base (.str x)
  | lst h _ _ => exact tyX_lst h
  | tup h _ _ => exact tyX_tup (K := K) (.inl h)
  | d0 h _ => exact .base (.dK h)
  | d1 h _ => exact .base (.dK h)
def wholeD : PyData → Bool
  | .int _ => true
  | _ => false
def seqD : PyData → Bool
  | .list _ => true
  | .tuple _ => true
  | _ => false
def baseD : PyData → Bool
  | .int i => decide (2 ≤ i) && decide (i ≤ 100)
  | _ => false
def basesD : PyData → Bool
  | .list ds => decide (1 ≤ ds.length) && decide (ds.length ≤ 4) && ds.all baseD
  | .tuple ds => decide (1 ≤ ds.length) && decide (ds.length ≤ 4) && ds.all baseD
  | _ => false
theorem kit_int : ∀ x : PyData, kitB (tyD x) "int" = some (wholeD x || decide (tyD x = "bool"))
  | .none => by decide +kernel
  | .bool _ => by show kitB "bool" "int" = some true; decide +kernel
  | .int _ => by show kitB "int" "int" = some true; decide +kernel
  | .str _ => by show kitB "str" "int" = some false; decide +kernel
  | .list _ => by show kitB "list" "int" = some false; decide +kernel
  | .tuple _ => by show kitB "tuple" "int" = some false; decide +kernel
  | .dict _ => by show kitB "dict" "int" = some false; decide +kernel
theorem kit_bool : ∀ x : PyData, kitB (tyD x) "bool" = some (decide (tyD x = "bool"))
  | .none => by decide +kernel
  | .bool _ => by show kitB "bool" "bool" = some true; decide +kernel
  | .int _ => by show kitB "int" "bool" = some false; decide +kernel
  | .str _ => by show kitB "str" "bool" = some false; decide +kernel
  | .list _ => by show kitB "list" "bool" = some false; decide +kernel
  | .tuple _ => by show kitB "tuple" "bool" = some false; decide +kernel
  | .dict _ => by show kitB "dict" "bool" = some false; decide +kernel
theorem kit_seq {K : PySem.W.Frag} : ∀ x : PyData, PySem.W.kitAny K (.type (tyD x)) [.type "tuple", .type "list"] = some (seqD x)
  | .none => kitAny_cons (kit_ty (show kitB "NoneType" "tuple" = some false by decide +kernel)) (fun _ => kitAny_cons (kit_ty (show kitB "NoneType" "list" = some false by decide +kernel)) (fun _ => kitAny_nil) nofun) nofun
  | .bool _ => kitAny_cons (kit_ty (show kitB "bool" "tuple" = some false by decide +kernel)) (fun _ => kitAny_cons (kit_ty (show kitB "bool" "list" = some false by decide +kernel)) (fun _ => kitAny_nil) nofun) nofun
  | .int _ => kitAny_cons (kit_ty (show kitB "int" "tuple" = some false by decide +kernel)) (fun _ => kitAny_cons (kit_ty (show kitB "int" "list" = some false by decide +kernel)) (fun _ => kitAny_nil) nofun) nofun
  | .str _ => kitAny_cons (kit_ty (show kitB "str" "tuple" = some false by decide +kernel)) (fun _ => kitAny_cons (kit_ty (show kitB "str" "list" = some false by decide +kernel)) (fun _ => kitAny_nil) nofun) nofun
  | .dict _ => kitAny_cons (kit_ty (show kitB "dict" "tuple" = some false by decide +kernel)) (fun _ => kitAny_cons (kit_ty (show kitB "dict" "list" = some false by decide +kernel)) (fun _ => kitAny_nil) nofun) nofun
  | .tuple _ => kitAny_cons (b := true) (kit_ty (show kitB "tuple" "tuple" = some true by decide +kernel)) nofun (fun _ => rfl)
  | .list _ => kitAny_cons (b := false) (kit_ty (show kitB "list" "tuple" = some false by decide +kernel)) (fun _ => kitAny_cons (b := true) (kit_ty (show kitB "list" "list" = some true by decide +kernel)) nofun (fun _ => rfl)) nofun
/-- is it a whole number -/
def spWhole (K : PySem.W.Frag) : Sp := fun vs H Q _ => ∃ (v : V) (d : Addr) (x : PyData), vs = [v] ∧ Dq K d H v x ∧ Q (.bl (wholeD x)) H
/-- is it a tuple or a list -/
def spSeq (K : PySem.W.Frag) : Sp := fun vs H Q _ => ∃ (v : V) (d : Addr) (x : PyData), vs = [v] ∧ Dq K d H v x ∧ ∀ H', Same H H' → Q (.bl (seqD x)) H'
/-- is it bases -/
def spIsB (K : PySem.W.Frag) : Sp := fun vs H Q _ => ∃ (v : V) (d : Addr) (x : PyData), vs = [v] ∧ Dq K d H v x ∧ ∀ H', Same H H' → Q (.bl (basesD x)) H'
theorem DqA.length {K : PySem.W.Frag} {d : Addr} {H : Hp} : ∀ {vs : List V} {ds : List PyData}, DqA K d H vs ds → vs.length = ds.length
  | _, _, .nil => rfl
  | _, _, .cons _ r => congrArg (· + 1) r.length
theorem DqA.get {K : PySem.W.Frag} {d : Addr} {H : Hp} : ∀ {vs : List V} {ds : List PyData} {i : Nat} {v : V}, DqA K d H vs ds → vs[i]? = some v → ∃ x, ds[i]? = some x ∧ Dq K d H v x
  | _, _, _, _, .nil, e => by cases e
  | _, _, 0, _, .cons a _, e => by
    cases e
    exact ⟨_, rfl, a⟩
  | _, _, i + 1, _, .cons _ r, e => by
    obtain ⟨x, h1, h2⟩ := r.get (i := i) e
    exact ⟨x, h1, h2⟩
/-! ### a def that can be called by its name -/
structure Cd (P : Program) (w : World) (K : PySem.W.Frag) (mg : Str → Option Value) (base : Heap) (CX : CXT) (k : Nat) (x : Str) (ps : List Str) (sp : Sp) : Prop where
  ex : ∃ (f : Addr) (fd : FuncData), FnOk P w K mg base CX k f fd ps sp ∧ mg x = some (.ref f) ∧ PySem.W.keepIn K (.ref f) = true ∧ Binds K fd ps []
structure CdG (P : Program) (w : World) (K : PySem.W.Frag) (mg : Str → Option Value) (base : Heap) (CX : CXT) (k : Nat) (x : Str) (ps : List Str) (sp : Sp) : Prop where
  ex : ∃ (f : Addr) (fd : FuncData), FnG P w K mg base CX k f fd ps sp ∧ mg x = some (.ref f) ∧ PySem.W.keepIn K (.ref f) = true ∧ Binds K fd ps []
section
variable {X : Cx} {CX : CXT} {k : Nat} {ps : List Str} {sp : Sp} {E : XK} {x : Str} {p pos : Pos} {e : Expr} {es : List Expr} {t : TA}
theorem pe_cd (C : Cd X.prog X.w X.K X.mg X.base CX k x ps sp) (hr : Room k X.A) (hg : Gl X x) (hx : Passes CX X E) (ha : PA X (e :: es) t) (hdb : (x == ("__debug__" : Str)) = false := by decide)
    (he : starEach (e :: es) X.env = (false, eval e X.env) :: starEach es X.env := by rfl) (hpl : (backTo pos (starEach es X.env)).any (·.1) = false := by rfl) : PE X (.Call (.Name x p) (e :: es) [] pos) (tCall sp [] E t) := by
  obtain ⟨f, fd, G, m, kp, b⟩ := C.ex
  exact pe_call G hr hg m kp b .nil hx ha hdb he hpl
theorem pe_cdG (hG : X.A.guards = some []) (C : CdG X.prog X.w X.K X.mg X.base CX k x ps sp) (hr : Room k X.A) (hg : Gl X x) (hx : Passes CX X E) (ha : PA X (e :: es) t) (hdb : (x == ("__debug__" : Str)) = false := by decide)
    (he : starEach (e :: es) X.env = (false, eval e X.env) :: starEach es X.env := by rfl) (hpl : (backTo pos (starEach es X.env)).any (·.1) = false := by rfl) : PE X (.Call (.Name x p) (e :: es) [] pos) (tCall sp [] E t) := by
  obtain ⟨f, fd, G, m, kp, b⟩ := C.ex
  exact pe_callG hG G hr hg m kp b .nil hx ha hdb he hpl
end
end Ru

set_option Elab.async false
set_option linter.all false
set_option maxRecDepth 100000
set_option maxHeartbeats 2000000
namespace Ru
open PySem PySem.Spec PyProof.Rows L2
/-! ### an own exception with one field, raised -/
def spIniF (K : PySem.W.Frag) (C : Addr) (g : Str) : Sp := fun vs H Q _ => ∃ (a : Addr) (u : V), vs = [.ref a, u] ∧ OexC K C ∧ PySem.W.findIn K (.ref C) g = some none ∧ H a = some (exo a C none) ∧
  ∀ dx, H dx = none → dx ≠ a → Q .non (upd (upd H dx (exd dx [(g, u)])) a (exo a C (some dx)))
theorem iniF {P : Program} {w : World} {K : PySem.W.Frag} {mg : Str → Option Value} {base : Heap} {f C : Addr} {fd : FuncData} {qual g : Str} {pa : Arguments} {sc : Scope} {q1 q2 q3 q4 : Pos}
    (F : FunD K "__init__" qual pa [.Assign [.Attribute (.Name "self" q1) g q2] (.Name g q3) q4] sc [] [] f fd) (S : FnScope ["self", g] ["self", g] sc) (v0 : Vis sc "self") (v1 : Vis sc g)
    (e1 : (g == ("__debug__" : Str)) = false := by decide) (e2 : (g == ("__classdict__" : Str)) = false := by decide) : FnOk P w K mg base CX0 1 f fd ["self", g] (spIniF K C g) := by
  refine F.ok S (fun vs H Q E h => ?_) (fun cdv A outer s H vs Q E hr h => ?_)
  · obtain ⟨a, u, rfl, _⟩ := h
    rfl
  · obtain ⟨a, u, rfl, T, hno, ha, k⟩ := h
    refine ⟨_, PSs.nox (pss_one (ps_ost (pe_var (i := 0) rfl v0) (pe_var (i := 1) rfl v1 e1 e2))), ?_⟩
    exact ⟨u, rfl, .ref a, rfl, a, C, rfl, T, hno, .inl ⟨ha, fun dx hn ne => k dx hn ne⟩⟩
/-- what raising such an own exception leans on -/
structure RsX (P : Program) (w : World) (K : PySem.W.Frag) (mg : Str → Option Value) (base : Heap) (n g : Str) : Prop where
  T : OexC K (He.ga K n)
  iC : PySem.W.findIn K (.ref (He.ga K n)) "__init__" = some (some (.ref (He.ma K (He.ga K n) "__init__")))
  tI : PySem.W.typeIn K (.ref (He.ma K (He.ga K n) "__init__")) = some (.type "function")
  hno : PySem.W.findIn K (.ref (He.ga K n)) g = some none
  gm : mg n = some (.ref (He.ga K n))
  fn : ∃ fd, FnOk P w K mg base CX0 1 (He.ma K (He.ga K n) "__init__") fd ["self", g] (spIniF K (He.ga K n) g) ∧ Binds K fd ["self", g] []
/-- n(e) is made to be raised: its one field is e's value -/
def tRs (C : Addr) (g : Str) (te : TE) : L2.St → Hp → XK → Prop := fun σ H Q => te σ H fun v H1 => ∀ dd H2, Same H1 H2 → H1 dd = none → H2 dd = some (.xd [(g, v)]) → Q (.ref C) (some dd) H2
theorem pmk_rs {X : Cx} {n g : Str} {e : Expr} {te : TE} {p pos : Pos} (R : RsX X.prog X.w X.K X.mg X.base n g) (hr : Room 2 X.A) (hg : Gl X n) (he : PE X e te) (hm : ∀ σ H (Q Q' : VK), (∀ v H', Q v H' → Q' v H') → te σ H Q → te σ H Q')
    (hdb : (n == ("__debug__" : Str)) = false := by decide) (hs : starEach [e] X.env = (false, eval e X.env) :: starEach [] X.env := by rfl) :
    PMk X (.Call (.Name n p) [e] [] pos) (tRs (He.ga X.K n) g te) := by
  obtain ⟨fd, G, b⟩ := R.fn
  intro pins s σ H Q I h
  refine pmk_oex R.T R.iC R.tI G hr b .nil pass0 hg R.gm (pa_cons he pa_nil hs) hdb hs (by rfl) pins s σ H Q I ?_
  refine hm σ H _ _ (fun v H1 q => ?_) h
  refine ⟨by show 1 ≤ 1000; decide, fun a ha => ⟨a, v, rfl, R.T, R.hno, upd_same, fun dx hn ne => ⟨rfl, dx, [(g, v)], upd_same, by rw [upd_ne ne, upd_same], ?_, ?_⟩⟩⟩
  · have z := hn
    rwa [upd_ne ne] at z
  · have hd1 : H1 dx = none := by
      have z := hn
      rwa [upd_ne ne] at z
    refine q dx _ (fun b o e => ?_) hd1 upd_same
    have n1 : b ≠ a := ne_of_none e ha
    have n2 : b ≠ dx := ne_of_none e hd1
    rw [upd_ne n2, del_ne n1, upd_ne n1, upd_ne n2, upd_ne n1]
    exact e
end Ru

set_option Elab.async false
set_option linter.all false
set_option maxRecDepth 100000
set_option maxHeartbeats 2000000
namespace Ru
open PySem PySem.Spec PyProof.Rows L2
/-! ### products of the lower ends of a row -/
def prodL : List Int → Int
  | [] => 1
  | z :: zs => prodL zs * z
theorem prodL_foldl : ∀ (zs : List Int) (c : Int), zs.foldl (· * ·) c = c * prodL zs
  | [], c => by
    show c = c * 1
    rw [Int.mul_one]
  | z :: zs, c => by
    show zs.foldl (· * ·) (c * z) = c * (prodL zs * z)
    rw [prodL_foldl zs (c * z), Int.mul_assoc, Int.mul_comm z]
/-- a row of bases -/
def Bss (zs : List Int) : Prop := 1 ≤ zs.length ∧ zs.length ≤ 4 ∧ ∀ z ∈ zs, 2 ≤ z ∧ z ≤ 100
theorem prodL_le : ∀ {zs : List Int} {n : Nat}, (∀ z ∈ zs, 2 ≤ z ∧ z ≤ 100) → zs.length ≤ n → 1 ≤ prodL zs ∧ prodL zs ≤ 100 ^ n
  | [], n, _, _ => by
    refine ⟨Int.le_refl _, ?_⟩
    show (1 : Int) ≤ 100 ^ n
    have h : (0 : Int) < 100 ^ n := Int.pow_pos (by decide)
    omega
  | z :: zs, 0, _, h => by cases h
  | z :: zs, n + 1, h, hl => by
    obtain ⟨h1, h2⟩ := prodL_le (zs := zs) (n := n) (fun y hy => h y (List.mem_cons_of_mem _ hy)) (Nat.le_of_succ_le_succ hl)
    obtain ⟨h3, h4⟩ := h z List.mem_cons_self
    show 1 ≤ prodL zs * z ∧ prodL zs * z ≤ 100 ^ n * 100
    refine ⟨?_, Int.mul_le_mul h2 h4 (by omega) (by omega)⟩
    have := Int.mul_le_mul h1 (show (1 : Int) ≤ z by omega) (by decide) (by omega)
    omega
/-- 1, the lowest base, the two lowest multiplied, .. -/
def prods (zs : List Int) (k : Nat) : List Int := (List.range k).map fun i => prodL (zs.drop (zs.length - i))
theorem prods_succ (zs : List Int) (k : Nat) : prods zs (k + 1) = prods zs k ++ [prodL (zs.drop (zs.length - k))] := by
  unfold prods
  rw [List.range_succ, List.map_append]
  rfl
theorem rev_at {zs : List Int} {i : Nat} {z : Int} (h : zs.reverse[i]? = some z) : prodL (zs.drop (zs.length - (i + 1))) = prodL (zs.drop (zs.length - i)) * z := by
  obtain ⟨hi, e⟩ := List.getElem?_eq_some_iff.mp h
  have hi' : i < zs.length := by rw [List.length_reverse] at hi; exact hi
  have hlt : zs.length - (i + 1) < zs.length := by omega
  rw [List.drop_eq_getElem_cons hlt, show zs.length - (i + 1) + 1 = zs.length - i by omega]
  rw [List.getElem_reverse] at e
  show prodL _ * zs[zs.length - (i + 1)] = _
  congr 1
  rw [← e]
  congr 1
  omega
theorem prods_len (zs : List Int) (k : Nat) : (prods zs k).length = k := by
  unfold prods
  rw [List.length_map, List.length_range]
/-- the weights: for each place the product of the lower bases -/
def wts (zs : List Int) : List Int := (List.range zs.length).map fun i => prodL (zs.drop (i + 1))
theorem wts_eq (zs : List Int) : (prods zs zs.length).reverse = wts zs := by
  apply List.ext_getElem
  · rw [List.length_reverse, prods_len]
    unfold wts
    rw [List.length_map, List.length_range]
  · intro i h1 h2
    rw [List.length_reverse, prods_len] at h1
    have e : zs.length - (zs.length - 1 - i) = i + 1 := by omega
    simp only [prods, wts, List.getElem_reverse, List.getElem_map, List.getElem_range, List.length_map, List.length_range, e]
/-- a datum that is bases -/
theorem basesD_ints : ∀ {x : PyData}, basesD x = true → ∃ zs, Bss zs ∧ (x = .list (intsD zs) ∨ x = .tuple (intsD zs)) := by
  have rowI : ∀ ds : List PyData, ds.all baseD = true → ∃ zs : List Int, ds = intsD zs ∧ ∀ z ∈ zs, 2 ≤ z ∧ z ≤ 100 := by
    intro ds
    induction ds with
    | nil => exact fun _ => ⟨[], rfl, fun z hz => (List.not_mem_nil hz).elim⟩
    | cons d ds ih =>
      intro h
      rw [List.all_cons, Bool.and_eq_true] at h
      obtain ⟨zs, e, hz⟩ := ih h.2
      match d, h.1 with
      | .int z, hb =>
        have hb' : (decide (2 ≤ z) && decide (z ≤ 100)) = true := hb
        rw [Bool.and_eq_true, decide_eq_true_eq, decide_eq_true_eq] at hb'
        refine ⟨z :: zs, by rw [e]; rfl, fun y hy => ?_⟩
        rcases List.mem_cons.mp hy with hy | hy
        · rw [hy]
          exact hb'
        · exact hz y hy
  have go : ∀ ds : List PyData, (decide (1 ≤ ds.length) && decide (ds.length ≤ 4) && ds.all baseD) = true → ∃ zs, Bss zs ∧ ds = intsD zs := by
    intro ds h
    rw [Bool.and_eq_true, Bool.and_eq_true, decide_eq_true_eq, decide_eq_true_eq] at h
    obtain ⟨zs, e, hz⟩ := rowI ds h.2
    have hl : ds.length = zs.length := by rw [e]; exact List.length_map _
    exact ⟨zs, ⟨by omega, by omega, hz⟩, e⟩
  intro x h
  match x, h with
  | .list ds, h =>
    obtain ⟨zs, b, e⟩ := go ds h
    exact ⟨zs, b, .inl (by rw [e])⟩
  | .tuple ds, h =>
    obtain ⟨zs, b, e⟩ := go ds h
    exact ⟨zs, b, .inr (by rw [e])⟩
theorem basesD_of {zs : List Int} (b : Bss zs) : basesD (.list (intsD zs)) = true ∧ basesD (.tuple (intsD zs)) = true := by
  have h1 : (intsD zs).length = zs.length := List.length_map _
  have h2 : (intsD zs).all baseD = true := by
    rw [List.all_eq_true]
    intro d hd
    obtain ⟨z, hz, e⟩ := List.mem_map.mp hd
    rw [← e]
    obtain ⟨h3, h4⟩ := b.2.2 z hz
    show (decide (2 ≤ z) && decide (z ≤ 100)) = true
    rw [decide_eq_true h3, decide_eq_true h4]
    rfl
  have h : (decide (1 ≤ (intsD zs).length) && decide ((intsD zs).length ≤ 4) && (intsD zs).all baseD) = true := by
    rw [h1, h2, decide_eq_true b.1, decide_eq_true b.2.1]
    rfl
  exact ⟨h, h⟩
theorem DqA.toInts {K : PySem.W.Frag} {d : Addr} {H : Hp} : ∀ {zs : List Int} {vs : List V}, DqA K d H vs (intsD zs) → vs = zs.map V.int
  | [], _, h => by cases h; rfl
  | z :: zs, _, h => by
    cases h with
    | cons a r =>
      cases a
      rw [DqA.toInts r]
      rfl
/-- the products, or what is raised of what is no bases -/
def spProds (K : PySem.W.Frag) (n : Str) : Sp := fun vs H Q E => ∃ (v : V) (d : Addr) (x : PyData), vs = [v] ∧ Dq K d H v x ∧
  (∀ zs, Bss zs → (x = .list (intsD zs) ∨ x = .tuple (intsD zs)) → ∀ p H', Same H H' → H p = none → H' p = some (.lst ((prods zs (zs.length + 1)).map V.int)) → Q (.ref p) H') ∧
  (basesD x = false → ∀ dd H', Same H H' → H dd = none → H' dd = some (.xd [("at", .non)]) → E (.ref (He.ga K n)) (some dd) H')
/-- the weights -/
def spWts (K : PySem.W.Frag) (n : Str) : Sp := fun vs H Q E => ∃ (v : V) (d : Addr) (x : PyData), vs = [v] ∧ Dq K d H v x ∧
  (∀ zs, Bss zs → (x = .list (intsD zs) ∨ x = .tuple (intsD zs)) → ∀ p H', Same H H' → H p = none → H' p = some (.tup ((wts zs).map V.int)) → Q (.ref p) H') ∧
  (basesD x = false → ∀ dd H', Same H H' → H dd = none → H' dd = some (.xd [("at", .non)]) → E (.ref (He.ga K n)) (some dd) H')
/-- how many there are -/
def spCnt (K : PySem.W.Frag) (n : Str) : Sp := fun vs H Q E => ∃ (v : V) (d : Addr) (x : PyData), vs = [v] ∧ Dq K d H v x ∧
  (∀ zs, Bss zs → (x = .list (intsD zs) ∨ x = .tuple (intsD zs)) → ∀ H', Same H H' → Q (.int (prodL zs)) H') ∧
  (basesD x = false → ∀ dd H', Same H H' → H dd = none → H' dd = some (.xd [("at", .non)]) → E (.ref (He.ga K n)) (some dd) H')
end Ru

set_option Elab.async false
set_option linter.all false
set_option maxRecDepth 100000
set_option maxHeartbeats 2000000
namespace Ru
open PySem PySem.Spec PyProof.Rows L2
/-! ### what a call with a table behind it keeps -/
/-- all but what stands at d and the tables of code objects stays -/
def Ki (d : Addr) (H H' : Hp) : Prop := ∀ b o, H b = some o → b ≠ d → (∀ ps, o ≠ .tbl ps) → H' b = some o
theorem Ki.of {d : Addr} {H H' : Hp} (s : Bt d H H') : Ki d H H' := fun b o e n _ => s b o e n
theorem Ki.same {d : Addr} {H H' : Hp} (s : Same H H') : Ki d H H' := fun b o e _ _ => s b o e
theorem Ki.ext {d : Addr} {H H' : Hp} (s : LamX.ExtN H H') : Ki d H H' := fun b o e _ t => s b o e t
theorem Ki.refl {d : Addr} {H : Hp} : Ki d H H := fun _ _ e _ _ => e
theorem Ki.trans {d : Addr} {H H1 H2 : Hp} (x : Ki d H H1) (y : Ki d H1 H2) : Ki d H H2 := fun b o e n t => y b o (x b o e n t) n t
theorem Ki.rd {d a : Addr} {H H' : Hp} {u : HO} (s : Ki d H H') (n : a ≠ d) (hu : ∀ ps, u ≠ .tbl ps) (h : Rd H a u) : Rd H' a u := by
  rcases h with h | ⟨o, h⟩
  · exact .inl (s _ _ h n hu)
  · exact .inr ⟨o, s _ _ h n fun _ z => by cases z⟩
theorem Ki.seq {d a : Addr} {K : PySem.W.Frag} {H H' : Hp} {xs : List V} (s : Ki d H H') (n : a ≠ d) (h : SqL K H a xs) : SqL K H' a xs := h.imp (s.rd n fun _ z => by cases z) id
mutual
theorem Dq.ki {K : PySem.W.Frag} {d : Addr} {H H' : Hp} (s : Ki d H H') : ∀ {v : V} {x : PyData}, Dq K d H v x → Dq K d H' v x
  | _, _, .non => .non
  | _, _, .bl b => .bl b
  | _, _, .int i => .int i
  | _, _, .str x => .str x
  | _, _, .lst h n a => .lst (s.seq n h) n (DqA.ki s a)
  | _, _, .tup h n a => .tup (s.rd n (fun _ z => by cases z) h) n (DqA.ki s a)
  | _, _, .d0 h n => .d0 (s _ _ h n fun _ z => by cases z) n
  | _, _, .d1 h n => .d1 (s _ _ h n fun _ z => by cases z) n
theorem DqA.ki {K : PySem.W.Frag} {d : Addr} {H H' : Hp} (s : Ki d H H') : ∀ {vs : List V} {ds : List PyData}, DqA K d H vs ds → DqA K d H' vs ds
  | _, _, .nil => .nil
  | _, _, .cons a b => .cons (Dq.ki s a) (DqA.ki s b)
end
/-- a datum is read whatever address is set apart, if it doesn't meet it: here, one that holds no datum -/
theorem takes_len {X : Cx} {W : WX} (t : Takes X W) : Takes X fun cls d σ H => σ.length = X.N.length → W cls d σ H := fun u s' ⟨a, B, sI, pins, σ, H, cls, d, e, I, nb, up, sky, na, os, ag, w⟩ =>
  t u s' ⟨a, B, sI, pins, σ, H, cls, d, e, I, nb, up, sky, na, os, ag, w I.len⟩
/-- the classes that a law of refusals looks at -/
structure RfK (K : PySem.W.Frag) (mg : Str → Option Value) : Prop where
  gR : mg "RisingError" = some (.ref (He.ga K "RisingError"))
  gN : mg "NoNumeral" = some (.ref (He.ga K "NoNumeral"))
  gO : mg "Overflow" = some (.ref (He.ga K "Overflow"))
  gU : mg "Unlike" = some (.ref (He.ga K "Unlike"))
  g_isi : mg "isinstance" = none
  g_VE : mg "ValueError" = none
  ex : PySem.W.exmOne K (.ref (He.ga K "NoNumeral")) (.ref (He.ga K "RisingError")) = some true
  xk : ExK K (He.ga K "NoNumeral")
  kN : PySem.W.kitOne K (.ref (He.ga K "NoNumeral")) (.ref (He.ga K "NoNumeral")) = some true
  kO : PySem.W.kitOne K (.ref (He.ga K "NoNumeral")) (.ref (He.ga K "Overflow")) = some false
  kU : PySem.W.kitOne K (.ref (He.ga K "NoNumeral")) (.ref (He.ga K "Unlike")) = some false
  kV : PySem.W.kitOne K (.ref (He.ga K "NoNumeral")) (.type "ValueError") = some true
  no : PySem.W.findIn K (.ref (He.ga K "NoNumeral")) "at" = some none
/-- asked: it raises NoNumeral(None) -/
def TTref (K : PySem.W.Frag) : (XK → Hp → VK → Prop) → Hp → VK → Prop := fun tl H Q =>
  ∀ Qn : VK, tl (fun cls d H' => cls = .ref (He.ga K "NoNumeral") ∧ ∃ dd, d = some dd ∧ H' dd = some (.xd [("at", .non)]) ∧ ∀ H'', Same H' H'' → Q (.bl true) H'') H Qn
/-- okG, for a def that makes lambdas: which code object it has -/
theorem okGT {P : Program} {w : World} {K : PySem.W.Frag} {mg : Str → Option Value} {base : Heap} {CX : CXT} {x qual : Str} {params : Arguments} {body : List Stmt} {scope : Scope} {dvs : List V} {kws : List (Str × V)} {f : Addr} {fd : FuncData} {N ps : List Str} {k : Nat} {sp : Sp}
    (F : FunD K x qual params body scope dvs kws f fd) (S : FnScope N ps scope) (len : ∀ vs H Q E, sp vs H Q E → vs.length = ps.length)
    (hb : ∀ (c : Addr) (A : Around) (outer : List Env) (s : Shared) (H : Hp) (vs : List V) (Q : VK) (E : XK), (∀ p : Str × Option Str, He.fAd K p = f → He.codeOf K p = c) → A.guards = some [] → Room k (A.deeper (envOfC qual scope s.heap.objs.size f (.ref c))) → sp vs H Q E →
      ∃ t, PSs (cxOf CX P w K mg base N qual scope f (.ref c) A outer s H E) body t ∧ t { nx := fun _ H' => Q .non H', rt := Q } (start N vs) H) : FnG P w K mg base CX (k + 1) f fd ps sp := by
  obtain ⟨_, _, _, _, _, _, _, code, _, _, e, lk, hcd, _⟩ := F.ex
  subst e
  obtain ⟨c, e⟩ := He.codeIn_ref hcd
  subst e
  exact ⟨len, fun A outer s H args us vs Q E g r e0 b v h => LamX.run_ofS lk hcd S r e0 b v (len vs H Q E h) fun r' => hb c A outer s H vs Q E (fun p e => He.codeOf_eq (by rw [e]; exact lk) rfl) g r' h⟩
end Ru

set_option Elab.async false
set_option linter.all false
set_option maxRecDepth 100000
set_option maxHeartbeats 2000000
namespace Ru
open PySem PySem.Spec PyProof.Rows L2
/-! ### how long a list's text is -/
theorem len_app (a b : Str) : (a ++ b).length = a.length + b.length := by
  show (a.cps ++ b.cps).size = _
  rw [Array.size_append]
  rfl
theorem textFrom_le : ∀ (ts : List Str) (k : Nat) (acc : Str) (n : Nat), (∀ t ∈ ts, t.length ≤ n) → (textFrom k acc ts).length ≤ acc.length + ts.length * (n + 2)
  | [], k, acc, n, _ => by
    show acc.length ≤ _
    exact Nat.le_add_right _ _
  | t :: ts, k, acc, n, h => by
    have ih := textFrom_le ts (k + 1) (acc ++ (if k > 0 then ", " else "" : String) ++ t) n fun x hx => h x (List.mem_cons_of_mem _ hx)
    have h1 := h t List.mem_cons_self
    have h2 : ((if k > 0 then ", " else "" : String) : Str).length ≤ 2 := by
      by_cases c : k > 0
      · rw [if_pos c]
        decide
      · rw [if_neg c]
        decide
    rw [len_app, len_app] at ih
    show (textFrom (k + 1) (acc ++ (if k > 0 then ", " else "" : String) ++ t) ts).length ≤ _
    have e : (t :: ts).length * (n + 2) = ts.length * (n + 2) + (n + 2) := by rw [List.length_cons, Nat.succ_mul]
    omega
theorem listText_le {ts : List Str} {n : Nat} (h : ∀ t ∈ ts, t.length ≤ n) : (listText ts).length ≤ 2 + ts.length * (n + 2) := by
  have h1 := textFrom_le ts 0 ("[" : String) n h
  have h2 : (("[" : String) : Str).length = 1 := by decide
  have h3 : (("]" : String) : Str).length = 1 := by decide
  show (textFrom 0 ("[" : String) ts ++ ("]" : String)).length ≤ _
  rw [len_app]
  omega
theorem join_le {n : Nat} : ∀ {ts : List Str}, (∀ t ∈ ts, t.length ≤ n) → (Str.join ", " ts).length ≤ ts.length * (n + 2)
  | [], _ => by
    show (0 : Nat) ≤ _
    exact Nat.zero_le _
  | [x], h => by
    have h1 := h x List.mem_cons_self
    show x.length ≤ 1 * (n + 2)
    omega
  | x :: y :: r, h => by
    have ih := join_le (n := n) (ts := y :: r) fun t ht => h t (List.mem_cons_of_mem _ ht)
    have h1 := h x List.mem_cons_self
    have h2 : ((", " : String) : Str).length = 2 := by decide
    show (x ++ ", " ++ Str.join ", " (y :: r)).length ≤ _
    rw [len_app, len_app, h2]
    have e : (x :: y :: r).length * (n + 2) = (y :: r).length * (n + 2) + (n + 2) := by rw [List.length_cons, Nat.succ_mul]
    omega
theorem tupleText_le {ts : List Str} {n : Nat} (h : ∀ t ∈ ts, t.length ≤ n) : (tupleText ts).length ≤ 3 + ts.length * (n + 2) := by
  have h1 := join_le h
  have h2 : (("(" : String) : Str).length = 1 := by decide
  have h3 : ((if ts.length == 1 then ",)" else ")" : String) : Str).length ≤ 2 := by
    by_cases c : (ts.length == 1) = true
    · rw [if_pos c]
      decide
    · rw [if_neg c]
      decide
  unfold tupleText
  rw [len_app, len_app, h2]
  omega
/-- a datum that is shown in at most L signs -/
structure Md (D L : Nat) (d : PyData) : Prop where
  s : d.showable = true
  dp : d.depth ≤ D
  l : d.shown.length ≤ L
theorem Md.mono {D D' L L' : Nat} {d : PyData} (h : Md D L d) (h1 : D ≤ D') (h2 : L ≤ L') : Md D' L' d := ⟨h.s, Nat.le_trans h.dp h1, Nat.le_trans h.l h2⟩
theorem Md.sh {D L : Nat} {d : PyData} (h : Md D L d) (h1 : D ≤ 40) (h2 : L ≤ 100000) : Sh d := ⟨h.s, Nat.le_trans h.dp h1, Nat.le_trans h.l (Nat.le_trans h2 (by decide))⟩
theorem Md.all {D L : Nat} : ∀ {ds : List PyData}, (∀ d ∈ ds, Md D L d) → PyData.showableAll ds = true ∧ PyData.depthAll ds ≤ D ∧ (∀ t ∈ PyData.shownAll ds, t.length ≤ L) ∧ (PyData.shownAll ds).length = ds.length
  | [], _ => ⟨by simp [PyData.showableAll], by simp [PyData.depthAll], by simp [PyData.shownAll], by simp [PyData.shownAll]⟩
  | d :: ds, h => by
    obtain ⟨i1, i2, i3, i4⟩ := Md.all fun x hx => h x (List.mem_cons_of_mem _ hx)
    have hd := h d List.mem_cons_self
    refine ⟨by rw [PyData.showableAll, hd.s, i1]; rfl, by rw [PyData.depthAll]; exact Nat.max_le.mpr ⟨hd.dp, i2⟩, ?_, by rw [PyData.shownAll, List.length_cons, List.length_cons, i4]⟩
    intro t ht
    rw [PyData.shownAll] at ht
    rcases List.mem_cons.mp ht with e | ht
    · rw [e]
      exact hd.l
    · exact i3 t ht
theorem Md.list {D L : Nat} {ds : List PyData} (h : ∀ d ∈ ds, Md D L d) : Md (D + 1) (3 + ds.length * (L + 2)) (.list ds) := by
  obtain ⟨i1, i2, i3, i4⟩ := Md.all h
  refine ⟨by rw [PyData.showable]; exact i1, by rw [PyData.depth]; omega, ?_⟩
  rw [PyData.shown]
  have z := listText_le i3
  rw [i4] at z
  omega
theorem Md.tuple {D L : Nat} {ds : List PyData} (h : ∀ d ∈ ds, Md D L d) : Md (D + 1) (3 + ds.length * (L + 2)) (.tuple ds) := by
  obtain ⟨i1, i2, i3, i4⟩ := Md.all h
  refine ⟨by rw [PyData.showable]; exact i1, by rw [PyData.depth]; omega, ?_⟩
  rw [PyData.shown]
  have z := tupleText_le i3
  rw [i4] at z
  omega
theorem Md.int {z : Int} (h : z.natAbs.log2 < 140) : Md 1 141 (.int z) := by
  refine ⟨by rw [PyData.showable]; exact decide_eq_true (by omega), by rw [PyData.depth]; omega, ?_⟩
  rw [PyData.shown]
  show (Str.ofString (toString z)).length ≤ 141
  rw [PySem.ofString_length]
  exact int_text_length_le (k := 140) (by decide) h
theorem log2_small {z : Int} (h0 : 0 ≤ z) (h1 : z ≤ 100 ^ 4) : z.natAbs.log2 < 140 := by
  have h : z.natAbs < 2 ^ 140 := by omega
  by_cases hz : z.natAbs = 0
  · rw [hz]
    decide
  · exact (Nat.log2_lt hz).mpr h
end Ru

set_option Elab.async false
set_option linter.all false
set_option maxRecDepth 100000
set_option maxHeartbeats 2000000
namespace Ru
open PySem PySem.Spec PyProof.Rows L2
/-! ### a menu of values beside a pen and a row of numbers -/
structure Bag (K : PySem.W.Frag) (d l p : Addr) (cells zs : List Int) (a r : Int) (H0 H : Hp) (vs : List V) (ds : List PyData) : Prop where
  bt : Bt d H0 H
  pen : PenL H d l cells a r
  row : H p = some (.lst (zs.map V.int))
  ne : p ≠ d
  all : DqA K d H vs ds
section
variable {K : PySem.W.Frag} {d l p : Addr} {cells zs : List Int} {a r : Int} {H0 H H' : Hp} {vs : List V} {ds : List PyData}
theorem Bag.same (s : Same H H') (b : Bag K d l p cells zs a r H0 H vs ds) : Bag K d l p cells zs a r H0 H' vs ds := ⟨b.bt.trans (.of s), b.pen.same s, s _ _ b.row, b.ne, b.all.same s⟩
theorem Bag.add (b : Bag K d l p cells zs a r H0 H vs ds) (s : Same H H') {v : V} {x : PyData} (h : Dq K d H' v x) : Bag K d l p cells zs a r H0 H' (vs ++ [v]) (ds ++ [x]) :=
  ⟨b.bt.trans (.of s), b.pen.same s, s _ _ b.row, b.ne, (b.all.same s).app (.cons h .nil)⟩
theorem Bag.put (b : Bag K d l p cells zs a r H0 H vs ds) {v : V} {x : PyData} (h : Dq K d H v x) : Bag K d l p cells zs a r H0 H (vs ++ [v]) (ds ++ [x]) := b.add (Same.refl _) h
theorem Bag.off (b : Bag K d l p cells zs a r H0 H vs ds) {q : Addr} (h : H q = none) : q ≠ d := (ne_of_none b.pen.dk h).symm
theorem Bag.rowD (b : Bag K d l p cells zs a r H0 H vs ds) : Dq K d H (.ref p) (.list (intsD zs)) := .lst (SqL.of b.row) b.ne dq_ints
/-- one of the menu is picked -/
theorem Bag.pick (b : Bag K d l p cells zs a r H0 H vs ds) (s : Bt d H H') {j : Nat} {v : V} (hj : vs[j]? = some v) : ∃ x, x ∈ ds ∧ Dq K d H' v x := by
  obtain ⟨x, h1, h2⟩ := b.all.get hj
  exact ⟨x, List.mem_of_getElem? h1, h2.bt s⟩
end
theorem cutTo {xs : List V} {n : Nat} (h : n ≤ xs.length) : cutV xs none (some (n : Int)) = xs.take n := by
  unfold cutV
  rw [show HT.sIx xs.length 0 none = 0 from rfl, HT.sIx_nat, Nat.min_eq_left h, List.drop_zero, Nat.sub_zero]
theorem cutFrom {xs : List V} {n : Nat} (h : n ≤ xs.length) : cutV xs (some (n : Int)) none = xs.drop n := by
  unfold cutV
  rw [HT.sIx_nat, Nat.min_eq_left h, show HT.sIx xs.length xs.length none = xs.length from rfl, List.take_of_length_le (by rw [List.length_drop]; exact Nat.le_refl _)]
theorem cutTop {xs : List V} {n : Nat} (h : xs.length ≤ n) : cutV xs none (some (n : Int)) = xs := by
  unfold cutV
  rw [show HT.sIx xs.length 0 none = 0 from rfl, HT.sIx_nat, Nat.min_eq_right h, List.drop_zero, Nat.sub_zero, List.take_length]
theorem basesD_long {ds : List PyData} (h : 4 < ds.length) : basesD (.list ds) = false ∧ basesD (.tuple ds) = false := by
  have e : (decide (1 ≤ ds.length) && decide (ds.length ≤ 4) && ds.all baseD) = false := by
    rw [decide_eq_false (by omega : ¬ ds.length ≤ 4), Bool.and_false, Bool.false_and]
  exact ⟨e, e⟩
theorem basesD_odd {ds : List PyData} {x : PyData} (hm : x ∈ ds) (h : baseD x = false) : basesD (.list ds) = false ∧ basesD (.tuple ds) = false := by
  have e0 : ds.all baseD = false := by
    cases q : ds.all baseD with
    | false => rfl
    | true =>
      have z := List.all_eq_true.mp q x hm
      rw [h] at z
      cases z
  have e : (decide (1 ≤ ds.length) && decide (ds.length ≤ 4) && ds.all baseD) = false := by rw [e0, Bool.and_false]
  exact ⟨e, e⟩
end Ru

set_option Elab.async false
set_option linter.all false
set_option maxRecDepth 100000
set_option maxHeartbeats 2000000
namespace Ru
open PySem PySem.Spec PyProof.Rows L2
/-! ### digits beside bases -/
def lenD : PyData → Nat
  | .list ds => ds.length
  | .tuple ds => ds.length
  | _ => 0
/-- as many digits as bases, in a tuple or a list -/
def longD (x y : PyData) : Bool := basesD y && (seqD x && decide (lenD x = lenD y))
def spLong (K : PySem.W.Frag) : Sp := fun vs H Q _ => ∃ (v u : V) (d e : Addr) (x y : PyData), vs = [v, u] ∧ Dq K d H v x ∧ Dq K e H u y ∧ ∀ H', Same H H' → Q (.bl (longD x y)) H'
/-- what len asks of a list or a tuple, as call_len_seq takes it -/
theorem Dq.len {K : PySem.W.Frag} {d : Addr} {H : Hp} {v : V} {x : PyData} (h : Dq K d H v x) (hs : seqD x = true) : ∃ a xs, v = .ref a ∧ (SqL K H a xs ∨ Rd H a (.tup xs)) ∧ xs.length = lenD x := by
  cases h with
  | lst h _ r => exact ⟨_, _, rfl, .inl h, r.length⟩
  | tup h _ r => exact ⟨_, _, rfl, .inr h, r.length⟩
  | _ => cases hs
theorem basesD_seq {y : PyData} (h : basesD y = true) : seqD y = true := by
  cases y <;> first | rfl | cases h
end Ru

set_option Elab.async false
set_option linter.all false
set_option maxRecDepth 100000
set_option maxHeartbeats 4000000
namespace Ru
open PySem PySem.Spec PyProof.Rows L2
/-! ### zip and enumerate over lists and tuples alike -/
/-- a tuple (true), a list (false), as the promises speak of it -/
def SqA (K : PySem.W.Frag) (b : Bool) (H : Hp) (a : Addr) (xs : List V) : Prop := match b with
  | true => SqT K H a xs
  | false => SqL K H a xs
/-- .. and as the heap holds it -/
def RawA (b : Bool) (h : Heap) (a : Addr) (us : Array Value) : Prop := match b with
  | true => h.IsTuple a us
  | false => h.IsList a us
/-- its iterator has given i items -/
def AtA (b : Bool) (h : Heap) (it a : Addr) (i : Nat) : Prop := match b with
  | true => h.IsTupleIter it a i
  | false => h.IsListIter it a i
theorem SqA.raw {X : Cx} {pins : List (Addr × Obj)} {σ : L2.St} {H : Hp} {s : Shared} {b : Bool} {a : Addr} {xs : List V} (I : Inv X pins σ H s) (h : SqA X.K b H a xs) : ∃ us, Vals xs us ∧ RawA b s.heap a us.toArray := by
  cases b with
  | true =>
    obtain ⟨us, r, p, _⟩ := I.tuple h
    exact ⟨us, r, p⟩
  | false =>
    obtain ⟨us, r, p, _⟩ := I.list h
    exact ⟨us, r, p.isList⟩
theorem SqA.same {K : PySem.W.Frag} {H H' : Hp} {b : Bool} {a : Addr} {xs : List V} (s : Same H H') (h : SqA K b H a xs) : SqA K b H' a xs := by
  cases b with
  | true => exact h.imp (fun q => q.elim (fun q => .inl (s _ _ q)) fun ⟨o, q⟩ => .inr ⟨o, s _ _ q⟩) id
  | false => exact s.seq h
theorem drawsA {prog : Program} {w : World} {A : Around} (b : Bool) (hh : A.handled = none) (it a : Addr) (ne : a ≠ it) (us : Array Value) :
    Draws prog w A it [it, a] us.size (fun i v => us[i]? = some v) (fun i h => AtA b h it a i ∧ RawA b h a us) := by
  cases b with
  | true => exact Draws.tuple hh it a ne us
  | false => exact Draws.list hh it a ne us
theorem RawA.live {b : Bool} {h : Heap} {a : Addr} {us : Array Value} (r : RawA b h a us) : ∃ o, h.get? a = some o := by
  cases b with
  | true =>
    obtain ⟨o, e, _⟩ := (show h.IsTuple a us from r)
    exact ⟨o, e⟩
  | false =>
    obtain ⟨o, e, _⟩ := (show h.IsList a us from r)
    exact ⟨o, e⟩
theorem AtA.cell {b : Bool} {h : Heap} {it a : Addr} {i : Nat} (r : AtA b h it a i) : ∃ o, h.get? it = some o ∧ ∀ v, o.data ≠ .cell v := by
  cases b with
  | true =>
    obtain ⟨o, e, _, d⟩ := (show h.IsTupleIter it a i from r)
    exact ⟨o, e, fun v q => by rw [d] at q; cases q⟩
  | false =>
    obtain ⟨o, e, _, d⟩ := (show h.IsListIter it a i from r)
    exact ⟨o, e, fun v q => by rw [d] at q; cases q⟩
theorem AtA.keep {b : Bool} {h h' : Heap} {it a : Addr} {i : Nat} (r : AtA b h it a i) (k : ∀ o, h.get? it = some o → h'.get? it = some o) : AtA b h' it a i := by
  cases b with
  | true => exact Heap.IsTupleIter.at r k
  | false => exact Heap.IsListIter.at r k
/-- iter(..) of it: the new object -/
def newA (b : Bool) (a : Addr) : Obj := match b with
  | true => { cls := .type "tuple_iterator", data := .fields #[.ref a, .int 0 0] }
  | false => { cls := .type "list_iterator", data := .fields #[.ref a, .int 0 0] }
theorem beginsA (b : Bool) (a : Addr) (us : Array Value) : Begins (.ref a) (newA b a) fun h => RawA b h a us := by
  cases b with
  | true => exact begins_tuple a us
  | false => exact begins_list a us
theorem newA_at {b : Bool} {h : Heap} {it a : Addr} (e : h.get? it = some (newA b a)) : AtA b h it a 0 := by
  cases b with
  | true => exact ⟨_, e, rfl, rfl⟩
  | false => exact ⟨_, e, rfl, rfl⟩
/-- pairs of what stands at the same place in two rows -/
def ItZA (K : PySem.W.Frag) (b1 b2 : Bool) (a c : Addr) (xs ys : List V) : It :=
  ⟨fun i H => i < min xs.length ys.length ∧ SqA K b1 H a xs ∧ SqA K b2 H c ys, YPair (fun i => xs[i]?) (fun i => ys[i]?), fun i H => i = min xs.length ys.length ∧ SqA K b1 H a xs ∧ SqA K b2 H c ys⟩
theorem walk_zipA {K : PySem.W.Frag} {b1 b2 : Bool} {a c : Addr} {xs ys : List V} : Walk (ItZA K b1 b2 a c xs ys) (min xs.length ys.length) (fun H => SqA K b1 H a xs ∧ SqA K b2 H c ys) (YPair (fun i => xs[i]?) (fun i => ys[i]?)) :=
  ⟨fun _ _ h g => ⟨h, g⟩, fun _ g => ⟨rfl, g⟩, fun _ _ _ _ _ _ y => y⟩
/-- each item with its number -/
def ItEA (K : PySem.W.Frag) (b : Bool) (a : Addr) (xs : List V) : It :=
  ⟨fun i H => i < xs.length ∧ SqA K b H a xs, YPair (fun i => some (.int (i : Nat))) (fun i => xs[i]?), fun i H => i = xs.length ∧ SqA K b H a xs⟩
theorem walk_enumA {K : PySem.W.Frag} {b : Bool} {a : Addr} {xs : List V} : Walk (ItEA K b a xs) xs.length (fun H => SqA K b H a xs) (YPair (fun i => some (.int (i : Nat))) (fun i => xs[i]?)) :=
  ⟨fun _ _ h g => ⟨h, g⟩, fun _ g => ⟨rfl, g⟩, fun _ _ _ _ _ _ y => y⟩
section
variable {P : Program} {w : World} {K : PySem.W.Frag} {elts : List Expr} {kk : Nat} {tpos : Pos}
/-- the new pair is tracked -/
theorem pair_in {X : Cx} {pins : List (Addr × Obj)} {σ : L2.St} {H : Hp} {s : Shared} {h' : Heap} {tk : Nat} {ch : List Addr} {T : Addr} {x y : V} {u v : Value} (I : Inv X pins σ H s) (k : ∀ b o, b ∉ ch → s.heap.get? b = some o → h'.get? b = some o)
    (hf : ∀ b ∈ ch, FpOk X pins H b) (hT : s.heap.objs.size ≤ T) (rx : RelV x u) (ry : RelV y v) (p : h'.IsTuple T #[u, v]) : Inv X pins σ (upd H T (.tup [x, y])) { s with heap := h', toks := tk } :=
  I.turnedNew (ch := ch) k hf hT ⟨by show 2 ≤ sizeLine; decide, [u, v], .cons rx (.cons ry .nil), p⟩
theorem turn_zipA {b1 b2 : Bool} {a c z TI TO i1 i2 : Addr} {xs ys : List V} (S : ZipSep2 z TI TO i1 i2 [i1, a] [i2, c]) (n1 : a ≠ i1) (n2 : c ≠ i2) :
    Turn P w K (.Tuple elts kk tpos) (ItZA K b1 b2 a c xs ys) [z, TI, TO, i1, i2] z
      (fun i h => IsZip h z TI TO .none ∧ IsTupOf2 h TI (.ref i1) (.ref i2) ∧ (∃ p q, IsTupOf2 h TO p q) ∧ AtA b1 h i1 a i ∧ AtA b2 h i2 c i) where
  mem := List.mem_cons_self
  obj := fun i h st b hb => by
    obtain ⟨hz, hI, ⟨p, q, hO⟩, h1, h2⟩ := st
    rcases List.mem_cons.mp hb with e | hb
    · exact e ▸ ⟨_, hz, fun v q => nomatch q⟩
    rcases List.mem_cons.mp hb with e | hb
    · exact e ▸ ⟨_, hI, fun v q => nomatch q⟩
    rcases List.mem_cons.mp hb with e | hb
    · exact e ▸ ⟨_, hO, fun v q => nomatch q⟩
    rcases List.mem_cons.mp hb with e | hb
    · exact e ▸ h1.cell
    · exact List.mem_singleton.mp hb ▸ h2.cell
  keep := fun i h h' st k => by
    obtain ⟨hz, hI, ⟨p, q, hO⟩, h1, h2⟩ := st
    exact ⟨k z (by simp) _ hz, k TI (by simp) _ hI, ⟨p, q, k TO (by simp) _ hO⟩, h1.keep (k i1 (by simp)), h2.keep (k i2 (by simp))⟩
  item := by
    intro X eP ew eK hc i pins s σ H E I hf st hg
    subst eP ew eK
    obtain ⟨hz, hI, hO, h1, h2⟩ := st
    obtain ⟨hi, q1, q2⟩ := hg
    obtain ⟨us, r1, p1⟩ := q1.raw I
    obtain ⟨vs, r2, p2⟩ := q2.raw I
    have hh : X.A.in1.handled = none := I.ok.hd hc
    have l1 := r1.length
    have l2 := r2.length
    refine (GoesN.zip2 (elts := elts) (x1 := kk) (pos := tpos) (A := X.A) S (drawsA b1 hh i1 a n1 us.toArray) (drawsA b2 hh i2 c n2 vs.toArray)).goes i s (fun u s2 => ∃ x H', Inv X pins σ H' s2 ∧ RelV x u ∧ YPair (fun i => xs[i]?) (fun i => ys[i]?) i H x H' ∧
      (IsZip s2.heap z TI TO .none ∧ IsTupOf2 s2.heap TI (.ref i1) (.ref i2) ∧ (∃ p q, IsTupOf2 s2.heap TO p q) ∧ AtA b1 s2.heap i1 a (i + 1) ∧ AtA b2 s2.heap i2 c (i + 1)) ∧ ∀ b ∈ [z, TI, TO, i1, i2], H' b = none) E
      (by simp only [List.size_toArray]; omega) ⟨hz, hI, hO, ⟨h1, p1⟩, ⟨h2, p2⟩⟩ fun v h' tk hY st' hk _ => ?_
    obtain ⟨T, u, v', rfl, hT, hu, hv, pT⟩ := hY
    obtain ⟨z', I', O', ⟨h1', _⟩, ⟨h2', _⟩⟩ := st'
    have j1 : i < xs.length := by omega
    have j2 : i < ys.length := by omega
    obtain ⟨u0, e1, ru⟩ := r1.get (List.getElem?_eq_getElem j1)
    obtain ⟨v0, e2, rv⟩ := r2.get (List.getElem?_eq_getElem j2)
    have f1 : us[i]? = some u := by simpa using hu
    have f2 : vs[i]? = some v' := by simpa using hv
    rw [e1] at f1
    rw [e2] at f2
    cases f1
    cases f2
    refine ⟨.ref T, _, pair_in I (ch := [z, TI, TO, i1, i2]) (fun b o nb e => hk b o (fun m => nb ?_) e) hf hT ru rv pT, rfl, ⟨T, _, _, rfl, I.hok.fresh hT, rfl, List.getElem?_eq_getElem j1, List.getElem?_eq_getElem j2⟩, ⟨z', I', O', h1', h2'⟩, fun b hb => ?_⟩
    · simp only [List.mem_cons, List.not_mem_nil, or_false] at m ⊢
      rcases m with m | m | m | m <;> simp [m]
    · have lt : b < s.heap.objs.size := by
        obtain ⟨p, q, hO⟩ := hO
        obtain ⟨o1, e1, _⟩ := h1.cell
        obtain ⟨o2, e2, _⟩ := h2.cell
        simp only [List.mem_cons, List.not_mem_nil, or_false] at hb
        rcases hb with m | m | m | m | m
        · exact m ▸ Heap.lt_size hz
        · exact m ▸ Heap.lt_size hI
        · exact m ▸ Heap.lt_size hO
        · exact m ▸ Heap.lt_size e1
        · exact m ▸ Heap.lt_size e2
      rw [upd_ne (Nat.ne_of_lt (Nat.lt_of_lt_of_le lt hT))]
      exact (hf b hb).1
  done := by
    intro X eP ew eK hc i pins s σ H E I hf st hg
    subst eP ew eK
    obtain ⟨hz, hI, hO, h1, h2⟩ := st
    obtain ⟨hi, q1, q2⟩ := hg
    obtain ⟨us, r1, p1⟩ := q1.raw I
    obtain ⟨vs, r2, p2⟩ := q2.raw I
    have hh : X.A.in1.handled = none := I.ok.hd hc
    have l1 := r1.length
    have l2 := r2.length
    have en : i = min us.toArray.size vs.toArray.size := by
      simp only [List.size_toArray]
      omega
    subst en
    refine (GoesN.zip2 (elts := elts) (x1 := kk) (pos := tpos) (A := X.A) S (drawsA b1 hh i1 a n1 us.toArray) (drawsA b2 hh i2 c n2 vs.toArray)).stops s (fun s2 => Inv X pins σ H s2) E ⟨hz, hI, hO, ⟨h1, p1⟩, ⟨h2, p2⟩⟩ fun h' tk hk _ => ?_
    refine I.turnedL (ch := [z, TI, TO, i1, i2]) (fun b o nb e => hk b o (fun m => nb ?_) e) hf
    simp only [List.mem_cons, List.not_mem_nil, or_false] at m ⊢
    rcases m with m | m | m | m <;> simp [m]
  self := fun A i s Q E st h => wpAny_pyIter_zip st.1 h
theorem turn_enumA {b : Bool} {a e it : Addr} {xs : List V} (ne : e ≠ it) (n1 : a ≠ it) (n2 : e ≠ a) :
    Turn P w K (.Tuple elts kk tpos) (ItEA K b a xs) [e, it] e (fun i h => (∃ old, IsEnum h e it (0 + (i : Int)) old) ∧ AtA b h it a i) where
  mem := List.mem_cons_self
  obj := fun i h st c hb => by
    obtain ⟨⟨old, he⟩, h1⟩ := st
    rcases List.mem_cons.mp hb with q | hb
    · exact q ▸ ⟨_, he, fun v q => nomatch q⟩
    · exact List.mem_singleton.mp hb ▸ h1.cell
  keep := fun i h h' st k => by
    obtain ⟨⟨old, he⟩, h1⟩ := st
    exact ⟨⟨old, k e (by simp) _ he⟩, h1.keep (k it (by simp))⟩
  item := by
    intro X eP ew eK hc i pins s σ H E I hf st hg
    subst eP ew eK
    obtain ⟨he, h1⟩ := st
    obtain ⟨hi, q1⟩ := hg
    obtain ⟨us, r1, p1⟩ := q1.raw I
    have hh : X.A.in1.handled = none := I.ok.hd hc
    have l1 := r1.length
    refine (GoesN.enumFrom (elts := elts) (x1 := kk) (pos := tpos) (A := X.A) 0 (drawsA b hh it a n1 us.toArray) e ne (by simp [ne, n2]) (by simp)).goes i s (fun u s2 => ∃ x H', Inv X pins σ H' s2 ∧ RelV x u ∧ YPair (fun i => some (.int (i : Nat))) (fun i => xs[i]?) i H x H' ∧
      ((∃ old, IsEnum s2.heap e it (0 + ((i + 1 : Nat) : Int)) old) ∧ AtA b s2.heap it a (i + 1)) ∧ ∀ c ∈ [e, it], H' c = none) E
      (by simp only [List.size_toArray]; omega) ⟨he, h1, p1⟩ fun v h' tk hY st' hk _ => ?_
    obtain ⟨T, t, u, rfl, hT, hu, pT⟩ := hY
    obtain ⟨e', h1', _⟩ := st'
    have j1 : i < xs.length := by omega
    obtain ⟨u0, e1, ru⟩ := r1.get (List.getElem?_eq_getElem j1)
    have f1 : us[i]? = some u := by simpa using hu
    rw [e1] at f1
    cases f1
    rw [show (0 : Int) + (i : Int) = ((i : Nat) : Int) by omega] at pT
    refine ⟨.ref T, _, pair_in I (ch := [e, it]) hk hf hT (x := .int (i : Nat)) ⟨t, rfl⟩ ru pT, rfl, ⟨T, _, _, rfl, I.hok.fresh hT, rfl, rfl, List.getElem?_eq_getElem j1⟩, ⟨e', h1'⟩, fun c hb => ?_⟩
    have lt : c < s.heap.objs.size := by
      obtain ⟨old, he⟩ := he
      obtain ⟨o1, e1, _⟩ := h1.cell
      simp only [List.mem_cons, List.not_mem_nil, or_false] at hb
      rcases hb with m | m
      · exact m ▸ Heap.lt_size he
      · exact m ▸ Heap.lt_size e1
    rw [upd_ne (Nat.ne_of_lt (Nat.lt_of_lt_of_le lt hT))]
    exact (hf c hb).1
  done := by
    intro X eP ew eK hc i pins s σ H E I hf st hg
    subst eP ew eK
    obtain ⟨he, h1⟩ := st
    obtain ⟨hi, q1⟩ := hg
    obtain ⟨us, r1, p1⟩ := q1.raw I
    have hh : X.A.in1.handled = none := I.ok.hd hc
    have l1 := r1.length
    have en : i = us.toArray.size := by
      simp only [List.size_toArray]
      omega
    subst en
    exact (GoesN.enumFrom (elts := elts) (x1 := kk) (pos := tpos) (A := X.A) 0 (drawsA b hh it a n1 us.toArray) e ne (by simp [ne, n2]) (by simp)).stops s (fun s2 => Inv X pins σ H s2) E ⟨he, h1, p1⟩ fun h' tk hk _ => I.turnedL (ch := [e, it]) hk hf
  self := fun A i s Q E st h => let ⟨⟨_, he⟩, _⟩ := st; wpAny_pyIter_enum he h
end
/-- enumerate(v) of one argument begins -/
theorem meets_enumA {v : Value} {o : Obj} {G : Heap → Prop} (B : Begins v o G) :
    Meets (Builtin.«enumerate.__new__» ⟨[.type "enumerate", v], []⟩) (fun _ R s => G s.heap ∧
      R (.ok (.ret (.ref (s.heap.push o).objs.size))) { s with heap := (s.heap.push o).push { cls := .type "enumerate", data := .fields #[.none, .bool false, .ref s.heap.objs.size, rawInt 0, .none, .none] } }) :=
  .of_wp fun prog w A R s h => by
    obtain ⟨hp, g, d, tk, os⟩ := s
    obtain ⟨h1, h⟩ := h
    have hsub := sub_enumerate
    have q1 : ∀ {A' : Around} {E : Value → Shared → Prop} {Q : Value → Shared → Prop}, Q (.ref hp.objs.size) ⟨hp.push o, g, d, tk, os⟩ → wpAny (model prog w) A' (pyIter v) Q E ⟨hp, g, d, tk, os⟩ := fun q => B.iter prog w _ _ _ _ h1 q
    wp_walk using q1
    first
      | exact ⟨_, rfl, h⟩
      | (refine wpAny_stack_any fun st => wpAny_pure ?_
         split
         · rename_i c _ _ _ _ _
           cases (c == Value.type "enumerate")
           · wp_walk using q1
             exact ⟨_, rfl, h⟩
           · wp_walk using q1
             exact ⟨_, rfl, h⟩
         · wp_walk using q1
           exact ⟨_, rfl, h⟩)
end Ru

set_option Elab.async false
set_option linter.all false
set_option maxRecDepth 100000
set_option maxHeartbeats 4000000
namespace Ru
open PySem PySem.Spec PyProof.Rows L2
section
variable {prog : Program} {w : World} {A : Around} {E : Value → Shared → Prop} {s : Shared}
theorem enum_beginsA {v : Value} {o : Obj} {G : Heap → Prop} {Q : Value → Shared → Prop} (B : Begins v o G) (h1 : G s.heap)
    (h : ∀ h', IsEnum h' (s.heap.objs.size + 1) s.heap.objs.size 0 .none → h'.get? s.heap.objs.size = some o → (∀ b o, s.heap.get? b = some o → h'.get? b = some o) → Q (.ref (s.heap.objs.size + 1)) { s with heap := h' }) :
    wpAny (model prog w) A (call (.type "enumerate") [v]) Q E s := by
  refine callType_new F.called_enumerate (by decide) (F.typeCall_enumerate_1 _) (F.newCall_enumerate_1 _) (fun obj => F.args_object_init_2 obj _) F.entry_enumerate_new (meets_enumA B) ⟨h1, ?_⟩
  have z1 : (s.heap.push o).objs.size = s.heap.objs.size + 1 := Heap.size_push ..
  have g := Heap.get?_push_size (s.heap.push o) (o := { cls := .type "enumerate", data := .fields #[.none, .bool false, .ref s.heap.objs.size, rawInt 0, .none, .none] }) rfl
  rw [z1] at g
  show _ ∧ _
  rw [z1]
  exact ⟨⟨_, g, rfl⟩, h _ g (Heap.get?_push_of_some _ (Heap.get?_push_size _ B.free)) fun b o x => Heap.get?_push_of_some _ (Heap.get?_push_of_some _ x)⟩
end
section
variable {X : Cx} {e e2 : Expr} {ta : TA} {p pos tpos : Pos} {elts : List Expr} {kk : Nat}
theorem fresh_at {pins : List (Addr × Obj)} {σ : L2.St} {H H' : Hp} {s : Shared} (I : Inv X pins σ H s) (k : Nat) : FpOk X pins H (s.heap.objs.size + k) := I.fpOk (Nat.le_add_right _ _) (I.hok.fresh (Nat.le_add_right _ _))
/-- zip(v, w), each a list or a tuple -/
def iZipX (K : PySem.W.Frag) (ta : TA) : TI := fun σ H R => ta σ H fun vs H1 => ∃ (b1 b2 : Bool) (a c : Addr) (xs ys : List V), vs = [.ref a, .ref c] ∧ SqA K b1 H1 a xs ∧ SqA K b2 H1 c ys ∧ R (ItZA K b1 b2 a c xs ys) H1
theorem pi_zipX (hg : Gl X "zip") (hm : X.mg "zip" = none) (ha : PA X [e, e2] ta) (hs : starEach [e, e2] X.env = (false, eval e X.env) :: starEach [e2] X.env := by rfl) (hpl : (backTo pos (starEach [e2] X.env)).any (·.1) = false := by rfl) :
    PI X (.Tuple elts kk tpos) (.Call (.Name "zip" p) [e, e2] [] pos) (iZipX X.K ta) := by
  refine ⟨fun pins s σ H R I h => Call_ (ld_blt I hg hm PyProof.Rows.boot_zip (PyProof.Rows.callWith_type1 (thn (ha.run pos pins s σ H _ I h) fun us s1 hh => ?_) hs hpl))⟩
  obtain ⟨vs, H1, I1, r, b1, b2, a, c, xs, ys, ev, q1, q2, q⟩ := hh
  subst ev
  obtain ⟨u, v, rfl, ra, rc⟩ := vals2 r
  cases ra
  cases (show v = Value.ref c from rc)
  obtain ⟨ws, r1, p1⟩ := q1.raw I1
  obtain ⟨zs, r2, p2⟩ := q2.raw I1
  obtain ⟨oa, ea⟩ := p1.live
  obtain ⟨oc, ec⟩ := p2.live
  have la : a < s1.heap.objs.size := Heap.lt_size ea
  have lc : c < s1.heap.objs.size := Heap.lt_size ec
  refine zip_begins2 (beginsA b1 a ws.toArray) (beginsA b2 c zs.toArray) p1 p2 fun h' hz hI hO g1 g2 _ hk => wpAny_pyIter_zip hz ?_
  have I2 : Inv X pins σ H1 { s1 with heap := h' } := I1.kept (t' := s1.toks) hk
  have S := zip_sep2 (N := s1.heap.objs.size) (fp1 := [a]) (fp2 := [c]) (fun b m => List.mem_singleton.mp m ▸ la) (fun b m => List.mem_singleton.mp m ▸ lc)
  have n1 : a ≠ s1.heap.objs.size := Nat.ne_of_lt la
  have n2 : c ≠ s1.heap.objs.size + 1 := Nat.ne_of_lt (Nat.lt_succ_of_lt lc)
  refine ⟨s1.heap.objs.size + 4, [s1.heap.objs.size + 4, s1.heap.objs.size + 2, s1.heap.objs.size + 3, s1.heap.objs.size, s1.heap.objs.size + 1], _, _, H1, rfl, I2, turn_zipA S n1 n2, ⟨hz, hI, ⟨_, _, hO⟩, newA_at g1, newA_at g2⟩, fun b hb => ?_, q⟩
  have f0 := fresh_at (H' := H1) I1 0
  simp only [List.mem_cons, List.not_mem_nil, or_false] at hb
  rcases hb with m | m | m | m | m
  · exact m ▸ fresh_at (H' := H1) I1 4
  · exact m ▸ fresh_at (H' := H1) I1 2
  · exact m ▸ fresh_at (H' := H1) I1 3
  · exact m ▸ f0
  · exact m ▸ fresh_at (H' := H1) I1 1
/-- enumerate(v), a list or a tuple -/
def iEnumX (K : PySem.W.Frag) (ta : TA) : TI := fun σ H R => ta σ H fun vs H1 => ∃ (b : Bool) (a : Addr) (xs : List V), vs = [.ref a] ∧ SqA K b H1 a xs ∧ R (ItEA K b a xs) H1
theorem pi_enumX (hg : Gl X "enumerate") (hm : X.mg "enumerate" = none) (ha : PA X [e] ta) (hs : starEach [e] X.env = [(false, eval e X.env)] := by rfl) : PI X (.Tuple elts kk tpos) (.Call (.Name "enumerate" p) [e] [] pos) (iEnumX X.K ta) := by
  refine ⟨fun pins s σ H R I h => Call_ (ld_blt I hg hm boot_enumerate (PyProof.Rows.callWith_type1 (thn (ha.run pos pins s σ H _ I h) fun us s1 hh => ?_) hs rfl))⟩
  obtain ⟨vs, H1, I1, r, b, a, xs, ev, q1, q⟩ := hh
  subst ev
  obtain ⟨u, rfl, ra⟩ := r.one
  cases ra
  obtain ⟨ws, r1, p1⟩ := q1.raw I1
  obtain ⟨oa, ea⟩ := p1.live
  have la : a < s1.heap.objs.size := Heap.lt_size ea
  refine enum_beginsA (beginsA b a ws.toArray) p1 fun h' he g1 hk => wpAny_pyIter_enum he ?_
  have I2 : Inv X pins σ H1 { s1 with heap := h' } := I1.kept (t' := s1.toks) hk
  refine ⟨s1.heap.objs.size + 1, [s1.heap.objs.size + 1, s1.heap.objs.size], _, _, H1, rfl, I2, turn_enumA (Nat.succ_ne_self _) (Nat.ne_of_lt la) (Nat.ne_of_gt (Nat.lt_succ_of_lt la)), ⟨⟨_, he⟩, newA_at g1⟩, fun c hb => ?_, q⟩
  have f0 := fresh_at (H' := H1) I1 0
  simp only [List.mem_cons, List.not_mem_nil, or_false] at hb
  rcases hb with m | m
  · exact m ▸ fresh_at (H' := H1) I1 1
  · exact m ▸ f0
end
end Ru

set_option Elab.async false
set_option linter.all false
set_option maxRecDepth 100000
set_option maxHeartbeats 4000000
namespace Ru
open PySem PySem.Spec PyProof.Rows L2
/-! ### zip of three rows -/
def YTri (xs ys zs : Nat → Option V) : Nat → Hp → V → Hp → Prop := fun i H v H' => ∃ T x y z, v = .ref T ∧ H T = none ∧ H' = upd H T (.tup [x, y, z]) ∧ xs i = some x ∧ ys i = some y ∧ zs i = some z
def ItZ3 (K : PySem.W.Frag) (b1 b2 b3 : Bool) (a c e : Addr) (xs ys zs : List V) : It :=
  ⟨fun i H => i < min (min xs.length ys.length) zs.length ∧ SqA K b1 H a xs ∧ SqA K b2 H c ys ∧ SqA K b3 H e zs, YTri (fun i => xs[i]?) (fun i => ys[i]?) (fun i => zs[i]?), fun i H => i = min (min xs.length ys.length) zs.length ∧ SqA K b1 H a xs ∧ SqA K b2 H c ys ∧ SqA K b3 H e zs⟩
theorem walk_zip3 {K : PySem.W.Frag} {b1 b2 b3 : Bool} {a c e : Addr} {xs ys zs : List V} : Walk (ItZ3 K b1 b2 b3 a c e xs ys zs) (min (min xs.length ys.length) zs.length) (fun H => SqA K b1 H a xs ∧ SqA K b2 H c ys ∧ SqA K b3 H e zs) (YTri (fun i => xs[i]?) (fun i => ys[i]?) (fun i => zs[i]?)) :=
  ⟨fun _ _ h g => ⟨h, g⟩, fun _ g => ⟨rfl, g⟩, fun _ _ _ _ _ _ y => y⟩
section
variable {P : Program} {w : World} {K : PySem.W.Frag} {elts : List Expr} {kk : Nat} {tpos : Pos}
theorem tri_in {X : Cx} {pins : List (Addr × Obj)} {σ : L2.St} {H : Hp} {s : Shared} {h' : Heap} {tk : Nat} {ch : List Addr} {T : Addr} {x y z : V} {u v o : Value} (I : Inv X pins σ H s) (k : ∀ b o, b ∉ ch → s.heap.get? b = some o → h'.get? b = some o)
    (hf : ∀ b ∈ ch, FpOk X pins H b) (hT : s.heap.objs.size ≤ T) (rx : RelV x u) (ry : RelV y v) (rz : RelV z o) (p : h'.IsTuple T #[u, v, o]) : Inv X pins σ (upd H T (.tup [x, y, z])) { s with heap := h', toks := tk } :=
  I.turnedNew (ch := ch) k hf hT ⟨by show 3 ≤ sizeLine; decide, [u, v, o], .cons rx (.cons ry (.cons rz .nil)), p⟩
theorem turn_zip3 {b1 b2 b3 : Bool} {a c e z TI TO i1 i2 i3 : Addr} {xs ys zs : List V} (S : ZipSep3 z TI TO i1 i2 i3 [i1, a] [i2, c] [i3, e]) (n1 : a ≠ i1) (n2 : c ≠ i2) (n3 : e ≠ i3) :
    Turn P w K (.Tuple elts kk tpos) (ItZ3 K b1 b2 b3 a c e xs ys zs) [z, TI, TO, i1, i2, i3] z
      (fun i h => IsZip h z TI TO .none ∧ IsTupOf3 h TI (.ref i1) (.ref i2) (.ref i3) ∧ (∃ p q r, IsTupOf3 h TO p q r) ∧ AtA b1 h i1 a i ∧ AtA b2 h i2 c i ∧ AtA b3 h i3 e i) where
  mem := List.mem_cons_self
  obj := fun i h st b hb => by
    obtain ⟨hz, hI, ⟨p, q, r, hO⟩, h1, h2, h3⟩ := st
    rcases List.mem_cons.mp hb with e | hb
    · exact e ▸ ⟨_, hz, fun v q => nomatch q⟩
    rcases List.mem_cons.mp hb with e | hb
    · exact e ▸ ⟨_, hI, fun v q => nomatch q⟩
    rcases List.mem_cons.mp hb with e | hb
    · exact e ▸ ⟨_, hO, fun v q => nomatch q⟩
    rcases List.mem_cons.mp hb with e | hb
    · exact e ▸ h1.cell
    rcases List.mem_cons.mp hb with e | hb
    · exact e ▸ h2.cell
    · exact List.mem_singleton.mp hb ▸ h3.cell
  keep := fun i h h' st k => by
    obtain ⟨hz, hI, ⟨p, q, r, hO⟩, h1, h2, h3⟩ := st
    exact ⟨k z (by simp) _ hz, k TI (by simp) _ hI, ⟨p, q, r, k TO (by simp) _ hO⟩, h1.keep (k i1 (by simp)), h2.keep (k i2 (by simp)), h3.keep (k i3 (by simp))⟩
  item := by
    intro X eP ew eK hc i pins s σ H E I hf st hg
    subst eP ew eK
    obtain ⟨hz, hI, hO, h1, h2, h3⟩ := st
    obtain ⟨hi, q1, q2, q3⟩ := hg
    obtain ⟨us, r1, p1⟩ := q1.raw I
    obtain ⟨vs, r2, p2⟩ := q2.raw I
    obtain ⟨ws, r3, p3⟩ := q3.raw I
    have hh : X.A.in1.handled = none := I.ok.hd hc
    have l1 := r1.length
    have l2 := r2.length
    have l3 := r3.length
    refine (GoesN.zip3 (elts := elts) (x1 := kk) (pos := tpos) (A := X.A) S (drawsA b1 hh i1 a n1 us.toArray) (drawsA b2 hh i2 c n2 vs.toArray) (drawsA b3 hh i3 e n3 ws.toArray)).goes i s (fun u s2 => ∃ x H', Inv X pins σ H' s2 ∧ RelV x u ∧ YTri (fun i => xs[i]?) (fun i => ys[i]?) (fun i => zs[i]?) i H x H' ∧
      (IsZip s2.heap z TI TO .none ∧ IsTupOf3 s2.heap TI (.ref i1) (.ref i2) (.ref i3) ∧ (∃ p q r, IsTupOf3 s2.heap TO p q r) ∧ AtA b1 s2.heap i1 a (i + 1) ∧ AtA b2 s2.heap i2 c (i + 1) ∧ AtA b3 s2.heap i3 e (i + 1)) ∧ ∀ b ∈ [z, TI, TO, i1, i2, i3], H' b = none) E
      (by simp only [List.size_toArray]; omega) ⟨hz, hI, hO, ⟨h1, p1⟩, ⟨h2, p2⟩, ⟨h3, p3⟩⟩ fun v h' tk hY st' hk _ => ?_
    obtain ⟨T, u, v', o', rfl, hT, hu, hv, ho, pT⟩ := hY
    obtain ⟨z', I', O', ⟨h1', _⟩, ⟨h2', _⟩, ⟨h3', _⟩⟩ := st'
    have j1 : i < xs.length := by omega
    have j2 : i < ys.length := by omega
    have j3 : i < zs.length := by omega
    obtain ⟨u0, e1, ru⟩ := r1.get (List.getElem?_eq_getElem j1)
    obtain ⟨v0, e2, rv⟩ := r2.get (List.getElem?_eq_getElem j2)
    obtain ⟨o0, e3, ro⟩ := r3.get (List.getElem?_eq_getElem j3)
    have f1 : us[i]? = some u := by simpa using hu
    have f2 : vs[i]? = some v' := by simpa using hv
    have f3 : ws[i]? = some o' := by simpa using ho
    rw [e1] at f1
    rw [e2] at f2
    rw [e3] at f3
    cases f1
    cases f2
    cases f3
    refine ⟨.ref T, _, tri_in I (ch := [z, TI, TO, i1, i2, i3]) (fun b o nb e => hk b o (fun m => nb ?_) e) hf hT ru rv ro pT, rfl, ⟨T, _, _, _, rfl, I.hok.fresh hT, rfl, List.getElem?_eq_getElem j1, List.getElem?_eq_getElem j2, List.getElem?_eq_getElem j3⟩, ⟨z', I', O', h1', h2', h3'⟩, fun b hb => ?_⟩
    · simp only [List.mem_cons, List.not_mem_nil, or_false] at m ⊢
      rcases m with m | m | m | m | m <;> simp [m]
    · have lt : b < s.heap.objs.size := by
        obtain ⟨p, q, r, hO⟩ := hO
        obtain ⟨o1, e1, _⟩ := h1.cell
        obtain ⟨o2, e2, _⟩ := h2.cell
        obtain ⟨o3, e3, _⟩ := h3.cell
        simp only [List.mem_cons, List.not_mem_nil, or_false] at hb
        rcases hb with m | m | m | m | m | m
        · exact m ▸ Heap.lt_size hz
        · exact m ▸ Heap.lt_size hI
        · exact m ▸ Heap.lt_size hO
        · exact m ▸ Heap.lt_size e1
        · exact m ▸ Heap.lt_size e2
        · exact m ▸ Heap.lt_size e3
      rw [upd_ne (Nat.ne_of_lt (Nat.lt_of_lt_of_le lt hT))]
      exact (hf b hb).1
  done := by
    intro X eP ew eK hc i pins s σ H E I hf st hg
    subst eP ew eK
    obtain ⟨hz, hI, hO, h1, h2, h3⟩ := st
    obtain ⟨hi, q1, q2, q3⟩ := hg
    obtain ⟨us, r1, p1⟩ := q1.raw I
    obtain ⟨vs, r2, p2⟩ := q2.raw I
    obtain ⟨ws, r3, p3⟩ := q3.raw I
    have hh : X.A.in1.handled = none := I.ok.hd hc
    have l1 := r1.length
    have l2 := r2.length
    have l3 := r3.length
    have en : i = min (min us.toArray.size vs.toArray.size) ws.toArray.size := by
      simp only [List.size_toArray]
      omega
    subst en
    refine (GoesN.zip3 (elts := elts) (x1 := kk) (pos := tpos) (A := X.A) S (drawsA b1 hh i1 a n1 us.toArray) (drawsA b2 hh i2 c n2 vs.toArray) (drawsA b3 hh i3 e n3 ws.toArray)).stops s (fun s2 => Inv X pins σ H s2) E ⟨hz, hI, hO, ⟨h1, p1⟩, ⟨h2, p2⟩, ⟨h3, p3⟩⟩ fun h' tk hk _ => ?_
    refine I.turnedL (ch := [z, TI, TO, i1, i2, i3]) (fun b o nb e => hk b o (fun m => nb ?_) e) hf
    simp only [List.mem_cons, List.not_mem_nil, or_false] at m ⊢
    rcases m with m | m | m | m | m <;> simp [m]
  self := fun A i s Q E st h => wpAny_pyIter_zip st.1 h
end
section
variable {X : Cx} {e e2 e3 : Expr} {ta : TA} {p pos tpos : Pos} {elts : List Expr} {kk : Nat}
def iZip3 (K : PySem.W.Frag) (ta : TA) : TI := fun σ H R => ta σ H fun vs H1 => ∃ (b1 b2 b3 : Bool) (a c d : Addr) (xs ys zs : List V), vs = [.ref a, .ref c, .ref d] ∧ SqA K b1 H1 a xs ∧ SqA K b2 H1 c ys ∧ SqA K b3 H1 d zs ∧ R (ItZ3 K b1 b2 b3 a c d xs ys zs) H1
theorem pi_zip3 (hg : Gl X "zip") (hm : X.mg "zip" = none) (ha : PA X [e, e2, e3] ta) (hs : starEach [e, e2, e3] X.env = (false, eval e X.env) :: starEach [e2, e3] X.env := by rfl) (hpl : (backTo pos (starEach [e2, e3] X.env)).any (·.1) = false := by rfl) :
    PI X (.Tuple elts kk tpos) (.Call (.Name "zip" p) [e, e2, e3] [] pos) (iZip3 X.K ta) := by
  refine ⟨fun pins s σ H R I h => Call_ (ld_blt I hg hm PyProof.Rows.boot_zip (PyProof.Rows.callWith_type1 (thn (ha.run pos pins s σ H _ I h) fun us s1 hh => ?_) hs hpl))⟩
  obtain ⟨vs, H1, I1, r, b1, b2, b3, a, c, d, xs, ys, zs, ev, q1, q2, q3, q⟩ := hh
  subst ev
  cases r with
  | cons ra r =>
  obtain ⟨v, o, rfl, rc, rd⟩ := vals2 r
  cases ra
  cases (show v = Value.ref c from rc)
  cases (show o = Value.ref d from rd)
  obtain ⟨ws, r1, p1⟩ := q1.raw I1
  obtain ⟨us, r2, p2⟩ := q2.raw I1
  obtain ⟨ts, r3, p3⟩ := q3.raw I1
  obtain ⟨oa, ea⟩ := p1.live
  obtain ⟨oc, ec⟩ := p2.live
  obtain ⟨od, ed⟩ := p3.live
  have la : a < s1.heap.objs.size := Heap.lt_size ea
  have lc : c < s1.heap.objs.size := Heap.lt_size ec
  have ld : d < s1.heap.objs.size := Heap.lt_size ed
  refine zip_begins3 (beginsA b1 a ws.toArray) (beginsA b2 c us.toArray) (beginsA b3 d ts.toArray) p1 p2 p3 fun h' hz hI hO g1 g2 g3 _ hk => wpAny_pyIter_zip hz ?_
  have I2 : Inv X pins σ H1 { s1 with heap := h' } := I1.kept (t' := s1.toks) hk
  have S := zip_sep3 (N := s1.heap.objs.size) (fp1 := [a]) (fp2 := [c]) (fp3 := [d]) (fun b m => List.mem_singleton.mp m ▸ la) (fun b m => List.mem_singleton.mp m ▸ lc) (fun b m => List.mem_singleton.mp m ▸ ld)
  have n1 : a ≠ s1.heap.objs.size := Nat.ne_of_lt la
  have n2 : c ≠ s1.heap.objs.size + 1 := Nat.ne_of_lt (Nat.lt_succ_of_lt lc)
  have n3 : d ≠ s1.heap.objs.size + 2 := Nat.ne_of_lt (Nat.lt_of_lt_of_le ld (Nat.le_add_right _ _))
  refine ⟨s1.heap.objs.size + 5, [s1.heap.objs.size + 5, s1.heap.objs.size + 3, s1.heap.objs.size + 4, s1.heap.objs.size, s1.heap.objs.size + 1, s1.heap.objs.size + 2], _, _, H1, rfl, I2, turn_zip3 S n1 n2 n3, ⟨hz, hI, ⟨_, _, _, hO⟩, newA_at g1, newA_at g2, newA_at g3⟩, fun b hb => ?_, q⟩
  have f0 := fresh_at (H' := H1) I1 0
  simp only [List.mem_cons, List.not_mem_nil, or_false] at hb
  rcases hb with m | m | m | m | m | m
  · exact m ▸ fresh_at (H' := H1) I1 5
  · exact m ▸ fresh_at (H' := H1) I1 3
  · exact m ▸ fresh_at (H' := H1) I1 4
  · exact m ▸ f0
  · exact m ▸ fresh_at (H' := H1) I1 1
  · exact m ▸ fresh_at (H' := H1) I1 2
end
end Ru

set_option Elab.async false
set_option linter.all false
set_option maxRecDepth 100000
set_option maxHeartbeats 4000000
namespace Ru
open PySem PySem.Spec PyProof.Rows L2
/-! ### the order of tuples, also of tuples that hold tuples -/
def cmpI (a b : Int) : Ordering := if a < b then .lt else if a = b then .eq else .gt
def cmpN (a b : Nat) : Ordering := if a < b then .lt else if a = b then .eq else .gt
def lexG {α : Type} (c : α → α → Ordering) : List α → List α → Ordering
  | [], [] => .eq
  | [], _ :: _ => .lt
  | _ :: _, [] => .gt
  | a :: xs, b :: ys => match c a b with
    | .eq => lexG c xs ys
    | .lt => .lt
    | .gt => .gt
inductive Ko | lt | le | gt | ge
def Ko.op : Ko → CmpOp
  | .lt => .Lt
  | .le => .LtE
  | .gt => .Gt
  | .ge => .GtE
def Ko.ans : Ko → Ordering → Bool
  | .lt, .lt => true
  | .le, .lt => true
  | .le, .eq => true
  | .gt, .gt => true
  | .ge, .gt => true
  | .ge, .eq => true
  | _, _ => false
theorem rc_int (k : Ko) {A : Around} {s : Shared} (a b : Int) (t u : Tok) : Ob.RcOp k.op A s (.int a t) (.int b u) (k.ans (cmpI a b)) := by
  have h : a < b ∨ a = b ∨ b < a := by omega
  cases k with
  | lt =>
    have e : Ko.lt.ans (cmpI a b) = decide (a < b) := by
      unfold cmpI
      rcases h with h | h | h
      · rw [if_pos h, decide_eq_true h]; rfl
      · rw [if_neg (by omega), if_pos h, decide_eq_false (by omega)]; rfl
      · rw [if_neg (by omega), if_neg (by omega), decide_eq_false (by omega)]; rfl
    rw [e]
    exact Ob.RcOp.lt_int a b t u
  | gt =>
    have e : Ko.gt.ans (cmpI a b) = decide (b < a) := by
      unfold cmpI
      rcases h with h | h | h
      · rw [if_pos h, decide_eq_false (by omega)]; rfl
      · rw [if_neg (by omega), if_pos h, decide_eq_false (by omega)]; rfl
      · rw [if_neg (by omega), if_neg (by omega), decide_eq_true h]; rfl
    rw [e]
    exact Ob.RcOp.gt_int a b t u
  | le =>
    have e : Ko.le.ans (cmpI a b) = decide (a ≤ b) := by
      unfold cmpI
      rcases h with h | h | h
      · rw [if_pos h, decide_eq_true (by omega)]; rfl
      · rw [if_neg (by omega), if_pos h, decide_eq_true (by omega)]; rfl
      · rw [if_neg (by omega), if_neg (by omega), decide_eq_false (by omega)]; rfl
    rw [e]
    exact Ob.RcOp.le_int a b t u
  | ge =>
    have e : Ko.ge.ans (cmpI a b) = decide (b ≤ a) := by
      unfold cmpI
      rcases h with h | h | h
      · rw [if_pos h, decide_eq_false (by omega)]; rfl
      · rw [if_neg (by omega), if_pos h, decide_eq_true (by omega)]; rfl
      · rw [if_neg (by omega), if_neg (by omega), decide_eq_true (by omega)]; rfl
    rw [e]
    exact Ob.RcOp.ge_int a b t u
section
variable {α : Type} {c : α → α → Ordering}
/-- whether the two at place i are alike -/
def eAt (c : α → α → Ordering) (xs ys : List α) (i : Nat) : Bool := match xs[i]?, ys[i]? with
  | some x, some y => decide (c x y = .eq)
  | _, _ => true
def rAt (k : Ko) (c : α → α → Ordering) (xs ys : List α) (i : Nat) : Bool := match xs[i]?, ys[i]? with
  | some x, some y => k.ans (c x y)
  | _, _ => true
theorem lexAt_lex (k : Ko) (xs ys : List α) : ∀ (n i : Nat), i + n = min xs.length ys.length →
    Ob.lexAt (eAt c xs ys) (rAt k c xs ys) (k.ans (cmpN xs.length ys.length)) i n = k.ans (lexG c (xs.drop i) (ys.drop i))
  | 0, i, h => by
    rw [Ob.lexAt_zero]
    have e : cmpN xs.length ys.length = lexG c (xs.drop i) (ys.drop i) := by
      unfold cmpN
      by_cases h1 : xs.length < ys.length
      · rw [if_pos h1, List.drop_of_length_le (by omega : xs.length ≤ i), List.drop_eq_getElem_cons (by omega : i < ys.length)]
        rfl
      · by_cases h2 : xs.length = ys.length
        · rw [if_neg h1, if_pos h2, List.drop_of_length_le (by omega : xs.length ≤ i), List.drop_of_length_le (by omega : ys.length ≤ i)]
          rfl
        · rw [if_neg h1, if_neg h2, List.drop_of_length_le (by omega : ys.length ≤ i), List.drop_eq_getElem_cons (by omega : i < xs.length)]
          rfl
    rw [e]
  | n + 1, i, h => by
    have h1 : i < xs.length := by omega
    have h2 : i < ys.length := by omega
    rw [Ob.lexAt_succ, List.drop_eq_getElem_cons h1, List.drop_eq_getElem_cons h2]
    have ee : eAt c xs ys i = decide (c xs[i] ys[i] = .eq) := by
      unfold eAt
      rw [List.getElem?_eq_getElem h1, List.getElem?_eq_getElem h2]
    have er : rAt k c xs ys i = k.ans (c xs[i] ys[i]) := by
      unfold rAt
      rw [List.getElem?_eq_getElem h1, List.getElem?_eq_getElem h2]
    have ih := lexAt_lex k xs ys n (i + 1) (by omega)
    rw [ee, er]
    cases q : c xs[i] ys[i] with
    | eq =>
      rw [if_pos (by decide), ih]
      show _ = k.ans (match c xs[i] ys[i] with | .eq => lexG c (xs.drop (i + 1)) (ys.drop (i + 1)) | .lt => .lt | .gt => .gt)
      rw [q]
    | lt =>
      rw [if_neg (by decide)]
      show _ = k.ans (match c xs[i] ys[i] with | .eq => lexG c (xs.drop (i + 1)) (ys.drop (i + 1)) | .lt => .lt | .gt => .gt)
      rw [q]
    | gt =>
      rw [if_neg (by decide)]
      show _ = k.ans (match c xs[i] ys[i] with | .eq => lexG c (xs.drop (i + 1)) (ys.drop (i + 1)) | .lt => .lt | .gt => .gt)
      rw [q]
theorem rc_lex (k : Ko) {A : Around} {s : Shared} {l b : Addr} {us vs : Array Value} {xs ys : List α} (hl : s.heap.IsTuple l us) (hb : s.heap.IsTuple b vs) (hu : A.units < cLine) (n1 : us.size = xs.length) (n2 : vs.size = ys.length)
    (he : ∀ j (h1 : j < us.size) (h2 : j < vs.size) x y, xs[j]? = some x → ys[j]? = some y → SeqAt.EqAt A.in1 s us[j] vs[j] (decide (c x y = .eq)))
    (hr : ∀ j (h1 : j < us.size) (h2 : j < vs.size) x y, xs[j]? = some x → ys[j]? = some y → Ob.RcOp k.op A.in1 s us[j] vs[j] (k.ans (c x y))) :
    Ob.RcOp k.op A s (.ref l) (.ref b) (k.ans (lexG c xs ys)) := by
  have e0 : ∀ j (h1 : j < us.size) (h2 : j < vs.size), SeqAt.EqAt A.in1 s us[j] vs[j] (eAt c xs ys j) := fun j h1 h2 => by
    have g1 : xs[j]? = some xs[j] := List.getElem?_eq_getElem (by omega)
    have g2 : ys[j]? = some ys[j] := List.getElem?_eq_getElem (by omega)
    have z := he j h1 h2 _ _ g1 g2
    unfold eAt
    rw [g1, g2]
    exact z
  have r0 : ∀ j (h1 : j < us.size) (h2 : j < vs.size), eAt c xs ys j = false → Ob.RcOp k.op A.in1 s us[j] vs[j] (rAt k c xs ys j) := fun j h1 h2 _ => by
    have g1 : xs[j]? = some xs[j] := List.getElem?_eq_getElem (by omega)
    have g2 : ys[j]? = some ys[j] := List.getElem?_eq_getElem (by omega)
    have z := hr j h1 h2 _ _ g1 g2
    unfold rAt
    rw [g1, g2]
    exact z
  have ez := lexAt_lex (c := c) k xs ys (min us.size vs.size) 0 (by omega)
  rw [List.drop_zero, List.drop_zero] at ez
  rw [← ez, ← n1, ← n2]
  have tri : us.size < vs.size ∨ us.size = vs.size ∨ vs.size < us.size := by omega
  cases k with
  | lt =>
    have q : Ko.lt.ans (cmpN us.size vs.size) = decide (us.size < vs.size) := by
      unfold cmpN
      rcases tri with h | h | h
      · rw [if_pos h, decide_eq_true h]; rfl
      · rw [if_neg (by omega), if_pos h, decide_eq_false (by omega)]; rfl
      · rw [if_neg (by omega), if_neg (by omega), decide_eq_false (by omega)]; rfl
    rw [q]
    exact Ob.RcOp.tuples_lt hl hb hu e0 r0
  | le =>
    have q : Ko.le.ans (cmpN us.size vs.size) = decide (us.size ≤ vs.size) := by
      unfold cmpN
      rcases tri with h | h | h
      · rw [if_pos h, decide_eq_true (by omega)]; rfl
      · rw [if_neg (by omega), if_pos h, decide_eq_true (by omega)]; rfl
      · rw [if_neg (by omega), if_neg (by omega), decide_eq_false (by omega)]; rfl
    rw [q]
    exact Ob.RcOp.tuples_le hl hb hu e0 r0
  | gt =>
    have q : Ko.gt.ans (cmpN us.size vs.size) = decide (us.size > vs.size) := by
      unfold cmpN
      rcases tri with h | h | h
      · rw [if_pos h, decide_eq_false (by omega)]; rfl
      · rw [if_neg (by omega), if_pos h, decide_eq_false (by omega)]; rfl
      · rw [if_neg (by omega), if_neg (by omega), decide_eq_true (by omega)]; rfl
    rw [q]
    exact Ob.RcOp.tuples_gt hl hb hu e0 r0
  | ge =>
    have q : Ko.ge.ans (cmpN us.size vs.size) = decide (us.size ≥ vs.size) := by
      unfold cmpN
      rcases tri with h | h | h
      · rw [if_pos h, decide_eq_false (by omega)]; rfl
      · rw [if_neg (by omega), if_pos h, decide_eq_true (by omega)]; rfl
      · rw [if_neg (by omega), if_neg (by omega), decide_eq_true (by omega)]; rfl
    rw [q]
    exact Ob.RcOp.tuples_ge hl hb hu e0 r0
end
end Ru

set_option Elab.async false
set_option linter.all false
set_option maxRecDepth 100000
set_option maxHeartbeats 4000000
namespace Ru
open PySem PySem.Spec PyProof.Rows L2
/-! ### rows of ints and pairs of such -/
theorem cmpI_eq {a b : Int} : decide (cmpI a b = .eq) = (a == b) := by
  unfold cmpI
  by_cases h : a = b
  · rw [if_neg (by omega), if_pos h, h]
    simp
  · by_cases h2 : a < b
    · rw [if_pos h2, decide_eq_false (by decide)]
      simp [h]
    · rw [if_neg h2, if_neg h, decide_eq_false (by decide)]
      simp [h]
theorem lexG_eq : ∀ {xs ys : List Int}, lexG cmpI xs ys = .eq ↔ xs = ys
  | [], [] => by simp [lexG]
  | [], _ :: _ => by simp [lexG]
  | _ :: _, [] => by simp [lexG]
  | a :: xs, b :: ys => by
    have ih := lexG_eq (xs := xs) (ys := ys)
    have h : a < b ∨ a = b ∨ b < a := by omega
    unfold lexG cmpI
    rcases h with h | h | h
    · rw [if_pos h]
      simp only [reduceCtorEq, List.cons.injEq, false_iff, not_and]
      omega
    · rw [if_neg (by omega), if_pos h]
      simp only [List.cons.injEq, h, true_and]
      exact ih
    · rw [if_neg (by omega), if_neg (by omega)]
      simp only [reduceCtorEq, List.cons.injEq, false_iff, not_and]
      omega
theorem eqv_ints : ∀ {xs ys : List Int}, PyData.eqvAll (intsD xs) (intsD ys) = decide (xs = ys)
  | [], [] => by simp [intsD, PyData.eqvAll]
  | [], _ :: _ => by simp [intsD, PyData.eqvAll]
  | _ :: _, [] => by simp [intsD, PyData.eqvAll]
  | a :: xs, b :: ys => by
    have ih := eqv_ints (xs := xs) (ys := ys)
    unfold intsD at ih
    simp only [intsD, List.map_cons, PyData.eqvAll, PyData.eqv, ih, List.cons.injEq]
    by_cases h : a = b <;> simp [h]
theorem intsAre_of : ∀ {ns : List Int} {us : List Value}, Vals (ns.map V.int) us → ∀ (j : Nat) (h : j < us.toArray.size) (n : Int), ns[j]? = some n → ∃ t, us.toArray[j] = .int n t := fun {ns us} r j h n e => by
  have e1 : (ns.map V.int)[j]? = some (.int n) := by rw [List.getElem?_map, e]; rfl
  obtain ⟨u, hu, ru⟩ := r.get e1
  obtain ⟨t, q⟩ := (show ∃ t, u = Value.int n t from ru)
  refine ⟨t, ?_⟩
  have h' : j < us.length := by simpa using h
  rw [List.getElem?_eq_getElem h'] at hu
  rw [List.getElem_toArray, Option.some.inj hu, q]
section
variable {X : Cx} {pins : List (Addr × Obj)} {σ : L2.St} {H : Hp} {s : Shared}
theorem rc_ints (k : Ko) {A : Around} (I : Inv X pins σ H s) {a b : Addr} {ns ms : List Int} (ha : SqT X.K H a (ns.map V.int)) (hb : SqT X.K H b (ms.map V.int)) (hu : A.units < cLine) : Ob.RcOp k.op A s (.ref a) (.ref b) (k.ans (lexG cmpI ns ms)) := by
  obtain ⟨us, r1, p1, _⟩ := I.tuple ha
  obtain ⟨vs, r2, p2, _⟩ := I.tuple hb
  have l1 := r1.length
  have l2 := r2.length
  rw [List.length_map] at l1 l2
  refine rc_lex k p1 p2 hu (by rw [List.size_toArray]; exact l1.symm) (by rw [List.size_toArray]; exact l2.symm) (fun j h1 h2 x y e1 e2 => ?_) (fun j h1 h2 x y e1 e2 => ?_)
  · obtain ⟨t, q1⟩ := intsAre_of r1 j h1 x e1
    obtain ⟨u, q2⟩ := intsAre_of r2 j h2 y e2
    rw [q1, q2, cmpI_eq]
    exact SeqAt.EqAt.int_int x t y u
  · obtain ⟨t, q1⟩ := intsAre_of r1 j h1 x e1
    obtain ⟨u, q2⟩ := intsAre_of r2 j h2 y e2
    rw [q1, q2]
    exact rc_int k x y t u
theorem eq_ints {A : Around} (I : Inv X pins σ H s) {a b : Addr} {ns ms : List Int} (ha : SqT X.K H a (ns.map V.int)) (hb : SqT X.K H b (ms.map V.int)) (hu : A.units + 64 < cLine) : SeqAt.EqAt A s (.ref a) (.ref b) (decide (lexG cmpI ns ms = .eq)) := by
  obtain ⟨as, r1⟩ := Dp.reads I (.tuple (intsD ns)) (.ref a) (.ref a) (.tup ha dp_ints) rfl
  obtain ⟨bs, r2⟩ := Dp.reads I (.tuple (intsD ms)) (.ref b) (.ref b) (.tup hb dp_ints) rfl
  have z := SeqAt.eqAt_reads _ _ A s _ _ as bs r1 r2 (by rw [PyData.canLay0]; exact lay_ints) (by rw [PyData.canLay0]; exact lay_ints) (by
    have d1 := deep_ints (cells := ns)
    rw [PyData.depth, PyData.depth]
    omega)
  have e : PyData.eqv (.tuple (intsD ns)) (.tuple (intsD ms)) = decide (lexG cmpI ns ms = .eq) := by
    rw [PyData.eqv, eqv_ints]
    exact decide_eq_decide.mpr lexG_eq.symm
  rw [← e]
  exact z
end
end Ru

set_option Elab.async false
set_option linter.all false
set_option maxRecDepth 100000
set_option maxHeartbeats 4000000
namespace Ru
open PySem PySem.Spec PyProof.Rows L2
/-- what stands in such a pair -/
inductive Kx | i (n : Int) | t (ns : List Int)
def cK : Kx → Kx → Ordering
  | .i a, .i b => cmpI a b
  | .t xs, .t ys => lexG cmpI xs ys
  | .i _, .t _ => .lt
  | .t _, .i _ => .gt
def likeK : Kx → Kx → Bool
  | .i _, .i _ => true
  | .t _, .t _ => true
  | _, _ => false
def KxV (K : PySem.W.Frag) (H : Hp) : V → Kx → Prop
  | .int n, .i m => n = m
  | .ref a, .t ns => SqT K H a (ns.map V.int)
  | _, _ => False
theorem KxV_i {K : PySem.W.Frag} {H : Hp} {v : V} {n : Int} (h : KxV K H v (.i n)) : v = .int n := by
  cases v with
  | int m => exact congrArg V.int h
  | _ => exact h.elim
theorem KxV_t {K : PySem.W.Frag} {H : Hp} {v : V} {ns : List Int} (h : KxV K H v (.t ns)) : ∃ a, v = .ref a ∧ SqT K H a (ns.map V.int) := by
  cases v with
  | ref a => exact ⟨a, rfl, h⟩
  | _ => exact h.elim
def likeAll : List Kx → List Kx → Bool
  | k :: ks, l :: ls => likeK k l && likeAll ks ls
  | _, _ => true
theorem likeAll_at : ∀ {ks ls : List Kx} {j : Nat} {p q : Kx}, likeAll ks ls = true → ks[j]? = some p → ls[j]? = some q → likeK p q = true
  | [], _, _, _, _, _, e, _ => by cases e
  | _ :: _, [], _, _, _, _, _, e => by cases e
  | k :: ks, l :: ls, 0, _, _, h, e1, e2 => by
    cases e1
    cases e2
    exact (Bool.and_eq_true_iff.mp h).1
  | k :: ks, l :: ls, j + 1, _, _, h, e1, e2 => likeAll_at (j := j) (Bool.and_eq_true_iff.mp h).2 e1 e2
inductive KxAll (K : PySem.W.Frag) (H : Hp) : List V → List Kx → Prop
  | nil : KxAll K H [] []
  | cons {v : V} {vs : List V} {k : Kx} {ks : List Kx} : KxV K H v k → KxAll K H vs ks → KxAll K H (v :: vs) (k :: ks)
theorem KxAll.length {K : PySem.W.Frag} {H : Hp} : ∀ {vs : List V} {ks : List Kx}, KxAll K H vs ks → vs.length = ks.length
  | _, _, .nil => rfl
  | _, _, .cons _ r => congrArg Nat.succ r.length
theorem KxAll.at {K : PySem.W.Frag} {H : Hp} : ∀ {vs : List V} {ks : List Kx} {j : Nat} {k : Kx}, KxAll K H vs ks → ks[j]? = some k → ∃ v, vs[j]? = some v ∧ KxV K H v k
  | _, _, _, _, .nil, e => by cases e
  | _, _, 0, _, .cons a _, e => by
    cases e
    exact ⟨_, rfl, a⟩
  | _, _, j + 1, _, .cons _ r, e => r.at (j := j) e
/-- t op u of two tuples of ints and tuples of ints -/
def rOrd (k : Ko) (K : PySem.W.Frag) : R2 := fun x y H Q => ∃ (a b : Addr) (xs ys : List V) (ks ls : List Kx), x = .ref a ∧ y = .ref b ∧ SqT K H a xs ∧ SqT K H b ys ∧ KxAll K H xs ks ∧ KxAll K H ys ls ∧ likeAll ks ls = true ∧ Q (.bl (k.ans (lexG cK ks ls))) H
theorem op_ord (k : Ko) {X : Cx} (hu : X.A.units + 66 < cLine) : OpR X (compareOp k.op) (rOrd k X.K) := by
  intro pins s σ H x y v u Q I rx ry h
  obtain ⟨a, b, xs, ys, ks, ls, rfl, rfl, ha, hb, q1, q2, lk, q⟩ := h
  cases rx
  cases ry
  obtain ⟨us, r1, p1, _⟩ := I.tuple ha
  obtain ⟨vs, r2, p2, _⟩ := I.tuple hb
  have l1 := r1.length
  have l2 := r2.length
  have m1 := q1.length
  have m2 := q2.length
  have hu1 : X.A.in1.units + 64 < cLine := by
    show X.A.units + 1 + 64 < cLine
    omega
  have it : ∀ j (h1 : j < us.toArray.size) (h2 : j < vs.toArray.size) p q, ks[j]? = some p → ls[j]? = some q → (∃ n m t u, p = .i n ∧ q = .i m ∧ us.toArray[j] = .int n t ∧ vs.toArray[j] = .int m u) ∨
      (∃ c d ns ms, p = .t ns ∧ q = .t ms ∧ us.toArray[j] = .ref c ∧ vs.toArray[j] = .ref d ∧ SqT X.K H c (ns.map V.int) ∧ SqT X.K H d (ms.map V.int)) := fun j h1 h2 p q e1 e2 => by
    have z := likeAll_at lk e1 e2
    obtain ⟨v1, g1, k1⟩ := q1.at e1
    obtain ⟨v2, g2, k2⟩ := q2.at e2
    obtain ⟨w1, f1, t1⟩ := r1.get g1
    obtain ⟨w2, f2, t2⟩ := r2.get g2
    have h1' : j < us.length := by simpa using h1
    have h2' : j < vs.length := by simpa using h2
    rw [List.getElem?_eq_getElem h1'] at f1
    rw [List.getElem?_eq_getElem h2'] at f2
    have f1 := Option.some.inj f1
    have f2 := Option.some.inj f2
    cases p with
    | i n =>
      cases q with
      | t ms => cases z
      | i m =>
        have ea := KxV_i k1
        have eb := KxV_i k2
        subst ea eb
        obtain ⟨t, e3⟩ := (show ∃ t, w1 = Value.int n t from t1)
        obtain ⟨u, e4⟩ := (show ∃ t, w2 = Value.int m t from t2)
        exact .inl ⟨_, _, t, u, rfl, rfl, by rw [List.getElem_toArray, f1, e3], by rw [List.getElem_toArray, f2, e4]⟩
    | t ns =>
      cases q with
      | i m => cases z
      | t ms =>
        obtain ⟨c, ec, k1⟩ := KxV_t k1
        obtain ⟨d, ed, k2⟩ := KxV_t k2
        subst ec ed
        have e3 : w1 = Value.ref c := t1
        have e4 : w2 = Value.ref d := t2
        exact .inr ⟨c, d, ns, ms, rfl, rfl, by rw [List.getElem_toArray, f1, e3], by rw [List.getElem_toArray, f2, e4], k1, k2⟩
  have hop : compareOp k.op (.ref a) (.ref b) = richCompare k.op (.ref a) (.ref b) := by cases k <;> rfl
  rw [hop]
  refine rc_lex (c := cK) (xs := ks) (ys := ls) k p1 p2 (by omega) (by rw [List.size_toArray]; omega) (by rw [List.size_toArray]; omega) (fun j h1 h2 p q e1 e2 => ?_) (fun j h1 h2 p q e1 e2 => ?_) X.prog X.w X.xe _ ⟨.bl _, H, I, rfl, q⟩
  · rcases it j h1 h2 p q e1 e2 with ⟨n, m, t, u, rfl, rfl, f1, f2⟩ | ⟨c, d, ns, ms, rfl, rfl, f1, f2, s1, s2⟩
    · rw [f1, f2]
      show SeqAt.EqAt _ _ _ _ (decide (cmpI n m = .eq))
      rw [cmpI_eq]
      exact SeqAt.EqAt.int_int n t m u
    · rw [f1, f2]
      exact eq_ints I s1 s2 hu1
  · rcases it j h1 h2 p q e1 e2 with ⟨n, m, t, u, rfl, rfl, f1, f2⟩ | ⟨c, d, ns, ms, rfl, rfl, f1, f2, s1, s2⟩
    · rw [f1, f2]
      exact rc_int k n m t u
    · rw [f1, f2]
      exact rc_ints k I s1 s2 (by omega)
end Ru

set_option Elab.async false
set_option linter.all false
set_option maxRecDepth 100000
set_option maxHeartbeats 4000000
namespace Ru
open PySem PySem.Spec PyProof.Rows L2
/-! ### operators that an own class defines, on its plain instances -/
section
variable {X : Cx} {CX : CXT} {C g : Addr} {fd : FuncData} {ps : List Str} {n : Nat} {sp : Sp} {E : XK}
def rOwnI (C : Addr) (sp : Sp) (E : XK) : R2 := fun x y H Q => ∃ (a b dx dy : Addr) (fs gs : List (Str × V)), x = .ref a ∧ y = .ref b ∧ H a = some (.ins C dx fs) ∧ H b = some (.ins C dy gs) ∧ sp [.ref a, .ref b] H Q E
theorem op_ownI {op : CmpOp} (hop : ∀ a b, compareOp op a b = richCompare op a b) (hs : PySem.W.findIn X.K (.ref C) (cmpInfo op).2.1 = some (some (.ref g))) (hf : PySem.W.isFn X.K (.ref g) = true)
    (F : FnOk X.prog X.w X.K X.mg X.base CX n g fd ps sp) (hr : Room n X.A) (hb : Binds X.K fd ps []) (hx : Passes CX X E) : OpR X (compareOp op) (rOwnI C sp E) := by
  intro pins s σ H x y v u Q I rx ry h
  obtain ⟨a, b, dx, dy, fs, gs, rfl, rfl, ha, hb', q⟩ := h
  cases rx
  cases ry
  obtain ⟨_, J1, _⟩ := ins_get I.hok ha
  obtain ⟨_, J2, _⟩ := ins_get I.hok hb'
  obtain ⟨_, J1, _⟩ := J1.look
  obtain ⟨_, J2, _⟩ := J2.look
  obtain ⟨m, fr⟩ := I.fr
  rw [hop]
  refine PySem.W.cmp_K (op := op) (tb := .ref C) hr.units0 fr I.ok.mod.kin J1 J2.type (by simp [PySem.W.notFirst]) hs hf ?_
  refine wpAny_mono (run_fn (us := [.ref a, .ref b]) (vs := [.ref a, .ref b]) F hr hb .nil hx I (.cons rfl (.cons rfl .nil)) q) (fun z s' e => ?_) fun _ _ e => e
  obtain ⟨t, H', I', rt, qt⟩ := e
  exact SlX.cmpback rt ⟨t, H', I', rt, qt⟩
/-- ~x -/
def rInvI (C : Addr) (sp : Sp) (E : XK) : V → Hp → VK → Prop := fun x H Q => ∃ (a dx : Addr) (fs : List (Str × V)), x = .ref a ∧ H a = some (.ins C dx fs) ∧ sp [.ref a] H Q E
theorem un_invI (hs : PySem.W.findIn X.K (.ref C) "__invert__" = some (some (.ref g))) (hf : PySem.W.isFn X.K (.ref g) = true) (F : FnOk X.prog X.w X.K X.mg X.base CX n g fd ps sp) (hr : Room n X.A) (hb : Binds X.K fd ps []) (hx : Passes CX X E) :
    UnR X (unaryOp .Invert) (rInvI C sp E) := by
  intro pins s σ H x v Q I rx h
  obtain ⟨a, dx, fs, rfl, ha, q⟩ := h
  cases rx
  obtain ⟨_, J1, _⟩ := ins_get I.hok ha
  obtain ⟨_, J1, _⟩ := J1.look
  obtain ⟨m, fr⟩ := I.fr
  exact PySem.W.ksp_inv fr I.ok.mod.kin J1 hs hf (run_fn (us := [.ref a]) (vs := [.ref a]) F hr hb .nil hx I (.cons rfl .nil) q)
end
section
variable {prog : Program} {w : World} {A : Around} {E : Value → Shared → Prop} {s : Shared} {K : PySem.W.Frag} {x C f : Addr} {ox : Obj} {od : Option Obj} {b : Value}
/-- object's != asks the own == -/
theorem ne_entry {Q : Fin → Shared → Prop} (hu : A.units < cLine) (X : K.In s.heap) (I : PySem.W.InstAt s.heap x ox C od) (hs : PySem.W.findIn K (.ref C) "__eq__" = some (some (.ref f))) (hf : PySem.W.isFn K (.ref f) = true)
    (h : wpAny (model prog w) A (call (.ref f) [.ref x, b]) (fun v s' => ∃ k, v = .bool k ∧ Q (.done (.ret (.bool (!k)))) s') E s) : wpAny (model prog w) A (Builtin.«object.__ne__» ⟨[.ref x, b], []⟩) Q E s := by
  unfold Builtin.«object.__ne__»
  repeat (first
    | with_reducible refine wpAny_cRoomFor hu ?_
    | (refine wpAny_bind (m := callSpecialIfBound? (.ref x) (Str.ofString "__eq__") [b]) (PySem.W.ifBound_K X I hs hf (wpAny_mono h (fun r s' e => ?_) fun _ _ e => e))
       obtain ⟨k, rfl, q⟩ := e
       repeat (first | exact q | exact wpAny_pure q | exact wpAny_truthy_bool q | (refine wpAny_bind (m := truthy (.bool _)) (wpAny_truthy_bool ?_)) | wp_step))
    | wp_step)
theorem ne_call {Q : Value → Shared → Prop} (hu : A.units + 1 < cLine) (X : K.In s.heap) (I : PySem.W.InstAt s.heap x ox C od) (hm : PySem.W.mroIn K C (.type "object") = some true) (hs : PySem.W.findIn K (.ref C) "__eq__" = some (some (.ref f)))
    (hf : PySem.W.isFn K (.ref f) = true) (h : wpAny (model prog w) A.in1 (call (.ref f) [.ref x, b]) (fun v s' => ∃ k, v = .bool k ∧ Q (.bool (!k)) s') E s) : wpAny (model prog w) A (call (.builtin "object.__ne__") [.ref x, b]) Q E s :=
  wpAny_call (codeAny_call_builtin F.cmp_object.ne.plain F.cmpEntry_ne (PySem.W.check_slot F.cmpKind_ne F.cmpSplit_ne (I.type.andThen (PySem.W.looks_mroIn X hm)) (F.cmpArgs_ne _ _)
    (ne_entry (A := A.in1) hu X I hs hf h)))
theorem ne_bound {M : Model} {args : List Value} {Q : Option Value → Shared → Prop} (X : K.In s.heap) (I : PySem.W.InstAt s.heap x ox C od) (hs : PySem.W.findIn K (.ref C) "__ne__" = some (some (.builtin "object.__ne__")))
    (h : wpAny M A (call (.builtin "object.__ne__") (.ref x :: args)) (fun v => Q (some v)) E s) : wpAny M A (callSpecialIfBound? (.ref x) "__ne__" args) Q E s := by
  have go : wpAny M A (call (.builtin "object.__ne__") ([.ref x] ++ args) >>= fun v => pure (some v)) Q E s := wpAny_bind (wpAny_mono h (fun _ _ q => wpAny_pure q) fun _ _ q => q)
  simp only [callSpecialIfBound?, bindSpecialIfBound?]
  refine wpAny_holding (wpAny_bind (wpAny_bind (wpAny_bind (I.type.here ((PySem.W.looks_findIn X hs).here ?_)))))
  refine wpAny_bind (wpAny_askSetting (wpAny_ite ?_))
  split
  · exact wpAny_bind (wpAny_of_eq (F.cmp_object.ne.bind _) (wpAny_pure go))
  · exact wpAny_tryCatch (wpAny_bind (wpAny_of_eq (F.cmp_object.ne.bind _) (wpAny_pure go)))
end
section
variable {X : Cx} {CX : CXT} {C g : Addr} {fd : FuncData} {ps : List Str} {n : Nat} {sp : Sp} {E : XK}
/-- x != y where the class has an own == alone: its answer, turned -/
def rNeI (C : Addr) (sp : Sp) (E : XK) : R2 := fun x y H Q => ∃ (a b dx dy : Addr) (fs gs : List (Str × V)), x = .ref a ∧ y = .ref b ∧ H a = some (.ins C dx fs) ∧ H b = some (.ins C dy gs) ∧ sp [.ref a, .ref b] H (fun z H' => ∃ k, z = .bl k ∧ Q (.bl (!k)) H') E
theorem op_neI (hs : PySem.W.findIn X.K (.ref C) "__eq__" = some (some (.ref g))) (hn : PySem.W.findIn X.K (.ref C) "__ne__" = some (some (.builtin "object.__ne__"))) (hm : PySem.W.mroIn X.K C (.type "object") = some true) (hf : PySem.W.isFn X.K (.ref g) = true)
    (F : FnOk X.prog X.w X.K X.mg X.base CX n g fd ps sp) (hr : Room (n + 1) X.A) (hb : Binds X.K fd ps []) (hx : Passes CX X E) : OpR X (compareOp .NotEq) (rNeI C sp E) := by
  intro pins s σ H x y v u Q I rx ry h
  obtain ⟨a, b, dx, dy, fs, gs, rfl, rfl, ha, hb', q⟩ := h
  cases rx
  cases ry
  obtain ⟨_, J1, _⟩ := ins_get I.hok ha
  obtain ⟨_, J2, _⟩ := ins_get I.hok hb'
  obtain ⟨_, J1, _⟩ := J1.look
  obtain ⟨_, J2, _⟩ := J2.look
  have r2 : Vals [V.ref a, V.ref b] [Value.ref a, Value.ref b] := .cons rfl (.cons rfl .nil)
  have hl := F.len _ _ _ _ q
  have run : codeAny (model X.prog X.w) X.A.in1 (.call (.ref g) ⟨[.ref a, .ref b], []⟩) (fun r s' => match r with | .ok (.ret v) => ∃ k, v = .bool k ∧ EP X pins σ Q (.bool (!k)) s' | .ok _ => False | .error e => X.xe e s') s := by
    have bd := hb s [.ref a, .ref b] I.kIn (by rw [List.append_nil]; exact hl)
    rw [List.append_nil] at bd
    refine codeAny_mono (F.run X.A.in1 X.stack s H ⟨[.ref a, .ref b], []⟩ [.ref a, .ref b] [.ref a, .ref b] _ E hr.in1 I.env0.in1 bd r2 q) fun r s' z => ?_
    cases r with
    | error e => exact hx pins σ H s e s' I z
    | ok fl =>
      cases fl with
      | ret w' =>
        obtain ⟨t, H', I', rt, k, ek, qk⟩ := I.after z
        subst ek
        cases (show w' = Value.bool k from rt)
        exact ⟨k, rfl, .bl (!k), H', I', rfl, qk⟩
      | next => exact False.elim z
      | brk => exact False.elim z
      | cont => exact False.elim z
  have u1 : X.A.units + 1 < cLine := by
    have z := hr.units0
    have z2 := hr.in1.units0
    exact z2
  have one : wpAny (model X.prog X.w) X.A (tryCompare (.ref a) "__ne__" (.ref b)) (fun r s' => ∃ t, r = some t ∧ EP X pins σ Q t s') X.xe s := by
    unfold tryCompare
    refine wpAny_bind (ne_bound I.kIn J1 hn (ne_call u1 I.kIn J1 hm hs hf (wpAny_call (codeAny_mono run fun r s' z => ?_))))
    cases r with
    | error e => exact z
    | ok fl =>
      cases fl with
      | ret t =>
        obtain ⟨k, ek, qk⟩ := z
        subst ek
        exact ⟨k, rfl, wpAny_pure ⟨_, rfl, qk⟩⟩
      | next => exact False.elim z
      | brk => exact False.elim z
      | cont => exact False.elim z
  show wpAny _ _ (richCompare .NotEq (.ref a) (.ref b)) _ _ _
  unfold richCompare
  simp only [oneThing_ref]
  refine wpAny_holding (wpAny_bind (wpAny_cRoomFor hr.units0 (wpAny_bind (J1.type.here (wpAny_bind (J2.type.here ?_))))))
  rw [if_neg (show ¬ (Value.ref C != Value.ref C) = true by simp)]
  refine wpAny_bind (wpAny_pure ?_)
  simp only [Bool.false_eq_true, if_false]
  refine wpAny_bind (wpAny_mono one (fun r s' z => ?_) fun _ _ e => e)
  obtain ⟨t, et, qt⟩ := z
  subst et
  exact wpAny_pure qt
end
end Ru

set_option Elab.async false
set_option linter.all false
set_option maxRecDepth 100000
set_option maxHeartbeats 4000000
namespace Ru
open PySem PySem.Spec PyProof.Rows L2
/-! ### two-sided operators that an own class defines, on its plain instances -/
/-- what the text must say so that an instance of C stands left of an int -/
structure BinI (K : PySem.W.Frag) (C : Addr) (nm : String) (g : Addr) : Prop where
  c : PySem.W.selfFirst K C = true
  s : PySem.W.findIn K (.ref C) (PySem.dunder nm) = some (some (.ref g))
  f : PySem.W.isFn K (.ref g) = true
  r : PySem.W.findIn K (.ref C) (dunderR nm) = some none
  h1 : ∃ fo, PySem.W.findIn K (.type "int") (PySem.dunder nm) = some fo
  h2 : ∃ ro, PySem.W.findIn K (.type "int") (dunderR nm) = some ro
  u : PySem.W.subIn K (.type "int") (.ref C) = some false
section
variable {prog : Program} {w : World} {A : Around} {E : Value → Shared → Prop} {s : Shared} {K : PySem.W.Frag} {x y C f : Addr} {ox oy : Obj} {od oe : Option Obj}
theorem binS_core {op : Operator} {Q : Value → Shared → Prop} (X : K.In s.heap) (I : PySem.W.InstAt s.heap x ox C od) (J : PySem.W.InstAt s.heap y oy C oe) (hc : PySem.W.selfFirst K C = true)
    (hs : PySem.W.findIn K (.ref C) (PySem.dunder op.info.2) = some (some (.ref f))) (hf : PySem.W.isFn K (.ref f) = true) (h : wpAny (model prog w) A (call (.ref f) [.ref x, .ref y]) (PySem.W.CmpBack Q) E s) : wpAny (model prog w) A (binaryOp op (.ref x) (.ref y)) Q E s := by
  obtain ⟨cd, rest, hcd, hm⟩ := PySem.W.ksp_first hc
  rcases hi : op.info with ⟨sym, nm'⟩
  rw [hi] at hs
  dsimp only at hs
  have one := PySem.W.ksp_try X I hs hf h
  obtain ⟨hh, g, d, tt, os⟩ := s
  have L1 : PySem.W.Looks (model prog w) hh (typeOf (.ref x)) (.ref C) := I.type
  have L2 : PySem.W.Looks (model prog w) hh (typeOf (.ref y)) (.ref C) := J.type
  have L3 : PySem.W.Looks (model prog w) hh (fillsNumberSlot (.ref C) nm') true := PySem.W.fills_K X hcd hm hs
  have he : (Value.ref C == Value.ref C) = true := by simp
  simp only [binaryOp, hi]
  refine wpAny_holding (wpAny_bind ?_)
  unfold binaryOp1
  refine wpAny_bind (L1.at (wpAny_bind (L2.at (wpAny_bind (L3.at ?_)))))
  simp only [he, if_true]
  ksp_lk
  refine wpAny_mono one (fun r s' hr' => ?_) fun _ _ e => e
  obtain ⟨v, rfl, hq⟩ := hr'
  ksp_lk
  exact hq
end
section
variable {X : Cx} {CX : CXT} {C g : Addr} {fd : FuncData} {ps : List Str} {n : Nat} {sp : Sp} {E : XK}
def rBinI (C : Addr) (sp : Sp) (E : XK) : R2 := fun x y H Q => ∃ (a dx : Addr) (fs : List (Str × V)) (i : Int), x = .ref a ∧ y = .int i ∧ H a = some (.ins C dx fs) ∧ sp [.ref a, .int i] H Q E
theorem op_binI {op : Operator} (B : BinI X.K C op.info.2 g) (F : FnOk X.prog X.w X.K X.mg X.base CX n g fd ps sp) (hr : Room n X.A) (hb : Binds X.K fd ps []) (hx : Passes CX X E) : OpR X (binaryOp op) (rBinI C sp E) := by
  intro pins s σ H x y v u Q I rx ry h
  obtain ⟨a, dx, fs, i, rfl, rfl, ha, q⟩ := h
  cases rx
  obtain ⟨t, rfl⟩ := ry
  obtain ⟨_, J1, _⟩ := ins_get I.hok ha
  obtain ⟨_, J1, _⟩ := J1.look
  obtain ⟨m, fr⟩ := I.fr
  obtain ⟨fo, h1⟩ := B.h1
  obtain ⟨ro, h2⟩ := B.h2
  refine PySem.W.ksp_binT (op := op) (T := "int") fr I.ok.mod.kin J1 rfl B.c B.s B.f B.r (Or.inl rfl) h1 h2 B.u ?_
  refine wpAny_mono (run_fn (us := [.ref a, .int i t]) (vs := [.ref a, .int i]) F hr hb .nil hx I (.cons rfl (.cons ⟨t, rfl⟩ .nil)) q) (fun z s' e => ?_) fun _ _ e => e
  obtain ⟨t, H', I', rt, qt⟩ := e
  exact SlX.cmpback rt ⟨t, H', I', rt, qt⟩
theorem op_binS {op : Operator} (hc : PySem.W.selfFirst X.K C = true) (hs : PySem.W.findIn X.K (.ref C) (PySem.dunder op.info.2) = some (some (.ref g))) (hf : PySem.W.isFn X.K (.ref g) = true) (F : FnOk X.prog X.w X.K X.mg X.base CX n g fd ps sp) (hr : Room n X.A)
    (hb : Binds X.K fd ps []) (hx : Passes CX X E) : OpR X (binaryOp op) (rOwnI C sp E) := by
  intro pins s σ H x y v u Q I rx ry h
  obtain ⟨a, b, dx, dy, fs, gs, rfl, rfl, ha, hb', q⟩ := h
  cases rx
  cases ry
  obtain ⟨_, J1, _⟩ := ins_get I.hok ha
  obtain ⟨_, J2, _⟩ := ins_get I.hok hb'
  obtain ⟨_, J1, _⟩ := J1.look
  obtain ⟨_, J2, _⟩ := J2.look
  exact binS_core I.kIn J1 J2 hc hs hf (wpAny_mono (run_fn (us := [.ref a, .ref b]) (vs := [.ref a, .ref b]) F hr hb .nil hx I (.cons rfl (.cons rfl .nil)) q) (fun z s' e => by
    obtain ⟨t, H', I', rt, qt⟩ := e
    exact SlX.cmpback rt ⟨t, H', I', rt, qt⟩) fun _ _ e => e)
theorem un_negI (hs : PySem.W.findIn X.K (.ref C) "__neg__" = some (some (.ref g))) (hf : PySem.W.isFn X.K (.ref g) = true) (F : FnOk X.prog X.w X.K X.mg X.base CX n g fd ps sp) (hr : Room n X.A) (hb : Binds X.K fd ps []) (hx : Passes CX X E) :
    UnR X (unaryOp .USub) (rInvI C sp E) := by
  intro pins s σ H x v Q I rx h
  obtain ⟨a, dx, fs, rfl, ha, q⟩ := h
  cases rx
  obtain ⟨_, J1, _⟩ := ins_get I.hok ha
  obtain ⟨_, J1, _⟩ := J1.look
  obtain ⟨m, fr⟩ := I.fr
  exact PySem.W.ksp_neg fr I.ok.mod.kin J1 hs hf (run_fn (us := [.ref a]) (vs := [.ref a]) F hr hb .nil hx I (.cons rfl .nil) q)
end
/-! ### bool(x) where the class has an own __bool__ -/
section
variable {prog : Program} {w : World} {A : Around} {E : Value → Shared → Prop} {s : Shared}
theorem bool_own {x : Value} {Q : Value → Shared → Prop} (h : wpAny (model prog w) A.in1.in1 (truthy x) (fun b s' => Q (.bool b) s') E s) : wpAny (model prog w) A (call (.type "bool") [x]) Q E s :=
  callType_newIn (S := fun B R t => wpAny (model prog w) B.in1 (truthy x) (fun b s' => R (.ok (.ret (.bool b))) s') (fun e s' => R (.error e) s') t) F.called_bool F.newNe_bool (F.typeCall_bool_1 x) (F.newCall_bool_1 x) (fun obj => F.args_object_init_2 obj x) F.entry_bool_new
    (.of_wp fun B R t ht => by
      obtain ⟨hp, g, d, tk, os⟩ := t
      have f1 := F.conv_sub_bool
      repeat (any_goals (first | assumption | (with_reducible refine wpAny_mono ht (fun b s' q => ?_) fun _ _ e => e) | wp_step))
      all_goals first | exact ⟨_, rfl, q⟩ | exact q | skip)
    (wpAny_mono h (fun b s' q => ⟨rfl, q⟩) fun _ _ e => e)
end
section
variable {X : Cx} {CX : CXT} {C g : Addr} {fd : FuncData} {ps : List Str} {n : Nat} {sp : Sp} {E : XK}
def rBoolI (C : Addr) (sp : Sp) (E : XK) : List V → Hp → VK → Prop := fun xs H Q => ∃ (a dx : Addr) (fs : List (Str × V)), xs = [.ref a] ∧ H a = some (.ins C dx fs) ∧ sp [.ref a] H (fun z H' => ∃ k, z = .bl k ∧ Q (.bl k) H') E
theorem call_boolI (hs : PySem.W.findIn X.K (.ref C) "__bool__" = some (some (.ref g))) (hf : PySem.W.isFn X.K (.ref g) = true) (F : FnOk X.prog X.w X.K X.mg X.base CX n g fd ps sp) (hr : Room (n + 2) X.A) (hb : Binds X.K fd ps []) (hx : Passes CX X E) : CallR X (.type "bool") (rBoolI C sp E) := by
  intro pins s σ H xs us Q I r h
  obtain ⟨a, dx, fs, rfl, ha, q⟩ := h
  obtain rfl := Vals.ref1 r
  obtain ⟨_, J1, _⟩ := ins_get I.hok ha
  obtain ⟨_, J1, _⟩ := J1.look
  obtain ⟨m, fr⟩ := I.fr
  have r2 : Vals [V.ref a] [Value.ref a] := .cons rfl .nil
  have hl := F.len _ _ _ _ q
  have run : codeAny (model X.prog X.w) X.A.in1.in1 (.call (.ref g) ⟨[.ref a], []⟩) (fun r s' => match r with | .ok (.ret v) => ∃ k, v = .bool k ∧ EP X pins σ Q (.bool k) s' | .ok _ => False | .error e => X.xe e s') s := by
    have bd := hb s [.ref a] I.kIn (by rw [List.append_nil]; exact hl)
    rw [List.append_nil] at bd
    refine codeAny_mono (F.run X.A.in1.in1 X.stack s H ⟨[.ref a], []⟩ [.ref a] [.ref a] _ E hr.in1.in1 I.env0.in1.in1 bd r2 q) fun r s' z => ?_
    cases r with
    | error e => exact hx pins σ H s e s' I z
    | ok fl =>
      cases fl with
      | ret w' =>
        obtain ⟨t, H', I', rt, k, ek, qk⟩ := I.after z
        subst ek
        cases (show w' = Value.bool k from rt)
        exact ⟨k, rfl, .bl k, H', I', rfl, qk⟩
      | next => exact False.elim z
      | brk => exact False.elim z
      | cont => exact False.elim z
  refine bool_own (PySem.W.truthy_K fr I.ok.mod.kin J1 hs hf (wpAny_call (codeAny_mono run fun r s' z => ?_)))
  cases r with
  | error e => exact z
  | ok fl =>
    cases fl with
    | ret t =>
      obtain ⟨k, ek, qk⟩ := z
      subst ek
      exact qk
    | next => exact False.elim z
    | brk => exact False.elim z
    | cont => exact False.elim z
end
/-! ### cls(e, ..), a local that holds a class -/
def tMakeL (i : Nat) (C : Addr) (sp : Sp) (E : XK) (t : TA) : TE := fun σ H Q => σ[i]? = some (some (.ref C)) ∧ t σ H fun vs H1 => ∀ x dx, H1 x = none → H1 dx = none → dx ≠ x →
  sp (.ref x :: (vs ++ [])) (upd (upd H1 dx (.own x)) x (.ins C dx [])) (fun v H2 => v = .non ∧ Q (.ref x) H2) E
theorem pe_makeL {X : Cx} {CX : CXT} {k i : Nat} {C f : Addr} {fd : FuncData} {ps : List Str} {sp : Sp} {E : XK} {x : Str} {p pos : Pos} {e : Expr} {es : List Expr} {t : TA} (M : Mk X.K C f) (F : FnOk X.prog X.w X.K X.mg X.base CX k f fd ps sp) (hr : Room (k + 1) X.A)
    (hN : X.N[i]? = some x) (hv : Vis X.env.scope x) (hb : Binds X.K fd ps []) (hx : Passes CX X E) (ha : PA X (e :: es) t) (hdb : (x == ("__debug__" : Str)) = false := by decide) (hcd : (x == ("__classdict__" : Str)) = false := by decide)
    (he : starEach (e :: es) X.env = (false, eval e X.env) :: starEach es X.env := by rfl) (hpl : (backTo pos (starEach es X.env)).any (·.1) = false := by rfl) : PE X (.Call (.Name x p) (e :: es) [] pos) (tMakeL i C sp E t) := by
  refine ⟨fun pins s σ H Q I h => ?_⟩
  obtain ⟨hs, ht⟩ := h
  refine wpAny_Call_Name_kw (thn ((pe_var (pos := p) hN hv hdb hcd).run pins s σ H (fun v H1 => v = .ref C ∧ H1 = H) I ⟨.ref C, hs, rfl, rfl⟩) fun u s1 ⟨v, H1, I1, r1, q1⟩ => ?_)
  obtain ⟨rfl, rfl⟩ := q1
  cases r1
  refine PySem.W.callWith_K (h₀ := X.base) I.ok.mod.kin M.kp (thn (ha.run pos pins s1 σ _ _ I1 ht) fun us s2 ⟨vs, H2, I2, r, q⟩ => ⟨I2.kIn, ?_⟩) he hpl
  exact run_make M F hr hb .nil hx I2 r q
end Ru

set_option Elab.async false
set_option linter.all false
set_option maxRecDepth 100000
set_option maxHeartbeats 4000000
namespace Ru
open PySem PySem.Spec PyProof.Rows L2
/-! ### digits, values and their order -/
/-- digits of these bases -/
def Dgs : List Int → List Int → Prop
  | [], [] => True
  | d :: ds, b :: bs => (0 ≤ d ∧ d < b) ∧ Dgs ds bs
  | _, _ => False
/-- the value of digits -/
def valD : List Int → List Int → Int
  | d :: ds, _ :: bs => d * prodL bs + valD ds bs
  | _, _ => 0
theorem Dgs.len : ∀ {ds bs : List Int}, Dgs ds bs → ds.length = bs.length
  | [], [], _ => rfl
  | _ :: _, _ :: _, h => congrArg Nat.succ h.2.len
  | [], _ :: _, h => h.elim
  | _ :: _, [], h => h.elim
theorem Dgs.at : ∀ {ds bs : List Int} {i : Nat} {d b : Int}, Dgs ds bs → ds[i]? = some d → bs[i]? = some b → 0 ≤ d ∧ d < b
  | [], [], _, _, _, _, e, _ => by cases e
  | _ :: _, _ :: _, 0, _, _, h, e1, e2 => by
    cases e1
    cases e2
    exact h.1
  | _ :: _, _ :: _, i + 1, _, _, h, e1, e2 => h.2.at (i := i) e1 e2
  | [], _ :: _, _, _, _, h, _, _ => h.elim
  | _ :: _, [], _, _, _, h, _, _ => h.elim
theorem dgs_of : ∀ {ds bs : List Int}, ds.length = bs.length → (∀ (i : Nat) (d b : Int), ds[i]? = some d → bs[i]? = some b → 0 ≤ d ∧ d < b) → Dgs ds bs
  | [], [], _, _ => trivial
  | _ :: _, _ :: _, h, k => ⟨k 0 _ _ rfl rfl, dgs_of (Nat.succ.inj h) fun i d b e1 e2 => k (i + 1) d b e1 e2⟩
  | [], _ :: _, h, _ => by cases h
  | _ :: _, [], h, _ => by cases h
theorem valD_range : ∀ {ds bs : List Int}, Dgs ds bs → 0 ≤ valD ds bs ∧ valD ds bs < prodL bs
  | [], [], _ => by decide
  | d :: ds, b :: bs, h => by
    obtain ⟨⟨h1, h2⟩, h3⟩ := h
    obtain ⟨h4, h5⟩ := valD_range h3
    show 0 ≤ d * prodL bs + valD ds bs ∧ d * prodL bs + valD ds bs < prodL bs * b
    have p : 0 < prodL bs := by omega
    have z1 : 0 ≤ d * prodL bs := Int.mul_nonneg h1 (Int.le_of_lt p)
    have z2 : d * prodL bs ≤ (b - 1) * prodL bs := Int.mul_le_mul_of_nonneg_right (by omega) (Int.le_of_lt p)
    have z3 : (b - 1) * prodL bs = prodL bs * b - prodL bs := by rw [Int.sub_mul, Int.one_mul, Int.mul_comm]
    omega
  | [], _ :: _, h => h.elim
  | _ :: _, [], h => h.elim
theorem cmpI_refl {a : Int} : cmpI a a = .eq := by
  unfold cmpI
  rw [if_neg (by omega), if_pos rfl]
theorem cmpI_lt {a b : Int} (h : a < b) : cmpI a b = .lt := by
  unfold cmpI
  rw [if_pos h]
theorem cmpI_gt {a b : Int} (h : b < a) : cmpI a b = .gt := by
  unfold cmpI
  rw [if_neg (by omega), if_neg (by omega)]
theorem cmpI_add {a b c : Int} : cmpI (c + a) (c + b) = cmpI a b := by
  rcases (by omega : a < b ∨ a = b ∨ b < a) with h | h | h
  · rw [cmpI_lt h, cmpI_lt (by omega)]
  · rw [h, cmpI_refl, cmpI_refl]
  · rw [cmpI_gt h, cmpI_gt (by omega)]
/-- the values lie as the digits do -/
theorem cmp_val : ∀ {ds es bs : List Int}, Dgs ds bs → Dgs es bs → cmpI (valD ds bs) (valD es bs) = lexG cmpI ds es
  | [], [], [], _, _ => cmpI_refl
  | d :: ds, e :: es, b :: bs, h, k => by
    obtain ⟨_, h3⟩ := h
    obtain ⟨_, k3⟩ := k
    obtain ⟨r1, r2⟩ := valD_range h3
    obtain ⟨r3, r4⟩ := valD_range k3
    have ih := cmp_val h3 k3
    show cmpI (d * prodL bs + valD ds bs) (e * prodL bs + valD es bs) = match cmpI d e with | .eq => lexG cmpI ds es | .lt => .lt | .gt => .gt
    have p : 0 < prodL bs := by omega
    rcases (by omega : d < e ∨ d = e ∨ e < d) with c | c | c
    · have z := Int.mul_le_mul_of_nonneg_right (show d + 1 ≤ e by omega) (Int.le_of_lt p)
      rw [Int.add_mul, Int.one_mul] at z
      rw [cmpI_lt c, cmpI_lt (by omega)]
    · rw [c, cmpI_refl, cmpI_add, ih]
    · have z := Int.mul_le_mul_of_nonneg_right (show e + 1 ≤ d by omega) (Int.le_of_lt p)
      rw [Int.add_mul, Int.one_mul] at z
      rw [cmpI_gt c, cmpI_gt (by omega)]
  | [], _ :: _, [], _, k => k.elim
  | _ :: _, _, [], h, _ => h.elim
  | [], _, _ :: _, h, _ => h.elim
  | _ :: _, [], _ :: _, _, k => k.elim
/-- each digit taken from the base less 1 -/
def invD : List Int → List Int → List Int
  | d :: ds, b :: bs => (b - 1 - d) :: invD ds bs
  | _, _ => []
theorem invD_dgs : ∀ {ds bs : List Int}, Dgs ds bs → Dgs (invD ds bs) bs
  | [], [], _ => trivial
  | d :: ds, b :: bs, h => ⟨by have := h.1; omega, invD_dgs h.2⟩
  | [], _ :: _, h => h.elim
  | _ :: _, [], h => h.elim
theorem invD_at : ∀ {ds bs : List Int} {i : Nat} {d b : Int}, ds[i]? = some d → bs[i]? = some b → (invD ds bs)[i]? = some (b - 1 - d)
  | d :: ds, b :: bs, 0, _, _, e1, e2 => by
    cases e1
    cases e2
    rfl
  | d :: ds, b :: bs, i + 1, _, _, e1, e2 => invD_at (ds := ds) (bs := bs) (i := i) e1 e2
  | [], _, _, _, _, e1, _ => by cases e1
  | _ :: _, [], _, _, _, _, e2 => by cases e2
/-- .. turns the order -/
theorem lex_inv : ∀ {ds es bs : List Int}, Dgs ds bs → Dgs es bs → lexG cmpI (invD es bs) (invD ds bs) = lexG cmpI ds es
  | [], [], [], _, _ => rfl
  | d :: ds, e :: es, b :: bs, h, k => by
    have ih := lex_inv h.2 k.2
    show (match cmpI (b - 1 - e) (b - 1 - d) with | .eq => lexG cmpI (invD es bs) (invD ds bs) | .lt => .lt | .gt => .gt) = match cmpI d e with | .eq => lexG cmpI ds es | .lt => .lt | .gt => .gt
    rcases (by omega : d < e ∨ d = e ∨ e < d) with c | c | c
    · rw [cmpI_lt c, cmpI_lt (by omega)]
    · rw [c, cmpI_refl, cmpI_refl, ih]
    · rw [cmpI_gt c, cmpI_gt (by omega)]
  | [], _ :: _, [], _, k => k.elim
  | _ :: _, _, [], h, _ => h.elim
  | [], _, _ :: _, h, _ => h.elim
  | _ :: _, [], _ :: _, _, k => k.elim
/-- how two numerals lie -/
def ordN (bs ds cs es : List Int) : Ordering := lexG cK [.t bs, .t ds] [.t cs, .t es]
theorem ord_val {bs ds cs es : List Int} (h : Dgs ds bs) (k : Dgs es cs) : lexG cK [.t bs, .i (valD ds bs)] [.t cs, .i (valD es cs)] = ordN bs ds cs es := by
  show (match lexG cmpI bs cs with | .eq => (match cmpI (valD ds bs) (valD es cs) with | .eq => Ordering.eq | .lt => .lt | .gt => .gt) | .lt => .lt | .gt => .gt) =
    (match lexG cmpI bs cs with | .eq => (match lexG cmpI ds es with | .eq => Ordering.eq | .lt => .lt | .gt => .gt) | .lt => .lt | .gt => .gt)
  cases e : lexG cmpI bs cs with
  | eq =>
    have q := lexG_eq.mp e
    subst q
    rw [cmp_val h k]
  | lt => rfl
  | gt => rfl
theorem val_inj {bs ds es : List Int} (h : Dgs ds bs) (k : Dgs es bs) (e : valD ds bs = valD es bs) : ds = es := by
  have z := cmp_val h k
  rw [e, cmpI_refl] at z
  exact lexG_eq.mp z.symm
/-- the value as the program sums it up -/
theorem valD_sum : ∀ {ds bs : List Int}, ds.length = bs.length → (List.zipWith (· * ·) ds (wts bs)).sum = valD ds bs
  | [], [], _ => by simp [valD]
  | d :: ds, b :: bs, h => by
    have e : wts (b :: bs) = prodL bs :: wts bs := by
      unfold wts
      rw [List.length_cons, List.range_succ_eq_map, List.map_cons, List.map_map]
      rfl
    rw [e, List.zipWith_cons_cons, List.sum_cons, valD_sum (Nat.succ.inj h)]
    rfl
  | [], _ :: _, h => by cases h
  | _ :: _, [], h => by cases h
theorem wts_len {bs : List Int} : (wts bs).length = bs.length := by
  unfold wts
  rw [List.length_map, List.length_range]
end Ru

set_option Elab.async false
set_option linter.all false
set_option maxRecDepth 100000
set_option maxHeartbeats 4000000
namespace Ru
open PySem PySem.Spec PyProof.Rows L2
/-! ### instances that hold digits, bases and their value -/
def flds (da ba : Addr) (z : Int) : List (Str × V) := [("digits", .ref da), ("bases", .ref ba), ("value", .int z)]
def NumAt (C : Addr) (H : Hp) (a : Addr) (ds bs : List Int) : Prop :=
  ∃ dx da ba, H a = some (.ins C dx (flds da ba (valD ds bs))) ∧ Rd H da (.tup (ds.map V.int)) ∧ Rd H ba (.tup (bs.map V.int))
theorem Same.rd {H H' : Hp} {a : Addr} {u : HO} (s : Same H H') (h : Rd H a u) : Rd H' a u := h.elim (fun q => .inl (s _ _ q)) fun ⟨o, q⟩ => .inr ⟨o, s _ _ q⟩
theorem NumAt.same {C : Addr} {H H' : Hp} {a : Addr} {ds bs : List Int} (s : Same H H') (h : NumAt C H a ds bs) : NumAt C H' a ds bs := by
  obtain ⟨dx, da, ba, h1, h2, h3⟩ := h
  exact ⟨dx, da, ba, s _ _ h1, Same.rd s h2, Same.rd s h3⟩
theorem NumAt.ki {C d : Addr} {H H' : Hp} {a : Addr} {ds bs : List Int} {xs : List V} (s : Ki d H H') (hd : H d = some (.lst xs)) (h : NumAt C H a ds bs) : NumAt C H' a ds bs := by
  obtain ⟨dx, da, ba, h1, h2, h3⟩ := h
  have off : ∀ {b : Addr} {ys : List V}, Rd H b (.tup ys) → b ≠ d := fun {b ys} q e => by
    subst e
    rcases q with q | ⟨o, q⟩ <;> rw [hd] at q <;> cases q
  refine ⟨dx, da, ba, s _ _ h1 (fun e => ?_) (fun _ z => by cases z), s.rd (off h2) (fun _ z => by cases z) h2, s.rd (off h3) (fun _ z => by cases z) h3⟩
  rw [e, hd] at h1
  cases h1
/-- what the text says of the class -/
structure NumK (K : PySem.W.Frag) (mg : Str → Option Value) (C : Addr) : Prop where
  gN : mg "Numeral" = some (.ref C)
  cl : Cls K C
  nD : NoAttr K C "digits"
  nB : NoAttr K C "bases"
  nV : NoAttr K C "value"
  ha : PySem.W.findIn K (.ref C) "__class__" = some (some (.builtin "object.__class__"))
  hn : PySem.W.specialIn K (.builtin "object.__class__") "__get__" = some (some (.builtin "getset_descriptor.__get__"))
  htk : PySem.W.takesIn K (.builtin "object.__class__") = some true
  hm : PySem.W.mroIn K C (.type "object") = some true
  kN : PySem.W.kitOne K (.ref C) (.ref C) = some true
section
variable {K : PySem.W.Frag} {mg : Str → Option Value} {C a : Addr} {H : Hp} {ds bs : List Int}
theorem NumK.ty (N : NumK K mg C) (h : NumAt C H a ds bs) : TyX K H (.ref a) (.ref C) := by
  obtain ⟨dx, da, ba, h1, _⟩ := h
  exact .base (.ins h1 N.cl N.ha N.hn N.htk N.hm)
end
/-! ### reading a row -/
theorem SqA.ix {X : Cx} {b : Bool} {H : Hp} {p : Addr} {xs : List V} {i : Int} {v : V} {Q : VK} (h : SqA X.K b H p xs) (e : atI xs i = some v) (q : Q v H) : rIx X.K (.ref p) (.int i) H Q := by
  cases b with
  | true => exact .inr (.inl ⟨p, xs, i, v, rfl, rfl, h, e, q⟩)
  | false => exact .inl ⟨p, xs, i, v, rfl, rfl, h, e, q⟩
/-- no digit is wrong -/
def spWrong (K : PySem.W.Frag) : Sp := fun vs H Q _ => ∃ (b1 b2 : Bool) (d b : Addr) (ds bs : List Int), vs = [.ref d, .ref b] ∧ SqA K b1 H d (ds.map V.int) ∧ SqA K b2 H b (bs.map V.int) ∧ Dgs ds bs ∧ ∀ H', Same H H' → Q .non H'
/-- a tracked row -/
def RdA (b : Bool) (H : Hp) (a : Addr) (xs : List V) : Prop := Rd H a (if b = true then .tup xs else .lst xs)
/-- a numeral is made at x -/
def spInit (K : PySem.W.Frag) (C : Addr) : Sp := fun vs H Q _ => ∃ (x dx d b : Addr) (b1 b2 : Bool) (ds bs : List Int), vs = [.ref x, .ref d, .ref b] ∧ H x = some (.ins C dx []) ∧ RdA b1 H d (ds.map V.int) ∧ RdA b2 H b (bs.map V.int) ∧ Bss bs ∧ Dgs ds bs ∧
  ∀ H', (∀ c o, H c = some o → c ≠ x → H' c = some o) → NumAt C H' x ds bs → Q .non H'
end Ru

set_option Elab.async false
set_option linter.all false
set_option maxRecDepth 100000
set_option maxHeartbeats 4000000
namespace Ru
open PySem PySem.Spec PyProof.Rows L2
theorem intsD_inj : ∀ {xs ys : List Int}, intsD xs = intsD ys → xs = ys
  | [], [], _ => rfl
  | [], _ :: _, h => by cases h
  | _ :: _, [], h => by cases h
  | x :: xs, y :: ys, h => by
    unfold intsD at h
    rw [List.map_cons, List.map_cons] at h
    injection h with h1 h2
    injection h1 with h1
    rw [h1, intsD_inj (xs := xs) (ys := ys) h2]
theorem passN {X : Cx} : Passes (L2.CX X.prog X.w) X E0 := fun _ _ _ _ _ _ _ ⟨_, _, _, _, _, _, _, _, _, _, _, _, e⟩ => e.elim
/-- the datum of a row of ints -/
def rowD : Bool → List Int → PyData
  | true, zs => .tuple (intsD zs)
  | false, zs => .list (intsD zs)
theorem rowD_seq {b : Bool} {zs : List Int} : seqD (rowD b zs) = true := by cases b <;> rfl
theorem rowD_len {b : Bool} {zs : List Int} : lenD (rowD b zs) = zs.length := by cases b <;> exact List.length_map _
theorem rowD_bss {b : Bool} {zs : List Int} (B : Bss zs) : basesD (rowD b zs) = true := by
  cases b with
  | true => exact (basesD_of B).2
  | false => exact (basesD_of B).1
theorem rowD_or {b : Bool} {zs : List Int} : rowD b zs = .list (intsD zs) ∨ rowD b zs = .tuple (intsD zs) := by
  cases b with
  | true => exact .inr rfl
  | false => exact .inl rfl
theorem rowD_long {b c : Bool} {ds bs : List Int} (B : Bss bs) (h : Dgs ds bs) : longD (rowD b ds) (rowD c bs) = true := by
  unfold longD
  rw [rowD_bss B, rowD_seq, rowD_len, rowD_len, decide_eq_true h.len]
  rfl
section
variable {K : PySem.W.Frag} {b : Bool} {H H' : Hp} {a d : Addr} {zs : List Int} {xs : List V}
theorem RdA.sq (h : RdA b H a xs) : SqA K b H a xs := by
  cases b with
  | true => exact Or.inl h
  | false => exact Or.inl h
theorem RdA.dq (h : RdA b H a (zs.map V.int)) (n : a ≠ d) : Dq K d H (.ref a) (rowD b zs) := by
  cases b with
  | true => exact .tup h n dq_ints
  | false => exact .lst (Or.inl h) n dq_ints
theorem RdA.same (s : Same H H') (h : RdA b H a xs) : RdA b H' a xs := Same.rd s h
theorem RdA.bt (s : Bt d H H') (n : a ≠ d) (h : RdA b H a xs) : RdA b H' a xs := s.rd n h
theorem RdA.ne_ins {C dx x : Addr} {fs : List (Str × V)} (hx : H x = some (.ins C dx fs)) (h : RdA b H a xs) : a ≠ x := fun e => by
  subst e
  rcases h with q | ⟨o, q⟩
  · rw [hx] at q
    cases b <;> cases q
  · rw [hx] at q
    cases q
theorem RdA.ne_new {x : Addr} (hx : H x = none) (h : RdA b H a xs) : a ≠ x := fun e => by
  subst e
  rcases h with q | ⟨o, q⟩ <;> rw [hx] at q <;> cases q
end
/-- tuple(e) of a row -/
def tTupA (te : TE) : TE := fun σ H Q => te σ H fun x H1 => ∃ (b : Bool) (a : Addr) (xs : List V), x = .ref a ∧ RdA b H1 a xs ∧ ∀ l H', Same H1 H' → Rd H' l (.tup xs) → Q (.ref l) H'
theorem pe_tupA {X : Cx} {e : Expr} {te : TE} {p pos : Pos} (g : Gl X "tuple") (m : X.mg "tuple" = none) (he : PE X e te) (hm : ∀ σ H (Q Q' : VK), (∀ v H', Q v H' → Q' v H') → te σ H Q → te σ H Q' := by intro _ _ _ _ f h; obtain ⟨v, e, q⟩ := h; exact ⟨v, e, f _ _ q⟩)
    (hs : starEach [e] X.env = (false, eval e X.env) :: starEach [] X.env := by rfl) : PE X (.Call (.Name "tuple" p) [e] [] pos) (tTupA te) :=
  weaken (pe_callTy call_tuple_of g m boot_tuple (pa_cons he pa_nil hs) (by decide) (by decide) hs (by rfl)) fun σ H Q h => hm σ H _ _ (fun v H1 q => by
    obtain ⟨b, a, xs, rfl, r, k⟩ := q
    cases b with
    | true => exact ⟨a, xs, rfl, .inr ⟨Or.inl r, k a H1 (Same.refl H1) r⟩⟩
    | false => exact ⟨a, xs, rfl, .inl ⟨Or.inl r, fun l hl => k l _ (upd_new hl) (.inl upd_same)⟩⟩) h
theorem Bt.same {d : Addr} {H H' H2 : Hp} (x : Bt d H H') (s : Same H' H2) : Bt d H H2 := x.trans (.of s)
/-- the next item of a list that a comprehension fills -/
theorem fill_next {H0 H : Hp} {D : Addr} {xs : List V} {y : V} (n : H0 D = none) (s : Same H0 H) : Same H0 (upd H D (.lst (xs ++ [y]))) := fun b o e => by
  rw [upd_ne (ne_of_none e n)]
  exact s b o e
theorem take_next {α β : Type} {f : α → β} {zs : List α} {i : Nat} {z : α} (h : zs[i]? = some z) : (zs.take i).map f ++ [f z] = (zs.take (i + 1)).map f := by
  rw [List.take_succ, h, List.map_append]
  rfl
end Ru

set_option Elab.async false
set_option linter.all false
set_option maxRecDepth 100000
set_option maxHeartbeats 4000000
namespace Ru
open PySem PySem.Spec PyProof.Rows L2
/-! ### what the operators of such instances promise -/
def spEqN (C : Addr) : Sp := fun vs H Q _ => ∃ (a b : Addr) (ds bs es cs : List Int), vs = [.ref a, .ref b] ∧ NumAt C H a ds bs ∧ NumAt C H b es cs ∧ Dgs ds bs ∧ Dgs es cs ∧ Bss bs ∧ Bss cs ∧ ∀ H', Same H H' → Q (.bl (decide (bs = cs) && decide (ds = es))) H'
def spOrdN (k : Ko) (C : Addr) : Sp := fun vs H Q _ => ∃ (a b : Addr) (ds bs es cs : List Int), vs = [.ref a, .ref b] ∧ NumAt C H a ds bs ∧ NumAt C H b es cs ∧ Dgs ds bs ∧ Dgs es cs ∧ ∀ H', Same H H' → Q (.bl (k.ans (ordN bs ds cs es))) H'
def spInvN (C : Addr) : Sp := fun vs H Q _ => ∃ (a : Addr) (ds bs : List Int), vs = [.ref a] ∧ NumAt C H a ds bs ∧ Dgs ds bs ∧ Bss bs ∧ ∀ r H', Same H H' → NumAt C H' r (invD ds bs) bs → Q (.ref r) H'
/-- Unlike, of U -/
def spLike (C U : Addr) : Sp := fun vs H Q E => ∃ (a b : Addr) (ds bs es cs : List Int), vs = [.ref a, .ref b] ∧ NumAt C H a ds bs ∧ NumAt C H b es cs ∧ Bss bs ∧ Bss cs ∧ (bs = cs → Q .non H) ∧ (bs ≠ cs → E (.ref U) none H)
/-- at which of the first n places two rows differ -/
def chgN (ds es : List Int) (n : Nat) : List Int := ((List.range n).filter fun j => !decide (ds[j]? = es[j]?)).map fun (j : Nat) => (j : Int)
theorem chg_same {ds es : List Int} {n : Nat} (h : ds[n]? = es[n]?) : chgN ds es (n + 1) = chgN ds es n := by
  unfold chgN
  rw [List.range_succ, List.filter_append, List.map_append, List.filter_cons_of_neg (by rw [decide_eq_true h]; decide), List.filter_nil]
  simp
theorem chg_other {ds es : List Int} {n : Nat} (h : ds[n]? ≠ es[n]?) : chgN ds es (n + 1) = chgN ds es n ++ [(n : Int)] := by
  unfold chgN
  rw [List.range_succ, List.filter_append, List.map_append, List.filter_cons_of_pos (by rw [decide_eq_false h]; decide), List.filter_nil]
  rfl
theorem chg_len {ds es : List Int} {n : Nat} : (chgN ds es n).length ≤ n := by
  unfold chgN
  rw [List.length_map]
  have h := List.length_filter_le (fun j => !decide (ds[j]? = es[j]?)) (List.range n)
  rw [List.length_range] at h
  exact h
def fstV : List Int → V
  | [] => .non
  | z :: _ => .int z
def spChg (C U : Addr) : Sp := fun vs H Q E => ∃ (a b : Addr) (ds bs es cs : List Int), vs = [.ref a, .ref b] ∧ NumAt C H a ds bs ∧ NumAt C H b es cs ∧ Bss bs ∧ Bss cs ∧ Dgs ds bs ∧ Dgs es cs ∧
  (bs = cs → ∀ l H', Same H H' → H l = none → H' l = some (.lst ((chgN ds es ds.length).map V.int)) → Q (.ref l) H') ∧ (bs ≠ cs → E (.ref U) none H)
def spFst (C U : Addr) : Sp := fun vs H Q E => ∃ (a b : Addr) (ds bs es cs : List Int), vs = [.ref a, .ref b] ∧ NumAt C H a ds bs ∧ NumAt C H b es cs ∧ Bss bs ∧ Bss cs ∧ Dgs ds bs ∧ Dgs es cs ∧
  (bs = cs → ∀ H', Same H H' → Q (fstV (chgN ds es ds.length)) H') ∧ (bs ≠ cs → E (.ref U) none H)
/-! ### pairs as data -/
def pairD (bs : List Int) (z : Int) : PyData := .tuple [.tuple (intsD bs), .int z]
theorem shaped_row {cells : List Int} : SeqAt.shaped (.tuple (intsD cells)) = true := by
  have h1 := deep_ints (cells := cells)
  unfold SeqAt.shaped
  rw [Bool.and_eq_true]
  refine ⟨by rw [PyData.canLay0]; exact lay_ints, decide_eq_true ?_⟩
  rw [PyData.depth]
  omega
theorem shaped_pair {bs : List Int} {z : Int} : SeqAt.shaped (pairD bs z) = true := by
  have h1 := deep_ints (cells := bs)
  have h2 := lay_ints (cells := bs)
  unfold SeqAt.shaped pairD
  rw [Bool.and_eq_true]
  refine ⟨?_, decide_eq_true ?_⟩
  · simp only [PyData.canLay0, PyData.canLayAll0, h2, Bool.and_self]
  · simp only [PyData.depth, PyData.depthAll]
    omega
theorem eqv_pair {bs cs : List Int} {y z : Int} : PyData.eqv (pairD bs y) (pairD cs z) = (decide (bs = cs) && decide (y = z)) := by
  unfold pairD
  simp only [PyData.eqv, PyData.eqvAll, eqv_ints, Bool.and_true]
  congr 1
theorem eqv_row {xs ys : List Int} : PyData.eqv (.tuple (intsD xs)) (.tuple (intsD ys)) = decide (xs = ys) := by
  rw [PyData.eqv, eqv_ints]
theorem eqv_lst {xs ys : List Int} : PyData.eqv (.list (intsD xs)) (.list (intsD ys)) = decide (xs = ys) := by
  rw [PyData.eqv, eqv_ints]
/-! ### methods of an own class -/
structure CdM (P : Program) (w : World) (K : PySem.W.Frag) (mg : Str → Option Value) (base : Heap) (CX : CXT) (k : Nat) (C : Addr) (m : Str) (ps : List Str) (sp : Sp) : Prop where
  ex : ∃ (f : Addr) (fd : FuncData), FnOk P w K mg base CX k f fd ps sp ∧ PySem.W.findIn K (.ref C) m = some (some (.ref f)) ∧ PySem.W.isFn K (.ref f) = true ∧ PySem.W.keepIn K (.ref f) = true ∧ Binds K fd ps []
section
variable {X : Cx} {CX : CXT} {k : Nat} {C : Addr} {m : Str} {ps : List Str} {sp : Sp} {E : XK} {apos pos : Pos} {o e : Expr} {es : List Expr} {ta : TE} {t : TA}
/-- o.m(e, ..) -/
theorem pe_cm {pl : Sem Bool} (M : CdM X.prog X.w X.K X.mg X.base CX k C m ps sp) (c : Cls X.K C) (he : PE X o ta) (hr : Room k X.A) (hx : Passes CX X E) (ha : PA X (e :: es) t)
    (hst : starEach (e :: es) X.env = (false, eval e X.env) :: starEach es X.env := by rfl) (hpl : (backTo pos (starEach es X.env)).any (·.1) = false := by rfl)
    (ht : eval (.Call (.Attribute o m apos) (e :: es) [] pos) X.env = (do
      let ov ← eval o X.env
      standAt apos.atName
      let (f, first) ← holding [ov] (getMethod ov m pl)
      callWith pos f first (backTo pos (starEach (e :: es) X.env)) (backToKw pos (keywordEach [] X.env))) := by rfl) :
    PE X (.Call (.Attribute o m apos) (e :: es) [] pos) (tMeth C m sp [] E ta t) := by
  obtain ⟨f, fd, F, a, b, kp, bd⟩ := M.ex
  exact pe_meth (pl := pl) he c ⟨a, b, kp⟩ F hr bd .nil hx ha hst hpl ht
theorem op_cm {op : CmpOp} (hop : ∀ a b, compareOp op a b = richCompare op a b) (M : CdM X.prog X.w X.K X.mg X.base CX k C (cmpInfo op).2.1 ps sp) (hr : Room k X.A) (hx : Passes CX X E) : OpR X (compareOp op) (rOwnI C sp E) := by
  obtain ⟨f, fd, F, a, b, _, bd⟩ := M.ex
  exact op_ownI hop a b F hr bd hx
theorem op_cmNe (M : CdM X.prog X.w X.K X.mg X.base CX k C "__eq__" ps sp) (hn : PySem.W.findIn X.K (.ref C) "__ne__" = some (some (.builtin "object.__ne__"))) (hm : PySem.W.mroIn X.K C (.type "object") = some true) (hr : Room (k + 1) X.A) (hx : Passes CX X E) :
    OpR X (compareOp .NotEq) (rNeI C sp E) := by
  obtain ⟨f, fd, F, a, b, _, bd⟩ := M.ex
  exact op_neI a hn hm b F hr bd hx
theorem un_cm (M : CdM X.prog X.w X.K X.mg X.base CX k C "__invert__" ps sp) (hr : Room k X.A) (hx : Passes CX X E) : UnR X (unaryOp .Invert) (rInvI C sp E) := by
  obtain ⟨f, fd, F, a, b, _, bd⟩ := M.ex
  exact un_invI a b F hr bd hx
end
/-! ### a class that is made -/
structure CdC (P : Program) (w : World) (K : PySem.W.Frag) (mg : Str → Option Value) (base : Heap) (CX : CXT) (k : Nat) (x : Str) (C : Addr) (ps : List Str) (sp : Sp) : Prop where
  ex : ∃ (f : Addr) (fd : FuncData), FnOk P w K mg base CX k f fd ps sp ∧ Mk K C f ∧ mg x = some (.ref C) ∧ Binds K fd ps []
theorem pe_cc {X : Cx} {CX : CXT} {k : Nat} {C : Addr} {x : Str} {ps : List Str} {sp : Sp} {E : XK} {p pos : Pos} {e : Expr} {es : List Expr} {t : TA} (M : CdC X.prog X.w X.K X.mg X.base CX k x C ps sp) (hr : Room (k + 1) X.A) (hg : Gl X x) (hx : Passes CX X E) (ha : PA X (e :: es) t)
    (hdb : (x == ("__debug__" : Str)) = false := by decide) (he : starEach (e :: es) X.env = (false, eval e X.env) :: starEach es X.env := by rfl) (hpl : (backTo pos (starEach es X.env)).any (·.1) = false := by rfl) : PE X (.Call (.Name x p) (e :: es) [] pos) (tMake C sp [] E t) := by
  obtain ⟨f, fd, F, m, g, b⟩ := M.ex
  exact pe_make m F hr hg g b .nil hx ha hdb he hpl
end Ru
namespace Ru
open PySem PySem.Spec PyProof.Rows L2
/-- a numeral comes to be -/
theorem make_num {K : PySem.W.Frag} {C : Addr} {H : Hp} {d b : Addr} {b1 b2 : Bool} {ds bs : List Int} {Q : VK} {E : XK} (hd : RdA b1 H d (ds.map V.int)) (hb : RdA b2 H b (bs.map V.int)) (B : Bss bs) (D : Dgs ds bs)
    (k : ∀ r H', Same H H' → H r = none → NumAt C H' r ds bs → Q (.ref r) H') (x dx : Addr) (nx : H x = none) (nd : H dx = none) (ne : dx ≠ x) :
    spInit K C (.ref x :: ([.ref d, .ref b] ++ [])) (upd (upd H dx (.own x)) x (.ins C dx [])) (fun v H2 => v = .non ∧ Q (.ref x) H2) E := by
  have s : Same H (upd (upd H dx (.own x)) x (.ins C dx [])) := fun c o e => by
    rw [upd_ne (ne_of_none e nx), upd_ne (ne_of_none e nd)]
    exact e
  exact ⟨x, dx, d, b, b1, b2, ds, bs, rfl, upd_same, hd.same s, hb.same s, B, D, fun H' kp num => ⟨rfl, k x H' (fun c o e => kp c o (s c o e) (ne_of_none e nx)) nx num⟩⟩
end Ru
namespace Ru
open PySem PySem.Spec PyProof.Rows L2
/-- a reading asks no more of a weaker wish -/
def Mono (te : TE) : Prop := ∀ (σ : L2.St) (H : Hp) (Q Q' : VK), (∀ v H', Q v H' → Q' v H') → te σ H Q → te σ H Q'
theorem mono_var {i : Nat} : Mono (tVar i) := fun _ _ _ _ f ⟨v, e, q⟩ => ⟨v, e, f _ _ q⟩
theorem mono_c {v : V} : Mono (tC v) := fun _ _ _ _ f q => f _ _ q
theorem mono_op {r : R2} {ta tb : TE} (hr : ∀ x y H (Q Q' : VK), (∀ v H', Q v H' → Q' v H') → r x y H Q → r x y H Q') (a : Mono ta) (b : Mono tb) : Mono (tOp r ta tb) := fun σ H Q Q' f h => a σ H _ _ (fun x H1 h1 => b σ H1 _ _ (fun y H2 h2 => hr x y H2 Q Q' f h2) h1) h
theorem mono_ixT {K : PySem.W.Frag} {ta tb : TE} (a : Mono ta) (b : Mono tb) : Mono (tOp (rIxT K) ta tb) := mono_op (fun _ _ _ _ _ f ⟨p, xs, i, v, h1, h2, h3, h4, q⟩ => ⟨p, xs, i, v, h1, h2, h3, h4, f _ _ q⟩) a b
theorem mono_ixL {K : PySem.W.Frag} {ta tb : TE} (a : Mono ta) (b : Mono tb) : Mono (tOp (rIxL K) ta tb) := mono_op (fun _ _ _ _ _ f ⟨p, xs, i, v, h1, h2, h3, h4, q⟩ => ⟨p, xs, i, v, h1, h2, h3, h4, f _ _ q⟩) a b
theorem mono_tupA {te : TE} (a : Mono te) : Mono (tTupA te) := fun σ H Q Q' f h => a σ H _ _ (fun x H1 ⟨b, c, xs, h1, h2, q⟩ => ⟨b, c, xs, h1, h2, fun l H' s r => f _ _ (q l H' s r)⟩) h
/-- Numeral(e1, e2) of a row of digits and a row of bases -/
def tNum (C : Addr) (t1 t2 : TE) : TE := fun σ H Q => t1 σ H fun u H1 => t2 σ H1 fun v H2 => ∃ (d b : Addr) (b1 b2 : Bool) (ds bs : List Int), u = .ref d ∧ v = .ref b ∧ RdA b1 H2 d (ds.map V.int) ∧ RdA b2 H2 b (bs.map V.int) ∧ Bss bs ∧ Dgs ds bs ∧
  ∀ r H', Same H2 H' → H2 r = none → NumAt C H' r ds bs → Q (.ref r) H'
theorem pe_num {X : Cx} {k : Nat} {C : Addr} {x : Str} {e1 e2 : Expr} {t1 t2 : TE} {p pos : Pos} (M : CdC X.prog X.w X.K X.mg X.base CX0 k x C ["self", "digits", "bases"] (spInit X.K C)) (hr : Room (k + 1) X.A) (hg : Gl X x) (h1 : PE X e1 t1) (h2 : PE X e2 t2)
    (m1 : Mono t1) (m2 : Mono t2) (hdb : (x == ("__debug__" : Str)) = false := by decide) (hs : starEach [e1, e2] X.env = (false, eval e1 X.env) :: starEach [e2] X.env := by rfl) (hs2 : starEach [e2] X.env = (false, eval e2 X.env) :: starEach [] X.env := by rfl)
    (hpl : (backTo pos (starEach [e2] X.env)).any (·.1) = false := by rfl) : PE X (.Call (.Name x p) [e1, e2] [] pos) (tNum C t1 t2) :=
  weaken (pe_cc (E := E0) M hr hg pass0 (pa_cons h1 (pa_cons h2 pa_nil hs2) hs) hdb hs hpl) fun σ H Q h => m1 σ H _ _ (fun u H1 q1 => m2 σ H1 _ _ (fun v H2 q => by
    obtain ⟨d, b, b1, b2, ds, bs, rfl, rfl, r1, r2, B, D, kk⟩ := q
    exact fun y dx ny nd ne => make_num r1 r2 B D kk y dx ny nd ne) q1) h
end Ru

set_option Elab.async false
set_option linter.all false
set_option maxRecDepth 100000
set_option maxHeartbeats 4000000
namespace Ru
open PySem PySem.Spec PyProof.Rows L2
/-! ### digits joined, turned and moved -/
def negD : List Int → List Int → List Int
  | d :: ds, b :: bs => ((b - d) % b) :: negD ds bs
  | _, _ => []
def xorD : List Int → List Int → List Int → List Int
  | d :: ds, e :: es, b :: bs => ((d + e) % b) :: xorD ds es bs
  | _, _, _ => []
theorem negD_dgs : ∀ {ds bs : List Int}, Dgs ds bs → Dgs (negD ds bs) bs
  | [], [], _ => trivial
  | d :: ds, b :: bs, h => ⟨⟨Int.emod_nonneg _ (by have := h.1; omega), Int.emod_lt_of_pos _ (by have := h.1; omega)⟩, negD_dgs h.2⟩
  | [], _ :: _, h => h.elim
  | _ :: _, [], h => h.elim
theorem xorD_dgs : ∀ {ds es bs : List Int}, Dgs ds bs → Dgs es bs → Dgs (xorD ds es bs) bs
  | [], [], [], _, _ => trivial
  | d :: ds, e :: es, b :: bs, h, k => ⟨⟨Int.emod_nonneg _ (by have := h.1; omega), Int.emod_lt_of_pos _ (by have := h.1; omega)⟩, xorD_dgs h.2 k.2⟩
  | [], _ :: _, [], _, k => k.elim
  | _ :: _, _, [], h, _ => h.elim
  | [], _, _ :: _, h, _ => h.elim
  | _ :: _, [], _ :: _, _, k => k.elim
theorem negD_at : ∀ {ds bs : List Int} {i : Nat} {d b : Int}, ds[i]? = some d → bs[i]? = some b → (negD ds bs)[i]? = some ((b - d) % b)
  | d :: ds, b :: bs, 0, _, _, e1, e2 => by
    cases e1
    cases e2
    rfl
  | d :: ds, b :: bs, i + 1, _, _, e1, e2 => negD_at (ds := ds) (bs := bs) (i := i) e1 e2
  | [], _, _, _, _, e1, _ => by cases e1
  | _ :: _, [], _, _, _, _, e2 => by cases e2
theorem xorD_at : ∀ {ds es bs : List Int} {i : Nat} {d e b : Int}, ds[i]? = some d → es[i]? = some e → bs[i]? = some b → (xorD ds es bs)[i]? = some ((d + e) % b)
  | d :: ds, e :: es, b :: bs, 0, _, _, _, e1, e2, e3 => by
    cases e1
    cases e2
    cases e3
    rfl
  | d :: ds, e :: es, b :: bs, i + 1, _, _, _, e1, e2, e3 => xorD_at (ds := ds) (es := es) (bs := bs) (i := i) e1 e2 e3
  | [], _, _, _, _, _, _, e1, _, _ => by cases e1
  | _ :: _, [], _, _, _, _, _, _, e2, _ => by cases e2
  | _ :: _, _ :: _, [], _, _, _, _, _, _, e3 => by cases e3
theorem xorD_comm : ∀ {ds es bs : List Int}, Dgs ds bs → Dgs es bs → xorD ds es bs = xorD es ds bs
  | [], [], [], _, _ => rfl
  | d :: ds, e :: es, b :: bs, h, k => by
    show ((d + e) % b) :: xorD ds es bs = ((e + d) % b) :: xorD es ds bs
    rw [xorD_comm h.2 k.2, Int.add_comm]
  | [], _ :: _, [], _, k => k.elim
  | _ :: _, _, [], h, _ => h.elim
  | [], _, _ :: _, h, _ => h.elim
  | _ :: _, [], _ :: _, _, k => k.elim
theorem xorD_assoc : ∀ {ds es fs bs : List Int}, Dgs ds bs → Dgs es bs → Dgs fs bs → xorD (xorD ds es bs) fs bs = xorD ds (xorD es fs bs) bs
  | [], [], [], [], _, _, _ => rfl
  | d :: ds, e :: es, f :: fs, b :: bs, h, k, l => by
    show (((d + e) % b + f) % b) :: xorD (xorD ds es bs) fs bs = ((d + (e + f) % b) % b) :: xorD ds (xorD es fs bs) bs
    rw [xorD_assoc h.2 k.2 l.2, Int.emod_add_emod, Int.add_emod_emod, Int.add_assoc]
  | _, _, _ :: _, [], _, _, l => l.elim
  | _, _ :: _, _, [], _, k, _ => k.elim
  | _ :: _, _, _, [], h, _, _ => h.elim
  | [], _, _, _ :: _, h, _, _ => h.elim
  | _, [], _, _ :: _, _, k, _ => k.elim
  | _, _, [], _ :: _, _, _, l => l.elim
theorem xor_neg : ∀ {ds es bs : List Int}, Dgs ds bs → Dgs es bs → xorD (xorD ds es bs) (negD es bs) bs = ds
  | [], [], [], _, _ => rfl
  | d :: ds, e :: es, b :: bs, h, k => by
    show (((d + e) % b + (b - e) % b) % b) :: xorD (xorD ds es bs) (negD es bs) bs = d :: ds
    have := h.1
    rw [xor_neg h.2 k.2, Int.emod_add_emod, Int.add_emod_emod, show d + e + (b - e) = d + b by omega, Int.add_emod_right, Int.emod_eq_of_lt this.1 this.2]
  | [], _ :: _, [], _, k => k.elim
  | _ :: _, _, [], h, _ => h.elim
  | [], _, _ :: _, h, _ => h.elim
  | _ :: _, [], _ :: _, _, k => k.elim
theorem neg_neg : ∀ {ds bs : List Int}, Dgs ds bs → negD (negD ds bs) bs = ds
  | [], [], _ => rfl
  | d :: ds, b :: bs, h => by
    show ((b - (b - d) % b) % b) :: negD (negD ds bs) bs = d :: ds
    have := h.1
    rw [neg_neg h.2]
    congr 1
    by_cases c : d = 0
    · rw [c, Int.sub_zero, Int.emod_self, Int.sub_zero, Int.emod_self]
    · rw [Int.emod_eq_of_lt (by omega : 0 ≤ b - d) (by omega), show b - (b - d) = d by omega, Int.emod_eq_of_lt this.1 this.2]
  | [], _ :: _, h => h.elim
  | _ :: _, [], h => h.elim
theorem inv_inv : ∀ {ds bs : List Int}, Dgs ds bs → invD (invD ds bs) bs = ds
  | [], [], _ => rfl
  | d :: ds, b :: bs, h => by
    show (b - 1 - (b - 1 - d)) :: invD (invD ds bs) bs = d :: ds
    rw [inv_inv h.2]
    congr 1
    omega
  | [], _ :: _, h => h.elim
  | _ :: _, [], h => h.elim
theorem val_xneg : ∀ {ds bs : List Int}, Dgs ds bs → valD (xorD ds (negD ds bs) bs) bs = 0
  | [], [], _ => rfl
  | d :: ds, b :: bs, h => by
    show ((d + (b - d) % b) % b) * prodL bs + valD (xorD ds (negD ds bs) bs) bs = 0
    rw [val_xneg h.2, Int.add_emod_emod, show d + (b - d) = b by omega, Int.emod_self, Int.zero_mul]
    rfl
  | [], _ :: _, h => h.elim
  | _ :: _, [], h => h.elim
/-! ### moved -/
/-- the j-th digit can't go k places up -/
def badJ (ds bs : List Int) (k : Int) (j : Nat) : Bool :=
  if (j : Int) - k < 0 then decide (ds.getD j 0 ≠ 0) else if (j : Int) - k < ds.length then decide (bs.getD ((j : Int) - k).toNat 0 ≤ ds.getD j 0) else false
def mvA (ds : List Int) (k : Int) (i g : Nat) : Int := if 0 ≤ (g : Int) + k ∧ (g : Int) + k < i then ds.getD ((g : Int) + k).toNat 0 else 0
/-- the first i digits k places up, all else 0 -/
def mvL (ds : List Int) (k : Int) (i : Nat) : List Int := (List.range ds.length).map (mvA ds k i)
theorem mvL_len {ds : List Int} {k : Int} {i : Nat} : (mvL ds k i).length = ds.length := by
  unfold mvL
  rw [List.length_map, List.length_range]
theorem mvL_at {ds : List Int} {k : Int} {i g : Nat} (h : g < ds.length) : (mvL ds k i)[g]? = some (mvA ds k i g) := by
  unfold mvL
  rw [List.getElem?_map, List.getElem?_range h]
  rfl
theorem mvL_ext {ds xs : List Int} {k : Int} {i : Nat} (hl : xs.length = ds.length) (h : ∀ g, g < ds.length → xs[g]? = some (mvA ds k i g)) : xs = mvL ds k i := by
  apply List.ext_getElem?
  intro g
  by_cases c : g < ds.length
  · rw [h g c, mvL_at c]
  · rw [List.getElem?_eq_none (by omega), List.getElem?_eq_none (by rw [mvL_len]; omega)]
theorem mvL_0 {ds : List Int} {k : Int} : List.replicate ds.length 0 = mvL ds k 0 := by
  refine mvL_ext (List.length_replicate) fun g h => ?_
  rw [List.getElem?_replicate, if_pos h]
  unfold mvA
  rw [if_neg (by omega)]
theorem mvL_skip {ds : List Int} {k : Int} {i : Nat} (h : (i : Int) - k < 0 ∨ (ds.length : Int) ≤ (i : Int) - k) : mvL ds k i = mvL ds k (i + 1) := by
  refine mvL_ext mvL_len fun g hg => ?_
  rw [mvL_at hg]
  congr 1
  unfold mvA
  by_cases c : 0 ≤ (g : Int) + k ∧ (g : Int) + k < i
  · rw [if_pos c, if_pos (by omega)]
  · rw [if_neg c, if_neg (by omega)]
theorem mvL_set {ds : List Int} {k : Int} {i m : Nat} (h : (i : Int) - k = m) (hm : m < ds.length) : (mvL ds k i).set m (ds.getD i 0) = mvL ds k (i + 1) := by
  refine mvL_ext (by rw [List.length_set, mvL_len]) fun g hg => ?_
  rw [List.getElem?_set]
  by_cases c : m = g
  · subst c
    rw [if_pos rfl, if_pos (by rw [mvL_len]; exact hm)]
    unfold mvA
    rw [if_pos (by omega), show ((m : Int) + k).toNat = i by omega]
  · rw [if_neg c, mvL_at hg]
    congr 1
    unfold mvA
    by_cases c2 : 0 ≤ (g : Int) + k ∧ (g : Int) + k < i
    · rw [if_pos c2, if_pos (by omega)]
    · rw [if_neg c2, if_neg (by omega)]
theorem getD_at {xs : List Int} {i : Nat} {x : Int} (h : xs[i]? = some x) : xs.getD i 0 = x := by
  rw [List.getD_eq_getElem?_getD, h]
  rfl
theorem mv_dgs {ds bs : List Int} {k : Int} (h : Dgs ds bs) (hn : ∀ j, j < ds.length → badJ ds bs k j = false) : Dgs (mvL ds k ds.length) bs := by
  have hl := h.len
  refine dgs_of (by rw [mvL_len, hl]) fun g d b e1 e2 => ?_
  have hg : g < bs.length := (List.getElem?_eq_some_iff.mp e2).1
  rw [mvL_at (by omega)] at e1
  have e1 : mvA ds k ds.length g = d := Option.some.inj e1
  have b0 : 0 < b := by
    have z := h.at (List.getElem?_eq_getElem (show g < ds.length by omega)) e2
    omega
  rw [← e1]
  unfold mvA
  by_cases c : 0 ≤ (g : Int) + k ∧ (g : Int) + k < ds.length
  · rw [if_pos c]
    obtain ⟨j, hj⟩ := Int.eq_ofNat_of_zero_le c.1
    have hj2 : j < ds.length := by omega
    rw [hj, Int.toNat_natCast]
    have z := hn j hj2
    unfold badJ at z
    rw [if_neg (by omega), if_pos (by omega), show ((j : Int) - k).toNat = g by omega, getD_at e2] at z
    have z2 := of_decide_eq_false z
    have e3 : ds[j]? = some ds[j] := List.getElem?_eq_getElem hj2
    rw [getD_at e3] at z2 ⊢
    have e4 : bs[j]? = some bs[j] := List.getElem?_eq_getElem (by omega)
    have := h.at e3 e4
    omega
  · rw [if_neg c]
    omega
/-! ### .. and what is due -/
/-- the places whose digit is none -/
def wrN (xs bs : List Int) (n : Nat) : List Int := ((List.range n).filter fun j => decide (bs.getD j 0 ≤ xs.getD j 0)).map fun (j : Nat) => (j : Int)
theorem wr_len {xs bs : List Int} {n : Nat} : (wrN xs bs n).length ≤ n := by
  unfold wrN
  rw [List.length_map]
  have h := List.length_filter_le (fun j => decide (bs.getD j 0 ≤ xs.getD j 0)) (List.range n)
  rw [List.length_range] at h
  exact h
theorem wr_no {xs bs : List Int} {n : Nat} (h : ¬ bs.getD n 0 ≤ xs.getD n 0) : wrN xs bs (n + 1) = wrN xs bs n := by
  unfold wrN
  rw [List.range_succ, List.filter_append, List.filter_cons_of_neg (by rw [decide_eq_false h]; decide), List.filter_nil, List.append_nil]
theorem wr_yes {xs bs : List Int} {n : Nat} (h : bs.getD n 0 ≤ xs.getD n 0) : wrN xs bs (n + 1) = wrN xs bs n ++ [(n : Int)] := by
  unfold wrN
  rw [List.range_succ, List.filter_append, List.filter_cons_of_pos (by rw [decide_eq_true h]), List.filter_nil, List.map_append]
  rfl
theorem wr_nil {xs bs : List Int} {n : Nat} : wrN xs bs n = [] ↔ ∀ j, j < n → ¬ bs.getD j 0 ≤ xs.getD j 0 := by
  unfold wrN
  rw [List.map_eq_nil_iff, List.filter_eq_nil_iff]
  constructor
  · intro h j hj q
    exact h j (List.mem_range.mpr hj) (decide_eq_true q)
  · intro h j hj q
    exact h j (List.mem_range.mp hj) (of_decide_eq_true q)
/-- those above 0 -/
def posL (zs : List Int) : List Int := zs.filter fun z => decide (0 < z)
theorem pos_nil {zs : List Int} : posL zs = [] ↔ ∀ z ∈ zs, ¬ 0 < z := by
  unfold posL
  rw [List.filter_eq_nil_iff]
  exact ⟨fun h z hz q => h z hz (decide_eq_true q), fun h z hz q => h z hz (of_decide_eq_true q)⟩
theorem up_eq {ds : List Int} {k : Int} {m : Nat} (h0 : 0 ≤ k) (hm : (m : Int) = min k ds.length) : (ds ++ List.replicate m 0).drop m = mvL ds k ds.length := by
  refine mvL_ext (by rw [List.length_drop, List.length_append, List.length_replicate]; omega) fun g hg => ?_
  rw [List.getElem?_drop]
  unfold mvA
  by_cases c : 0 ≤ (g : Int) + k ∧ (g : Int) + k < ds.length
  · rw [if_pos c, List.getElem?_append_left (by omega), show ((g : Int) + k).toNat = m + g by omega]
    rw [getD_at (List.getElem?_eq_getElem (show m + g < ds.length by omega)), List.getElem?_eq_getElem (show m + g < ds.length by omega)]
  · rw [if_neg c, List.getElem?_append_right (by omega), List.getElem?_replicate, if_pos (by omega)]
theorem dn_eq {ds : List Int} {k : Int} {m : Nat} (h0 : 0 ≤ k) (hm : (m : Int) = min k ds.length) : (List.replicate m 0 ++ ds).take ds.length = mvL ds (-k) ds.length := by
  refine mvL_ext (by rw [List.length_take, List.length_append, List.length_replicate]; omega) fun g hg => ?_
  rw [List.getElem?_take, if_pos hg]
  unfold mvA
  by_cases c : 0 ≤ (g : Int) + -k ∧ (g : Int) + -k < ds.length
  · rw [if_pos c, List.getElem?_append_right (by rw [List.length_replicate]; omega), List.length_replicate, show ((g : Int) + -k).toNat = g - m by omega]
    rw [getD_at (List.getElem?_eq_getElem (show g - m < ds.length by omega)), List.getElem?_eq_getElem (show g - m < ds.length by omega)]
  · rw [if_neg c, List.getElem?_append_left (by rw [List.length_replicate]; omega), List.getElem?_replicate, if_pos (by omega)]
theorem up_bad {ds bs : List Int} {k : Int} {m : Nat} (h : Dgs ds bs) (h0 : 0 ≤ k) (hm : (m : Int) = min k ds.length) :
    (∀ j, j < ds.length → badJ ds bs k j = false) ↔ wrN (mvL ds k ds.length) bs ds.length = [] ∧ posL (ds.take m) = [] := by
  have hl := h.len
  rw [wr_nil, pos_nil]
  constructor
  · intro q
    refine ⟨fun g hg z => ?_, fun z hz p => ?_⟩
    · have d := mv_dgs h q
      have e1 := mvL_at (k := k) (i := ds.length) hg
      have e2 : bs[g]? = some bs[g] := List.getElem?_eq_getElem (by omega)
      have := d.at e1 e2
      rw [getD_at e1, getD_at e2] at z
      omega
    · obtain ⟨j, hj, e⟩ := List.getElem_of_mem hz
      rw [List.length_take] at hj
      have e3 : (ds.take m)[j]? = some z := by rw [List.getElem?_eq_getElem (by rw [List.length_take]; exact hj), e]
      rw [List.getElem?_take, if_pos (by omega)] at e3
      have z2 := q j (by omega)
      unfold badJ at z2
      rw [if_pos (by omega), getD_at e3] at z2
      have := of_decide_eq_false z2
      omega
  · rintro ⟨q1, q2⟩ j hj
    have e3 : ds[j]? = some ds[j] := List.getElem?_eq_getElem hj
    have e4 : bs[j]? = some bs[j] := List.getElem?_eq_getElem (by omega)
    have dj := h.at e3 e4
    unfold badJ
    by_cases c : (j : Int) - k < 0
    · rw [if_pos c, getD_at e3]
      refine decide_eq_false fun z => ?_
      refine q2 ds[j] ?_ (by omega)
      refine List.mem_of_getElem? (i := j) ?_
      rw [List.getElem?_take, if_pos (by omega), e3]
    · rw [if_neg c, if_pos (by omega)]
      refine decide_eq_false fun z => ?_
      obtain ⟨g, hg⟩ := Int.eq_ofNat_of_zero_le (show 0 ≤ (j : Int) - k by omega)
      have e1 := mvL_at (ds := ds) (k := k) (i := ds.length) (g := g) (by omega)
      refine q1 g (by omega) ?_
      rw [getD_at e1]
      unfold mvA
      rw [if_pos (by omega), show ((g : Int) + k).toNat = j by omega]
      rw [hg, Int.toNat_natCast] at z
      exact z
theorem dn_bad {ds bs : List Int} {k : Int} (h : Dgs ds bs) (h0 : 0 ≤ k) :
    (∀ j, j < ds.length → badJ ds bs (-k) j = false) ↔ wrN (mvL ds (-k) ds.length) bs ds.length = [] ∧ posL [] = [] := by
  have hl := h.len
  rw [wr_nil]
  constructor
  · intro q
    refine ⟨fun g hg z => ?_, rfl⟩
    have d := mv_dgs h q
    have e1 := mvL_at (k := -k) (i := ds.length) hg
    have e2 : bs[g]? = some bs[g] := List.getElem?_eq_getElem (by omega)
    have := d.at e1 e2
    rw [getD_at e1, getD_at e2] at z
    omega
  · rintro ⟨q1, _⟩ j hj
    unfold badJ
    rw [if_neg (by omega)]
    by_cases c : (j : Int) - -k < ds.length
    · rw [if_pos c]
      refine decide_eq_false fun z => ?_
      obtain ⟨g, hg⟩ := Int.eq_ofNat_of_zero_le (show 0 ≤ (j : Int) - -k by omega)
      have e1 := mvL_at (ds := ds) (k := -k) (i := ds.length) (g := g) (by omega)
      refine q1 g (by omega) ?_
      rw [getD_at e1]
      unfold mvA
      rw [if_pos (by omega), show ((g : Int) + -k).toNat = j by omega]
      rw [hg, Int.toNat_natCast] at z
      exact z
    · rw [if_neg c]
end Ru

set_option Elab.async false
set_option linter.all false
set_option maxRecDepth 100000
set_option maxHeartbeats 4000000
namespace Ru
open PySem PySem.Spec PyProof.Rows L2
/-- what a class must be, so that its own operator is asked of an int behind it -/
structure BinC (K : PySem.W.Frag) (C : Addr) (nm : String) : Prop where
  r : PySem.W.findIn K (.ref C) (dunderR nm) = some none
  h1 : (PySem.W.findIn K (.type "int") (PySem.dunder nm)).isSome = true
  h2 : (PySem.W.findIn K (.type "int") (dunderR nm)).isSome = true
section
variable {X : Cx} {CX : CXT} {k : Nat} {C : Addr} {m : Str} {ps : List Str} {sp : Sp} {E : XK}
theorem op_bm {op : Operator} (M : CdM X.prog X.w X.K X.mg X.base CX k C m ps sp) (hm : PySem.dunder op.info.2 = m) (c : PySem.W.selfFirst X.K C = true) (B : BinC X.K C op.info.2) (u : PySem.W.subIn X.K (.type "int") (.ref C) = some false) (hr : Room k X.A) (hx : Passes CX X E) :
    OpR X (binaryOp op) (rBinI C sp E) := by
  subst hm
  obtain ⟨f, fd, F, a, b, _, bd⟩ := M.ex
  exact op_binI ⟨c, a, b, B.r, Option.isSome_iff_exists.mp B.h1, Option.isSome_iff_exists.mp B.h2, u⟩ F hr bd hx
theorem op_bs {op : Operator} (M : CdM X.prog X.w X.K X.mg X.base CX k C m ps sp) (hm : PySem.dunder op.info.2 = m) (c : PySem.W.selfFirst X.K C = true) (hr : Room k X.A) (hx : Passes CX X E) : OpR X (binaryOp op) (rOwnI C sp E) := by
  subst hm
  obtain ⟨f, fd, F, a, b, _, bd⟩ := M.ex
  exact op_binS c a b F hr bd hx
theorem un_cn (M : CdM X.prog X.w X.K X.mg X.base CX k C "__neg__" ps sp) (hr : Room k X.A) (hx : Passes CX X E) : UnR X (unaryOp .USub) (rInvI C sp E) := by
  obtain ⟨f, fd, F, a, b, _, bd⟩ := M.ex
  exact un_negI a b F hr bd hx
theorem call_cb (M : CdM X.prog X.w X.K X.mg X.base CX k C "__bool__" ps sp) (hr : Room (k + 2) X.A) (hx : Passes CX X E) : CallR X (.type "bool") (rBoolI C sp E) := by
  obtain ⟨f, fd, F, a, b, _, bd⟩ := M.ex
  exact call_boolI a b F hr bd hx
end
end Ru

set_option Elab.async false
set_option linter.all false
set_option maxRecDepth 100000
set_option maxHeartbeats 4000000
namespace Ru
open PySem PySem.Spec PyProof.Rows L2
/-! ### the digits of a value -/
def dgsV : List Int → Int → List Int
  | [], _ => []
  | b :: bs, v => (v / prodL bs % b) :: dgsV bs v
theorem dgsV_len : ∀ {bs : List Int} {v : Int}, (dgsV bs v).length = bs.length
  | [], _ => rfl
  | _ :: _, _ => congrArg Nat.succ dgsV_len
theorem dgsV_dgs : ∀ {bs : List Int} {v : Int}, (∀ z ∈ bs, 2 ≤ z ∧ z ≤ 100) → Dgs (dgsV bs v) bs
  | [], _, _ => trivial
  | b :: bs, v, h => by
    have h1 := (h b List.mem_cons_self).1
    exact ⟨⟨Int.emod_nonneg _ (by omega), Int.emod_lt_of_pos _ (by omega)⟩, dgsV_dgs fun z hz => h z (List.mem_cons_of_mem _ hz)⟩
theorem prodL_pos {bs : List Int} (h : ∀ z ∈ bs, 2 ≤ z ∧ z ≤ 100) : 0 < prodL bs := by
  have := (prodL_le (zs := bs) (n := bs.length) h (Nat.le_refl _)).1
  omega
theorem mod_mul {v p b : Int} (hp : 0 < p) : v % (p * b) = (v / p % b) * p + v % p := by
  have e1 := Int.mul_ediv_add_emod v p
  have e2 := Int.mul_ediv_add_emod (v / p) b
  have e3 := Int.mul_ediv_add_emod v (p * b)
  have e4 : v / p / b = v / (p * b) := Int.ediv_ediv_of_nonneg (Int.le_of_lt hp)
  rw [e4] at e2
  have e5 : p * b * (v / (p * b)) = p * (b * (v / (p * b))) := Int.mul_assoc _ _ _
  have e6 : p * (v / p) = p * (b * (v / (p * b))) + p * (v / p % b) := by rw [← Int.mul_add, e2]
  have e7 : p * (v / p % b) = (v / p % b) * p := Int.mul_comm _ _
  omega
theorem valD_dgsV : ∀ {bs : List Int} {v : Int}, (∀ z ∈ bs, 2 ≤ z ∧ z ≤ 100) → valD (dgsV bs v) bs = v % prodL bs
  | [], v, _ => by
    show (0 : Int) = v % 1
    rw [Int.emod_one]
  | b :: bs, v, h => by
    have ht : ∀ z ∈ bs, 2 ≤ z ∧ z ≤ 100 := fun z hz => h z (List.mem_cons_of_mem _ hz)
    show (v / prodL bs % b) * prodL bs + valD (dgsV bs v) bs = v % (prodL bs * b)
    rw [valD_dgsV ht, mod_mul (prodL_pos ht)]
theorem in_room {v p : Int} (hp : 0 < p) : v / p = 0 ↔ 0 ≤ v ∧ v < p := by
  constructor
  · intro h
    have e1 := Int.mul_ediv_add_emod v p
    have h1 := Int.emod_nonneg v (show p ≠ 0 by omega)
    have h2 := Int.emod_lt_of_pos v hp
    rw [h, Int.mul_zero, Int.zero_add] at e1
    omega
  · intro ⟨h1, h2⟩
    exact Int.ediv_eq_zero_of_lt h1 h2
theorem val_of {bs : List Int} {v : Int} (h : ∀ z ∈ bs, 2 ≤ z ∧ z ≤ 100) (e : v / prodL bs = 0) : valD (dgsV bs v) bs = v := by
  obtain ⟨h1, h2⟩ := (in_room (prodL_pos h)).mp e
  rw [valD_dgsV h, Int.emod_eq_of_lt h1 h2]
theorem dgs_val {ds bs : List Int} (d : Dgs ds bs) (h : ∀ z ∈ bs, 2 ≤ z ∧ z ≤ 100) : dgsV bs (valD ds bs) = ds ∧ valD ds bs / prodL bs = 0 := by
  obtain ⟨v1, v2⟩ := valD_range d
  have e := (in_room (prodL_pos h)).mpr ⟨v1, v2⟩
  exact ⟨val_inj (dgsV_dgs h) d (val_of h e), e⟩
/-- the digit at a place, with the place's weight -/
theorem dgsV_at : ∀ {bs : List Int} {v w b : Int} {i : Nat}, (wts bs)[i]? = some w → bs[i]? = some b → (dgsV bs v)[i]? = some (v / w % b) := by
  intro bs
  induction bs with
  | nil =>
    intro v w b i _ e
    cases e
  | cons c cs ih =>
    intro v w b i e1 e2
    have e : wts (c :: cs) = prodL cs :: wts cs := by
      unfold wts
      rw [List.length_cons, List.range_succ_eq_map, List.map_cons, List.map_map]
      rfl
    rw [e] at e1
    match i, e1, e2 with
    | 0, e1, e2 =>
      cases e1
      cases e2
      rfl
    | i + 1, e1, e2 => exact ih (i := i) e1 e2
/-- one place more, from the lowest up -/
theorem dgs_step {bs : List Int} {b v : Int} (h : 0 < prodL bs) : v / prodL bs / b = v / prodL (b :: bs) := Int.ediv_ediv_of_nonneg (Int.le_of_lt h)
/-! ### sizes -/
theorem abs_add {i j : Int} {n : Nat} (h1 : i.natAbs < 2 ^ n) (h2 : j.natAbs < 2 ^ n) : (i + j).natAbs < 2 ^ (n + 1) := by
  rw [Nat.pow_succ]
  omega
theorem abs_sub {i j : Int} {n : Nat} (h1 : i.natAbs < 2 ^ n) (h2 : j.natAbs < 2 ^ n) : (i - j).natAbs < 2 ^ (n + 1) := by
  rw [Nat.pow_succ]
  omega
theorem abs_pow {i : Int} {n : Nat} (h : i.natAbs < 2 ^ n) (h0 : 0 < n) : ∀ k : Nat, (i ^ k).natAbs < 2 ^ (n * k + 1)
  | 0 => by
    rw [Int.pow_zero, Nat.mul_zero]
    decide
  | k + 1 => by
    have h1 := abs_pow h h0 k
    rw [Int.pow_succ, Int.natAbs_mul]
    have h2 : (i ^ k).natAbs * i.natAbs < 2 ^ (n * k + 1) * 2 ^ n := Nat.mul_lt_mul'' h1 h
    rw [← Nat.pow_add] at h2
    rw [show n * (k + 1) + 1 = n * k + 1 + n by rw [Nat.mul_succ]; omega]
    exact h2
theorem abs_up {i : Int} {m n : Nat} (h : i.natAbs < 2 ^ m) (hm : m ≤ n) : i.natAbs < 2 ^ n := Nat.lt_of_lt_of_le h (Nat.pow_le_pow_right (by decide) hm)
theorem abs_div {i j : Int} {n : Nat} (h : i.natAbs < 2 ^ n) (h0 : 0 ≤ i) (hj : 0 < j) : (i / j).natAbs < 2 ^ n := by
  have h1 : i / j ≤ i := Int.ediv_le_self _ h0
  have h2 : 0 ≤ i / j := Int.ediv_nonneg h0 (by omega)
  omega
theorem val_abs {ds bs : List Int} (d : Dgs ds bs) (B : Bss bs) : (valD ds bs).natAbs < 2 ^ 27 := by
  obtain ⟨v1, v2⟩ := valD_range d
  obtain ⟨_, p2⟩ := prodL_le (zs := bs) (n := 4) B.2.2 B.2.1
  have q : (100 : Int) ^ 4 = 100000000 := by decide
  have q2 : (2 : Nat) ^ 27 = 134217728 := by decide
  omega
theorem room_abs {bs : List Int} (B : Bss bs) : (prodL bs).natAbs < 2 ^ 27 ∧ 1 ≤ prodL bs ∧ prodL bs ≤ 100000000 := by
  obtain ⟨p1, p2⟩ := prodL_le (zs := bs) (n := 4) B.2.2 B.2.1
  have q : (100 : Int) ^ 4 = 100000000 := by decide
  have q2 : (2 : Nat) ^ 27 = 134217728 := by decide
  omega
theorem mulW {i j : Int} {a b : Nat} (ha : i.natAbs < 2 ^ a) (hb : j.natAbs < 2 ^ b) (h0 : 0 < a) (h1 : 0 < b) (h : a + b ≤ 1000000) : CMulW i j := wide_mul ha hb h0 h1 h
end Ru

set_option Elab.async false
set_option linter.all false
set_option maxRecDepth 100000
set_option maxHeartbeats 4000000
namespace Ru
open PySem PySem.Spec PyProof.Rows L2
/-! ### own signs that are met from the right, and in place -/
section
variable {prog : Program} {w : World} {A : Around} {E : Value → Shared → Prop} {s : Shared} {K : PySem.W.Frag} {x y C f : Addr} {ox oy : Obj} {od oe : Option Obj} {a b : Value}
/-- what the sign's first road gives is the sign's value -/
theorem sign_of {op : Operator} {Q : Value → Shared → Prop} (h : wpAny (model prog w) A (binaryOp1 op.info.2 a b) (fun r s' => ∃ v, r = some v ∧ Q v s') E s) : wpAny (model prog w) A (binaryOp op a b) Q E s := by
  rcases e : op.info with ⟨sy, nm⟩
  rw [e] at h
  simp only [binaryOp, e]
  refine wpAny_holding (wpAny_bind (wpAny_mono h (fun r s' z => ?_) fun _ _ z => z))
  obtain ⟨v, rfl, q⟩ := z
  exact wpAny_pure q
theorem inSign_of {op : Operator} {T : Value} {Q : Value → Shared → Prop} (ht : PySem.W.Looks (model prog w) s.heap (typeOf a) T) (hf : PySem.W.Looks (model prog w) s.heap (fillsInplaceSlot T op.info.2 (op == .Add)) false)
    (h : wpAny (model prog w) A (binaryOp1 op.info.2 a b) (fun r s' => ∃ v, r = some v ∧ Q v s') E s) : wpAny (model prog w) A (inplaceOp op a b) Q E s := by
  obtain ⟨hh, g, d, tt, os⟩ := s
  unfold inplaceOp
  refine wpAny_holding (wpAny_bind (ht.at (wpAny_bind (hf.at ?_))))
  rw [if_neg Bool.false_ne_true]
  refine wpAny_bind (wpAny_mono h (fun r s' z => ?_) fun _ _ z => z)
  obtain ⟨v, rfl, q⟩ := z
  exact wpAny_pure q
/-- the class has no such sign in place, nor has object -/
theorem noIn {nm : String} {add : Bool} (X : K.In s.heap) (hm : (PySem.W.clsIn K C).map (·.mro) = some [.ref C, .type "object"]) (h1 : PySem.W.findIn K (.ref C) (dunderI nm) = some none) (h2 : PySem.W.findIn K (.type "object") (dunderI nm) = some none) :
    PySem.W.Looks (model prog w) s.heap (fillsInplaceSlot (.ref C) nm add) false := by
  intro A Q E s' k q
  obtain ⟨cd, hc, hm⟩ := Option.map_eq_some_iff.mp hm
  have Lm : PySem.W.Looks (model prog w) s.heap (mroOf (.ref C)) cd.mro := (PySem.W.looks_clsIn X hc).andThen (f := fun cd => pure cd.mro) .now
  have Lm' := Lm.keeps k
  obtain ⟨hh, g, d, tt, os⟩ := s'
  have X' : K.In hh := X.keeps k
  have La : PySem.W.Looks (model prog w) hh (typeLookup (.ref C) (dunderI nm)) none := PySem.W.looks_findIn X' h1
  have Lb : PySem.W.Looks (model prog w) hh (typeLookup (.type "object") (dunderI nm)) none := PySem.W.looks_findIn X' h2
  unfold fillsInplaceSlot
  refine wpAny_bind (Lm'.at ?_)
  rw [hm, List.anyM_cons]
  refine wpAny_bind (wpAny_bind (La.at (wpAny_pure ?_)))
  simp only [Bool.false_eq_true, if_false]
  rw [List.anyM_cons]
  refine wpAny_bind (wpAny_bind (Lb.at (wpAny_pure ?_)))
  simp only [Bool.false_eq_true, if_false]
  rw [List.anyM_nil]
  exact wpAny_pure q
/-- two instances of one class -/
theorem road_same {nm : String} {Q : Value → Shared → Prop} (X : K.In s.heap) (I : PySem.W.InstAt s.heap x ox C od) (J : PySem.W.InstAt s.heap y oy C oe) (hc : PySem.W.selfFirst K C = true) (hs : PySem.W.findIn K (.ref C) (PySem.dunder nm) = some (some (.ref f)))
    (hf : PySem.W.isFn K (.ref f) = true) (h : wpAny (model prog w) A (call (.ref f) [.ref x, .ref y]) (PySem.W.CmpBack Q) E s) : wpAny (model prog w) A (binaryOp1 nm (.ref x) (.ref y)) (fun r s' => ∃ v, r = some v ∧ Q v s') E s := by
  obtain ⟨cd, rest, hcd, hm⟩ := PySem.W.ksp_first hc
  have one := PySem.W.ksp_try X I hs hf h
  obtain ⟨hh, g, d, tt, os⟩ := s
  have Ta : PySem.W.Looks (model prog w) hh (typeOf (.ref x)) (.ref C) := I.type
  have Tb : PySem.W.Looks (model prog w) hh (typeOf (.ref y)) (.ref C) := J.type
  have Fa : PySem.W.Looks (model prog w) hh (fillsNumberSlot (.ref C) nm) true := PySem.W.fills_K X hcd hm hs
  have same : (Value.ref C == Value.ref C) = true := by simp
  unfold binaryOp1
  refine wpAny_bind (Ta.at (wpAny_bind (Tb.at (wpAny_bind (Fa.at ?_)))))
  simp only [same, if_true]
  ksp_lk
  refine wpAny_mono one (fun r s' z => ?_) fun _ _ z => z
  obtain ⟨v, rfl, q⟩ := z
  ksp_lk
  exact ⟨v, rfl, q⟩
/-- an instance, and an int behind it -/
theorem road_int {nm : String} {i : Int} {t : Tok} {fo ro rc : Option Value} {Q : Value → Shared → Prop} (X : K.In s.heap) (I : PySem.W.InstAt s.heap x ox C od) (hc : PySem.W.selfFirst K C = true) (hs : PySem.W.findIn K (.ref C) (PySem.dunder nm) = some (some (.ref f))) (hf : PySem.W.isFn K (.ref f) = true)
    (hr : PySem.W.findIn K (.ref C) (dunderR nm) = some rc) (hp : rc = none ∨ ∃ g : Addr, rc = some (.ref g)) (h1 : PySem.W.findIn K (.type "int") (PySem.dunder nm) = some fo) (h2 : PySem.W.findIn K (.type "int") (dunderR nm) = some ro) (hu : PySem.W.subIn K (.type "int") (.ref C) = some false)
    (h : wpAny (model prog w) A (call (.ref f) [.ref x, .int i t]) (PySem.W.CmpBack Q) E s) : wpAny (model prog w) A (binaryOp1 nm (.ref x) (.int i t)) (fun r s' => ∃ v, r = some v ∧ Q v s') E s := by
  obtain ⟨cd, rest, hcd, hm⟩ := PySem.W.ksp_first hc
  have one := PySem.W.ksp_try X I hs hf h
  obtain ⟨hh, g, d, tt, os⟩ := s
  have Ta : PySem.W.Looks (model prog w) hh (typeOf (.ref x)) (.ref C) := I.type
  have Tb : PySem.W.Looks (model prog w) hh (typeOf (.int i t)) (.type "int") := PySem.W.Looks.of_pure rfl
  have Fa : PySem.W.Looks (model prog w) hh (fillsNumberSlot (.ref C) nm) true := PySem.W.fills_K X hcd hm hs
  have Fb := PySem.W.ksp_fillsT (M := model prog w) (T := "int") X h1 h2
  have Su : PySem.W.Looks (model prog w) hh (isSubtype (.type "int") (.ref C)) false := PySem.W.looks_subIn X hu
  have Pa : PySem.W.Looks (model prog w) hh (numberSlotInPython (.ref C) nm) true := PySem.W.ksp_inPy X hs hr hp
  have Pb : PySem.W.Looks (model prog w) hh (numberSlotInPython (.type "int") nm) false := PySem.W.Looks.of_pure rfl
  have Rb : PySem.W.Looks (model prog w) hh (typeLookup (.type "int") (dunderR nm)) ro := PySem.W.looks_findIn X h2
  generalize ((fo.isSome && !isSeqSlot fo) || (ro.isSome && !isSeqSlot ro)) = rt at Fb
  have other : (Value.ref C == Value.type "int") = false := Bool.eq_false_iff.mpr fun q => by cases beq_iff_eq.mp q
  unfold binaryOp1
  refine wpAny_bind (Ta.at (wpAny_bind (Tb.at (wpAny_bind (Fa.at ?_)))))
  simp only [other, Bool.false_eq_true, if_false]
  cases rt <;>
  · ksp_lk
    refine wpAny_mono one (fun r s' z => ?_) fun _ _ z => z
    obtain ⟨v, rfl, q⟩ := z
    ksp_lk
    exact ⟨v, rfl, q⟩
/-- an int ahead of an instance: the int declines, the turned sign is asked -/
theorem road_turned {nm : String} {id : String} {i : Int} {t : Tok} {Q : Value → Shared → Prop} (X : K.In s.heap) (I : PySem.W.InstAt s.heap x ox C od) (hc : PySem.W.selfFirst K C = true) (hs : PySem.W.findIn K (.ref C) (PySem.dunder nm) = some (some (.ref y)))
    (hr : PySem.W.findIn K (.ref C) (dunderR nm) = some (some (.ref f))) (hf : PySem.W.isFn K (.ref f) = true) (hfi : fillsNumberSlot (.type "int") nm = pure true) (sl : Slot "int" (PySem.dunder nm) id) (hu : PySem.W.subIn K (.ref C) (.type "int") = some false)
    (dec : ∀ {A : Around} {Q : Value → Shared → Prop}, Q .notImplemented s → wpAny (model prog w) A (call (.builtin id) [.int i t, .ref x]) Q E s)
    (h : wpAny (model prog w) A (call (.ref f) [.ref x, .int i t]) (PySem.W.CmpBack Q) E s) : wpAny (model prog w) A (binaryOp1 nm (.int i t) (.ref x)) (fun r s' => ∃ v, r = some v ∧ Q v s') E s := by
  obtain ⟨cd, rest, hcd, hm⟩ := PySem.W.ksp_first hc
  have one := PySem.W.ksp_try X I hr hf h
  have no : wpAny (model prog w) A (tryMethod (.int i t) (PySem.dunder nm) (.ref x)) (fun r s' => r = none ∧ s' = s) E s := wpAny_tryMethod_declines (typeIs_int s i t) sl (dec ⟨rfl, rfl, rfl⟩)
  have Ta : PySem.W.Looks (model prog w) s.heap (typeOf (.int i t)) (.type "int") := PySem.W.Looks.of_pure rfl
  have Tb : PySem.W.Looks (model prog w) s.heap (typeOf (.ref x)) (.ref C) := I.type
  have Fa : PySem.W.Looks (model prog w) s.heap (fillsNumberSlot (.type "int") nm) true := PySem.W.Looks.of_pure hfi
  have Fb : PySem.W.Looks (model prog w) s.heap (fillsNumberSlot (.ref C) nm) true := PySem.W.fills_K X hcd hm hs
  have Su : PySem.W.Looks (model prog w) s.heap (isSubtype (.ref C) (.type "int")) false := PySem.W.looks_subIn X hu
  have Pa : PySem.W.Looks (model prog w) s.heap (numberSlotInPython (.type "int") nm) false := PySem.W.Looks.of_pure rfl
  have other : (Value.type "int" == Value.ref C) = false := Bool.eq_false_iff.mpr fun q => by cases beq_iff_eq.mp q
  obtain ⟨hh, g, d, tt, os⟩ := s
  unfold binaryOp1
  refine wpAny_bind (Ta.at (wpAny_bind (Tb.at (wpAny_bind (Fa.at ?_)))))
  simp only [other, Bool.false_eq_true, if_false]
  refine wpAny_bind (Fb.at ?_)
  ksp_lk
  refine wpAny_mono no (fun r s' z => ?_) fun _ _ z => z
  obtain ⟨rfl, rfl⟩ := z
  ksp_lk
  refine wpAny_mono one (fun r s' z => ?_) fun _ _ z => z
  obtain ⟨v, rfl, q⟩ := z
  ksp_lk
  exact ⟨v, rfl, q⟩
end
end Ru

set_option Elab.async false
set_option linter.all false
set_option maxRecDepth 100000
set_option maxHeartbeats 4000000
namespace Ru
open PySem PySem.Spec PyProof.Rows L2
/-! ### an int's own sign declines a plain object -/
section
variable {i : Int} {t : Tok} {x C dx : Addr}
theorem no_add : Meets (Builtin.«int.__add__» ⟨[.int i t, .ref x], []⟩) fun _ R s => s.heap.get? x = some (PySem.W.instObj C dx) ∧ R (.ok (.ret Value.notImplemented)) s :=
  .of_wp fun prog w A R s h => by obtain ⟨hp, g, d, tk, os⟩ := s; obtain ⟨hl, h⟩ := h; wp_walk using wpAny_loadPart' hl; exact ⟨_, rfl, h⟩
theorem no_sub : Meets (Builtin.«int.__sub__» ⟨[.int i t, .ref x], []⟩) fun _ R s => s.heap.get? x = some (PySem.W.instObj C dx) ∧ R (.ok (.ret Value.notImplemented)) s :=
  .of_wp fun prog w A R s h => by obtain ⟨hp, g, d, tk, os⟩ := s; obtain ⟨hl, h⟩ := h; wp_walk using wpAny_loadPart' hl; exact ⟨_, rfl, h⟩
theorem no_mul : Meets (Builtin.«int.__mul__» ⟨[.int i t, .ref x], []⟩) fun _ R s => s.heap.get? x = some (PySem.W.instObj C dx) ∧ R (.ok (.ret Value.notImplemented)) s :=
  .of_wp fun prog w A R s h => by obtain ⟨hp, g, d, tk, os⟩ := s; obtain ⟨hl, h⟩ := h; wp_walk using wpAny_loadPart' hl; exact ⟨_, rfl, h⟩
end
/-- .. as a call: what the rule for the turned sign asks -/
structure Dec (nm : String) : Prop where
  fills : fillsNumberSlot (.type "int") nm = pure true
  ex : ∃ id, Slot "int" (PySem.dunder nm) id ∧ ∀ {prog : Program} {w : World} {A : Around} {E : Value → Shared → Prop} {s : Shared} {i : Int} {t : Tok} {x C dx : Addr} {Q : Value → Shared → Prop}, s.heap.get? x = some (PySem.W.instObj C dx) → Q .notImplemented s →
    wpAny (model prog w) A (call (.builtin id) [.int i t, .ref x]) Q E s
theorem dec_add : Dec "add" := ⟨PySem.F.fills_int_add, _, PySem.F.slot_int_add, fun {_ _ _ _ s i t _ _ _ _} ho q => call_meets PySem.F.slot_int_add (typeIs_int s i t) PySem.F.entry_int_add (PySem.F.args_int_add_2 _ _) no_add ⟨ho, q⟩⟩
theorem dec_sub : Dec "sub" := ⟨PySem.F.fills_int_sub, _, PySem.F.slot_int_sub, fun {_ _ _ _ s i t _ _ _ _} ho q => call_meets PySem.F.slot_int_sub (typeIs_int s i t) PySem.F.entry_int_sub (PySem.F.args_int_sub_2 _ _) no_sub ⟨ho, q⟩⟩
theorem dec_mul : Dec "mul" := ⟨PySem.F.fills_int_mul, _, PySem.F.slot_int_mul, fun {_ _ _ _ s i t _ _ _ _} ho q => call_meets PySem.F.slot_int_mul (typeIs_int s i t) PySem.F.entry_int_mul (PySem.F.args_int_mul_2 _ _) no_mul ⟨ho, q⟩⟩
/-- the turned sign is none, or a def of the class -/
def turnB (K : PySem.W.Frag) (C : Addr) (nm : String) : Bool := match PySem.W.findIn K (.ref C) (dunderR nm) with
  | some none => true
  | some (some (.ref _)) => true
  | _ => false
/-- what a class must be, so that its own sign is asked of an int behind it -/
structure BinN (K : PySem.W.Frag) (C : Addr) (nm : String) : Prop where
  r : turnB K C nm = true
  h1 : (PySem.W.findIn K (.type "int") (PySem.dunder nm)).isSome = true
  h2 : (PySem.W.findIn K (.type "int") (dunderR nm)).isSome = true
theorem turn_ok {K : PySem.W.Frag} {C : Addr} {nm : String} (h : turnB K C nm = true) : ∃ rc, PySem.W.findIn K (.ref C) (dunderR nm) = some rc ∧ (rc = none ∨ ∃ g : Addr, rc = some (.ref g)) := by
  unfold turnB at h
  split at h
  · rename_i e
    exact ⟨_, e, .inl rfl⟩
  · rename_i g e
    exact ⟨_, e, .inr ⟨g, rfl⟩⟩
  · cases h
/-- the class has no such sign in place -/
structure NoI (K : PySem.W.Frag) (C : Addr) (nm : String) : Prop where
  m : (PySem.W.clsIn K C).map (·.mro) = some [.ref C, .type "object"]
  a : PySem.W.findIn K (.ref C) (dunderI nm) = some none
  b : PySem.W.findIn K (.type "object") (dunderI nm) = some none
section
variable {X : Cx} {CX CX' : CXT} {k k' : Nat} {C : Addr} {m m' : Str} {ps ps' : List Str} {sp sp' : Sp} {E : XK}
theorem back_of {P : Program} {pins : List (Addr × Obj)} {σ : L2.St} {Q : VK} {A : Around} {Er : Value → Shared → Prop} {s : Shared} {p : Sem Value} (h : wpAny (model P X.w) A p (EP X pins σ Q) Er s) : wpAny (model P X.w) A p (PySem.W.CmpBack (EP X pins σ Q)) Er s :=
  wpAny_mono h (fun z s' e => by
    obtain ⟨t, H', I', rt, qt⟩ := e
    exact SlX.cmpback rt ⟨t, H', I', rt, qt⟩) fun _ _ e => e
theorem ins_obj {P : Program} {w : World} {H : Hp} {h : Heap} {a dx : Addr} {fs : List (Str × V)} (hok : HOk P w H h) (e : H a = some (.ins C dx fs)) : h.get? a = some (PySem.W.instObj C dx) := by
  obtain ⟨_, _, _, ob, _⟩ := (show ObjOk P w H h a (.ins C dx fs) from hok a _ e)
  exact ob
theorem op_im {op : Operator} (M : CdM X.prog X.w X.K X.mg X.base CX k C m ps sp) (hm : PySem.dunder op.info.2 = m) (c : PySem.W.selfFirst X.K C = true) (B : BinN X.K C op.info.2) (u : PySem.W.subIn X.K (.type "int") (.ref C) = some false) (hr : Room k X.A) (hx : Passes CX X E) :
    OpR X (binaryOp op) (rBinI C sp E) := by
  subst hm
  obtain ⟨f, fd, F, a, b, _, bd⟩ := M.ex
  intro pins s σ H x y v z Q I rx ry h
  obtain ⟨p, dx, fs, i, rfl, rfl, ha, q⟩ := h
  cases rx
  obtain ⟨t, rfl⟩ := ry
  obtain ⟨_, J, _⟩ := ins_get I.hok ha
  obtain ⟨_, J, _⟩ := J.look
  obtain ⟨rc, e1, e2⟩ := turn_ok B.r
  obtain ⟨fo, h1⟩ := Option.isSome_iff_exists.mp B.h1
  obtain ⟨ro, h2⟩ := Option.isSome_iff_exists.mp B.h2
  exact sign_of (road_int I.kIn J c a b e1 e2 h1 h2 u (back_of (run_fn (us := [.ref p, .int i t]) (vs := [.ref p, .int i]) F hr bd .nil hx I (.cons rfl (.cons ⟨t, rfl⟩ .nil)) q)))
theorem iop_im {op : Operator} (M : CdM X.prog X.w X.K X.mg X.base CX k C m ps sp) (hm : PySem.dunder op.info.2 = m) (c : PySem.W.selfFirst X.K C = true) (B : BinN X.K C op.info.2) (N : NoI X.K C op.info.2) (u : PySem.W.subIn X.K (.type "int") (.ref C) = some false) (hr : Room k X.A)
    (hx : Passes CX X E) : PIp X op (rBinI C sp E) := by
  subst hm
  obtain ⟨f, fd, F, a, b, _, bd⟩ := M.ex
  intro pins s σ H x y v z Q I rx ry h
  obtain ⟨p, dx, fs, i, rfl, rfl, ha, q⟩ := h
  cases rx
  obtain ⟨t, rfl⟩ := ry
  obtain ⟨_, J, _⟩ := ins_get I.hok ha
  obtain ⟨_, J, _⟩ := J.look
  obtain ⟨rc, e1, e2⟩ := turn_ok B.r
  obtain ⟨fo, h1⟩ := Option.isSome_iff_exists.mp B.h1
  obtain ⟨ro, h2⟩ := Option.isSome_iff_exists.mp B.h2
  exact inSign_of J.type (noIn I.kIn N.m N.a N.b) (road_int I.kIn J c a b e1 e2 h1 h2 u (back_of (run_fn (us := [.ref p, .int i t]) (vs := [.ref p, .int i]) F hr bd .nil hx I (.cons rfl (.cons ⟨t, rfl⟩ .nil)) q)))
theorem iop_bs {op : Operator} (M : CdM X.prog X.w X.K X.mg X.base CX k C m ps sp) (hm : PySem.dunder op.info.2 = m) (c : PySem.W.selfFirst X.K C = true) (N : NoI X.K C op.info.2) (hr : Room k X.A) (hx : Passes CX X E) : PIp X op (rOwnI C sp E) := by
  subst hm
  obtain ⟨f, fd, F, a, b, _, bd⟩ := M.ex
  intro pins s σ H x y v z Q I rx ry h
  obtain ⟨p, q, dx, dy, fs, gs, rfl, rfl, hp, hq, hh⟩ := h
  cases rx
  cases ry
  obtain ⟨_, J1, _⟩ := ins_get I.hok hp
  obtain ⟨_, J2, _⟩ := ins_get I.hok hq
  obtain ⟨_, J1, _⟩ := J1.look
  obtain ⟨_, J2, _⟩ := J2.look
  exact inSign_of J1.type (noIn I.kIn N.m N.a N.b) (road_same I.kIn J1 J2 c a b (back_of (run_fn (us := [.ref p, .ref q]) (vs := [.ref p, .ref q]) F hr bd .nil hx I (.cons rfl (.cons rfl .nil)) hh)))
/-- an int ahead -/
def rTurn (C : Addr) (sp : Sp) (E : XK) : R2 := fun x y H Q => ∃ (a dx : Addr) (fs : List (Str × V)) (i : Int), x = .int i ∧ y = .ref a ∧ H a = some (.ins C dx fs) ∧ sp [.ref a, .int i] H Q E
theorem op_tm {op : Operator} (M' : CdM X.prog X.w X.K X.mg X.base CX' k' C m' ps' sp') (M : CdM X.prog X.w X.K X.mg X.base CX k C m ps sp) (hm' : PySem.dunder op.info.2 = m') (hm : dunderR op.info.2 = m) (c : PySem.W.selfFirst X.K C = true) (D : Dec op.info.2)
    (u : PySem.W.subIn X.K (.ref C) (.type "int") = some false) (hr : Room k X.A) (hx : Passes CX X E) : OpR X (binaryOp op) (rTurn C sp E) := by
  subst hm hm'
  obtain ⟨f, fd, F, a, b, _, bd⟩ := M.ex
  obtain ⟨f', _, _, a', _, _, _⟩ := M'.ex
  obtain ⟨id, sl, dc⟩ := D.ex
  intro pins s σ H x y v z Q I rx ry h
  obtain ⟨p, dx, fs, i, rfl, rfl, ha, q⟩ := h
  obtain ⟨t, rfl⟩ := rx
  cases ry
  have ho := ins_obj I.hok ha
  obtain ⟨_, J, _⟩ := ins_get I.hok ha
  obtain ⟨_, J, _⟩ := J.look
  exact sign_of (road_turned I.kIn J c a' a b D.fills sl u (fun q => dc ho q) (back_of (run_fn (us := [.ref p, .int i t]) (vs := [.ref p, .int i]) F hr bd .nil hx I (.cons rfl (.cons ⟨t, rfl⟩ .nil)) q)))
end
end Ru

set_option Elab.async false
set_option linter.all false
set_option maxRecDepth 100000
set_option maxHeartbeats 4000000
namespace Ru
open PySem PySem.Spec PyProof.Rows L2
theorem same_put {H0 H : Hp} {D : Addr} {o : HO} (n : H0 D = none) (s : Same H0 H) : Same H0 (upd H D o) := fun b u e => by
  rw [upd_ne (ne_of_none e n)]
  exact s b u e
theorem wts_at {bs : List Int} {i : Nat} (B : Bss bs) (h : i < bs.length) : ∃ v, (wts bs)[i]? = some v ∧ 0 < v ∧ v < 1073741824 := by
  refine ⟨prodL (bs.drop (i + 1)), ?_, ?_⟩
  · unfold wts
    rw [List.getElem?_map, List.getElem?_range h]
    rfl
  · obtain ⟨h1, h2⟩ := prodL_le (zs := bs.drop (i + 1)) (n := 4) (fun z hz => B.2.2 z (List.mem_of_mem_drop hz)) (by rw [List.length_drop]; have := B.2.1; omega)
    have q : (100 : Int) ^ 4 = 100000000 := by decide
    omega
theorem rep_flat {n : Nat} : (List.replicate n [V.int 0]).flatten = (List.replicate n 0).map V.int := by
  induction n with
  | zero => rfl
  | succ n ih =>
    rw [List.replicate_succ, List.flatten_cons, ih, List.replicate_succ, List.map_cons]
    rfl
theorem rep_take {n i : Nat} (h : i < n) : (List.replicate n (0 : Int))[i]? = some 0 := by
  rw [List.getElem?_replicate, if_pos h]
theorem zero_dgs {bs : List Int} (B : Bss bs) : Dgs (List.replicate bs.length 0) bs := by
  refine dgs_of (List.length_replicate) fun i d b e1 e2 => ?_
  have hi : i < bs.length := (List.getElem?_eq_some_iff.mp e2).1
  rw [rep_take hi] at e1
  cases e1
  have := B.2.2 b (List.mem_of_getElem? e2)
  omega
end Ru
namespace Ru
open PySem PySem.Spec PyProof.Rows L2
theorem mono_fld {K : PySem.W.Frag} {ta : TE} {f : Str} (a : Mono ta) : Mono (tFld K ta f) := fun σ H Q Q' g h => a σ H _ _ (fun x H1 ⟨p, C, dx, fs, v, e1, e2, e3, e4, e5, q⟩ => ⟨p, C, dx, fs, v, e1, e2, e3, e4, e5, g _ _ q⟩) h
theorem mono_neg {ta : TE} (a : Mono ta) : Mono (tUn (rU fun i => .int (-i)) ta) := fun σ H Q Q' g h => a σ H _ _ (fun x H1 ⟨i, e, q⟩ => ⟨i, e, g _ _ q⟩) h
end Ru
namespace Ru
open PySem PySem.Spec PyProof.Rows L2
/-- the tables don't stand where a list stands -/
theorem tabs_bt {T : List (Addr × Str)} {d : Addr} {H H' : Hp} {xs : List V} (hd : H d = some (.lst xs)) (s : Bt d H H') (t : LamX.Tabs T H) : LamX.Tabs T H' := by
  intro p hp
  obtain ⟨ps, h1, h2, h3⟩ := t p hp
  refine ⟨ps, s _ _ h1 (fun e => ?_), h2, fun pos cv hc => ?_⟩
  · rw [e, hd] at h1
    cases h1
  · obtain ⟨c, e1, e2⟩ := h3 pos cv hc
    refine ⟨c, e1, s _ _ e2 (fun e => ?_)⟩
    rw [e, hd] at e2
    cases (show HO.lst xs = HO.ext _ from Option.some.inj e2)
theorem PenL.ext {H H' : Hp} {d l : Addr} {cells : List Int} {a r : Int} (s : LamX.ExtN H H') (P : PenL H d l cells a r) : PenL H' d l cells a r :=
  ⟨s _ _ P.dk (fun _ z => by cases z), s _ _ P.cl (fun _ z => by cases z), P.len, P.a0, P.r0⟩
theorem PenL.off {H : Hp} {d l D : Addr} {cells : List Int} {a r : Int} {u : HO} (n1 : D ≠ d) (n2 : D ≠ l) (P : PenL H d l cells a r) : PenL (upd H D u) d l cells a r :=
  ⟨by rw [upd_ne (Ne.symm n1)]; exact P.dk, by rw [upd_ne (Ne.symm n2)]; exact P.cl, P.len, P.a0, P.r0⟩
/-- a new list is filled meanwhile -/
theorem Bt.fill {d D : Addr} {H H1 H2 : Hp} {u : HO} (t1 : Bt d H H1) (n : H1 D = none) (t2 : Bt d H H2) : Bt d H (upd H2 D u) := fun b o e nb => by
  rw [upd_ne (ne_of_none (t1 b o e nb) n)]
  exact t2 b o e nb
theorem ints_ne {H : Hp} {d l b : Addr} {zs : List V} {ns : List Int} (hd : H d = some (.lst (.ref l :: zs))) (h : H b = some (.lst (ns.map V.int))) : b ≠ d := fun e => by
  rw [e, hd] at h
  have z : V.ref l :: zs = ns.map V.int := by injection (Option.some.inj h)
  cases ns with
  | nil => cases z
  | cons x xs => cases z
theorem num_ext {C : Addr} {H H' : Hp} {a : Addr} {ds bs : List Int} (x : LamX.ExtN H H') (h : NumAt C H a ds bs) : NumAt C H' a ds bs := by
  obtain ⟨dx, da, ba, h1, h2, h3⟩ := h
  have rd : ∀ {b : Addr} {u : HO}, (∀ ps, u ≠ .tbl ps) → Rd H b u → Rd H' b u := fun {b u} n q => q.elim (fun q => .inl (x _ _ q n)) fun ⟨o, q⟩ => .inr ⟨o, x _ _ q fun _ z => by cases z⟩
  exact ⟨dx, da, ba, x _ _ h1 (fun _ z => by cases z), rd (fun _ z => by cases z) h2, rd (fun _ z => by cases z) h3⟩
end Ru
namespace Ru
open PySem PySem.Spec PyProof.Rows L2
theorem ext_put {H H1 H2 : Hp} {q : Addr} {u : HO} (x1 : LamX.ExtN H H1) (n : H1 q = none) (x2 : LamX.ExtN H H2) : LamX.ExtN H (upd H2 q u) := fun b o e t => by
  by_cases c : b = q
  · subst c
    rw [x1 _ _ e t] at n
    cases n
  · rw [upd_ne c]
    exact x2 _ _ e t
theorem num_put {C : Addr} {H : Hp} {q a : Addr} {xs : List V} {u : HO} {ds bs : List Int} (hq : H q = some (.lst xs)) (h : NumAt C H a ds bs) : NumAt C (upd H q u) a ds bs := NumAt.ki (Ki.of .put) hq h
end Ru
namespace Ru
open PySem PySem.Spec PyProof.Rows L2
theorem set_cut {xs : List Int} {m : Nat} {x : Int} (h : m < xs.length) : xs.take m ++ [x] ++ xs.drop (m + 1) = xs.set m x := by
  rw [List.set_eq_take_append_cons_drop, if_pos h, List.append_assoc]
  rfl
theorem bss_set {bs : List Int} {m : Nat} {c : Int} (h : Bss bs) (l : 2 ≤ c ∧ c ≤ 100) : Bss (bs.set m c) := by
  refine ⟨by rw [List.length_set]; exact h.1, by rw [List.length_set]; exact h.2.1, fun z hz => ?_⟩
  rcases List.mem_or_eq_of_mem_set hz with q | q
  · exact h.2.2 z q
  · rw [q]
    exact l
end Ru
set_option Elab.async false
set_option linter.all false
set_option maxRecDepth 100000
set_option maxHeartbeats 0
namespace K04
open PySem PySem.Spec PyProof.Rows L2 Ru
def top (i : Nat) : Stmt := PySem.Challenge.pw_risingread_k04_arithmetic_by_value.main.body.getD i (.Pass ⟨0, 0, 0, 0⟩)
abbrev sWall : Stmt := top 0
def dWall : He.DefD := ⟨("_wall", none), "_wall", "_wall", defArgs sWall, defBody sWall, defScope sWall, [], []⟩
abbrev sIsWhole : Stmt := top 3
def dIsWhole : He.DefD := ⟨("is_whole", none), "is_whole", "is_whole", defArgs sIsWhole, defBody sIsWhole, defScope sIsWhole, [], []⟩
abbrev sIsSequence : Stmt := top 4
def dIsSequence : He.DefD := ⟨("is_sequence", none), "is_sequence", "is_sequence", defArgs sIsSequence, defBody sIsSequence, defScope sIsSequence, [], []⟩
abbrev sNoNumeral_init : Stmt := inClass (top 7) 0
def dNoNumeral_init : He.DefD := ⟨("NoNumeral", some "__init__"), "__init__", "NoNumeral.__init__", defArgs sNoNumeral_init, defBody sNoNumeral_init, defScope sNoNumeral_init, [], []⟩
abbrev sNoPlace_init : Stmt := inClass (top 8) 0
def dNoPlace_init : He.DefD := ⟨("NoPlace", some "__init__"), "__init__", "NoPlace.__init__", defArgs sNoPlace_init, defBody sNoPlace_init, defScope sNoPlace_init, [], []⟩
abbrev sOverflow_init : Stmt := inClass (top 9) 0
def dOverflow_init : He.DefD := ⟨("Overflow", some "__init__"), "__init__", "Overflow.__init__", defArgs sOverflow_init, defBody sOverflow_init, defScope sOverflow_init, [], []⟩
abbrev sNoText_init : Stmt := inClass (top 12) 0
def dNoText_init : He.DefD := ⟨("NoText", some "__init__"), "__init__", "NoText.__init__", defArgs sNoText_init, defBody sNoText_init, defScope sNoText_init, [], []⟩
abbrev sIsBases : Stmt := top 17
def dIsBases : He.DefD := ⟨("is_bases", none), "is_bases", "is_bases", defArgs sIsBases, defBody sIsBases, defScope sIsBases, [], []⟩
abbrev sProducts : Stmt := top 18
def dProducts : He.DefD := ⟨("_products", none), "_products", "_products", defArgs sProducts, defBody sProducts, defScope sProducts, [], []⟩
abbrev sWeights : Stmt := top 19
def dWeights : He.DefD := ⟨("weights", none), "weights", "weights", defArgs sWeights, defBody sWeights, defScope sWeights, [], []⟩
abbrev sCountOf : Stmt := top 20
def dCountOf : He.DefD := ⟨("count_of", none), "count_of", "count_of", defArgs sCountOf, defBody sCountOf, defScope sCountOf, [], []⟩
abbrev sNumeral_init : Stmt := inClass (top 23) 2
def dNumeral_init : He.DefD := ⟨("Numeral", some "__init__"), "__init__", "Numeral.__init__", defArgs sNumeral_init, defBody sNumeral_init, defScope sNumeral_init, [], []⟩
abbrev sNumeral_is_numeral : Stmt := inClass (top 23) 3
abbrev sNumeral_of : Stmt := inClass (top 23) 4
abbrev sNumeral_read : Stmt := inClass (top 23) 5
abbrev sNumeral_with_value : Stmt := inClass (top 23) 6
def dNumeral_with_value : He.DefD := ⟨("Numeral", some "_with_value"), "_with_value", "Numeral._with_value", defArgs sNumeral_with_value, defBody sNumeral_with_value, defScope sNumeral_with_value, [], []⟩
abbrev sNumeral_changed : Stmt := inClass (top 23) 7
def dNumeral_changed : He.DefD := ⟨("Numeral", some "changed"), "changed", "Numeral.changed", defArgs sNumeral_changed, defBody sNumeral_changed, defScope sNumeral_changed, [], []⟩
abbrev sNumeral_first_change : Stmt := inClass (top 23) 8
def dNumeral_first_change : He.DefD := ⟨("Numeral", some "first_change"), "first_change", "Numeral.first_change", defArgs sNumeral_first_change, defBody sNumeral_first_change, defScope sNumeral_first_change, [], []⟩
abbrev sNumeral_eq : Stmt := inClass (top 23) 9
def dNumeral_eq : He.DefD := ⟨("Numeral", some "__eq__"), "__eq__", "Numeral.__eq__", defArgs sNumeral_eq, defBody sNumeral_eq, defScope sNumeral_eq, [], []⟩
abbrev sNumeral_lt : Stmt := inClass (top 23) 10
def dNumeral_lt : He.DefD := ⟨("Numeral", some "__lt__"), "__lt__", "Numeral.__lt__", defArgs sNumeral_lt, defBody sNumeral_lt, defScope sNumeral_lt, [], []⟩
abbrev sNumeral_le : Stmt := inClass (top 23) 11
def dNumeral_le : He.DefD := ⟨("Numeral", some "__le__"), "__le__", "Numeral.__le__", defArgs sNumeral_le, defBody sNumeral_le, defScope sNumeral_le, [], []⟩
abbrev sNumeral_gt : Stmt := inClass (top 23) 12
def dNumeral_gt : He.DefD := ⟨("Numeral", some "__gt__"), "__gt__", "Numeral.__gt__", defArgs sNumeral_gt, defBody sNumeral_gt, defScope sNumeral_gt, [], []⟩
abbrev sNumeral_ge : Stmt := inClass (top 23) 13
def dNumeral_ge : He.DefD := ⟨("Numeral", some "__ge__"), "__ge__", "Numeral.__ge__", defArgs sNumeral_ge, defBody sNumeral_ge, defScope sNumeral_ge, [], []⟩
abbrev sNumeral_add : Stmt := inClass (top 23) 14
def dNumeral_add : He.DefD := ⟨("Numeral", some "__add__"), "__add__", "Numeral.__add__", defArgs sNumeral_add, defBody sNumeral_add, defScope sNumeral_add, [], []⟩
abbrev sNumeral_radd : Stmt := inClass (top 23) 15
def dNumeral_radd : He.DefD := ⟨("Numeral", some "__radd__"), "__radd__", "Numeral.__radd__", defArgs sNumeral_radd, defBody sNumeral_radd, defScope sNumeral_radd, [], []⟩
abbrev sNumeral_sub : Stmt := inClass (top 23) 16
def dNumeral_sub : He.DefD := ⟨("Numeral", some "__sub__"), "__sub__", "Numeral.__sub__", defArgs sNumeral_sub, defBody sNumeral_sub, defScope sNumeral_sub, [], []⟩
abbrev sNumeral_rsub : Stmt := inClass (top 23) 17
def dNumeral_rsub : He.DefD := ⟨("Numeral", some "__rsub__"), "__rsub__", "Numeral.__rsub__", defArgs sNumeral_rsub, defBody sNumeral_rsub, defScope sNumeral_rsub, [], []⟩
abbrev sNumeral_mul : Stmt := inClass (top 23) 18
def dNumeral_mul : He.DefD := ⟨("Numeral", some "__mul__"), "__mul__", "Numeral.__mul__", defArgs sNumeral_mul, defBody sNumeral_mul, defScope sNumeral_mul, [], []⟩
abbrev sNumeral_rmul : Stmt := inClass (top 23) 19
def dNumeral_rmul : He.DefD := ⟨("Numeral", some "__rmul__"), "__rmul__", "Numeral.__rmul__", defArgs sNumeral_rmul, defBody sNumeral_rmul, defScope sNumeral_rmul, [], []⟩
abbrev sNumeral_pow : Stmt := inClass (top 23) 20
def dNumeral_pow : He.DefD := ⟨("Numeral", some "__pow__"), "__pow__", "Numeral.__pow__", defArgs sNumeral_pow, defBody sNumeral_pow, defScope sNumeral_pow, [], []⟩
abbrev sNumeral_floordiv : Stmt := inClass (top 23) 21
def dNumeral_floordiv : He.DefD := ⟨("Numeral", some "__floordiv__"), "__floordiv__", "Numeral.__floordiv__", defArgs sNumeral_floordiv, defBody sNumeral_floordiv, defScope sNumeral_floordiv, [], []⟩
abbrev sNumeral_mod : Stmt := inClass (top 23) 22
def dNumeral_mod : He.DefD := ⟨("Numeral", some "__mod__"), "__mod__", "Numeral.__mod__", defArgs sNumeral_mod, defBody sNumeral_mod, defScope sNumeral_mod, [], []⟩
abbrev sNumeral_lshift : Stmt := inClass (top 23) 23
def dNumeral_lshift : He.DefD := ⟨("Numeral", some "__lshift__"), "__lshift__", "Numeral.__lshift__", defArgs sNumeral_lshift, defBody sNumeral_lshift, defScope sNumeral_lshift, [], []⟩
abbrev sNumeral_rshift : Stmt := inClass (top 23) 24
def dNumeral_rshift : He.DefD := ⟨("Numeral", some "__rshift__"), "__rshift__", "Numeral.__rshift__", defArgs sNumeral_rshift, defBody sNumeral_rshift, defScope sNumeral_rshift, [], []⟩
abbrev sNumeral_xor : Stmt := inClass (top 23) 25
def dNumeral_xor : He.DefD := ⟨("Numeral", some "__xor__"), "__xor__", "Numeral.__xor__", defArgs sNumeral_xor, defBody sNumeral_xor, defScope sNumeral_xor, [], []⟩
abbrev sNumeral_neg : Stmt := inClass (top 23) 26
def dNumeral_neg : He.DefD := ⟨("Numeral", some "__neg__"), "__neg__", "Numeral.__neg__", defArgs sNumeral_neg, defBody sNumeral_neg, defScope sNumeral_neg, [], []⟩
abbrev sNumeral_invert : Stmt := inClass (top 23) 27
def dNumeral_invert : He.DefD := ⟨("Numeral", some "__invert__"), "__invert__", "Numeral.__invert__", defArgs sNumeral_invert, defBody sNumeral_invert, defScope sNumeral_invert, [], []⟩
abbrev sNumeral_bool : Stmt := inClass (top 23) 28
def dNumeral_bool : He.DefD := ⟨("Numeral", some "__bool__"), "__bool__", "Numeral.__bool__", defArgs sNumeral_bool, defBody sNumeral_bool, defScope sNumeral_bool, [], []⟩
abbrev sNumeral_len : Stmt := inClass (top 23) 29
def dNumeral_len : He.DefD := ⟨("Numeral", some "__len__"), "__len__", "Numeral.__len__", defArgs sNumeral_len, defBody sNumeral_len, defScope sNumeral_len, [], []⟩
abbrev sNumeral_getitem : Stmt := inClass (top 23) 30
def dNumeral_getitem : He.DefD := ⟨("Numeral", some "__getitem__"), "__getitem__", "Numeral.__getitem__", defArgs sNumeral_getitem, defBody sNumeral_getitem, defScope sNumeral_getitem, [], []⟩
abbrev sNumeral_iter : Stmt := inClass (top 23) 31
def dNumeral_iter : He.DefD := ⟨("Numeral", some "__iter__"), "__iter__", "Numeral.__iter__", defArgs sNumeral_iter, defBody sNumeral_iter, defScope sNumeral_iter, [], []⟩
abbrev sNumeral_contains : Stmt := inClass (top 23) 32
def dNumeral_contains : He.DefD := ⟨("Numeral", some "__contains__"), "__contains__", "Numeral.__contains__", defArgs sNumeral_contains, defBody sNumeral_contains, defScope sNumeral_contains, [], []⟩
abbrev sNumeral_str : Stmt := inClass (top 23) 33
def dNumeral_str : He.DefD := ⟨("Numeral", some "__str__"), "__str__", "Numeral.__str__", defArgs sNumeral_str, defBody sNumeral_str, defScope sNumeral_str, [], []⟩
abbrev sIsAsLong : Stmt := top 24
def dIsAsLong : He.DefD := ⟨("_is_as_long", none), "_is_as_long", "_is_as_long", defArgs sIsAsLong, defBody sIsAsLong, defScope sIsAsLong, [], []⟩
abbrev sFirstWrong : Stmt := top 25
def dFirstWrong : He.DefD := ⟨("_first_wrong", none), "_first_wrong", "_first_wrong", defArgs sFirstWrong, defBody sFirstWrong, defScope sFirstWrong, [], []⟩
abbrev sDigitsOf : Stmt := top 26
def dDigitsOf : He.DefD := ⟨("_digits_of", none), "_digits_of", "_digits_of", defArgs sDigitsOf, defBody sDigitsOf, defScope sDigitsOf, [], []⟩
abbrev sCheckLike : Stmt := top 27
def dCheckLike : He.DefD := ⟨("_check_like", none), "_check_like", "_check_like", defArgs sCheckLike, defBody sCheckLike, defScope sCheckLike, [], []⟩
abbrev sCheckDivisor : Stmt := top 28
def dCheckDivisor : He.DefD := ⟨("_check_divisor", none), "_check_divisor", "_check_divisor", defArgs sCheckDivisor, defBody sCheckDivisor, defScope sCheckDivisor, [], []⟩
abbrev sAmountOf : Stmt := top 29
def dAmountOf : He.DefD := ⟨("_amount_of", none), "_amount_of", "_amount_of", defArgs sAmountOf, defBody sAmountOf, defScope sAmountOf, [], []⟩
abbrev sMovedUp : Stmt := top 30
def dMovedUp : He.DefD := ⟨("_moved_up", none), "_moved_up", "_moved_up", defArgs sMovedUp, defBody sMovedUp, defScope sMovedUp, [], []⟩
abbrev sDotted : Stmt := top 31
def dDotted : He.DefD := ⟨("_dotted", none), "_dotted", "_dotted", defArgs sDotted, defBody sDotted, defScope sDotted, [], []⟩
abbrev sEndOfNumber : Stmt := top 32
def dEndOfNumber : He.DefD := ⟨("_end_of_number", none), "_end_of_number", "_end_of_number", defArgs sEndOfNumber, defBody sEndOfNumber, defScope sEndOfNumber, [], []⟩
abbrev sReadNumbers : Stmt := top 33
def dReadNumbers : He.DefD := ⟨("_read_numbers", none), "_read_numbers", "_read_numbers", defArgs sReadNumbers, defBody sReadNumbers, defScope sReadNumbers, [], []⟩
abbrev sPen : Stmt := top 35
def dPen : He.DefD := ⟨("_law_pen", none), "_law_pen", "_law_pen", defArgs sPen, defBody sPen, defScope sPen, [], []⟩
abbrev sTake : Stmt := top 36
def dTake : He.DefD := ⟨("_law_take", none), "_law_take", "_law_take", defArgs sTake, defBody sTake, defScope sTake, [], []⟩
abbrev sLPick : Stmt := top 37
def dLPick : He.DefD := ⟨("_law_pick", none), "_law_pick", "_law_pick", defArgs sLPick, defBody sLPick, defScope sLPick, [], []⟩
abbrev sLBases : Stmt := top 38
def dLBases : He.DefD := ⟨("_law_bases", none), "_law_bases", "_law_bases", defArgs sLBases, defBody sLBases, defScope sLBases, [], []⟩
abbrev sLDigits : Stmt := top 39
def dLDigits : He.DefD := ⟨("_law_digits", none), "_law_digits", "_law_digits", defArgs sLDigits, defBody sLDigits, defScope sLDigits, [], []⟩
abbrev sLTold : Stmt := top 40
def dLTold : He.DefD := ⟨("_law_told", none), "_law_told", "_law_told", defArgs sLTold, defBody sLTold, defScope sLTold, [], []⟩
abbrev sLDue : Stmt := top 41
def dLDue : He.DefD := ⟨("_law_due", none), "_law_due", "_law_due", defArgs sLDue, defBody sLDue, defScope sLDue, [], []⟩
abbrev sLNumber : Stmt := top 42
def dLNumber : He.DefD := ⟨("_law_number", none), "_law_number", "_law_number", defArgs sLNumber, defBody sLNumber, defScope sLNumber, [], []⟩
abbrev sLSumsRight : Stmt := top 43
def dLSumsRight : He.DefD := ⟨("_law_sums_right", none), "_law_sums_right", "_law_sums_right", defArgs sLSumsRight, defBody sLSumsRight, defScope sLSumsRight, [], []⟩
abbrev sLPowersRight : Stmt := top 44
def dLPowersRight : He.DefD := ⟨("_law_powers_right", none), "_law_powers_right", "_law_powers_right", defArgs sLPowersRight, defBody sLPowersRight, defScope sLPowersRight, [], []⟩
abbrev sLPartsRight : Stmt := top 45
def dLPartsRight : He.DefD := ⟨("_law_parts_right", none), "_law_parts_right", "_law_parts_right", defArgs sLPartsRight, defBody sLPartsRight, defScope sLPartsRight, [], []⟩
abbrev sLUnlikeRight : Stmt := top 46
def dLUnlikeRight : He.DefD := ⟨("_law_unlike_right", none), "_law_unlike_right", "_law_unlike_right", defArgs sLUnlikeRight, defBody sLUnlikeRight, defScope sLUnlikeRight, [], []⟩
abbrev sLOfRight : Stmt := top 47
def dLOfRight : He.DefD := ⟨("_law_of_right", none), "_law_of_right", "_law_of_right", defArgs sLOfRight, defBody sLOfRight, defScope sLOfRight, [], []⟩
abbrev sLInPlaceRight : Stmt := top 48
def dLInPlaceRight : He.DefD := ⟨("_law_in_place_right", none), "_law_in_place_right", "_law_in_place_right", defArgs sLInPlaceRight, defBody sLInPlaceRight, defScope sLInPlaceRight, [], []⟩
abbrev sLaw : Stmt := top 49
def dLaw : He.DefD := ⟨("law", none), "law", "law", defArgs sLaw, defBody sLaw, defScope sLaw, [], []⟩
end K04

set_option Elab.async false
set_option linter.all false
set_option maxRecDepth 100000
set_option maxHeartbeats 4000000
namespace K04
open PySem PySem.Spec PyProof.Rows L2 Ru
theorem sc_take : FnScope ["_law_pen_here", "_law_limit", "_law_digit", "_law_at", "_law_cell", "_law_great", "_law_mixed"] ["_law_pen_here", "_law_limit"] (defScope sTake) := ⟨rfl, rfl, rfl, by decide +kernel, rfl, by decide +kernel, by decide +kernel⟩
theorem qo1 : (0 : Int) < 2147483629 := by decide
theorem qo2 : (0 : Int) < 2147483587 := by decide
theorem qo3 : (0 : Int) < 2147483563 := by decide
section
variable {P : Program} {w : World} {K : PySem.W.Frag} {mg : Str → Option Value} {base : Heap}
theorem ok_take {f : Addr} {fd : FuncData} (F : FunD K "_law_take" "_law_take" (defArgs sTake) (defBody sTake) (defScope sTake) [] [] f fd) (g_int : mg "int" = none) (g_len : mg "len" = none) (g_abs : mg "abs" = none) :
    FnOk P w K mg base CX0 1 f fd ["_law_pen_here", "_law_limit"] spTakeL := by
  refine F.ok sc_take (fun vs H Q E h => ?_) (fun cdv A outer s H vs Q E hr h => ?_)
  · obtain ⟨d, l, cells, a, r, m, rfl, _⟩ := h
    rfl
  · obtain ⟨d, l, cells, a, r, m, rfl, PA, ha, hm0, hm1, k⟩ := h
    have hu := hu_of hr
    have hu64 := hr.units
    have sc := sc_take
    refine ⟨_, PSs.nox (pss_cons (ps_if (pt_cmpR op_gt (pe_ix ix_list (pv 0) pe_int (fun _ _ => rfl)) pe_int (nomark _))
        (pss_cons (ps_set (i := 2) sc.nd rfl (Or.inl rfl) (pe_op op_mod (pe_callTy call_int1 (by rfl) g_int boot_int (pa_cons (pe_ix ix_list (pv 0) pe_int (fun _ _ => rfl)) pa_nil)) (pv 1)))
        (pss_cons (ps_asg (pe_op op_fdiv (pe_ix ix_list (pv 0) pe_int (fun _ _ => rfl)) (pv 1)) (pg_sub (pv 0) pe_int set_list))
        (pss_one (ps_ret (pv 2)))))
        pss_nil)
      (pss_cons (ps_set (i := 3) sc.nd rfl (Or.inl rfl) (pe_ix ix_list (pv 0) pe_int (fun _ _ => rfl)))
      (pss_cons (ps_asg (pe_op op_add (pv 3) pe_int) (pg_sub (pv 0) pe_int set_list))
      (pss_cons (ps_set (i := 4) sc.nd rfl (Or.inl rfl) (pe_op op_add (pe_op op_mul pe_int (pv 3)) pe_int))
      (pss_cons (ps_if (pt_cmpR (op_neD hu64) (pe_ix ix_list (pv 0) pe_int (fun _ _ => rfl)) (pe_lst pa_nil) (nomark _))
        (pss_one (ps_set (i := 4) sc.nd rfl (Or.inl rfl) (pe_ix ix_list (pe_ix ix_list (pv 0) pe_int (fun _ _ => rfl)) (pe_op op_mod (pe_callTy call_int1 (by rfl) g_int boot_int (pa_cons (pv 3) pa_nil)) (pe_callB call_len_seq (by rfl) g_len PySem.boot_len (pa_cons (pe_ix ix_list (pv 0) pe_int (fun _ _ => rfl)) pa_nil))) (fun _ _ => rfl))))
        pss_nil)
      (pss_cons (ps_if (PW.pt (pw_and (pt_cmpR op_lt (pv 3) (pe_callB call_len_seq (by rfl) g_len PySem.boot_len (pa_cons (pe_ix ix_list (pv 0) pe_int (fun _ _ => rfl)) pa_nil)) (nomark _)) (pw_and1 (pt_cmpR op_ge (pe_callB call_abs (by rfl) g_abs boot_abs (pa_cons (pv 4) pa_nil)) (pe_op op_pow pe_int pe_int) (nomark _)))))
        (pss_cons (ps_set (i := 5) sc.nd rfl (Or.inl rfl) (pe_op op_add (pe_op op_mul pe_int (pe_callB call_abs (by rfl) g_abs boot_abs (pa_cons (pv 4) pa_nil))) (pe_callTy call_int1 (by rfl) g_int boot_int (pa_cons (pe_cmpR op_lt (pv 4) pe_int (nomark _)) pa_nil))))
        (pss_cons (ps_asg (pe_op op_fdiv (pv 5) (pv 1)) (pg_sub (pv 0) pe_int set_list))
        (pss_one (ps_ret (pe_op op_mod (pe_callTy call_int1 (by rfl) g_int boot_int (pa_cons (pv 5) pa_nil)) (pv 1))))))
        pss_nil)
      (pss_cons (ps_set (i := 6) sc.nd rfl (Or.inl rfl) (pe_op op_mod (pe_callTy call_int1 (by rfl) g_int boot_int (pa_cons (pe_op op_pow (pe_op op_add (pe_op op_add (pe_op op_mod (pe_callTy call_int1 (by rfl) g_int boot_int (pa_cons (pv 4) pa_nil)) pe_int) (pe_op op_mul pe_int (pv 3))) pe_int) pe_int) pa_nil)) pe_int))
      (pss_cons (ps_set (i := 6) sc.nd rfl (Or.inl rfl) (pe_op op_mod (pe_callTy call_int1 (by rfl) g_int boot_int (pa_cons (pe_op op_pow (pe_op op_add (pe_op op_add (pe_op op_mul (pv 6) (pe_op op_add (pe_op op_mul pe_int (pv 3)) pe_int)) (pe_op op_mul (pe_op op_mul pe_int (pv 3)) (pv 3))) pe_int) pe_int) pa_nil)) pe_int))
      (pss_one (ps_ret (pe_op op_mod (pe_callTy call_int1 (by rfl) g_int boot_int (pa_cons (pe_op op_fdiv (pv 6) pe_int) pa_nil)) (pv 1)))))))))))), ?_⟩
    have a0 := PA.a0
    have sq := sq_leL a0 ha rfl
    refine ⟨_, rfl, d, _, _, _, rfl, rfl, SqL.of PA.dk, rfl, _, _, rfl, rfl, _, rfl, ?_⟩
    refine ifC (fun h0 => ?_) (fun h0 => ?_)
    · refine ⟨_, rfl, d, _, _, _, rfl, rfl, SqL.of PA.dk, rfl, .inl ⟨_, rfl, _, rfl, _, _, rfl, rfl, hm0, ?_⟩⟩
      refine ⟨_, rfl, d, _, _, _, rfl, rfl, SqL.of PA.dk, rfl, _, rfl, _, _, rfl, rfl, ⟨hm0, hm1⟩, _, rfl, d, _, _, _, rfl, rfl, PA.dk, rfl, ?_⟩
      exact ⟨_, rfl, k _ a _ _ (Int.emod_nonneg _ (by omega)) (Int.emod_lt_of_pos _ hm0) (by omega) .put (PA.but PA.a0 (Int.ediv_nonneg PA.r0 (by omega)))⟩
    · refine ⟨_, rfl, d, _, _, _, rfl, rfl, SqL.of PA.dk, rfl, ?_⟩
      refine ⟨_, rfl, _, _, rfl, rfl, _, rfl, d, _, _, _, rfl, rfl, PA.dk, rfl, ?_⟩
      have P1 : PenL (upd H d (.lst [.ref l, .int (a + 1), .int r])) d l cells (a + 1) r := PA.but (by omega) PA.r0
      have k1 : Bt d H (upd H d (.lst [.ref l, .int (a + 1), .int r])) := .put
      refine ⟨_, rfl, _, _, rfl, rfl, .inl ⟨by decide, by decide⟩, _, _, rfl, rfl, ?_⟩
      refine ⟨_, rfl, d, _, _, _, rfl, rfl, SqL.of P1.dk, rfl, by show 0 ≤ sizeLine; decide, fun q hq => ?_⟩
      have P2 := P1.same (upd_new (o := .lst []) hq)
      have k2 := k1.trans (.of (upd_new (o := .lst []) hq))
      refine ⟨.list (intsD cells), .list [], .lst (SqL.of P2.cl) dp_ints, .lst (SqL.of upd_same) .nil, ?_, ?_, _, rfl, ?_⟩
      · exact shaped_ints
      · exact shaped_nil
      rw [eqv_nil]
      cases he : cells.isEmpty with
      | true =>
        refine iteF ?_
        refine ⟨_, rfl, _, rfl, d, _, _, _, rfl, rfl, SqL.of P2.dk, rfl, l, _, rfl, .inl (SqL.of P2.cl), _, _, rfl, rfl, _, rfl, ?_⟩
        refine ifC (fun h1 => ?_) (fun h1 => ?_)
        · refine ⟨_, rfl, _, rfl, _, _, rfl, rfl, ⟨by decide, by decide, by decide⟩, _, _, rfl, rfl, _, rfl, ?_⟩
          refine ifC (fun h2 => ?_) (fun h2 => ?_)
          · have g0 : 0 ≤ 2 * (if (50047 * a + 331) < 0 then -(50047 * a + 331) else (50047 * a + 331)) + (if decide ((50047 * a + 331) < 0) = true then 1 else 0) := by
              by_cases h : (50047 * a + 331) < 0
              · rw [if_pos h, if_pos (decide_eq_true h)]
                omega
              · rw [if_neg h, if_neg (by rw [decide_eq_false h]; exact Bool.false_ne_true)]
                omega
            refine ⟨_, rfl, _, rfl, _, _, rfl, rfl, .inl ⟨by decide, by decide⟩, _, rfl, _, _, rfl, rfl, .inr ⟨_, rfl, _, _, rfl, rfl, ?_⟩⟩
            refine ⟨_, rfl, _, rfl, _, _, rfl, rfl, ⟨hm0, hm1⟩, _, rfl, d, _, _, _, rfl, rfl, P2.dk, rfl, ?_⟩
            refine ⟨_, rfl, .inl ⟨_, rfl, _, rfl, _, _, rfl, rfl, hm0, ?_⟩⟩
            refine k _ (a + 1) _ _ (Int.emod_nonneg _ (by omega)) (Int.emod_lt_of_pos _ hm0) (Int.le_refl _) (k2.trans .put) (P2.but (by omega) (Int.ediv_nonneg g0 (by omega)))
          · have c0 := Int.emod_nonneg (50047 * a + 331) (show (2147483629 : Int) ≠ 0 by decide)
            have c1 := Int.emod_lt_of_pos (50047 * a + 331) (show (0 : Int) < 2147483629 by decide)
            refine ⟨_, rfl, .inl ⟨_, rfl, _, _, rfl, rfl, qo1, _, rfl, _, _, rfl, rfl, .inl ⟨by decide, by decide⟩, _, _, rfl, rfl, _, _, rfl, rfl, ?_⟩⟩
            refine ⟨_, _, rfl, rfl, ⟨by decide, by decide, by omega⟩, .inl ⟨_, rfl, _, _, rfl, rfl, qo2, ?_⟩⟩
            obtain ⟨y0, y1⟩ := mul_leL (x := (((50047 * a + 331) % 2147483629 + 40037 * a + 751) ^ Int.toNat 5) % 2147483587) (k := 9) (Int.emod_nonneg _ (by decide)) (Int.emod_lt_of_pos _ (by decide)) a0 ha (by decide) (by decide)
            refine ⟨_, rfl, _, rfl, _, _, rfl, rfl, .inl ⟨by decide, by decide⟩, _, _, rfl, rfl, _, _, rfl, rfl, .inl ⟨by omega, by omega⟩, ?_⟩
            refine ⟨_, rfl, _, _, rfl, rfl, .inl ⟨by decide, by decide⟩, _, rfl, _, _, rfl, rfl, .inl ⟨by omega, by omega⟩, _, _, rfl, rfl, _, _, rfl, rfl, ?_⟩
            refine ⟨_, _, rfl, rfl, ⟨by decide, by decide, by omega⟩, .inl ⟨_, rfl, _, _, rfl, rfl, qo3, ?_⟩⟩
            refine ⟨_, rfl, _, _, rfl, rfl, ⟨by decide, by decide⟩, .inl ⟨_, rfl, _, rfl, _, _, rfl, rfl, hm0, ?_⟩⟩
            exact k _ (a + 1) r _ (Int.emod_nonneg _ (by omega)) (Int.emod_lt_of_pos _ hm0) (Int.le_refl _) k2 P2
        · have c0 := Int.emod_nonneg (50047 * a + 331) (show (2147483629 : Int) ≠ 0 by decide)
          have c1 := Int.emod_lt_of_pos (50047 * a + 331) (show (0 : Int) < 2147483629 by decide)
          refine ⟨_, rfl, .inl ⟨_, rfl, _, _, rfl, rfl, qo1, _, rfl, _, _, rfl, rfl, .inl ⟨by decide, by decide⟩, _, _, rfl, rfl, _, _, rfl, rfl, ?_⟩⟩
          refine ⟨_, _, rfl, rfl, ⟨by decide, by decide, by omega⟩, .inl ⟨_, rfl, _, _, rfl, rfl, qo2, ?_⟩⟩
          obtain ⟨y0, y1⟩ := mul_leL (x := (((50047 * a + 331) % 2147483629 + 40037 * a + 751) ^ Int.toNat 5) % 2147483587) (k := 9) (Int.emod_nonneg _ (by decide)) (Int.emod_lt_of_pos _ (by decide)) a0 ha (by decide) (by decide)
          refine ⟨_, rfl, _, rfl, _, _, rfl, rfl, .inl ⟨by decide, by decide⟩, _, _, rfl, rfl, _, _, rfl, rfl, .inl ⟨by omega, by omega⟩, ?_⟩
          refine ⟨_, rfl, _, _, rfl, rfl, .inl ⟨by decide, by decide⟩, _, rfl, _, _, rfl, rfl, .inl ⟨by omega, by omega⟩, _, _, rfl, rfl, _, _, rfl, rfl, ?_⟩
          refine ⟨_, _, rfl, rfl, ⟨by decide, by decide, by omega⟩, .inl ⟨_, rfl, _, _, rfl, rfl, qo3, ?_⟩⟩
          refine ⟨_, rfl, _, _, rfl, rfl, ⟨by decide, by decide⟩, .inl ⟨_, rfl, _, rfl, _, _, rfl, rfl, hm0, ?_⟩⟩
          exact k _ (a + 1) r _ (Int.emod_nonneg _ (by omega)) (Int.emod_lt_of_pos _ hm0) (Int.le_refl _) k2 P2
      | false =>
        have hpos : 0 < cells.length := by
          cases cells with
          | nil => cases he
          | cons z zs => exact Nat.succ_pos _
        have m0 := Int.emod_nonneg a (show (cells.length : Int) ≠ 0 by omega)
        have m1 := Int.emod_lt_of_pos a (show (0 : Int) < cells.length by omega)
        obtain ⟨c, hc⟩ := cellAt m0 m1
        refine iteT ?_
        refine ⟨_, rfl, d, _, _, _, rfl, rfl, SqL.of P2.dk, rfl, _, rfl, .inl ⟨_, rfl, _, rfl, d, _, _, _, rfl, rfl, SqL.of P2.dk, rfl, l, _, rfl, .inl (SqL.of P2.cl), _, _, rfl, rfl, by rw [List.length_map]; omega, l, _, _, .int c, rfl, rfl, SqL.of P2.cl, by rw [List.length_map]; exact hc, ?_⟩⟩
        refine ⟨_, rfl, _, rfl, d, _, _, _, rfl, rfl, SqL.of P2.dk, rfl, l, _, rfl, .inl (SqL.of P2.cl), _, _, rfl, rfl, _, rfl, ?_⟩
        refine ifC (fun h1 => ?_) (fun h1 => ?_)
        · refine ⟨_, rfl, _, rfl, _, _, rfl, rfl, ⟨by decide, by decide, by decide⟩, _, _, rfl, rfl, _, rfl, ?_⟩
          refine ifC (fun h2 => ?_) (fun h2 => ?_)
          · have g0 : 0 ≤ 2 * (if c < 0 then -c else c) + (if decide (c < 0) = true then 1 else 0) := by
              by_cases h : c < 0
              · rw [if_pos h, if_pos (decide_eq_true h)]
                omega
              · rw [if_neg h, if_neg (by rw [decide_eq_false h]; exact Bool.false_ne_true)]
                omega
            refine ⟨_, rfl, _, rfl, _, _, rfl, rfl, .inl ⟨by decide, by decide⟩, _, rfl, _, _, rfl, rfl, .inr ⟨_, rfl, _, _, rfl, rfl, ?_⟩⟩
            refine ⟨_, rfl, _, rfl, _, _, rfl, rfl, ⟨hm0, hm1⟩, _, rfl, d, _, _, _, rfl, rfl, P2.dk, rfl, ?_⟩
            refine ⟨_, rfl, .inl ⟨_, rfl, _, rfl, _, _, rfl, rfl, hm0, ?_⟩⟩
            refine k _ (a + 1) _ _ (Int.emod_nonneg _ (by omega)) (Int.emod_lt_of_pos _ hm0) (Int.le_refl _) (k2.trans .put) (P2.but (by omega) (Int.ediv_nonneg g0 (by omega)))
          · have c0 := Int.emod_nonneg c (show (2147483629 : Int) ≠ 0 by decide)
            have c1 := Int.emod_lt_of_pos c (show (0 : Int) < 2147483629 by decide)
            refine ⟨_, rfl, .inl ⟨_, rfl, _, _, rfl, rfl, qo1, _, rfl, _, _, rfl, rfl, .inl ⟨by decide, by decide⟩, _, _, rfl, rfl, _, _, rfl, rfl, ?_⟩⟩
            refine ⟨_, _, rfl, rfl, ⟨by decide, by decide, by omega⟩, .inl ⟨_, rfl, _, _, rfl, rfl, qo2, ?_⟩⟩
            obtain ⟨y0, y1⟩ := mul_leL (x := ((c % 2147483629 + 40037 * a + 751) ^ Int.toNat 5) % 2147483587) (k := 9) (Int.emod_nonneg _ (by decide)) (Int.emod_lt_of_pos _ (by decide)) a0 ha (by decide) (by decide)
            refine ⟨_, rfl, _, rfl, _, _, rfl, rfl, .inl ⟨by decide, by decide⟩, _, _, rfl, rfl, _, _, rfl, rfl, .inl ⟨by omega, by omega⟩, ?_⟩
            refine ⟨_, rfl, _, _, rfl, rfl, .inl ⟨by decide, by decide⟩, _, rfl, _, _, rfl, rfl, .inl ⟨by omega, by omega⟩, _, _, rfl, rfl, _, _, rfl, rfl, ?_⟩
            refine ⟨_, _, rfl, rfl, ⟨by decide, by decide, by omega⟩, .inl ⟨_, rfl, _, _, rfl, rfl, qo3, ?_⟩⟩
            refine ⟨_, rfl, _, _, rfl, rfl, ⟨by decide, by decide⟩, .inl ⟨_, rfl, _, rfl, _, _, rfl, rfl, hm0, ?_⟩⟩
            exact k _ (a + 1) r _ (Int.emod_nonneg _ (by omega)) (Int.emod_lt_of_pos _ hm0) (Int.le_refl _) k2 P2
        · have c0 := Int.emod_nonneg c (show (2147483629 : Int) ≠ 0 by decide)
          have c1 := Int.emod_lt_of_pos c (show (0 : Int) < 2147483629 by decide)
          refine ⟨_, rfl, .inl ⟨_, rfl, _, _, rfl, rfl, qo1, _, rfl, _, _, rfl, rfl, .inl ⟨by decide, by decide⟩, _, _, rfl, rfl, _, _, rfl, rfl, ?_⟩⟩
          refine ⟨_, _, rfl, rfl, ⟨by decide, by decide, by omega⟩, .inl ⟨_, rfl, _, _, rfl, rfl, qo2, ?_⟩⟩
          obtain ⟨y0, y1⟩ := mul_leL (x := ((c % 2147483629 + 40037 * a + 751) ^ Int.toNat 5) % 2147483587) (k := 9) (Int.emod_nonneg _ (by decide)) (Int.emod_lt_of_pos _ (by decide)) a0 ha (by decide) (by decide)
          refine ⟨_, rfl, _, rfl, _, _, rfl, rfl, .inl ⟨by decide, by decide⟩, _, _, rfl, rfl, _, _, rfl, rfl, .inl ⟨by omega, by omega⟩, ?_⟩
          refine ⟨_, rfl, _, _, rfl, rfl, .inl ⟨by decide, by decide⟩, _, rfl, _, _, rfl, rfl, .inl ⟨by omega, by omega⟩, _, _, rfl, rfl, _, _, rfl, rfl, ?_⟩
          refine ⟨_, _, rfl, rfl, ⟨by decide, by decide, by omega⟩, .inl ⟨_, rfl, _, _, rfl, rfl, qo3, ?_⟩⟩
          refine ⟨_, rfl, _, _, rfl, rfl, ⟨by decide, by decide⟩, .inl ⟨_, rfl, _, rfl, _, _, rfl, rfl, hm0, ?_⟩⟩
          exact k _ (a + 1) r _ (Int.emod_nonneg _ (by omega)) (Int.emod_lt_of_pos _ hm0) (Int.le_refl _) k2 P2
/-- list(script[:63]), 0, 0 -/
theorem sc_pen : FnScope ["_law_script"] ["_law_script"] (defScope sPen) := ⟨rfl, rfl, rfl, by decide +kernel, rfl, by decide +kernel, by decide +kernel⟩
theorem ok_pen {f : Addr} {fd : FuncData} (F : FunD K "_law_pen" "_law_pen" (defArgs sPen) (defBody sPen) (defScope sPen) [] [] f fd) (g_list : mg "list" = none) :
    FnOk P w K mg base CX0 1 f fd ["_law_script"] (spPenL K) := by
  refine F.ok sc_pen (fun vs H Q E h => ?_) (fun cdv A outer s H vs Q E hr h => ?_)
  · obtain ⟨a, ns, rfl, _⟩ := h
    rfl
  · obtain ⟨a, ns, rfl, hS, hlen, k⟩ := h
    have sc := sc_pen
    have hl2 : (ns.map V.int).length ≤ 63 := by rw [List.length_map]; exact hlen
    refine ⟨_, PSs.nox (pss_one (ps_ret (pe_lst (pa_cons (pe_callTy call_list_of (by rfl) g_list boot_list (pa_cons (pe_slice sl_list (pv 0) po_none (po_some pe_int)) pa_nil)) (pa_cons pe_int (pa_cons pe_int pa_nil)))))), ?_⟩
    refine ⟨_, rfl, _, rfl, a, _, rfl, hS, fun p hp => ⟨p, _, rfl, .inl (SqL.of upd_same), fun l hl => ?_⟩⟩
    rw [cutL63 hl2] at hl ⊢
    refine ⟨by show 3 ≤ sizeLine; decide, fun d hd => ?_⟩
    have n2 : l ≠ d := ne_of_none upd_same hd
    refine k d l _ (fun b o e => ?_) ⟨upd_same, by rw [upd_ne n2]; exact upd_same, hlen, by decide, by decide⟩
    have n3 := ne_of_none e hp
    rw [upd_ne (ne_of_none (H := upd (upd H p (.lst (ns.map V.int))) l (.lst (ns.map V.int))) (by rw [upd_ne (ne_of_none (H := upd H p (.lst (ns.map V.int))) (by rw [upd_ne n3]; exact e) hl), upd_ne n3]; exact e) hd), upd_ne (ne_of_none (H := upd H p (.lst (ns.map V.int))) (by rw [upd_ne n3]; exact e) hl), upd_ne n3]
    exact e
end
end K04

set_option Elab.async false
set_option linter.all false
set_option maxRecDepth 100000
set_option maxHeartbeats 4000000
namespace K04
open PySem PySem.Spec PyProof.Rows L2 Ru
theorem sc_whole : FnScope ["thing"] ["thing"] (defScope sIsWhole) := ⟨rfl, rfl, rfl, by decide +kernel, rfl, by decide +kernel, by decide +kernel⟩
theorem sc_seq : FnScope ["thing"] ["thing"] (defScope sIsSequence) := ⟨rfl, rfl, rfl, by decide +kernel, rfl, by decide +kernel, by decide +kernel⟩
theorem sc_isb : FnScope ["thing", "base"] ["thing"] (defScope sIsBases) := ⟨rfl, rfl, rfl, by decide +kernel, rfl, by decide +kernel, by decide +kernel⟩
theorem wb_and (x : PyData) : (if (wholeD x || decide (tyD x = "bool")) = true then !decide (tyD x = "bool") else false) = wholeD x := by
  cases x <;> simp [wholeD, tyD]
section
variable {P : Program} {w : World} {K : PySem.W.Frag} {mg : Str → Option Value} {base : Heap}
theorem ok_whole {f : Addr} {fd : FuncData} (F : FunD K "is_whole" "is_whole" (defArgs sIsWhole) (defBody sIsWhole) (defScope sIsWhole) [] [] f fd) (g_isi : mg "isinstance" = none) (g_int : mg "int" = none) (g_bool : mg "bool" = none) :
    FnOk P w K mg base CX0 1 f fd ["thing"] (spWhole K) := by
  refine F.ok sc_whole (fun vs H Q E h => ?_) (fun cdv A outer s H vs Q E hr h => ?_)
  · obtain ⟨v, d, x, rfl, _⟩ := h
    rfl
  · obtain ⟨v, d, x, rfl, hx, q⟩ := h
    have sc := sc_whole
    refine ⟨_, PSs.nox (pss_one (ps_ret (pe_and (pe_callB call_isi (by rfl) g_isi boot_isinstance (pa_cons (pv 0) (pa_cons (pe_bltn (v := V.ty "int") (by rfl) g_int boot_int rfl) pa_nil)))
      (pe_one (pe_not (pe_callB call_isi (by rfl) g_isi boot_isinstance (pa_cons (pv 0) (pa_cons (pe_bltn (v := V.ty "bool") (by rfl) g_bool boot_bool rfl) pa_nil)))))))), ?_⟩
    refine ⟨_, rfl, _, _, _, _, _, rfl, .ty "int", hx.ty, kit_ty (kit_int x), _, rfl, ?_⟩
    have e := wb_and x
    cases hb : (wholeD x || decide (tyD x = "bool")) with
    | true =>
      rw [hb] at e
      refine iteT ⟨_, rfl, _, _, _, _, _, rfl, .ty "bool", hx.ty, kit_ty (kit_bool x), _, rfl, ?_⟩
      rw [show (!decide (tyD x = "bool")) = wholeD x from e]
      exact q
    | false =>
      rw [hb] at e
      refine iteF ?_
      rw [show false = wholeD x from e]
      exact q
theorem ok_seq {f : Addr} {fd : FuncData} (F : FunD K "is_sequence" "is_sequence" (defArgs sIsSequence) (defBody sIsSequence) (defScope sIsSequence) [] [] f fd) (g_isi : mg "isinstance" = none) (g_tuple : mg "tuple" = none) (g_list : mg "list" = none) :
    FnOk P w K mg base CX0 1 f fd ["thing"] (spSeq K) := by
  refine F.ok sc_seq (fun vs H Q E h => ?_) (fun cdv A outer s H vs Q E hr h => ?_)
  · obtain ⟨v, d, x, rfl, _⟩ := h
    rfl
  · obtain ⟨v, d, x, rfl, hx, q⟩ := h
    have sc := sc_seq
    refine ⟨_, PSs.nox (pss_one (ps_ret (pe_callB call_isiT (by rfl) g_isi boot_isinstance (pa_cons (pv 0) (pa_cons (pe_tup (pa_cons (pe_bltn (v := V.ty "tuple") (by rfl) g_tuple boot_tuple rfl) (pa_cons (pe_bltn (v := V.ty "list") (by rfl) g_list boot_list rfl) pa_nil))) pa_nil))))), ?_⟩
    refine ⟨_, rfl, by show 2 ≤ sizeLine; decide, fun t ht => ⟨_, t, _, _, _, _, rfl, upd_same, .cons (.ty "tuple") (.cons (.ty "list") .nil), (hx.same (upd_new ht)).ty, kit_seq x, q _ (upd_new ht)⟩⟩
/-- each item's answer, in order -/
theorem all_map (ds : List PyData) : (ds.map baseD).all id = ds.all baseD := by
  induction ds with
  | nil => rfl
  | cons d ds ih =>
    rw [List.map_cons, List.all_cons, List.all_cons, ih]
    rfl
structure Cst (mg : Str → Option Value) : Prop where
  lo : ∃ t, mg "LEAST_BASE" = some (.int 2 t)
  hi : ∃ t, mg "GREATEST_BASE" = some (.int 100 t)
  mp : ∃ t, mg "MOST_PLACES" = some (.int 4 t)
theorem yes_ {A B : Prop} (h : A) : if true = true then A else B := by
  rw [if_pos rfl]
  exact h
theorem yesT {σ : L2.St} {H : Hp} {k : Bool → Hp → Prop} (h : k true H) : tYes σ H k := h
theorem take_snoc {ds : List PyData} {i : Nat} {x : PyData} (h : ds[i]? = some x) : (ds.take i).map (fun x => V.bl (baseD x)) ++ [V.bl (baseD x)] = (ds.take (i + 1)).map fun x => V.bl (baseD x) := by
  obtain ⟨hi, e⟩ := List.getElem?_eq_some_iff.mp h
  rw [List.take_succ, h, List.map_append]
  rfl
theorem ok_isb {f : Addr} {fd : FuncData} (F : FunD K "is_bases" "is_bases" (defArgs sIsBases) (defBody sIsBases) (defScope sIsBases) [] [] f fd) (CS : Cd P w K mg base CX0 1 "is_sequence" ["thing"] (spSeq K)) (CW : Cd P w K mg base CX0 1 "is_whole" ["thing"] (spWhole K)) (C : Cst mg)
    (g_len : mg "len" = none) (g_all : mg "all" = none) :
    FnOk P w K mg base CX0 2 f fd ["thing"] (spIsB K) := by
  obtain ⟨t1, mlo⟩ := C.lo
  obtain ⟨t2, mhi⟩ := C.hi
  obtain ⟨t3, mmp⟩ := C.mp
  refine F.ok sc_isb (fun vs H Q E h => ?_) (fun cdv A outer s H vs Q E hr h => ?_)
  · obtain ⟨v, d, x, rfl, _⟩ := h
    rfl
  · obtain ⟨v, d, x, rfl, hx, q⟩ := h
    have sc := sc_isb
    have turn : ∀ {D : Addr} {xs : List V} {ds : List PyData}, ds.length ≤ 4 → DqA K d H xs ds → ∀ (i : Nat) (y : V) (H' : Hp), xs[i]? = some y → (Same H H' ∧ H' D = some (.lst ((ds.take i).map fun x => V.bl (baseD x))) ∧ H D = none) →
        tAndV (tCall (spWhole K) [] E0 (tCons (tVar 1) tNil)) (tChain (rI0 fun i j => .bl (decide (i ≤ j))) (rI0 fun i j => .bl (decide (i ≤ j))) (tC (.int 2)) (tVar 1) (tC (.int 100))) [some v, some y] H' fun z H4 => ∃ acc, H4 D = some (.lst acc) ∧ acc.length < sizeLine ∧
          (Same H (upd H4 D (.lst (acc ++ [z]))) ∧ (upd H4 D (.lst (acc ++ [z]))) D = some (.lst ((ds.take (i + 1)).map fun x => V.bl (baseD x))) ∧ H D = none) := by
      intro D xs ds hl ha i y H' hy ⟨s1, h1, n1⟩
      obtain ⟨x, hi, hd⟩ := ha.get hy
      have fin : ∀ z, z = V.bl (baseD x) → ∃ acc, H' D = some (.lst acc) ∧ acc.length < sizeLine ∧
          (Same H (upd H' D (.lst (acc ++ [z]))) ∧ (upd H' D (.lst (acc ++ [z]))) D = some (.lst ((ds.take (i + 1)).map fun x => V.bl (baseD x))) ∧ H D = none) := by
        rintro z rfl
        refine ⟨_, h1, ?_, fun b o e => ?_, by rw [upd_same, take_snoc hi], n1⟩
        · rw [List.length_map, List.length_take, sizeLine_eq]
          omega
        · rw [upd_ne (ne_of_none e n1)]
          exact s1 b o e
      refine ⟨_, rfl, y, d, x, rfl, hd.same s1, _, rfl, ?_⟩
      cases hw : wholeD x with
      | false =>
        refine iteF (fin _ ?_)
        cases x <;> first | rfl | cases hw
      | true =>
        refine iteT ?_
        cases hd with
        | int z =>
          refine ⟨_, rfl, _, _, rfl, rfl, _, rfl, ?_⟩
          by_cases h2 : (2 : Int) ≤ z
          · rw [decide_eq_true h2]
            refine iteT ⟨_, _, rfl, rfl, fin _ ?_⟩
            show V.bl (decide (z ≤ 100)) = V.bl (decide (2 ≤ z) && decide (z ≤ 100))
            rw [decide_eq_true h2, Bool.true_and]
          · rw [decide_eq_false h2]
            refine iteF (fin _ ?_)
            show V.bl false = V.bl (decide (2 ≤ z) && decide (z ≤ 100))
            rw [decide_eq_false h2, Bool.false_and]
        | _ => cases hw
    have done : ∀ {ds : List PyData} {D : Addr} {H' : Hp}, (Same H H' ∧ H' D = some (.lst ((ds.take ds.length).map fun x => V.bl (baseD x))) ∧ H D = none) →
        ∃ (a : Addr) (bs : List Bool), [V.ref D] = [V.ref a] ∧ SqL K H' a (bs.map V.bl) ∧ bs.all id = ds.all baseD := by
      intro ds D H' ⟨s1, h1, _⟩
      refine ⟨D, ds.map baseD, rfl, SqL.of ?_, all_map ds⟩
      rw [h1, List.take_length, List.map_map]
      rfl
    have small : ∀ {n : Nat}, n ≤ 4 → n < sizeLine := fun h => Nat.lt_of_le_of_lt h (by decide)
    have hx0 := hx
    cases hx with
    | lst hs hn ha =>
      rename_i a xs ds
      refine ⟨_, PSs.nox (pss_cons (ps_if (PW.pt (pw_or (pt_not (pt_val (pe_cd CS (hr.mono (by decide)) (by rfl) pass0 (pa_cons (pv 0) pa_nil)))) (pw_or1 (pt_not (pt_chain op_le op_le pe_int (pe_callB call_len_seq (by rfl) g_len PySem.boot_len (pa_cons (pv 0) pa_nil)) (pe_glob (v := V.int 4) (by rfl) mmp ⟨_, rfl⟩))))))
          (pss_one (ps_ret pe_bl))
          pss_nil)
        (pss_one (ps_ret (pe_callB (cr_all rfl) (by rfl) g_all boot_all (pa_cons (pe_lc (own := [("base", 1)]) (g := gName 1) (tt := tYes) rfl sc.nd (pi_list (pv 0)) (blkOk_by (N := ["thing", "base"]) (sc := defScope sIsBases) (by decide +kernel))
          (fun _ _ _ _ _ => pg_name (i := 1) sc.nd rfl (Or.inl rfl)) (fun _ _ _ _ _ => pts_nil)
          (fun _ _ _ _ _ => pe_and (pe_cd CW (hr.mono (by decide)) (by rfl) pass0 (pa_cons (pv 1) pa_nil)) (pe_one (pe_chain op_le op_le (pe_glob (v := V.int 2) (by rfl) mlo ⟨_, rfl⟩) (pv 1) (pe_glob (v := V.int 100) (by rfl) mhi ⟨_, rfl⟩))))) pa_nil))))), ?_⟩
      refine ⟨_, rfl, _, d, _, rfl, hx0, fun H1 s1 => ⟨_, rfl, ?_⟩⟩
      refine iteF ?_
      refine ⟨_, rfl, a, _, rfl, .inl (s1.seq hs), _, _, rfl, rfl, _, rfl, ?_⟩
      have hl := ha.length
      rw [hl]
      have eb : basesD (.list ds) = (decide (1 ≤ ds.length) && decide (ds.length ≤ 4) && ds.all baseD) := rfl
      have out : (1 ≤ ds.length ∧ ds.length ≤ 4) ∨ basesD (.list ds) = false := by
        by_cases h1 : 1 ≤ ds.length
        · by_cases h2 : ds.length ≤ 4
          · exact .inl ⟨h1, h2⟩
          · rw [eb, decide_eq_false h2, Bool.and_false, Bool.false_and]
            exact .inr rfl
        · rw [eb, decide_eq_false h1, Bool.false_and, Bool.false_and]
          exact .inr rfl
      have bad : basesD (.list ds) = false → Q (.bl false) H1 := fun e => by
        have z := q H1 s1
        rw [e] at z
        exact z
      rcases out with ⟨h1, h2⟩ | e
      · rw [decide_eq_true (show (1 : Int) ≤ (ds.length : Nat) by omega)]
        refine iteT ?_
        refine ⟨_, _, rfl, rfl, _, rfl, ?_⟩
        rw [decide_eq_true (show ((ds.length : Nat) : Int) ≤ 4 by omega)]
        refine iteF ?_
        refine ⟨_, rfl, a, rfl, ⟨_, s1.seq hs⟩, fun D hD => lc_list (xs := xs) (fun i H' => Same H H' ∧ H' D = some (.lst ((ds.take i).map fun x => V.bl (baseD x))) ∧ H D = none) ?_ ?_ ?_ ?_⟩
        · have n1 : H D = none := Same.free s1 hD
          exact ⟨s1.trans (upd_new hD), upd_same, n1⟩
        · exact fun i H' _ p => p.1.seq hs
        · exact fun i y H' hy p => (by refine ⟨rfl, yesT ?_⟩; refine yes_ ?_; exact turn h2 ha i y H' hy p)
        · intro H' p
          rw [hl] at p
          obtain ⟨a', bs, e1, e2, e3⟩ := done p
          refine ⟨a', bs, e1, e2, ?_⟩
          rw [e3]
          have z := q H' p.1
          rw [eb, decide_eq_true h1, decide_eq_true h2, Bool.true_and, Bool.true_and] at z
          exact z
      · have z := bad e
        by_cases h1 : 1 ≤ ds.length
        · rw [decide_eq_true (show (1 : Int) ≤ (ds.length : Nat) by omega)]
          refine iteT ?_
          refine ⟨_, _, rfl, rfl, _, rfl, ?_⟩
          by_cases h2 : ds.length ≤ 4
          · rw [decide_eq_true (show ((ds.length : Nat) : Int) ≤ 4 by omega)]
            refine iteF ?_
            refine ⟨_, rfl, a, rfl, ⟨_, s1.seq hs⟩, fun D hD => lc_list (xs := xs) (fun i H' => Same H H' ∧ H' D = some (.lst ((ds.take i).map fun x => V.bl (baseD x))) ∧ H D = none) ?_ ?_ ?_ ?_⟩
            · have n1 : H D = none := Same.free s1 hD
              exact ⟨s1.trans (upd_new hD), upd_same, n1⟩
            · exact fun i H' _ p => p.1.seq hs
            · exact fun i y H' hy p => (by refine ⟨rfl, yesT ?_⟩; refine yes_ ?_; exact turn h2 ha i y H' hy p)
            · intro H' p
              rw [hl] at p
              obtain ⟨a', bs, e1, e2, e3⟩ := done p
              refine ⟨a', bs, e1, e2, ?_⟩
              rw [e3]
              have z := q H' p.1
              rw [eb, decide_eq_true h1, decide_eq_true h2, Bool.true_and, Bool.true_and] at z
              exact z
          · rw [decide_eq_false (show ¬ ((ds.length : Nat) : Int) ≤ 4 by omega)]
            exact iteT z
        · rw [decide_eq_false (show ¬ (1 : Int) ≤ (ds.length : Nat) by omega)]
          refine iteF ⟨_, rfl, ?_⟩
          exact iteT z
    | tup hs hn ha =>
      rename_i a xs ds
      refine ⟨_, PSs.nox (pss_cons (ps_if (PW.pt (pw_or (pt_not (pt_val (pe_cd CS (hr.mono (by decide)) (by rfl) pass0 (pa_cons (pv 0) pa_nil)))) (pw_or1 (pt_not (pt_chain op_le op_le pe_int (pe_callB call_len_seq (by rfl) g_len PySem.boot_len (pa_cons (pv 0) pa_nil)) (pe_glob (v := V.int 4) (by rfl) mmp ⟨_, rfl⟩))))))
          (pss_one (ps_ret pe_bl))
          pss_nil)
        (pss_one (ps_ret (pe_callB (cr_all rfl) (by rfl) g_all boot_all (pa_cons (pe_lc (own := [("base", 1)]) (g := gName 1) (tt := tYes) rfl sc.nd (pi_tup (pv 0)) (blkOk_by (N := ["thing", "base"]) (sc := defScope sIsBases) (by decide +kernel))
          (fun _ _ _ _ _ => pg_name (i := 1) sc.nd rfl (Or.inl rfl)) (fun _ _ _ _ _ => pts_nil)
          (fun _ _ _ _ _ => pe_and (pe_cd CW (hr.mono (by decide)) (by rfl) pass0 (pa_cons (pv 1) pa_nil)) (pe_one (pe_chain op_le op_le (pe_glob (v := V.int 2) (by rfl) mlo ⟨_, rfl⟩) (pv 1) (pe_glob (v := V.int 100) (by rfl) mhi ⟨_, rfl⟩))))) pa_nil))))), ?_⟩
      refine ⟨_, rfl, _, d, _, rfl, hx0, fun H1 s1 => ⟨_, rfl, ?_⟩⟩
      refine iteF ?_
      refine ⟨_, rfl, a, _, rfl, .inr (.inl ((Bt.of s1 (d := d)).rd hn hs)), _, _, rfl, rfl, _, rfl, ?_⟩
      have hl := ha.length
      rw [hl]
      have eb : basesD (.tuple ds) = (decide (1 ≤ ds.length) && decide (ds.length ≤ 4) && ds.all baseD) := rfl
      have out : (1 ≤ ds.length ∧ ds.length ≤ 4) ∨ basesD (.tuple ds) = false := by
        by_cases h1 : 1 ≤ ds.length
        · by_cases h2 : ds.length ≤ 4
          · exact .inl ⟨h1, h2⟩
          · rw [eb, decide_eq_false h2, Bool.and_false, Bool.false_and]
            exact .inr rfl
        · rw [eb, decide_eq_false h1, Bool.false_and, Bool.false_and]
          exact .inr rfl
      have bad : basesD (.tuple ds) = false → Q (.bl false) H1 := fun e => by
        have z := q H1 s1
        rw [e] at z
        exact z
      rcases out with ⟨h1, h2⟩ | e
      · rw [decide_eq_true (show (1 : Int) ≤ (ds.length : Nat) by omega)]
        refine iteT ?_
        refine ⟨_, _, rfl, rfl, _, rfl, ?_⟩
        rw [decide_eq_true (show ((ds.length : Nat) : Int) ≤ 4 by omega)]
        refine iteF ?_
        refine ⟨_, rfl, a, rfl, ⟨_, (Or.inl ((Bt.of s1 (d := d)).rd hn hs))⟩, fun D hD => lc_tup (xs := xs) (fun i H' => Same H H' ∧ H' D = some (.lst ((ds.take i).map fun x => V.bl (baseD x))) ∧ H D = none) ?_ ?_ ?_ ?_⟩
        · have n1 : H D = none := Same.free s1 hD
          exact ⟨s1.trans (upd_new hD), upd_same, n1⟩
        · exact fun i H' _ p => Or.inl ((Bt.of p.1 (d := d)).rd hn hs)
        · exact fun i y H' hy p => (by refine ⟨rfl, yesT ?_⟩; refine yes_ ?_; exact turn h2 ha i y H' hy p)
        · intro H' p
          rw [hl] at p
          obtain ⟨a', bs, e1, e2, e3⟩ := done p
          refine ⟨a', bs, e1, e2, ?_⟩
          rw [e3]
          have z := q H' p.1
          rw [eb, decide_eq_true h1, decide_eq_true h2, Bool.true_and, Bool.true_and] at z
          exact z
      · have z := bad e
        by_cases h1 : 1 ≤ ds.length
        · rw [decide_eq_true (show (1 : Int) ≤ (ds.length : Nat) by omega)]
          refine iteT ?_
          refine ⟨_, _, rfl, rfl, _, rfl, ?_⟩
          by_cases h2 : ds.length ≤ 4
          · rw [decide_eq_true (show ((ds.length : Nat) : Int) ≤ 4 by omega)]
            refine iteF ?_
            refine ⟨_, rfl, a, rfl, ⟨_, (Or.inl ((Bt.of s1 (d := d)).rd hn hs))⟩, fun D hD => lc_tup (xs := xs) (fun i H' => Same H H' ∧ H' D = some (.lst ((ds.take i).map fun x => V.bl (baseD x))) ∧ H D = none) ?_ ?_ ?_ ?_⟩
            · have n1 : H D = none := Same.free s1 hD
              exact ⟨s1.trans (upd_new hD), upd_same, n1⟩
            · exact fun i H' _ p => Or.inl ((Bt.of p.1 (d := d)).rd hn hs)
            · exact fun i y H' hy p => (by refine ⟨rfl, yesT ?_⟩; refine yes_ ?_; exact turn h2 ha i y H' hy p)
            · intro H' p
              rw [hl] at p
              obtain ⟨a', bs, e1, e2, e3⟩ := done p
              refine ⟨a', bs, e1, e2, ?_⟩
              rw [e3]
              have z := q H' p.1
              rw [eb, decide_eq_true h1, decide_eq_true h2, Bool.true_and, Bool.true_and] at z
              exact z
          · rw [decide_eq_false (show ¬ ((ds.length : Nat) : Int) ≤ 4 by omega)]
            exact iteT z
        · rw [decide_eq_false (show ¬ (1 : Int) ≤ (ds.length : Nat) by omega)]
          refine iteF ⟨_, rfl, ?_⟩
          exact iteT z
    | non =>
      refine ⟨_, PSs.nox (pss_cons (ps_if (PW.pt (pw_or (pt_not (pt_val (pe_cd CS (hr.mono (by decide)) (by rfl) pass0 (pa_cons (pv 0) pa_nil)))) (pw_or1 (pt_not (pt_chain op_le op_le pe_int (pe_callB call_len_seq (by rfl) g_len PySem.boot_len (pa_cons (pv 0) pa_nil)) (pe_glob (v := V.int 4) (by rfl) mmp ⟨_, rfl⟩))))))
          (pss_one (ps_ret pe_bl))
          pss_nil)
        (pss_one (ps_ret (pe_callB (cr_all rfl) (by rfl) g_all boot_all (pa_cons (pe_lc (own := [("base", 1)]) (g := gName 1) (tt := tYes) rfl sc.nd (pi_list (pv 0)) (blkOk_by (N := ["thing", "base"]) (sc := defScope sIsBases) (by decide +kernel))
          (fun _ _ _ _ _ => pg_name (i := 1) sc.nd rfl (Or.inl rfl)) (fun _ _ _ _ _ => pts_nil)
          (fun _ _ _ _ _ => pe_and (pe_cd CW (hr.mono (by decide)) (by rfl) pass0 (pa_cons (pv 1) pa_nil)) (pe_one (pe_chain op_le op_le (pe_glob (v := V.int 2) (by rfl) mlo ⟨_, rfl⟩) (pv 1) (pe_glob (v := V.int 100) (by rfl) mhi ⟨_, rfl⟩))))) pa_nil))))), ?_⟩
      refine ⟨_, rfl, _, d, _, rfl, hx0, fun H1 s1 => ⟨_, rfl, ?_⟩⟩
      exact iteT (q H1 s1)
    | bl _ =>
      refine ⟨_, PSs.nox (pss_cons (ps_if (PW.pt (pw_or (pt_not (pt_val (pe_cd CS (hr.mono (by decide)) (by rfl) pass0 (pa_cons (pv 0) pa_nil)))) (pw_or1 (pt_not (pt_chain op_le op_le pe_int (pe_callB call_len_seq (by rfl) g_len PySem.boot_len (pa_cons (pv 0) pa_nil)) (pe_glob (v := V.int 4) (by rfl) mmp ⟨_, rfl⟩))))))
          (pss_one (ps_ret pe_bl))
          pss_nil)
        (pss_one (ps_ret (pe_callB (cr_all rfl) (by rfl) g_all boot_all (pa_cons (pe_lc (own := [("base", 1)]) (g := gName 1) (tt := tYes) rfl sc.nd (pi_list (pv 0)) (blkOk_by (N := ["thing", "base"]) (sc := defScope sIsBases) (by decide +kernel))
          (fun _ _ _ _ _ => pg_name (i := 1) sc.nd rfl (Or.inl rfl)) (fun _ _ _ _ _ => pts_nil)
          (fun _ _ _ _ _ => pe_and (pe_cd CW (hr.mono (by decide)) (by rfl) pass0 (pa_cons (pv 1) pa_nil)) (pe_one (pe_chain op_le op_le (pe_glob (v := V.int 2) (by rfl) mlo ⟨_, rfl⟩) (pv 1) (pe_glob (v := V.int 100) (by rfl) mhi ⟨_, rfl⟩))))) pa_nil))))), ?_⟩
      refine ⟨_, rfl, _, d, _, rfl, hx0, fun H1 s1 => ⟨_, rfl, ?_⟩⟩
      exact iteT (q H1 s1)
    | int _ =>
      refine ⟨_, PSs.nox (pss_cons (ps_if (PW.pt (pw_or (pt_not (pt_val (pe_cd CS (hr.mono (by decide)) (by rfl) pass0 (pa_cons (pv 0) pa_nil)))) (pw_or1 (pt_not (pt_chain op_le op_le pe_int (pe_callB call_len_seq (by rfl) g_len PySem.boot_len (pa_cons (pv 0) pa_nil)) (pe_glob (v := V.int 4) (by rfl) mmp ⟨_, rfl⟩))))))
          (pss_one (ps_ret pe_bl))
          pss_nil)
        (pss_one (ps_ret (pe_callB (cr_all rfl) (by rfl) g_all boot_all (pa_cons (pe_lc (own := [("base", 1)]) (g := gName 1) (tt := tYes) rfl sc.nd (pi_list (pv 0)) (blkOk_by (N := ["thing", "base"]) (sc := defScope sIsBases) (by decide +kernel))
          (fun _ _ _ _ _ => pg_name (i := 1) sc.nd rfl (Or.inl rfl)) (fun _ _ _ _ _ => pts_nil)
          (fun _ _ _ _ _ => pe_and (pe_cd CW (hr.mono (by decide)) (by rfl) pass0 (pa_cons (pv 1) pa_nil)) (pe_one (pe_chain op_le op_le (pe_glob (v := V.int 2) (by rfl) mlo ⟨_, rfl⟩) (pv 1) (pe_glob (v := V.int 100) (by rfl) mhi ⟨_, rfl⟩))))) pa_nil))))), ?_⟩
      refine ⟨_, rfl, _, d, _, rfl, hx0, fun H1 s1 => ⟨_, rfl, ?_⟩⟩
      exact iteT (q H1 s1)
    | str _ =>
      refine ⟨_, PSs.nox (pss_cons (ps_if (PW.pt (pw_or (pt_not (pt_val (pe_cd CS (hr.mono (by decide)) (by rfl) pass0 (pa_cons (pv 0) pa_nil)))) (pw_or1 (pt_not (pt_chain op_le op_le pe_int (pe_callB call_len_seq (by rfl) g_len PySem.boot_len (pa_cons (pv 0) pa_nil)) (pe_glob (v := V.int 4) (by rfl) mmp ⟨_, rfl⟩))))))
          (pss_one (ps_ret pe_bl))
          pss_nil)
        (pss_one (ps_ret (pe_callB (cr_all rfl) (by rfl) g_all boot_all (pa_cons (pe_lc (own := [("base", 1)]) (g := gName 1) (tt := tYes) rfl sc.nd (pi_list (pv 0)) (blkOk_by (N := ["thing", "base"]) (sc := defScope sIsBases) (by decide +kernel))
          (fun _ _ _ _ _ => pg_name (i := 1) sc.nd rfl (Or.inl rfl)) (fun _ _ _ _ _ => pts_nil)
          (fun _ _ _ _ _ => pe_and (pe_cd CW (hr.mono (by decide)) (by rfl) pass0 (pa_cons (pv 1) pa_nil)) (pe_one (pe_chain op_le op_le (pe_glob (v := V.int 2) (by rfl) mlo ⟨_, rfl⟩) (pv 1) (pe_glob (v := V.int 100) (by rfl) mhi ⟨_, rfl⟩))))) pa_nil))))), ?_⟩
      refine ⟨_, rfl, _, d, _, rfl, hx0, fun H1 s1 => ⟨_, rfl, ?_⟩⟩
      exact iteT (q H1 s1)
    | d0 _ _ =>
      refine ⟨_, PSs.nox (pss_cons (ps_if (PW.pt (pw_or (pt_not (pt_val (pe_cd CS (hr.mono (by decide)) (by rfl) pass0 (pa_cons (pv 0) pa_nil)))) (pw_or1 (pt_not (pt_chain op_le op_le pe_int (pe_callB call_len_seq (by rfl) g_len PySem.boot_len (pa_cons (pv 0) pa_nil)) (pe_glob (v := V.int 4) (by rfl) mmp ⟨_, rfl⟩))))))
          (pss_one (ps_ret pe_bl))
          pss_nil)
        (pss_one (ps_ret (pe_callB (cr_all rfl) (by rfl) g_all boot_all (pa_cons (pe_lc (own := [("base", 1)]) (g := gName 1) (tt := tYes) rfl sc.nd (pi_list (pv 0)) (blkOk_by (N := ["thing", "base"]) (sc := defScope sIsBases) (by decide +kernel))
          (fun _ _ _ _ _ => pg_name (i := 1) sc.nd rfl (Or.inl rfl)) (fun _ _ _ _ _ => pts_nil)
          (fun _ _ _ _ _ => pe_and (pe_cd CW (hr.mono (by decide)) (by rfl) pass0 (pa_cons (pv 1) pa_nil)) (pe_one (pe_chain op_le op_le (pe_glob (v := V.int 2) (by rfl) mlo ⟨_, rfl⟩) (pv 1) (pe_glob (v := V.int 100) (by rfl) mhi ⟨_, rfl⟩))))) pa_nil))))), ?_⟩
      refine ⟨_, rfl, _, d, _, rfl, hx0, fun H1 s1 => ⟨_, rfl, ?_⟩⟩
      exact iteT (q H1 s1)
    | d1 _ _ =>
      refine ⟨_, PSs.nox (pss_cons (ps_if (PW.pt (pw_or (pt_not (pt_val (pe_cd CS (hr.mono (by decide)) (by rfl) pass0 (pa_cons (pv 0) pa_nil)))) (pw_or1 (pt_not (pt_chain op_le op_le pe_int (pe_callB call_len_seq (by rfl) g_len PySem.boot_len (pa_cons (pv 0) pa_nil)) (pe_glob (v := V.int 4) (by rfl) mmp ⟨_, rfl⟩))))))
          (pss_one (ps_ret pe_bl))
          pss_nil)
        (pss_one (ps_ret (pe_callB (cr_all rfl) (by rfl) g_all boot_all (pa_cons (pe_lc (own := [("base", 1)]) (g := gName 1) (tt := tYes) rfl sc.nd (pi_list (pv 0)) (blkOk_by (N := ["thing", "base"]) (sc := defScope sIsBases) (by decide +kernel))
          (fun _ _ _ _ _ => pg_name (i := 1) sc.nd rfl (Or.inl rfl)) (fun _ _ _ _ _ => pts_nil)
          (fun _ _ _ _ _ => pe_and (pe_cd CW (hr.mono (by decide)) (by rfl) pass0 (pa_cons (pv 1) pa_nil)) (pe_one (pe_chain op_le op_le (pe_glob (v := V.int 2) (by rfl) mlo ⟨_, rfl⟩) (pv 1) (pe_glob (v := V.int 100) (by rfl) mhi ⟨_, rfl⟩))))) pa_nil))))), ?_⟩
      refine ⟨_, rfl, _, d, _, rfl, hx0, fun H1 s1 => ⟨_, rfl, ?_⟩⟩
      exact iteT (q H1 s1)
end
end K04

set_option Elab.async false
set_option linter.all false
set_option maxRecDepth 100000
set_option maxHeartbeats 4000000
namespace K04
open PySem PySem.Spec PyProof.Rows L2 Ru
theorem sc_prods : FnScope ["bases", "found", "base"] ["bases"] (defScope sProducts) := ⟨rfl, rfl, rfl, by decide +kernel, rfl, by decide +kernel, by decide +kernel⟩
theorem sc_wts : FnScope ["bases"] ["bases"] (defScope sWeights) := ⟨rfl, rfl, rfl, by decide +kernel, rfl, by decide +kernel, by decide +kernel⟩
theorem sc_cnt : FnScope ["bases"] ["bases"] (defScope sCountOf) := ⟨rfl, rfl, rfl, by decide +kernel, rfl, by decide +kernel, by decide +kernel⟩
section
variable {P : Program} {w : World} {K : PySem.W.Frag} {mg : Str → Option Value} {base : Heap}
theorem ok_prods {f : Addr} {fd : FuncData} (F : FunD K "_products" "_products" (defArgs sProducts) (defBody sProducts) (defScope sProducts) [] [] f fd) (CB : Cd P w K mg base CX0 2 "is_bases" ["thing"] (spIsB K)) (R : RsX P w K mg base "NoNumeral" "at") :
    FnOk P w K mg base (L2.CX P w) 3 f fd ["bases"] (spProds K "NoNumeral") := by
  refine F.ok sc_prods (fun vs H Q E h => ?_) (fun cdv A outer s H vs Q E hr h => ?_)
  · obtain ⟨v, d, x, rfl, _⟩ := h
    rfl
  · obtain ⟨v, d, x, rfl, hx, q1, q2⟩ := h
    have sc := sc_prods
    cases hb : basesD x with
    | false =>
      refine ⟨_, pss_cons (ps_if (pt_not (pt_val (pe_cd CB hr (by rfl) pass0 (pa_cons (pv 0) pa_nil))))
        (pss_one (ps_raise rfl (takes_of rfl rfl rfl rfl) (pmk_rs R (hr.mono (by decide)) (by rfl) pe_non (fun _ _ _ _ f q => f _ _ q))))
        pss_nil)
      (pss_cons (ps_set (i := 1) sc.nd rfl (Or.inl rfl) (pe_lst (pa_cons pe_int pa_nil)))
      (pss_cons (ps_for (passes_of rfl) rfl (pi_list (pe_revL (pv 0))) (pg_name (i := 2) sc.nd rfl (Or.inl rfl))
        (pss_one (ps_expr (pe_bm PySem.F.plainAttrs_list PySem.F.slot_list_append PySem.F.type_list_append mt_append (pv 1) (pa_cons (pe_op op_mul (pe_ix ix_list (pv 1) (pe_un un_neg pe_int) (fun _ _ => rfl)) (pv 2)) pa_nil)))))
      (pss_one (ps_ret (pv 1))))), ?_⟩
      refine ⟨_, rfl, _, d, _, rfl, hx, fun H1 s1 => ⟨_, rfl, ?_⟩⟩
      rw [hb]
      refine iteT ?_
      exact fun dd H2 s2 n2 e2 => q2 hb dd H2 (s1.trans s2) (Same.free s1 n2) e2
    | true =>
      obtain ⟨zs, hB, e | e⟩ := basesD_ints hb
      · subst e
        cases hx with
        | lst hs hn ha =>
        rename_i a xs
        have ex := ha.toInts
        subst ex
        have hx := Dq.lst (K := K) hs hn ha
        refine ⟨_, pss_cons (ps_if (pt_not (pt_val (pe_cd CB hr (by rfl) pass0 (pa_cons (pv 0) pa_nil))))
        (pss_one (ps_raise rfl (takes_of rfl rfl rfl rfl) (pmk_rs R (hr.mono (by decide)) (by rfl) pe_non (fun _ _ _ _ f q => f _ _ q))))
        pss_nil)
      (pss_cons (ps_set (i := 1) sc.nd rfl (Or.inl rfl) (pe_lst (pa_cons pe_int pa_nil)))
      (pss_cons (ps_for (passes_of rfl) rfl (pi_list (pe_revL (pv 0))) (pg_name (i := 2) sc.nd rfl (Or.inl rfl))
        (pss_one (ps_expr (pe_bm PySem.F.plainAttrs_list PySem.F.slot_list_append PySem.F.type_list_append mt_append (pv 1) (pa_cons (pe_op op_mul (pe_ix ix_list (pv 1) (pe_un un_neg pe_int) (fun _ _ => rfl)) (pv 2)) pa_nil)))))
      (pss_one (ps_ret (pv 1))))), ?_⟩
        refine ⟨_, rfl, _, d, _, rfl, hx, fun H1 s1 => ⟨_, rfl, ?_⟩⟩
        rw [hb]
        refine iteF ?_
        refine ⟨by show 1 ≤ sizeLine; decide, fun p hp => ?_⟩
        have n0 : H p = none := Same.free s1 hp
        have s2 : Same H (upd H1 p (.lst [.int 1])) := s1.trans (upd_new hp)
        refine ⟨_, rfl, a, _, rfl, s2.seq hs, ?_⟩
        intro r hnr
        have npr : p ≠ r := ne_of_none upd_same hnr
        refine ⟨r, rfl, ⟨_, SqL.of upd_same⟩, for_list (K := K) (a := r) (xs := (zs.map V.int).reverse) (fun i σ H3 => ∃ u : Option V, σ = [some (.ref a), some (.ref p), u] ∧ Same H H3 ∧ H3 p = some (.lst ((prods zs (i + 1)).map V.int)) ∧ H3 r = some (.lst (zs.map V.int).reverse)) ?_ (fun i σ H3 _ ⟨_, _, _, _, q⟩ => SqL.of q) ?_ ?_⟩
        · refine ⟨_, rfl, s2.trans (upd_new hnr), ?_, upd_same⟩
          rw [upd_ne npr, upd_same]
          show some (HO.lst [V.int 1]) = some (HO.lst [V.int (prodL (zs.drop (zs.length - 0)))])
          rw [Nat.sub_zero, List.drop_length]
          rfl
        · rintro i y σ H3 hi ⟨u, rfl, s3, h3, h4⟩
          rw [← List.map_reverse, List.getElem?_map] at hi
          cases ez : zs.reverse[i]? with
          | none => rw [ez] at hi; cases hi
          | some z =>
            rw [ez] at hi
            cases hi
            have hz : 2 ≤ z ∧ z ≤ 100 := hB.2.2 z (List.mem_reverse.mp (List.mem_of_getElem? ez))
            have hil : i < zs.length := by
              have := (List.getElem?_eq_some_iff.mp ez).1
              rwa [List.length_reverse] at this
            obtain ⟨b1, b2⟩ := prodL_le (zs := zs.drop (zs.length - i)) (n := 4) (fun y hy => hB.2.2 y (List.mem_of_mem_drop hy)) (by rw [List.length_drop]; have := hB.2.1; omega)
            have hat : atI ((prods zs (i + 1)).map V.int) (-1) = some (.int (prodL (zs.drop (zs.length - i)))) := by
              rw [prods_succ, List.map_append]
              exact atI_last _ _
            refine ⟨_, rfl, .inl ⟨rfl, _, .inl (.inl h3)⟩, _, rfl, _, rfl, p, _, _, _, rfl, rfl, SqL.of h3, hat, _, rfl, _, _, rfl, rfl, .inl ⟨by omega, by omega⟩, ?_⟩
            refine ⟨p, _, _, rfl, rfl, h3, ?_, ?_⟩
            · rw [List.length_map, prods_len, sizeLine_eq]
              have := hB.2.1
              omega
            · refine ⟨_, rfl, fun b o e => ?_, ?_, by rw [upd_ne (Ne.symm npr)]; exact h4⟩
              · rw [upd_ne (ne_of_none e n0)]
                exact s3 b o e
              · rw [upd_same, prods_succ zs (i + 1), List.map_append, rev_at ez]
                rfl
        · rintro σ H3 ⟨u, rfl, s3, h3, _⟩
          rw [List.length_reverse, List.length_map] at h3
          exact ⟨_, rfl, q1 zs hB (.inl rfl) p H3 s3 n0 h3⟩
      · subst e
        cases hx with
        | tup hs hn ha =>
        rename_i a xs
        have ex := ha.toInts
        subst ex
        have hx := Dq.tup (K := K) hs hn ha
        have ne0 : zs.map V.int ≠ [] := fun e => by
          have h := hB.1
          rw [List.map_eq_nil_iff] at e
          rw [e] at h
          cases h
        refine ⟨_, pss_cons (ps_if (pt_not (pt_val (pe_cd CB hr (by rfl) pass0 (pa_cons (pv 0) pa_nil))))
        (pss_one (ps_raise rfl (takes_of rfl rfl rfl rfl) (pmk_rs R (hr.mono (by decide)) (by rfl) pe_non (fun _ _ _ _ f q => f _ _ q))))
        pss_nil)
      (pss_cons (ps_set (i := 1) sc.nd rfl (Or.inl rfl) (pe_lst (pa_cons pe_int pa_nil)))
      (pss_cons (ps_for (passes_of rfl) rfl (pi_tup (pe_revT (pv 0))) (pg_name (i := 2) sc.nd rfl (Or.inl rfl))
        (pss_one (ps_expr (pe_bm PySem.F.plainAttrs_list PySem.F.slot_list_append PySem.F.type_list_append mt_append (pv 1) (pa_cons (pe_op op_mul (pe_ix ix_list (pv 1) (pe_un un_neg pe_int) (fun _ _ => rfl)) (pv 2)) pa_nil)))))
      (pss_one (ps_ret (pv 1))))), ?_⟩
        refine ⟨_, rfl, _, d, _, rfl, hx, fun H1 s1 => ⟨_, rfl, ?_⟩⟩
        rw [hb]
        refine iteF ?_
        refine ⟨by show 1 ≤ sizeLine; decide, fun p hp => ?_⟩
        have n0 : H p = none := Same.free s1 hp
        have s2 : Same H (upd H1 p (.lst [.int 1])) := s1.trans (upd_new hp)
        refine ⟨_, rfl, a, _, rfl, Or.inl ((Bt.of s2 (d := d)).rd hn hs), ne0, ?_⟩
        intro r hnr
        have npr : p ≠ r := ne_of_none upd_same hnr
        refine ⟨r, rfl, ⟨_, Or.inl (Or.inl upd_same)⟩, for_tup (K := K) (a := r) (xs := (zs.map V.int).reverse) (fun i σ H3 => ∃ u : Option V, σ = [some (.ref a), some (.ref p), u] ∧ Same H H3 ∧ H3 p = some (.lst ((prods zs (i + 1)).map V.int)) ∧ H3 r = some (.tup (zs.map V.int).reverse)) ?_ (fun i σ H3 _ ⟨_, _, _, _, q⟩ => Or.inl (Or.inl q)) ?_ ?_⟩
        · refine ⟨_, rfl, s2.trans (upd_new hnr), ?_, upd_same⟩
          rw [upd_ne npr, upd_same]
          show some (HO.lst [V.int 1]) = some (HO.lst [V.int (prodL (zs.drop (zs.length - 0)))])
          rw [Nat.sub_zero, List.drop_length]
          rfl
        · rintro i y σ H3 hi ⟨u, rfl, s3, h3, h4⟩
          rw [← List.map_reverse, List.getElem?_map] at hi
          cases ez : zs.reverse[i]? with
          | none => rw [ez] at hi; cases hi
          | some z =>
            rw [ez] at hi
            cases hi
            have hz : 2 ≤ z ∧ z ≤ 100 := hB.2.2 z (List.mem_reverse.mp (List.mem_of_getElem? ez))
            have hil : i < zs.length := by
              have := (List.getElem?_eq_some_iff.mp ez).1
              rwa [List.length_reverse] at this
            obtain ⟨b1, b2⟩ := prodL_le (zs := zs.drop (zs.length - i)) (n := 4) (fun y hy => hB.2.2 y (List.mem_of_mem_drop hy)) (by rw [List.length_drop]; have := hB.2.1; omega)
            have hat : atI ((prods zs (i + 1)).map V.int) (-1) = some (.int (prodL (zs.drop (zs.length - i)))) := by
              rw [prods_succ, List.map_append]
              exact atI_last _ _
            refine ⟨_, rfl, .inl ⟨rfl, _, .inl (.inl h3)⟩, _, rfl, _, rfl, p, _, _, _, rfl, rfl, SqL.of h3, hat, _, rfl, _, _, rfl, rfl, .inl ⟨by omega, by omega⟩, ?_⟩
            refine ⟨p, _, _, rfl, rfl, h3, ?_, ?_⟩
            · rw [List.length_map, prods_len, sizeLine_eq]
              have := hB.2.1
              omega
            · refine ⟨_, rfl, fun b o e => ?_, ?_, by rw [upd_ne (Ne.symm npr)]; exact h4⟩
              · rw [upd_ne (ne_of_none e n0)]
                exact s3 b o e
              · rw [upd_same, prods_succ zs (i + 1), List.map_append, rev_at ez]
                rfl
        · rintro σ H3 ⟨u, rfl, s3, h3, _⟩
          rw [List.length_reverse, List.length_map] at h3
          exact ⟨_, rfl, q1 zs hB (.inr rfl) p H3 s3 n0 h3⟩
theorem cut_last {zs : List Int} {n : Nat} : cutV ((prods zs (n + 1)).map V.int) none (some (-1)) = (prods zs n).map V.int := by
  have e : ((prods zs (n + 1)).map V.int).length = n + 1 := by rw [List.length_map, prods_len]
  have h1 : HT.sIx (n + 1) 0 none = 0 := rfl
  have h2 : HT.sIx (n + 1) (n + 1) (some (-1)) = n := by
    show (if (-1 : Int) < 0 then ((-1 : Int) + ((n + 1 : Nat) : Int)).toNat else min (-1 : Int).toNat (n + 1)) = n
    rw [if_pos (by decide)]
    omega
  unfold cutV
  rw [e, h1, h2, List.drop_zero, Nat.sub_zero, prods_succ, List.map_append, List.take_append_of_le_length (by rw [List.length_map, prods_len]; exact Nat.le_refl _), List.take_of_length_le (by rw [List.length_map, prods_len]; exact Nat.le_refl _)]
theorem ok_wts {f : Addr} {fd : FuncData} (F : FunD K "weights" "weights" (defArgs sWeights) (defBody sWeights) (defScope sWeights) [] [] f fd) (CP : Cd P w K mg base (L2.CX P w) 3 "_products" ["bases"] (spProds K "NoNumeral")) (g_tuple : mg "tuple" = none) :
    FnOk P w K mg base (L2.CX P w) 4 f fd ["bases"] (spWts K "NoNumeral") := by
  refine F.ok sc_wts (fun vs H Q E h => ?_) (fun cdv A outer s H vs Q E hr h => ?_)
  · obtain ⟨v, d, x, rfl, _⟩ := h
    rfl
  · obtain ⟨v, d, x, rfl, hx, q1, q2⟩ := h
    have sc := sc_wts
    refine ⟨_, pss_one (ps_ret (pe_callTy call_tuple_of (by rfl) g_tuple boot_tuple (pa_cons (pe_revL (pe_slice sl_list (pe_cd CP hr (by rfl) (passes_call (takes_of rfl rfl rfl rfl) (fun _ _ _ _ h => h)) (pa_cons (pv 0) pa_nil)) po_none (po_some (pe_un un_neg pe_int)))) pa_nil))), ?_⟩
    refine ⟨_, rfl, _, d, _, rfl, hx, fun zs hB hz p H1 s1 n1 h1 => ?_, q2⟩
    refine ⟨_, rfl, _, rfl, p, _, rfl, SqL.of h1, fun t ht => ?_⟩
    rw [cut_last]
    refine ⟨t, _, rfl, SqL.of upd_same, fun u hu => ⟨u, _, rfl, .inl ⟨SqL.of upd_same, fun l hl => ?_⟩⟩⟩
    have s2 : Same H (upd (upd (upd H1 t (.lst ((prods zs zs.length).map V.int))) u (.lst ((prods zs zs.length).map V.int).reverse)) l (.tup ((prods zs zs.length).map V.int).reverse)) := s1.trans ((upd_new ht).trans ((upd_new hu).trans (upd_new hl)))
    refine q1 zs hB hz l _ s2 (Same.free (s1.trans ((upd_new ht).trans (upd_new hu))) hl) ?_
    rw [upd_same, ← List.map_reverse, wts_eq]
theorem ok_cnt {f : Addr} {fd : FuncData} (F : FunD K "count_of" "count_of" (defArgs sCountOf) (defBody sCountOf) (defScope sCountOf) [] [] f fd) (CP : Cd P w K mg base (L2.CX P w) 3 "_products" ["bases"] (spProds K "NoNumeral")) :
    FnOk P w K mg base (L2.CX P w) 4 f fd ["bases"] (spCnt K "NoNumeral") := by
  refine F.ok sc_cnt (fun vs H Q E h => ?_) (fun cdv A outer s H vs Q E hr h => ?_)
  · obtain ⟨v, d, x, rfl, _⟩ := h
    rfl
  · obtain ⟨v, d, x, rfl, hx, q1, q2⟩ := h
    have sc := sc_cnt
    refine ⟨_, pss_one (ps_ret (pe_ix ix_list (pe_cd CP hr (by rfl) (passes_call (takes_of rfl rfl rfl rfl) (fun _ _ _ _ h => h)) (pa_cons (pv 0) pa_nil)) (pe_un un_neg pe_int) (fun _ _ => rfl))), ?_⟩
    refine ⟨_, rfl, _, d, _, rfl, hx, fun zs hB hz p H1 s1 n1 h1 => ?_, q2⟩
    refine ⟨_, rfl, p, _, _, .int (prodL zs), rfl, rfl, SqL.of h1, ?_, q1 zs hB hz H1 s1⟩
    rw [prods_succ, List.map_append, Nat.sub_self, List.drop_zero]
    exact atI_last _ _
end
end K04

set_option Elab.async false
set_option linter.all false
set_option maxRecDepth 100000
set_option maxHeartbeats 4000000
namespace K04
open PySem PySem.Spec PyProof.Rows L2 Ru
theorem sc_long : FnScope ["digits", "bases"] ["digits", "bases"] (defScope sIsAsLong) := ⟨rfl, rfl, rfl, by decide +kernel, rfl, by decide +kernel, by decide +kernel⟩
section
variable {P : Program} {w : World} {K : PySem.W.Frag} {mg : Str → Option Value} {base : Heap}
theorem ok_long {f : Addr} {fd : FuncData} (F : FunD K "_is_as_long" "_is_as_long" (defArgs sIsAsLong) (defBody sIsAsLong) (defScope sIsAsLong) [] [] f fd) (CB : Cd P w K mg base CX0 2 "is_bases" ["thing"] (spIsB K)) (CS : Cd P w K mg base CX0 1 "is_sequence" ["thing"] (spSeq K)) (g_len : mg "len" = none) :
    FnOk P w K mg base CX0 3 f fd ["digits", "bases"] (spLong K) := by
  refine F.ok sc_long (fun vs H Q E h => ?_) (fun cdv A outer s H vs Q E hr h => ?_)
  · obtain ⟨v, u, d, e, x, y, rfl, _⟩ := h
    rfl
  · obtain ⟨v, u, d, e, x, y, rfl, hx, hy, q⟩ := h
    refine ⟨_, PSs.nox (pss_one (ps_ret (pe_and (pe_cd CB hr (by rfl) pass0 (pa_cons (pv 1) pa_nil)) (pe_and (pe_cd CS (hr.mono (by decide)) (by rfl) pass0 (pa_cons (pv 0) pa_nil))
      (pe_one (pe_cmpR op_eq (pe_callB call_len_seq (by rfl) g_len PySem.boot_len (pa_cons (pv 0) pa_nil)) (pe_callB call_len_seq (by rfl) g_len PySem.boot_len (pa_cons (pv 1) pa_nil)) (nomark _))))))), ?_⟩
    refine ⟨_, rfl, u, e, y, rfl, hy, fun H1 s1 => ⟨_, rfl, ?_⟩⟩
    cases hb : basesD y with
    | false =>
      have z := q H1 s1
      rw [longD, hb, Bool.false_and] at z
      exact iteF z
    | true =>
      refine iteT ⟨_, rfl, v, d, x, rfl, hx.same s1, fun H2 s2 => ⟨_, rfl, ?_⟩⟩
      have z := q H2 (s1.trans s2)
      rw [longD, hb, Bool.true_and] at z
      cases hs : seqD x with
      | false =>
        rw [hs, Bool.false_and] at z
        exact iteF z
      | true =>
        rw [hs, Bool.true_and] at z
        obtain ⟨a, xs, rfl, h1, l1⟩ := ((hx.same s1).same s2).len hs
        obtain ⟨b, ys, rfl, h2, l2⟩ := ((hy.same s1).same s2).len (basesD_seq hb)
        refine iteT ⟨_, rfl, a, xs, rfl, h1.imp id .inl, _, rfl, b, ys, rfl, h2.imp id .inl, rfl, ?_⟩
        have e : decide (V.int (xs.length : Int) = V.int (ys.length : Int)) = decide (lenD x = lenD y) := by
          rw [l1, l2]
          by_cases c : lenD x = lenD y
          · rw [c, decide_eq_true rfl, decide_eq_true rfl]
          · rw [decide_eq_false c, decide_eq_false (fun z => c (by injection z with z; omega))]
        show Q (V.bl (decide (V.int (xs.length : Int) = V.int (ys.length : Int)))) H2
        rw [e]
        exact z
end
end K04

set_option Elab.async false
set_option linter.all false
set_option maxRecDepth 100000
set_option maxHeartbeats 4000000
namespace K04
open PySem PySem.Spec PyProof.Rows L2 Ru
abbrev nWrong : List Str := ["digits", "bases", "place", "digit"]
theorem sc_wrong : FnScope nWrong ["digits", "bases"] (defScope sFirstWrong) := ⟨rfl, rfl, rfl, by decide +kernel, rfl, by decide +kernel, by decide +kernel⟩
section
variable {P : Program} {w : World} {K : PySem.W.Frag} {mg : Str → Option Value} {base : Heap}
theorem ok_wrong {f : Addr} {fd : FuncData} (F : FunD K "_first_wrong" "_first_wrong" (defArgs sFirstWrong) (defBody sFirstWrong) (defScope sFirstWrong) [] [] f fd) (CW : Cd P w K mg base CX0 1 "is_whole" ["thing"] (spWhole K)) (g_enum : mg "enumerate" = none) :
    FnOk P w K mg base CX0 2 f fd ["digits", "bases"] (spWrong K) := by
  refine F.ok sc_wrong (fun vs H Q E h => ?_) (fun cdv A outer s H vs Q E hr h => ?_)
  · obtain ⟨b1, b2, d, b, ds, bs, rfl, _⟩ := h
    rfl
  · obtain ⟨b1, b2, d, b, ds, bs, rfl, h1, h2, hd, q⟩ := h
    have sc := sc_wrong
    refine ⟨_, PSs.nox (pss_cons (ps_for PassesOwn.never rfl (pi_enumX (by rfl) g_enum (pa_cons (pv 0) pa_nil)) (pg_tup rfl (pgs_cons (pg_name (i := 2) sc.nd rfl (Or.inl rfl)) (pgs_cons (pg_name (i := 3) sc.nd rfl (Or.inl rfl)) pgs_nil)))
        (pss_one (ps_if (PW.pt (pw_or (pt_not (pt_val (pe_cd CW hr (by rfl) pass0 (pa_cons (pv 3) pa_nil)))) (pw_or1 (pt_not (pt_chain op_le op_lt pe_int (pv 3) (pe_ix ix_seq (pv 1) (pv 2) (fun _ _ => rfl)))))))
          (pss_one (ps_ret (pv 2))) pss_nil)))
      (pss_one (ps_ret pe_non))), ?_⟩
    refine ⟨_, rfl, b1, d, _, rfl, h1, for_it walk_enumA (fun i σ H' => ∃ u v, σ = [some (.ref d), some (.ref b), u, v] ∧ Same H H') ⟨_, _, rfl, Same.refl H⟩ (fun i σ H' _ ⟨_, _, _, s1⟩ => h1.same s1) ?_ ?_⟩
    · rintro i x σ H1 H2 hi ⟨u, v, rfl, s1⟩ ⟨T, x1, x2, rfl, hT, rfl, e1, e2⟩
      cases e1
      have s2 := s1.trans (upd_new (o := .tup [.int (i : Nat), x2]) hT)
      have e2 : (ds.map V.int)[i]? = some x2 := e2
      rw [List.getElem?_map] at e2
      rw [List.length_map] at hi
      have j1 : ds[i]? = some ds[i] := List.getElem?_eq_getElem hi
      rw [j1] at e2
      cases e2
      have hl := hd.len
      have j2 : bs[i]? = some bs[i] := List.getElem?_eq_getElem (by omega)
      obtain ⟨c1, c2⟩ := hd.at j1 j2
      refine ⟨T, _, rfl, Or.inl (Or.inl upd_same), rfl, _, _, rfl, _, _, rfl, rfl, ?_⟩
      refine ⟨_, rfl, _, d, _, rfl, .int ds[i], _, rfl, ?_⟩
      refine iteF ?_
      refine ⟨_, rfl, _, _, rfl, rfl, _, rfl, ?_⟩
      rw [decide_eq_true c1]
      refine iteT ⟨_, rfl, _, rfl, (h2.same s2).ix (at_of rfl (show (bs.map V.int)[i]? = some (.int bs[i]) by rw [List.getElem?_map, j2]; rfl)) ⟨_, _, rfl, rfl, _, rfl, ?_⟩⟩
      rw [decide_eq_true c2]
      refine iteF ?_
      exact ⟨_, _, rfl, s2⟩
    · rintro σ H' ⟨u, v, rfl, s1⟩
      exact q H' s1
end
end K04

set_option Elab.async false
set_option linter.all false
set_option maxRecDepth 100000
set_option maxHeartbeats 4000000
namespace K04
open PySem PySem.Spec PyProof.Rows L2 Ru
abbrev nInit : List Str := ["self", "digits", "bases", "wrong", "digit", "weight"]
theorem sc_init : FnScope nInit ["self", "digits", "bases"] (defScope sNumeral_init) := ⟨rfl, rfl, rfl, by decide +kernel, rfl, by decide +kernel, by decide +kernel⟩
section
variable {P : Program} {w : World} {K : PySem.W.Frag} {mg : Str → Option Value} {base : Heap}
theorem ok_init {C f : Addr} {fd : FuncData} (F : FunD K "__init__" "Numeral.__init__" (defArgs sNumeral_init) (defBody sNumeral_init) (defScope sNumeral_init) [] [] f fd) (CL : Cd P w K mg base CX0 3 "_is_as_long" ["digits", "bases"] (spLong K))
    (CR : Cd P w K mg base CX0 2 "_first_wrong" ["digits", "bases"] (spWrong K)) (CT : Cd P w K mg base (L2.CX P w) 4 "weights" ["bases"] (spWts K "NoNumeral")) (N : NumK K mg C) (g_tuple : mg "tuple" = none) (g_sum : mg "sum" = none) (g_zip : mg "zip" = none) :
    FnOk P w K mg base CX0 5 f fd ["self", "digits", "bases"] (spInit K C) := by
  refine F.ok sc_init (fun vs H Q E h => ?_) (fun cdv A outer s H vs Q E hr h => ?_)
  · obtain ⟨x, dx, d, b, b1, b2, ds, bs, rfl, _⟩ := h
    rfl
  · obtain ⟨x, dx, d, b, b1, b2, ds, bs, rfl, hx, h1, h2, B, hd, q⟩ := h
    have sc := sc_init
    have r3 := hr.mono (show 3 ≤ 4 by decide)
    have r2 := hr.mono (show 2 ≤ 4 by decide)
    refine ⟨_, PSs.nox (pss_cons (ps_if (pt_not (pt_val (pe_cd CL r3 (by rfl) pass0 (pa_cons (pv 1) (pa_cons (pv 2) pa_nil))))) (pss_one ps_never) pss_nil)
      (pss_cons (ps_set (i := 3) sc.nd rfl (Or.inl rfl) (pe_cd CR r2 (by rfl) pass0 (pa_cons (pv 1) (pa_cons (pv 2) pa_nil))))
      (pss_cons (ps_if (pt_cmpR op_notN (pv 3) pe_non (nomark _)) (pss_one ps_never) pss_nil)
      (pss_cons (ps_fld (pv 0) (pe_tupA (by rfl) g_tuple (pv 1)) rfl)
      (pss_cons (ps_fld (pv 0) (pe_tupA (by rfl) g_tuple (pv 2)) rfl)
      (pss_one (ps_fld (pv 0) (pe_callB (cr_sum rfl) (by rfl) g_sum (by decide +kernel) (pa_cons (pe_lc (own := [("digit", 4), ("weight", 5)]) (g := gTup K 2 (gCons (gName 4) (gCons (gName 5) gNil))) (tt := tYes) rfl sc.nd
          (pi_zipX (by rfl) g_zip (pa_cons (pv 1) (pa_cons (pe_cd CT hr (by rfl) passN (pa_cons (pv 2) pa_nil)) pa_nil))) (blkOk_by (N := nInit) (sc := defScope sNumeral_init) (by decide +kernel))
          (fun _ _ _ _ _ => pg_tup rfl (pgs_cons (pg_name (i := 4) sc.nd rfl (Or.inl rfl)) (pgs_cons (pg_name (i := 5) sc.nd rfl (Or.inl rfl)) pgs_nil))) (fun _ _ _ _ _ => pts_nil)
          (fun _ _ _ _ _ => pe_op op_mul (pv 4) (pv 5))) pa_nil)) rfl))))))), ?_⟩
    have nd : d ≠ x := h1.ne_ins hx
    have nb : b ≠ x := h2.ne_ins hx
    refine ⟨_, rfl, _, rfl, _, _, x, x, _, _, rfl, h1.dq nd, h2.dq nb, fun H1 s1 => ⟨_, rfl, ?_⟩⟩
    rw [rowD_long B hd]
    refine iteF ?_
    refine ⟨_, rfl, _, rfl, b1, b2, d, b, ds, bs, rfl, (h1.same s1).sq, (h2.same s1).sq, hd, fun H2 s2 => ?_⟩
    refine ⟨_, rfl, rfl, _, rfl, ?_⟩
    refine iteF ?_
    have s12 := s1.trans s2
    refine ⟨_, rfl, b1, d, _, rfl, h1.same s12, fun l1 H3 s3 t1 => ?_⟩
    have s13 := s12.trans s3
    have hx3 := s13 _ _ hx
    refine ⟨_, rfl, x, C, dx, [], rfl, hx3, N.cl, N.nD, by show 0 < 1000; decide, ?_⟩
    have b4 : Bt x H (upd H3 x (.ins C dx (putF "digits" (.ref l1) []))) := (Bt.of s13).trans .put
    have n1 : l1 ≠ x := fun e => by
      subst e
      rcases t1 with t1 | ⟨o, t1⟩ <;> rw [hx3] at t1 <;> cases t1
    have t14 := (Bt.put (u := .ins C dx (putF "digits" (.ref l1) []))).rd n1 t1
    have hx4 : (upd H3 x (.ins C dx (putF "digits" (.ref l1) []))) x = some (.ins C dx (putF "digits" (.ref l1) [])) := upd_same
    generalize upd H3 x (.ins C dx (putF "digits" (.ref l1) [])) = H4 at b4 t14 hx4 ⊢
    refine ⟨_, rfl, b2, b, _, rfl, h2.bt b4 nb, fun l2 H5 s5 t2 => ?_⟩
    have hx5 := s5 _ _ hx4
    refine ⟨_, rfl, x, C, dx, _, rfl, hx5, N.cl, N.nB, by show 1 < 1000; decide, ?_⟩
    have n2 : l2 ≠ x := fun e => by
      subst e
      rcases t2 with t2 | ⟨o, t2⟩ <;> rw [hx5] at t2 <;> cases t2
    have b6 : Bt x H (upd H5 x (.ins C dx (putF "bases" (.ref l2) (putF "digits" (.ref l1) [])))) := (b4.same s5).trans .put
    have t16 := (Bt.put (u := .ins C dx (putF "bases" (.ref l2) (putF "digits" (.ref l1) [])))).rd n1 (Same.rd s5 t14)
    have t26 := (Bt.put (u := .ins C dx (putF "bases" (.ref l2) (putF "digits" (.ref l1) [])))).rd n2 t2
    have hx6 : (upd H5 x (.ins C dx (putF "bases" (.ref l2) (putF "digits" (.ref l1) [])))) x = some (.ins C dx [("digits", .ref l1), ("bases", .ref l2)]) := upd_same
    generalize upd H5 x (.ins C dx (putF "bases" (.ref l2) (putF "digits" (.ref l1) []))) = H6 at b6 t16 t26 hx6 ⊢
    have h16 := h1.bt b6 nd
    have h26 := h2.bt b6 nb
    refine ⟨_, rfl, _, rfl, _, x, _, rfl, h26.dq nb, fun zs hB hz p H7 s7 np hp => ?_, fun z => by rw [rowD_bss B] at z; cases z⟩
    have ez : zs = bs := by
      rcases hz with e | e <;> cases b2 <;> first | cases e | skip
      all_goals
        injection e with e
        exact (intsD_inj e).symm
    subst ez
    refine ⟨b1, true, d, p, _, _, rfl, (h16.same s7).sq, Or.inl (.inl hp), fun D hD => ?_⟩
    have hl := hd.len
    have lz : ((zs.length : Nat)) ≤ 4 := B.2.1
    have lw := wts_len (bs := zs)
    refine lc_it walk_zipA (fun i H' => Same H7 H' ∧ H7 D = none ∧ H' D = some (.lst (((List.zipWith (· * ·) ds (wts zs)).take i).map V.int))) ⟨upd_new hD, hD, upd_same⟩ (fun i H' _ g => ⟨((h16.same s7).same g.1).sq, Or.inl (.inl (g.1 _ _ hp))⟩) ?_ ?_
    · rintro i v H8 H9 hi ⟨s8, nD, eD⟩ ⟨T, y1, y2, rfl, hT, rfl, e1, e2⟩
      rw [List.length_map, List.length_map] at hi
      have e1 : (ds.map V.int)[i]? = some y1 := e1
      have e2 : ((wts zs).map V.int)[i]? = some y2 := e2
      have j1 : ds[i]? = some ds[i] := List.getElem?_eq_getElem (by omega)
      have j2 : (wts zs)[i]? = some (wts zs)[i] := List.getElem?_eq_getElem (by omega)
      rw [List.getElem?_map, j1] at e1
      rw [List.getElem?_map, j2] at e2
      cases e1
      cases e2
      have j3 : zs[i]? = some zs[i] := List.getElem?_eq_getElem (by omega)
      obtain ⟨c1, c2⟩ := hd.at j1 j3
      have c3 := (B.2.2 _ (List.mem_of_getElem? j3)).2
      refine ⟨T, _, rfl, Or.inl (Or.inl upd_same), rfl, _, _, rfl, _, _, rfl, rfl, rfl, yesT ?_⟩
      refine yes_ ⟨_, rfl, _, rfl, _, _, rfl, rfl, .inl ⟨by omega, by omega⟩, ?_⟩
      have nT : D ≠ T := ne_of_none eD hT
      refine ⟨_, by rw [upd_ne nT]; exact eD, ?_, fill_next nD (s8.trans (upd_new hT)), nD, ?_⟩
      · rw [List.length_map, List.length_take, sizeLine_eq]
        omega
      · rw [upd_same]
        have z : (List.zipWith (· * ·) ds (wts zs))[i]? = some (ds[i] * (wts zs)[i]) := by rw [List.getElem?_zipWith, j1, j2]
        rw [take_next z]
    · rintro H8 ⟨s8, nD, eD⟩
      refine ⟨D, List.zipWith (· * ·) ds (wts zs), rfl, SqL.of ?_, ?_⟩
      · rw [eD, List.take_of_length_le (by rw [List.length_map, List.length_map, List.length_zipWith]; exact Nat.le_refl _)]
      · have hx8 := s8 _ _ (s7 _ _ hx6)
        refine ⟨_, rfl, x, C, dx, _, rfl, hx8, N.cl, N.nV, by show 2 < 1000; decide, ?_⟩
        rw [valD_sum hl]
        have s68 := s7.trans s8
        refine q _ (fun c o e ne => ((b6.same s68).trans .put) c o e ne) ⟨dx, l1, l2, upd_same, ?_, ?_⟩
        · exact (Bt.put (d := x)).rd n1 (Same.rd s68 t16)
        · exact (Bt.put (d := x)).rd n2 (Same.rd s68 t26)
end
end K04

set_option Elab.async false
set_option linter.all false
set_option maxRecDepth 100000
set_option maxHeartbeats 4000000
namespace K04
open PySem PySem.Spec PyProof.Rows L2 Ru
section
variable {P : Program} {w : World} {K : PySem.W.Frag} {mg : Str → Option Value} {base : Heap}
theorem sc_eq : FnScope ["self", "other"] ["self", "other"] (defScope sNumeral_eq) := ⟨rfl, rfl, rfl, by decide +kernel, rfl, by decide +kernel, by decide +kernel⟩
theorem ok_eq {C f : Addr} {fd : FuncData} (F : FunD K "__eq__" "Numeral.__eq__" (defArgs sNumeral_eq) (defBody sNumeral_eq) (defScope sNumeral_eq) [] [] f fd) (N : NumK K mg C) (g_isi : mg "isinstance" = none) :
    FnOk P w K mg base CX0 1 f fd ["self", "other"] (spEqN C) := by
  refine F.ok sc_eq (fun vs H Q E h => ?_) (fun cdv A outer s H vs Q E hr h => ?_)
  · obtain ⟨a, b, ds, bs, es, cs, rfl, _⟩ := h
    rfl
  · obtain ⟨a, b, ds, bs, es, cs, rfl, h1, h2, d1, d2, B1, B2, q⟩ := h
    have hu := hr.un
    refine ⟨_, PSs.nox (pss_cons (ps_if (pt_not (pt_val (pe_callB call_isi (by rfl) g_isi boot_isinstance (pa_cons (pv 1) (pa_cons (pe_glob (v := V.ref C) (by rfl) N.gN rfl) pa_nil))))) (pss_one ps_never) pss_nil)
      (pss_one (ps_ret (pe_cmpR (op_eqD hr.units) (pe_tup (pa_cons (pe_fld (pv 0) rfl) (pa_cons (pe_fld (pv 0) rfl) pa_nil))) (pe_tup (pa_cons (pe_fld (pv 1) rfl) (pa_cons (pe_fld (pv 1) rfl) pa_nil))) (nomark _))))), ?_⟩
    refine ⟨_, rfl, _, _, _, _, _, rfl, .own C, N.ty h2, N.kN, _, rfl, ?_⟩
    refine iteF ?_
    obtain ⟨dx, da, ba, a1, a2, a3⟩ := h1
    obtain ⟨ex, ea, ca, c1, c2, c3⟩ := h2
    refine ⟨_, rfl, a, C, dx, _, _, rfl, a1, N.cl, N.nB, rfl, _, rfl, a, C, dx, _, _, rfl, a1, N.cl, N.nV, rfl, by show 2 ≤ sizeLine; decide, fun t ht => ?_⟩
    have s1 : Same H (upd H t (.tup [.ref ba, .int (valD ds bs)])) := upd_new ht
    have e1 : (upd H t (.tup [.ref ba, .int (valD ds bs)])) t = some (.tup [.ref ba, .int (valD ds bs)]) := upd_same
    generalize upd H t (.tup [.ref ba, .int (valD ds bs)]) = H1 at s1 e1 ⊢
    refine ⟨_, rfl, b, C, ex, _, _, rfl, s1 _ _ c1, N.cl, N.nB, rfl, _, rfl, b, C, ex, _, _, rfl, s1 _ _ c1, N.cl, N.nV, rfl, by show 2 ≤ sizeLine; decide, fun u hu2 => ?_⟩
    have s2 : Same H1 (upd H1 u (.tup [.ref ca, .int (valD es cs)])) := upd_new hu2
    have e2 : (upd H1 u (.tup [.ref ca, .int (valD es cs)])) u = some (.tup [.ref ca, .int (valD es cs)]) := upd_same
    have e1 := s2 _ _ e1
    generalize upd H1 u (.tup [.ref ca, .int (valD es cs)]) = H2 at s2 e1 e2 ⊢
    have s := s1.trans s2
    have r1 : SqT K H2 ba (bs.map V.int) := Or.inl (Same.rd s a3)
    have r2 : SqT K H2 ca (cs.map V.int) := Or.inl (Same.rd s c3)
    refine ⟨pairD bs (valD ds bs), pairD cs (valD es cs), .tup (Or.inl (.inl e1)) (.cons (.tup r1 dp_ints) (.cons (.int _) .nil)), .tup (Or.inl (.inl e2)) (.cons (.tup r2 dp_ints) (.cons (.int _) .nil)), shaped_pair, shaped_pair, ?_⟩
    rw [eqv_pair]
    have e : (decide (bs = cs) && decide (valD ds bs = valD es cs)) = (decide (bs = cs) && decide (ds = es)) := by
      by_cases c : bs = cs
      · subst c
        by_cases c2 : ds = es
        · rw [c2]
          simp
        · rw [decide_eq_false c2, decide_eq_false (fun z => c2 (val_inj d1 d2 z))]
      · rw [decide_eq_false c, Bool.false_and, Bool.false_and]
    rw [e]
    exact q H2 s
end
end K04

set_option Elab.async false
set_option linter.all false
set_option maxRecDepth 100000
set_option maxHeartbeats 4000000
namespace K04
open PySem PySem.Spec PyProof.Rows L2 Ru
/-- an own exception without fields, as it is raised -/
structure RaiK (K : PySem.W.Frag) (mg : Str → Option Value) (n : Str) (U : Addr) : Prop where
  gU : mg n = some (.ref U)
  xU : PySem.W.excIn K U He.veBase "ValueError.__new__" = true
  kU : PySem.W.keepIn K (.ref U) = true
  bU : PySem.W.subIn K (.ref U) (.type "BaseException") = some true
  tU : PySem.W.typeIn K (.ref U) = some (.type "type")
theorem sc_like : FnScope ["one", "other"] ["one", "other"] (defScope sCheckLike) := ⟨rfl, rfl, rfl, by decide +kernel, rfl, by decide +kernel, by decide +kernel⟩
theorem sc_div : FnScope ["thing"] ["thing"] (defScope sCheckDivisor) := ⟨rfl, rfl, rfl, by decide +kernel, rfl, by decide +kernel, by decide +kernel⟩
theorem sc_am : FnScope ["thing", "numeral"] ["thing", "numeral"] (defScope sAmountOf) := ⟨rfl, rfl, rfl, by decide +kernel, rfl, by decide +kernel, by decide +kernel⟩
abbrev nDg : List Str := ["value", "bases", "many", "weight", "base"]
theorem sc_dg : FnScope nDg ["value", "bases"] (defScope sDigitsOf) := ⟨rfl, rfl, rfl, by decide +kernel, rfl, by decide +kernel, by decide +kernel⟩
theorem sc_of : FnScope ["cls", "value", "bases"] ["cls", "value", "bases"] (defScope sNumeral_of) := ⟨rfl, rfl, rfl, by decide +kernel, rfl, by decide +kernel, by decide +kernel⟩
theorem sc_wv : FnScope ["self", "value"] ["self", "value"] (defScope sNumeral_with_value) := ⟨rfl, rfl, rfl, by decide +kernel, rfl, by decide +kernel, by decide +kernel⟩
/-- a numeral of the value v, or Overflow with it -/
def Out (C O : Addr) (bs : List Int) (v : Int) (H : Hp) (Q : VK) (E : XK) : Prop :=
  (v / prodL bs = 0 → ∀ r H', Same H H' → NumAt C H' r (dgsV bs v) bs → Q (.ref r) H') ∧ (v / prodL bs ≠ 0 → ∀ dd H', Same H H' → H' dd = some (.xd [("value", .int v)]) → E (.ref O) (some dd) H')
theorem Out.same {C O : Addr} {bs : List Int} {v : Int} {H H1 : Hp} {Q : VK} {E : XK} (s : Same H H1) (h : Out C O bs v H Q E) : Out C O bs v H1 Q E := ⟨fun e r H' s' => h.1 e r H' (s.trans s'), fun e dd H' s' => h.2 e dd H' (s.trans s')⟩
def spDgV (O : Addr) : Sp := fun vs H Q E => ∃ (p : Addr) (b : Bool) (bs : List Int) (v : Int), vs = [.int v, .ref p] ∧ RdA b H p (bs.map V.int) ∧ Bss bs ∧ (v / prodL bs = 0 → ∀ l H', Same H H' → H l = none → H' l = some (.lst ((dgsV bs v).map V.int)) → Q (.ref l) H') ∧
  (v / prodL bs ≠ 0 → ∀ dd H', Same H H' → H' dd = some (.xd [("value", .int v)]) → E (.ref O) (some dd) H')
def spOfV (C O : Addr) : Sp := fun vs H Q E => ∃ (p : Addr) (b : Bool) (bs : List Int) (v : Int), vs = [.ref C, .int v, .ref p] ∧ RdA b H p (bs.map V.int) ∧ Bss bs ∧ Out C O bs v H Q E
def spWV (C O : Addr) : Sp := fun vs H Q E => ∃ (a : Addr) (ds bs : List Int) (v : Int), vs = [.ref a, .int v] ∧ NumAt C H a ds bs ∧ Bss bs ∧ Out C O bs v H Q E
def spWholeN (C : Addr) : Sp := fun vs H Q _ => ∃ (a : Addr) (ds bs : List Int), vs = [.ref a] ∧ NumAt C H a ds bs ∧ Q (.bl false) H
def spAmI : Sp := fun vs H Q _ => ∃ (k : Int) (a : Addr), vs = [.int k, .ref a] ∧ Q (.int k) H
def spAmN (C U : Addr) : Sp := fun vs H Q E => ∃ (b a : Addr) (es cs ds bs : List Int), vs = [.ref b, .ref a] ∧ NumAt C H b es cs ∧ NumAt C H a ds bs ∧ Bss cs ∧ Bss bs ∧ (cs = bs → Q (.int (valD es cs)) H) ∧ (cs ≠ bs → E (.ref U) none H)
def spDivs (D : Addr) : Sp := fun vs H Q E => ∃ (k : Int), vs = [.int k] ∧ (0 < k → Q .non H) ∧ (k < 1 → E (.ref D) none H)
section
variable {P : Program} {w : World} {K : PySem.W.Frag} {mg : Str → Option Value} {base : Heap}
theorem ok_like {C U f : Addr} {fd : FuncData} (F : FunD K "_check_like" "_check_like" (defArgs sCheckLike) (defBody sCheckLike) (defScope sCheckLike) [] [] f fd) (N : NumK K mg C) (Z : RaiK K mg "Unlike" U) :
    FnOk P w K mg base (L2.CX P w) 1 f fd ["one", "other"] (spLike C U) := by
  refine F.ok sc_like (fun vs H Q E h => ?_) (fun cdv A outer s H vs Q E hr h => ?_)
  · obtain ⟨a, b, ds, bs, es, cs, rfl, _⟩ := h
    rfl
  · obtain ⟨a, b, ds, bs, es, cs, rfl, h1, h2, B1, B2, q1, q2⟩ := h
    refine ⟨_, pss_one (ps_if (pt_cmpR (op_neD hr.units) (pe_fld (pv 0) rfl) (pe_fld (pv 1) rfl) (nomark _))
      (pss_one (ps_raise rfl (takes_of rfl rfl rfl rfl) (pmk_own PySem.F.excBase_ValueError Z.xU Z.gU Z.kU (raises_own Z.bU Z.tU) rfl))) pss_nil), ?_⟩
    obtain ⟨dx, da, ba, a1, a2, a3⟩ := h1
    obtain ⟨ex, ea, ca, c1, c2, c3⟩ := h2
    refine ⟨_, rfl, a, C, dx, _, _, rfl, a1, N.cl, N.nB, rfl, _, rfl, b, C, ex, _, _, rfl, c1, N.cl, N.nB, rfl, ?_⟩
    refine ⟨.tuple (intsD bs), .tuple (intsD cs), .tup (Or.inl a3) dp_ints, .tup (Or.inl c3) dp_ints, shaped_row, shaped_row, _, rfl, ?_⟩
    rw [eqv_row]
    by_cases c : bs = cs
    · rw [decide_eq_true c]
      exact iteF (q1 c)
    · rw [decide_eq_false c]
      exact iteT (q2 c)
theorem ok_wholeN {C f : Addr} {fd : FuncData} (F : FunD K "is_whole" "is_whole" (defArgs sIsWhole) (defBody sIsWhole) (defScope sIsWhole) [] [] f fd) (N : NumK K mg C) (kI : PySem.W.kitOne K (.ref C) (.type "int") = some false) (g_isi : mg "isinstance" = none) (g_int : mg "int" = none)
    (g_bool : mg "bool" = none) : FnOk P w K mg base CX0 1 f fd ["thing"] (spWholeN C) := by
  refine F.ok sc_whole (fun vs H Q E h => ?_) (fun cdv A outer s H vs Q E hr h => ?_)
  · obtain ⟨a, ds, bs, rfl, _⟩ := h
    rfl
  · obtain ⟨a, ds, bs, rfl, hn, q⟩ := h
    refine ⟨_, PSs.nox (pss_one (ps_ret (pe_and (pe_callB call_isi (by rfl) g_isi boot_isinstance (pa_cons (pv 0) (pa_cons (pe_bltn (v := V.ty "int") (by rfl) g_int boot_int rfl) pa_nil)))
      (pe_one (pe_not (pe_callB call_isi (by rfl) g_isi boot_isinstance (pa_cons (pv 0) (pa_cons (pe_bltn (v := V.ty "bool") (by rfl) g_bool boot_bool rfl) pa_nil)))))))), ?_⟩
    refine ⟨_, rfl, _, _, _, _, _, rfl, .ty "int", N.ty hn, kI, _, rfl, ?_⟩
    exact iteF q
theorem ok_divs {D f : Addr} {fd : FuncData} (F : FunD K "_check_divisor" "_check_divisor" (defArgs sCheckDivisor) (defBody sCheckDivisor) (defScope sCheckDivisor) [] [] f fd) (CW : Cd P w K mg base CX0 1 "is_whole" ["thing"] (spWhole K)) (Z : RaiK K mg "NoDivisor" D) :
    FnOk P w K mg base (L2.CX P w) 2 f fd ["thing"] (spDivs D) := by
  refine F.ok sc_div (fun vs H Q E h => ?_) (fun cdv A outer s H vs Q E hr h => ?_)
  · obtain ⟨k, rfl, _⟩ := h
    rfl
  · obtain ⟨k, rfl, q1, q2⟩ := h
    refine ⟨_, pss_one (ps_if (PW.pt (pw_or (pt_not (pt_val (pe_cd CW hr (by rfl) pass0 (pa_cons (pv 0) pa_nil)))) (pw_or1 (pt_cmpR op_lt (pv 0) pe_int (nomark _)))))
      (pss_one (ps_raise rfl (takes_of rfl rfl rfl rfl) (pmk_own PySem.F.excBase_ValueError Z.xU Z.gU Z.kU (raises_own Z.bU Z.tU) rfl))) pss_nil), ?_⟩
    refine ⟨_, rfl, _, 0, _, rfl, .int k, _, rfl, ?_⟩
    refine iteF ?_
    refine ⟨_, rfl, _, _, rfl, rfl, _, rfl, ?_⟩
    exact ifC (fun c => q2 c) (fun c => q1 (by omega))
theorem ok_amI {C U f : Addr} {fd : FuncData} (F : FunD K "_amount_of" "_amount_of" (defArgs sAmountOf) (defBody sAmountOf) (defScope sAmountOf) [] [] f fd) (CW : Cd P w K mg base CX0 1 "is_whole" ["thing"] (spWhole K)) (CK : Cd P w K mg base (L2.CX P w) 1 "_check_like" ["one", "other"] (spLike C U))
    (N : NumK K mg C) (g_isi : mg "isinstance" = none) : FnOk P w K mg base (L2.CX P w) 2 f fd ["thing", "numeral"] spAmI := by
  refine F.ok sc_am (fun vs H Q E h => ?_) (fun cdv A outer s H vs Q E hr h => ?_)
  · obtain ⟨k, a, rfl, _⟩ := h
    rfl
  · obtain ⟨k, a, rfl, q⟩ := h
    refine ⟨_, pss_cons (ps_if (pt_val (pe_cd CW hr (by rfl) pass0 (pa_cons (pv 0) pa_nil))) (pss_one (ps_ret (pv 0))) pss_nil)
      (pss_cons (ps_if (pt_not (pt_val (pe_callB call_isi (by rfl) g_isi boot_isinstance (pa_cons (pv 0) (pa_cons (pe_glob (v := V.ref C) (by rfl) N.gN rfl) pa_nil))))) (pss_one (ps_ret pe_non)) pss_nil)
      (pss_cons (ps_expr (pe_cd CK hr (by rfl) (passes_call (takes_of rfl rfl rfl rfl) (fun _ _ _ _ h => h)) (pa_cons (pv 0) (pa_cons (pv 1) pa_nil))))
      (pss_one (ps_ret (pe_fld (pv 0) rfl))))), ?_⟩
    refine ⟨_, rfl, _, 0, _, rfl, .int k, _, rfl, ?_⟩
    exact iteT ⟨_, rfl, q⟩
theorem ok_amN {C U f : Addr} {fd : FuncData} (F : FunD K "_amount_of" "_amount_of" (defArgs sAmountOf) (defBody sAmountOf) (defScope sAmountOf) [] [] f fd) (CW : Cd P w K mg base CX0 1 "is_whole" ["thing"] (spWholeN C)) (CK : Cd P w K mg base (L2.CX P w) 1 "_check_like" ["one", "other"] (spLike C U))
    (N : NumK K mg C) (g_isi : mg "isinstance" = none) : FnOk P w K mg base (L2.CX P w) 2 f fd ["thing", "numeral"] (spAmN C U) := by
  refine F.ok sc_am (fun vs H Q E h => ?_) (fun cdv A outer s H vs Q E hr h => ?_)
  · obtain ⟨b, a, es, cs, ds, bs, rfl, _⟩ := h
    rfl
  · obtain ⟨b, a, es, cs, ds, bs, rfl, h1, h2, B1, B2, q1, q2⟩ := h
    refine ⟨_, pss_cons (ps_if (pt_val (pe_cd CW hr (by rfl) pass0 (pa_cons (pv 0) pa_nil))) (pss_one (ps_ret (pv 0))) pss_nil)
      (pss_cons (ps_if (pt_not (pt_val (pe_callB call_isi (by rfl) g_isi boot_isinstance (pa_cons (pv 0) (pa_cons (pe_glob (v := V.ref C) (by rfl) N.gN rfl) pa_nil))))) (pss_one (ps_ret pe_non)) pss_nil)
      (pss_cons (ps_expr (pe_cd CK hr (by rfl) (passes_call (takes_of rfl rfl rfl rfl) (fun _ _ _ _ h => h)) (pa_cons (pv 0) (pa_cons (pv 1) pa_nil))))
      (pss_one (ps_ret (pe_fld (pv 0) rfl))))), ?_⟩
    refine ⟨_, rfl, b, es, cs, rfl, h1, _, rfl, ?_⟩
    refine iteF ?_
    refine ⟨_, rfl, _, _, _, _, _, rfl, .own C, N.ty h1, N.kN, _, rfl, ?_⟩
    refine iteF ?_
    refine ⟨_, rfl, _, rfl, b, a, es, cs, ds, bs, rfl, h1, h2, B1, B2, fun e => ?_, q2⟩
    obtain ⟨ex, ea, ca, c1, c2, c3⟩ := h1
    exact ⟨_, rfl, b, C, ex, _, _, rfl, c1, N.cl, N.nV, rfl, q1 e⟩
theorem ok_dg {f : Addr} {fd : FuncData} (F : FunD K "_digits_of" "_digits_of" (defArgs sDigitsOf) (defBody sDigitsOf) (defScope sDigitsOf) [] [] f fd) (CC : Cd P w K mg base (L2.CX P w) 4 "count_of" ["bases"] (spCnt K "NoNumeral"))
    (CT : Cd P w K mg base (L2.CX P w) 4 "weights" ["bases"] (spWts K "NoNumeral")) (R : RsX P w K mg base "Overflow" "value") (g_zip : mg "zip" = none) : FnOk P w K mg base (L2.CX P w) 5 f fd ["value", "bases"] (spDgV (He.ga K "Overflow")) := by
  refine F.ok sc_dg (fun vs H Q E h => ?_) (fun cdv A outer s H vs Q E hr h => ?_)
  · obtain ⟨p, b, bs, v, rfl, _⟩ := h
    rfl
  · obtain ⟨p, b, bs, v, rfl, hb, B, q1, q2⟩ := h
    have sc := sc_dg
    refine ⟨_, pss_cons (ps_set (i := 2) sc.nd rfl (Or.inl rfl) (pe_cd CC hr (by rfl) passN (pa_cons (pv 1) pa_nil)))
      (pss_cons (ps_if (pt_not (pt_chain op_le op_lt pe_int (pv 0) (pv 2))) (pss_one (ps_raise rfl (takes_of rfl rfl rfl rfl) (pmk_rs R (hr.mono (by decide)) (by rfl) (pv 0) mono_var))) pss_nil)
      (pss_one (ps_ret (pe_lc (own := [("weight", 3), ("base", 4)]) (g := gTup K 2 (gCons (gName 3) (gCons (gName 4) gNil))) (tt := tYes) rfl sc.nd
          (pi_zipX (by rfl) g_zip (pa_cons (pe_cd CT hr (by rfl) passN (pa_cons (pv 1) pa_nil)) (pa_cons (pv 1) pa_nil))) (blkOk_by (N := nDg) (sc := defScope sDigitsOf) (by decide +kernel))
          (fun _ _ _ _ _ => pg_tup rfl (pgs_cons (pg_name (i := 3) sc.nd rfl (Or.inl rfl)) (pgs_cons (pg_name (i := 4) sc.nd rfl (Or.inl rfl)) pgs_nil))) (fun _ _ _ _ _ => pts_nil)
          (fun _ _ _ _ _ => pe_op op_mod (pe_op op_fdiv (pv 0) (pv 3)) (pv 4)))))), ?_⟩
    have hP := prodL_pos B.2.2
    have npp : p ≠ p + 1 := Nat.ne_of_lt (Nat.lt_succ_self p)
    have one : ∀ {zs : List Int}, (rowD b bs = .list (intsD zs) ∨ rowD b bs = .tuple (intsD zs)) → zs = bs := fun {zs} hx => by
      rcases hx with e | e <;> cases b <;> first | cases e | skip
      all_goals
        injection e with e
        exact (intsD_inj e).symm
    refine ⟨_, rfl, _, p + 1, _, rfl, hb.dq npp, fun zs hz hx H1 s1 => ?_, fun z => by rw [rowD_bss B] at z; cases z⟩
    have ez := one hx
    subst ez
    have bad : ∀ {H2 : Hp}, Same H H2 → v / prodL zs ≠ 0 → ∀ dd H', Same H2 H' → H' dd = some (.xd [("value", .int v)]) → E (.ref (He.ga K "Overflow")) (some dd) H' := fun s e dd H' s' ed => q2 e dd H' (s.trans s') ed
    refine ⟨_, rfl, _, _, rfl, rfl, _, rfl, ?_⟩
    by_cases c0 : 0 ≤ v
    case neg =>
      rw [decide_eq_false c0]
      refine iteF ⟨_, rfl, ?_⟩
      exact iteT ⟨_, rfl, fun dd H4 s4 _ ed => bad s1 (fun z => c0 ((in_room hP).mp z).1) dd H4 s4 ed⟩
    rw [decide_eq_true c0]
    refine iteT ⟨_, rfl, _, _, rfl, rfl, _, rfl, ?_⟩
    by_cases c1 : v < prodL zs
    case neg =>
      rw [decide_eq_false c1]
      exact iteT ⟨_, rfl, fun dd H4 s4 _ ed => bad s1 (fun z => c1 ((in_room hP).mp z).2) dd H4 s4 ed⟩
    rw [decide_eq_true c1]
    refine iteF ?_
    refine ⟨_, rfl, _, p + 1, _, rfl, (hb.same s1).dq npp, fun ys hz hx l H2 s2 np hp => ?_, fun z => by rw [rowD_bss B] at z; cases z⟩
    have ey := one hx
    subst ey
    have s12 := s1.trans s2
    have hb2 := hb.same s12
    refine ⟨_, rfl, true, b, l, p, _, _, rfl, Or.inl (.inl hp), hb2.sq, fun D hD => ?_⟩
    have lw := wts_len (bs := ys)
    have l4 : ys.length ≤ 4 := B.2.1
    have ld := dgsV_len (bs := ys) (v := v)
    refine lc_it walk_zipA (fun i H' => Same H2 H' ∧ H' D = some (.lst (((dgsV ys v).take i).map V.int))) ⟨upd_new hD, upd_same⟩ (fun i H' _ g => ⟨Or.inl (.inl (g.1 _ _ hp)), (hb2.same g.1).sq⟩) ?_ ?_
    · rintro i u H8 H9 hi ⟨s8, eD⟩ ⟨T, y1, y2, rfl, hT, rfl, e1, e2⟩
      rw [List.length_map, List.length_map] at hi
      have e1 : ((wts ys).map V.int)[i]? = some y1 := e1
      have e2 : (ys.map V.int)[i]? = some y2 := e2
      have hi2 : i < ys.length := by omega
      obtain ⟨wv, j1, w1, w2⟩ := wts_at B hi2
      have j2 : ys[i]? = some ys[i] := List.getElem?_eq_getElem hi2
      rw [List.getElem?_map, j1] at e1
      rw [List.getElem?_map, j2] at e2
      cases e1
      cases e2
      have b2 := (B.2.2 _ (List.mem_of_getElem? j2)).1
      have nT : D ≠ T := ne_of_none eD hT
      refine ⟨T, _, rfl, Or.inl (Or.inl upd_same), rfl, _, _, rfl, _, _, rfl, rfl, rfl, yesT ?_⟩
      refine yes_ ⟨_, rfl, _, rfl, _, _, rfl, rfl, ⟨w1, w2⟩, _, rfl, _, _, rfl, rfl, by omega, ?_⟩
      refine ⟨_, by rw [upd_ne nT]; exact eD, ?_, fill_next hD (s8.trans (upd_new hT)), ?_⟩
      · rw [List.length_map, List.length_take, sizeLine_eq]
        omega
      · rw [upd_same, take_next (dgsV_at j1 j2)]
    · rintro H8 ⟨s8, eD⟩
      rw [List.length_map, List.length_map, List.take_of_length_le (by omega)] at eD
      exact q1 ((in_room hP).mpr ⟨c0, c1⟩) D H8 (s12.trans s8) (Same.free s12 hD) eD
theorem ok_of {C O f fi : Addr} {fd fdi : FuncData} (F : FunD K "of" "Numeral.of" (defArgs sNumeral_of) (defBody sNumeral_of) (defScope sNumeral_of) [] [] f fd) (CG : Cd P w K mg base (L2.CX P w) 5 "_digits_of" ["value", "bases"] (spDgV O))
    (FI : FnOk P w K mg base CX0 5 fi fdi ["self", "digits", "bases"] (spInit K C)) (M : Mk K C fi) (bI : Binds K fdi ["self", "digits", "bases"] []) : FnOk P w K mg base (L2.CX P w) 7 f fd ["cls", "value", "bases"] (spOfV C O) := by
  refine F.ok sc_of (fun vs H Q E h => ?_) (fun cdv A outer s H vs Q E hr h => ?_)
  · obtain ⟨p, b, bs, v, rfl, _⟩ := h
    rfl
  · obtain ⟨p, b, bs, v, rfl, hb, B, q⟩ := h
    have r5 := hr.mono (show 5 ≤ 6 by decide)
    refine ⟨_, pss_one (ps_ret (pe_makeL (i := 0) (E := E0) M FI hr rfl (Or.inl rfl) bI pass0 (pa_cons (pe_cd CG r5 (by rfl) (passes_call (takes_of rfl rfl rfl rfl) (fun _ _ _ _ h => h)) (pa_cons (pv 1) (pa_cons (pv 2) pa_nil))) (pa_cons (pv 2) pa_nil)))), ?_⟩
    refine ⟨rfl, _, rfl, _, rfl, p, b, bs, v, rfl, hb, B, fun e l H1 s1 nl el => ⟨_, rfl, ?_⟩, q.2⟩
    exact make_num (b1 := false) (b2 := b) (.inl el) (hb.same s1) B (dgsV_dgs B.2.2) fun r H2 s2 _ nm => q.1 e r H2 (s1.trans s2) nm
theorem ok_wv {C O f : Addr} {fd : FuncData} (F : FunD K "_with_value" "Numeral._with_value" (defArgs sNumeral_with_value) (defBody sNumeral_with_value) (defScope sNumeral_with_value) [] [] f fd) (N : NumK K mg C) (CG : Cd P w K mg base (L2.CX P w) 5 "_digits_of" ["value", "bases"] (spDgV O))
    (CN : CdC P w K mg base CX0 5 "Numeral" C ["self", "digits", "bases"] (spInit K C)) : FnOk P w K mg base (L2.CX P w) 7 f fd ["self", "value"] (spWV C O) := by
  refine F.ok sc_wv (fun vs H Q E h => ?_) (fun cdv A outer s H vs Q E hr h => ?_)
  · obtain ⟨a, ds, bs, v, rfl, _⟩ := h
    rfl
  · obtain ⟨a, ds, bs, v, rfl, h1, B, q⟩ := h
    have r5 := hr.mono (show 5 ≤ 6 by decide)
    refine ⟨_, pss_one (ps_ret (pe_cc CN hr (by rfl) pass0 (pa_cons (pe_cd CG r5 (by rfl) (passes_call (takes_of rfl rfl rfl rfl) (fun _ _ _ _ h => h)) (pa_cons (pv 1) (pa_cons (pe_fld (pv 0) rfl) pa_nil))) (pa_cons (pe_fld (pv 0) rfl) pa_nil)))), ?_⟩
    obtain ⟨dx, da, ba, a1, a2, a3⟩ := h1
    refine ⟨_, rfl, _, rfl, a, C, dx, _, _, rfl, a1, N.cl, N.nB, rfl, ba, true, bs, v, rfl, a3, B, fun e l H1 s1 nl el => ⟨_, rfl, a, C, dx, _, _, rfl, s1 _ _ a1, N.cl, N.nB, rfl, ?_⟩, q.2⟩
    exact make_num (b1 := false) (b2 := true) (.inl el) (Same.rd s1 a3) B (dgsV_dgs B.2.2) fun r H2 s2 _ nm => q.1 e r H2 (s1.trans s2) nm
end
end K04

set_option Elab.async false
set_option linter.all false
set_option maxRecDepth 100000
set_option maxHeartbeats 4000000
namespace K04
open PySem PySem.Spec PyProof.Rows L2 Ru
def spAI (f : Int → Int → Int) (C O : Addr) : Sp := fun vs H Q E => ∃ (a : Addr) (k : Int) (ds bs : List Int), vs = [.ref a, .int k] ∧ NumAt C H a ds bs ∧ Bss bs ∧ Dgs ds bs ∧ k.natAbs < 2 ^ 200 ∧ Out C O bs (f (valD ds bs) k) H Q E
def spAN (f : Int → Int → Int) (C O U : Addr) : Sp := fun vs H Q E => ∃ (a b : Addr) (ds bs es cs : List Int), vs = [.ref a, .ref b] ∧ NumAt C H a ds bs ∧ NumAt C H b es cs ∧ Bss bs ∧ Bss cs ∧ (cs = bs → Out C O bs (f (valD ds bs) (valD es cs)) H Q E) ∧ (cs ≠ bs → E (.ref U) none H)
def spPw (C O : Addr) : Sp := fun vs H Q E => ∃ (a : Addr) (k : Nat) (ds bs : List Int), vs = [.ref a, .int (k : Int)] ∧ NumAt C H a ds bs ∧ Bss bs ∧ Dgs ds bs ∧ k ≤ 16 ∧ Out C O bs (valD ds bs ^ k) H Q E
def spDv (f : Int → Int → Int) (C O D : Addr) : Sp := fun vs H Q E => ∃ (a : Addr) (k : Int) (ds bs : List Int), vs = [.ref a, .int k] ∧ NumAt C H a ds bs ∧ Bss bs ∧ Dgs ds bs ∧ k.natAbs < 2 ^ 200 ∧ (0 < k → Out C O bs (f (valD ds bs) k) H Q E) ∧ (k < 1 → E (.ref D) none H)
theorem sc_add : FnScope ["self", "other", "amount"] ["self", "other"] (defScope sNumeral_add) := ⟨rfl, rfl, rfl, by decide +kernel, rfl, by decide +kernel, by decide +kernel⟩
theorem sc_radd : FnScope ["self", "other"] ["self", "other"] (defScope sNumeral_radd) := ⟨rfl, rfl, rfl, by decide +kernel, rfl, by decide +kernel, by decide +kernel⟩
theorem sc_sub : FnScope ["self", "other", "amount"] ["self", "other"] (defScope sNumeral_sub) := ⟨rfl, rfl, rfl, by decide +kernel, rfl, by decide +kernel, by decide +kernel⟩
theorem sc_rsub : FnScope ["self", "other"] ["self", "other"] (defScope sNumeral_rsub) := ⟨rfl, rfl, rfl, by decide +kernel, rfl, by decide +kernel, by decide +kernel⟩
theorem sc_mul : FnScope ["self", "other"] ["self", "other"] (defScope sNumeral_mul) := ⟨rfl, rfl, rfl, by decide +kernel, rfl, by decide +kernel, by decide +kernel⟩
theorem sc_rmul : FnScope ["self", "other"] ["self", "other"] (defScope sNumeral_rmul) := ⟨rfl, rfl, rfl, by decide +kernel, rfl, by decide +kernel, by decide +kernel⟩
theorem sc_pow : FnScope ["self", "other", "power", "_"] ["self", "other"] (defScope sNumeral_pow) := ⟨rfl, rfl, rfl, by decide +kernel, rfl, by decide +kernel, by decide +kernel⟩
theorem sc_floordiv : FnScope ["self", "other"] ["self", "other"] (defScope sNumeral_floordiv) := ⟨rfl, rfl, rfl, by decide +kernel, rfl, by decide +kernel, by decide +kernel⟩
theorem sc_mod : FnScope ["self", "other"] ["self", "other"] (defScope sNumeral_mod) := ⟨rfl, rfl, rfl, by decide +kernel, rfl, by decide +kernel, by decide +kernel⟩
section
variable {P : Program} {w : World} {K : PySem.W.Frag} {mg : Str → Option Value} {base : Heap}
theorem ok_addI {C O U D f : Addr} {fd : FuncData} (F : FunD K "__add__" "Numeral.__add__" (defArgs sNumeral_add) (defBody sNumeral_add) (defScope sNumeral_add) [] [] f fd) (N : NumK K mg C) (MW : CdM P w K mg base (L2.CX P w) 7 C "_with_value" ["self", "value"] (spWV C O)) (CA : Cd P w K mg base (L2.CX P w) 2 "_amount_of" ["thing", "numeral"] spAmI) :
    FnOk P w K mg base (L2.CX P w) 8 f fd ["self", "other"] (spAI (fun i j => i + j) C O) := by
  refine F.ok sc_add (fun vs H Q E h => ?_) (fun cdv A outer s H vs Q E hr h => ?_)
  · obtain ⟨a, k, ds, bs, rfl, _⟩ := h
    rfl
  · obtain ⟨a, k, ds, bs, rfl, h1, B, d1, hk, q⟩ := h
    have sc := sc_add
    have r2 := hr.mono (show 2 ≤ 7 by decide)
    refine ⟨_, pss_cons (ps_set (i := 2) sc.nd rfl (Or.inl rfl) (pe_cd CA r2 (by rfl) (passes_call (takes_of rfl rfl rfl rfl) (fun _ _ _ _ h => h)) (pa_cons (pv 1) (pa_cons (pv 0) pa_nil))))
      (pss_cons (ps_if (pt_cmpR op_isN (pv 2) pe_non (nomark _)) (pss_one ps_never) pss_nil)
      (pss_one (ps_ret (pe_cm MW N.cl (pv 0) hr (passes_call (takes_of rfl rfl rfl rfl) (fun _ _ _ _ h => h)) (pa_cons (pe_op op_add (pe_fld (pv 0) rfl) (pv 2)) pa_nil))))), ?_⟩
    obtain ⟨dx, da, ba, a1, a2, a3⟩ := id h1
    refine ⟨_, rfl, _, rfl, k, a, rfl, ?_⟩
    refine ⟨_, rfl, rfl, _, rfl, ?_⟩
    refine iteF ?_
    exact ⟨_, rfl, a, dx, _, rfl, a1, rfl, _, rfl, a, C, dx, _, _, rfl, a1, N.cl, N.nV, rfl, _, rfl, _, _, rfl, rfl, a, ds, bs, _, rfl, h1, B, q⟩
theorem ok_addN {C O U D f : Addr} {fd : FuncData} (F : FunD K "__add__" "Numeral.__add__" (defArgs sNumeral_add) (defBody sNumeral_add) (defScope sNumeral_add) [] [] f fd) (N : NumK K mg C) (MW : CdM P w K mg base (L2.CX P w) 7 C "_with_value" ["self", "value"] (spWV C O)) (CA : Cd P w K mg base (L2.CX P w) 2 "_amount_of" ["thing", "numeral"] (spAmN C U)) :
    FnOk P w K mg base (L2.CX P w) 8 f fd ["self", "other"] (spAN (fun i j => i + j) C O U) := by
  refine F.ok sc_add (fun vs H Q E h => ?_) (fun cdv A outer s H vs Q E hr h => ?_)
  · obtain ⟨a, b, ds, bs, es, cs, rfl, _⟩ := h
    rfl
  · obtain ⟨a, b, ds, bs, es, cs, rfl, h1, h2, B1, B2, q1, q2⟩ := h
    have sc := sc_add
    have r2 := hr.mono (show 2 ≤ 7 by decide)
    refine ⟨_, pss_cons (ps_set (i := 2) sc.nd rfl (Or.inl rfl) (pe_cd CA r2 (by rfl) (passes_call (takes_of rfl rfl rfl rfl) (fun _ _ _ _ h => h)) (pa_cons (pv 1) (pa_cons (pv 0) pa_nil))))
      (pss_cons (ps_if (pt_cmpR op_isN (pv 2) pe_non (nomark _)) (pss_one ps_never) pss_nil)
      (pss_one (ps_ret (pe_cm MW N.cl (pv 0) hr (passes_call (takes_of rfl rfl rfl rfl) (fun _ _ _ _ h => h)) (pa_cons (pe_op op_add (pe_fld (pv 0) rfl) (pv 2)) pa_nil))))), ?_⟩
    obtain ⟨dx, da, ba, a1, a2, a3⟩ := id h1
    refine ⟨_, rfl, _, rfl, b, a, es, cs, ds, bs, rfl, h2, h1, B2, B1, fun e => ?_, q2⟩
    refine ⟨_, rfl, rfl, _, rfl, ?_⟩
    refine iteF ?_
    exact ⟨_, rfl, a, dx, _, rfl, a1, rfl, _, rfl, a, C, dx, _, _, rfl, a1, N.cl, N.nV, rfl, _, rfl, _, _, rfl, rfl, a, ds, bs, _, rfl, h1, B1, q1 e⟩
theorem ok_subI {C O U D f : Addr} {fd : FuncData} (F : FunD K "__sub__" "Numeral.__sub__" (defArgs sNumeral_sub) (defBody sNumeral_sub) (defScope sNumeral_sub) [] [] f fd) (N : NumK K mg C) (MW : CdM P w K mg base (L2.CX P w) 7 C "_with_value" ["self", "value"] (spWV C O)) (CA : Cd P w K mg base (L2.CX P w) 2 "_amount_of" ["thing", "numeral"] spAmI) :
    FnOk P w K mg base (L2.CX P w) 8 f fd ["self", "other"] (spAI (fun i j => i - j) C O) := by
  refine F.ok sc_sub (fun vs H Q E h => ?_) (fun cdv A outer s H vs Q E hr h => ?_)
  · obtain ⟨a, k, ds, bs, rfl, _⟩ := h
    rfl
  · obtain ⟨a, k, ds, bs, rfl, h1, B, d1, hk, q⟩ := h
    have sc := sc_sub
    have r2 := hr.mono (show 2 ≤ 7 by decide)
    refine ⟨_, pss_cons (ps_set (i := 2) sc.nd rfl (Or.inl rfl) (pe_cd CA r2 (by rfl) (passes_call (takes_of rfl rfl rfl rfl) (fun _ _ _ _ h => h)) (pa_cons (pv 1) (pa_cons (pv 0) pa_nil))))
      (pss_cons (ps_if (pt_cmpR op_isN (pv 2) pe_non (nomark _)) (pss_one ps_never) pss_nil)
      (pss_one (ps_ret (pe_cm MW N.cl (pv 0) hr (passes_call (takes_of rfl rfl rfl rfl) (fun _ _ _ _ h => h)) (pa_cons (pe_op op_sub (pe_fld (pv 0) rfl) (pv 2)) pa_nil))))), ?_⟩
    obtain ⟨dx, da, ba, a1, a2, a3⟩ := id h1
    refine ⟨_, rfl, _, rfl, k, a, rfl, ?_⟩
    refine ⟨_, rfl, rfl, _, rfl, ?_⟩
    refine iteF ?_
    exact ⟨_, rfl, a, dx, _, rfl, a1, rfl, _, rfl, a, C, dx, _, _, rfl, a1, N.cl, N.nV, rfl, _, rfl, _, _, rfl, rfl, a, ds, bs, _, rfl, h1, B, q⟩
theorem ok_subN {C O U D f : Addr} {fd : FuncData} (F : FunD K "__sub__" "Numeral.__sub__" (defArgs sNumeral_sub) (defBody sNumeral_sub) (defScope sNumeral_sub) [] [] f fd) (N : NumK K mg C) (MW : CdM P w K mg base (L2.CX P w) 7 C "_with_value" ["self", "value"] (spWV C O)) (CA : Cd P w K mg base (L2.CX P w) 2 "_amount_of" ["thing", "numeral"] (spAmN C U)) :
    FnOk P w K mg base (L2.CX P w) 8 f fd ["self", "other"] (spAN (fun i j => i - j) C O U) := by
  refine F.ok sc_sub (fun vs H Q E h => ?_) (fun cdv A outer s H vs Q E hr h => ?_)
  · obtain ⟨a, b, ds, bs, es, cs, rfl, _⟩ := h
    rfl
  · obtain ⟨a, b, ds, bs, es, cs, rfl, h1, h2, B1, B2, q1, q2⟩ := h
    have sc := sc_sub
    have r2 := hr.mono (show 2 ≤ 7 by decide)
    refine ⟨_, pss_cons (ps_set (i := 2) sc.nd rfl (Or.inl rfl) (pe_cd CA r2 (by rfl) (passes_call (takes_of rfl rfl rfl rfl) (fun _ _ _ _ h => h)) (pa_cons (pv 1) (pa_cons (pv 0) pa_nil))))
      (pss_cons (ps_if (pt_cmpR op_isN (pv 2) pe_non (nomark _)) (pss_one ps_never) pss_nil)
      (pss_one (ps_ret (pe_cm MW N.cl (pv 0) hr (passes_call (takes_of rfl rfl rfl rfl) (fun _ _ _ _ h => h)) (pa_cons (pe_op op_sub (pe_fld (pv 0) rfl) (pv 2)) pa_nil))))), ?_⟩
    obtain ⟨dx, da, ba, a1, a2, a3⟩ := id h1
    refine ⟨_, rfl, _, rfl, b, a, es, cs, ds, bs, rfl, h2, h1, B2, B1, fun e => ?_, q2⟩
    refine ⟨_, rfl, rfl, _, rfl, ?_⟩
    refine iteF ?_
    exact ⟨_, rfl, a, dx, _, rfl, a1, rfl, _, rfl, a, C, dx, _, _, rfl, a1, N.cl, N.nV, rfl, _, rfl, _, _, rfl, rfl, a, ds, bs, _, rfl, h1, B1, q1 e⟩
theorem ok_radd {C O U D f : Addr} {fd : FuncData} (F : FunD K "__radd__" "Numeral.__radd__" (defArgs sNumeral_radd) (defBody sNumeral_radd) (defScope sNumeral_radd) [] [] f fd) (N : NumK K mg C) (MW : CdM P w K mg base (L2.CX P w) 7 C "_with_value" ["self", "value"] (spWV C O)) (CW : Cd P w K mg base CX0 1 "is_whole" ["thing"] (spWhole K)) :
    FnOk P w K mg base (L2.CX P w) 8 f fd ["self", "other"] (spAI (fun i j => j + i) C O) := by
  refine F.ok sc_radd (fun vs H Q E h => ?_) (fun cdv A outer s H vs Q E hr h => ?_)
  · obtain ⟨a, k, ds, bs, rfl, _⟩ := h
    rfl
  · obtain ⟨a, k, ds, bs, rfl, h1, B, d1, hk, q⟩ := h
    have sc := sc_radd
    have r1 := hr.mono (show 1 ≤ 7 by decide)
    refine ⟨_, pss_cons (ps_if (pt_not (pt_val (pe_cd CW r1 (by rfl) pass0 (pa_cons (pv 1) pa_nil)))) (pss_one ps_never) pss_nil)
      (pss_one (ps_ret (pe_cm MW N.cl (pv 0) hr (passes_call (takes_of rfl rfl rfl rfl) (fun _ _ _ _ h => h)) (pa_cons (pe_op op_add (pv 1) (pe_fld (pv 0) rfl)) pa_nil)))), ?_⟩
    obtain ⟨dx, da, ba, a1, a2, a3⟩ := id h1
    refine ⟨_, rfl, _, 0, _, rfl, .int k, _, rfl, ?_⟩
    refine iteF ?_
    exact ⟨_, rfl, a, dx, _, rfl, a1, rfl, _, rfl, _, rfl, a, C, dx, _, _, rfl, a1, N.cl, N.nV, rfl, _, _, rfl, rfl, a, ds, bs, _, rfl, h1, B, q⟩
theorem ok_rsub {C O U D f : Addr} {fd : FuncData} (F : FunD K "__rsub__" "Numeral.__rsub__" (defArgs sNumeral_rsub) (defBody sNumeral_rsub) (defScope sNumeral_rsub) [] [] f fd) (N : NumK K mg C) (MW : CdM P w K mg base (L2.CX P w) 7 C "_with_value" ["self", "value"] (spWV C O)) (CW : Cd P w K mg base CX0 1 "is_whole" ["thing"] (spWhole K)) :
    FnOk P w K mg base (L2.CX P w) 8 f fd ["self", "other"] (spAI (fun i j => j - i) C O) := by
  refine F.ok sc_rsub (fun vs H Q E h => ?_) (fun cdv A outer s H vs Q E hr h => ?_)
  · obtain ⟨a, k, ds, bs, rfl, _⟩ := h
    rfl
  · obtain ⟨a, k, ds, bs, rfl, h1, B, d1, hk, q⟩ := h
    have sc := sc_rsub
    have r1 := hr.mono (show 1 ≤ 7 by decide)
    refine ⟨_, pss_cons (ps_if (pt_not (pt_val (pe_cd CW r1 (by rfl) pass0 (pa_cons (pv 1) pa_nil)))) (pss_one ps_never) pss_nil)
      (pss_one (ps_ret (pe_cm MW N.cl (pv 0) hr (passes_call (takes_of rfl rfl rfl rfl) (fun _ _ _ _ h => h)) (pa_cons (pe_op op_sub (pv 1) (pe_fld (pv 0) rfl)) pa_nil)))), ?_⟩
    obtain ⟨dx, da, ba, a1, a2, a3⟩ := id h1
    refine ⟨_, rfl, _, 0, _, rfl, .int k, _, rfl, ?_⟩
    refine iteF ?_
    exact ⟨_, rfl, a, dx, _, rfl, a1, rfl, _, rfl, _, rfl, a, C, dx, _, _, rfl, a1, N.cl, N.nV, rfl, _, _, rfl, rfl, a, ds, bs, _, rfl, h1, B, q⟩
theorem ok_mul {C O U D f : Addr} {fd : FuncData} (F : FunD K "__mul__" "Numeral.__mul__" (defArgs sNumeral_mul) (defBody sNumeral_mul) (defScope sNumeral_mul) [] [] f fd) (N : NumK K mg C) (MW : CdM P w K mg base (L2.CX P w) 7 C "_with_value" ["self", "value"] (spWV C O)) (CW : Cd P w K mg base CX0 1 "is_whole" ["thing"] (spWhole K)) :
    FnOk P w K mg base (L2.CX P w) 8 f fd ["self", "other"] (spAI (fun i j => i * j) C O) := by
  refine F.ok sc_mul (fun vs H Q E h => ?_) (fun cdv A outer s H vs Q E hr h => ?_)
  · obtain ⟨a, k, ds, bs, rfl, _⟩ := h
    rfl
  · obtain ⟨a, k, ds, bs, rfl, h1, B, d1, hk, q⟩ := h
    have sc := sc_mul
    have r1 := hr.mono (show 1 ≤ 7 by decide)
    refine ⟨_, pss_cons (ps_if (pt_not (pt_val (pe_cd CW r1 (by rfl) pass0 (pa_cons (pv 1) pa_nil)))) (pss_one ps_never) pss_nil)
      (pss_one (ps_ret (pe_cm MW N.cl (pv 0) hr (passes_call (takes_of rfl rfl rfl rfl) (fun _ _ _ _ h => h)) (pa_cons (pe_op op_mulW (pe_fld (pv 0) rfl) (pv 1)) pa_nil)))), ?_⟩
    obtain ⟨dx, da, ba, a1, a2, a3⟩ := id h1
    refine ⟨_, rfl, _, 0, _, rfl, .int k, _, rfl, ?_⟩
    refine iteF ?_
    exact ⟨_, rfl, a, dx, _, rfl, a1, rfl, _, rfl, a, C, dx, _, _, rfl, a1, N.cl, N.nV, rfl, _, rfl, _, _, rfl, rfl, (mulW (val_abs d1 B) hk (by decide) (by decide) (by decide)), a, ds, bs, _, rfl, h1, B, q⟩
theorem ok_rmul {C O U D f : Addr} {fd : FuncData} (F : FunD K "__rmul__" "Numeral.__rmul__" (defArgs sNumeral_rmul) (defBody sNumeral_rmul) (defScope sNumeral_rmul) [] [] f fd) (N : NumK K mg C) (MW : CdM P w K mg base (L2.CX P w) 7 C "_with_value" ["self", "value"] (spWV C O)) (CW : Cd P w K mg base CX0 1 "is_whole" ["thing"] (spWhole K)) :
    FnOk P w K mg base (L2.CX P w) 8 f fd ["self", "other"] (spAI (fun i j => j * i) C O) := by
  refine F.ok sc_rmul (fun vs H Q E h => ?_) (fun cdv A outer s H vs Q E hr h => ?_)
  · obtain ⟨a, k, ds, bs, rfl, _⟩ := h
    rfl
  · obtain ⟨a, k, ds, bs, rfl, h1, B, d1, hk, q⟩ := h
    have sc := sc_rmul
    have r1 := hr.mono (show 1 ≤ 7 by decide)
    refine ⟨_, pss_cons (ps_if (pt_not (pt_val (pe_cd CW r1 (by rfl) pass0 (pa_cons (pv 1) pa_nil)))) (pss_one ps_never) pss_nil)
      (pss_one (ps_ret (pe_cm MW N.cl (pv 0) hr (passes_call (takes_of rfl rfl rfl rfl) (fun _ _ _ _ h => h)) (pa_cons (pe_op op_mulW (pv 1) (pe_fld (pv 0) rfl)) pa_nil)))), ?_⟩
    obtain ⟨dx, da, ba, a1, a2, a3⟩ := id h1
    refine ⟨_, rfl, _, 0, _, rfl, .int k, _, rfl, ?_⟩
    refine iteF ?_
    exact ⟨_, rfl, a, dx, _, rfl, a1, rfl, _, rfl, _, rfl, a, C, dx, _, _, rfl, a1, N.cl, N.nV, rfl, _, _, rfl, rfl, (mulW hk (val_abs d1 B) (by decide) (by decide) (by decide)), a, ds, bs, _, rfl, h1, B, q⟩
theorem ok_pow {C O U D f : Addr} {fd : FuncData} (F : FunD K "__pow__" "Numeral.__pow__" (defArgs sNumeral_pow) (defBody sNumeral_pow) (defScope sNumeral_pow) [] [] f fd) (N : NumK K mg C) (MW : CdM P w K mg base (L2.CX P w) 7 C "_with_value" ["self", "value"] (spWV C O)) (CW : Cd P w K mg base CX0 1 "is_whole" ["thing"] (spWhole K)) (g_range : mg "range" = none) :
    FnOk P w K mg base (L2.CX P w) 8 f fd ["self", "other"] (spPw C O) := by
  refine F.ok sc_pow (fun vs H Q E h => ?_) (fun cdv A outer s H vs Q E hr h => ?_)
  · obtain ⟨a, k, ds, bs, rfl, _⟩ := h
    rfl
  · obtain ⟨a, k, ds, bs, rfl, h1, B, d1, hk, q⟩ := h
    have sc := sc_pow
    have r1 := hr.mono (show 1 ≤ 7 by decide)
    refine ⟨_, pss_cons (ps_if (pt_not (pt_val (pe_cd CW r1 (by rfl) pass0 (pa_cons (pv 1) pa_nil)))) (pss_one ps_never) pss_nil)
      (pss_cons (ps_set (i := 2) sc.nd rfl (Or.inl rfl) pe_int)
      (pss_cons (ps_for (passes_of rfl) rfl (pi_range1 rfl g_range (pa_cons (pv 1) pa_nil)) (pg_name (i := 3) sc.nd rfl (Or.inl rfl)) (pss_one (ps_set (i := 2) sc.nd rfl (Or.inl rfl) (pe_op op_mulW (pv 2) (pe_fld (pv 0) rfl)))))
      (pss_one (ps_ret (pe_cm MW N.cl (pv 0) hr (passes_call (takes_of rfl rfl rfl rfl) (fun _ _ _ _ h => h)) (pa_cons (pv 2) pa_nil)))))), ?_⟩
    obtain ⟨dx, da, ba, a1, a2, a3⟩ := id h1
    refine ⟨_, rfl, _, 0, _, rfl, .int k, _, rfl, ?_⟩
    refine iteF ?_
    refine ⟨_, rfl, k, rfl, by omega, by omega, for_range (n := Int.toNat (k : Int)) (fun i σ H' => ∃ u, σ = [some (.ref a), some (.int (k : Int)), some (.int (valD ds bs ^ i)), u] ∧ H' = H) ⟨none, by rw [Int.pow_zero]; rfl, rfl⟩ ?_ ?_⟩
    · rintro i σ H2 hi ⟨u, rfl, rfl⟩
      rw [Int.toNat_natCast] at hi
      have hp := abs_pow (val_abs d1 B) (by decide) i
      refine ⟨_, rfl, _, rfl, a, C, dx, _, _, rfl, a1, N.cl, N.nV, rfl, _, _, rfl, rfl, mulW (abs_up hp (show 27 * i + 1 ≤ 500 by omega)) (val_abs d1 B) (by decide) (by decide) (by decide), ?_⟩
      exact ⟨_, by rw [Int.pow_succ]; rfl, rfl⟩
    · rintro σ H2 ⟨u, rfl, rfl⟩
      rw [Int.toNat_natCast]
      exact ⟨_, rfl, a, dx, _, rfl, a1, rfl, _, rfl, a, ds, bs, _, rfl, h1, B, q⟩
theorem ok_floordiv {C O U D f : Addr} {fd : FuncData} (F : FunD K "__floordiv__" "Numeral.__floordiv__" (defArgs sNumeral_floordiv) (defBody sNumeral_floordiv) (defScope sNumeral_floordiv) [] [] f fd) (N : NumK K mg C) (MW : CdM P w K mg base (L2.CX P w) 7 C "_with_value" ["self", "value"] (spWV C O)) (CV : Cd P w K mg base (L2.CX P w) 2 "_check_divisor" ["thing"] (spDivs D)) :
    FnOk P w K mg base (L2.CX P w) 8 f fd ["self", "other"] (spDv (fun i j => i / j) C O D) := by
  refine F.ok sc_floordiv (fun vs H Q E h => ?_) (fun cdv A outer s H vs Q E hr h => ?_)
  · obtain ⟨a, k, ds, bs, rfl, _⟩ := h
    rfl
  · obtain ⟨a, k, ds, bs, rfl, h1, B, d1, hk, q1, q2⟩ := h
    have sc := sc_floordiv
    have r2 := hr.mono (show 2 ≤ 7 by decide)
    refine ⟨_, pss_cons (ps_expr (pe_cd CV r2 (by rfl) (passes_call (takes_of rfl rfl rfl rfl) (fun _ _ _ _ h => h)) (pa_cons (pv 1) pa_nil)))
      (pss_one (ps_ret (pe_cm MW N.cl (pv 0) hr (passes_call (takes_of rfl rfl rfl rfl) (fun _ _ _ _ h => h)) (pa_cons (pe_op op_fdivW (pe_fld (pv 0) rfl) (pv 1)) pa_nil)))), ?_⟩
    obtain ⟨dx, da, ba, a1, a2, a3⟩ := id h1
    refine ⟨_, rfl, k, rfl, fun c => ?_, q2⟩
    exact ⟨_, rfl, a, dx, _, rfl, a1, rfl, _, rfl, a, C, dx, _, _, rfl, a1, N.cl, N.nV, rfl, _, rfl, _, _, rfl, rfl, (wide_div c hk (by decide) (by decide)), a, ds, bs, _, rfl, h1, B, q1 c⟩
theorem ok_mod {C O U D f : Addr} {fd : FuncData} (F : FunD K "__mod__" "Numeral.__mod__" (defArgs sNumeral_mod) (defBody sNumeral_mod) (defScope sNumeral_mod) [] [] f fd) (N : NumK K mg C) (MW : CdM P w K mg base (L2.CX P w) 7 C "_with_value" ["self", "value"] (spWV C O)) (CV : Cd P w K mg base (L2.CX P w) 2 "_check_divisor" ["thing"] (spDivs D)) :
    FnOk P w K mg base (L2.CX P w) 8 f fd ["self", "other"] (spDv (fun i j => i % j) C O D) := by
  refine F.ok sc_mod (fun vs H Q E h => ?_) (fun cdv A outer s H vs Q E hr h => ?_)
  · obtain ⟨a, k, ds, bs, rfl, _⟩ := h
    rfl
  · obtain ⟨a, k, ds, bs, rfl, h1, B, d1, hk, q1, q2⟩ := h
    have sc := sc_mod
    have r2 := hr.mono (show 2 ≤ 7 by decide)
    refine ⟨_, pss_cons (ps_expr (pe_cd CV r2 (by rfl) (passes_call (takes_of rfl rfl rfl rfl) (fun _ _ _ _ h => h)) (pa_cons (pv 1) pa_nil)))
      (pss_one (ps_ret (pe_cm MW N.cl (pv 0) hr (passes_call (takes_of rfl rfl rfl rfl) (fun _ _ _ _ h => h)) (pa_cons (pe_op op_mod (pe_fld (pv 0) rfl) (pv 1)) pa_nil)))), ?_⟩
    obtain ⟨dx, da, ba, a1, a2, a3⟩ := id h1
    refine ⟨_, rfl, k, rfl, fun c => ?_, q2⟩
    exact ⟨_, rfl, a, dx, _, rfl, a1, rfl, _, rfl, a, C, dx, _, _, rfl, a1, N.cl, N.nV, rfl, _, rfl, _, _, rfl, rfl, c, a, ds, bs, _, rfl, h1, B, q1 c⟩
end
end K04

set_option Elab.async false
set_option linter.all false
set_option maxRecDepth 100000
set_option maxHeartbeats 4000000
namespace K04
open PySem PySem.Spec PyProof.Rows L2 Ru
theorem sc_pick : FnScope ["_law_pen_here", "_law_some"] ["_law_pen_here", "_law_some"] (defScope sLPick) := ⟨rfl, rfl, rfl, by decide +kernel, rfl, by decide +kernel, by decide +kernel⟩
/-- a drawn item -/
def spPickL (K : PySem.W.Frag) : Sp := fun vs H Q _ => ∃ (d l p : Addr) (cells : List Int) (a r : Int) (xs : List V), vs = [.ref d, .ref p] ∧ PenL H d l cells a r ∧ a ≤ 100000 ∧ p ≠ d ∧ SqL K H p xs ∧ 0 < xs.length ∧ xs.length ≤ 1000 ∧
  ∀ (j : Nat) (v : V) (a' r' : Int) (H' : Hp), xs[j]? = some v → a' ≤ a + 1 → Bt d H H' → PenL H' d l cells a' r' → Q v H'
abbrev nBs : List Str := ["_law_pen_here", "_law_at"]
theorem sc_bs : FnScope nBs ["_law_pen_here"] (defScope sLBases) := ⟨rfl, rfl, rfl, by decide +kernel, rfl, by decide +kernel, by decide +kernel⟩
abbrev nDs : List Str := ["_law_pen_here", "_law_bases_here", "_law_base"]
theorem sc_ds : FnScope nDs ["_law_pen_here", "_law_bases_here"] (defScope sLDigits) := ⟨rfl, rfl, rfl, by decide +kernel, rfl, by decide +kernel, by decide +kernel⟩
/-- bases drawn -/
def spBasesL : Sp := fun vs H Q _ => ∃ (d l : Addr) (cells : List Int) (a r : Int), vs = [.ref d] ∧ PenL H d l cells a r ∧ a ≤ 99900 ∧
  ∀ (p : Addr) (bs : List Int) (a' r' : Int) (H' : Hp), Bt d H H' → PenL H' d l cells a' r' → a' ≤ a + 9 → H' p = some (.lst (bs.map V.int)) → Bss bs → Q (.ref p) H'
/-- digits drawn -/
def spDigitsL : Sp := fun vs H Q _ => ∃ (d l p : Addr) (cells : List Int) (a r : Int) (bs : List Int), vs = [.ref d, .ref p] ∧ PenL H d l cells a r ∧ a ≤ 99900 ∧ H p = some (.lst (bs.map V.int)) ∧ Bss bs ∧
  ∀ (q : Addr) (ds : List Int) (a' r' : Int) (H' : Hp), Bt d H H' → PenL H' d l cells a' r' → a' ≤ a + 8 → H' q = some (.lst (ds.map V.int)) → Dgs ds bs → Q (.ref q) H'
theorem rep_flat1 {n : Nat} {x : Int} : (List.replicate n [V.int x]).flatten = (List.replicate n x).map V.int := by
  induction n with
  | zero => rfl
  | succ n ih =>
    rw [List.replicate_succ, List.flatten_cons, ih, List.replicate_succ, List.map_cons]
    rfl
section
variable {P : Program} {w : World} {K : PySem.W.Frag} {mg : Str → Option Value} {base : Heap}
theorem ok_pick {f : Addr} {fd : FuncData} (F : FunD K "_law_pick" "_law_pick" (defArgs sLPick) (defBody sLPick) (defScope sLPick) [] [] f fd) (CT : Cd P w K mg base CX0 1 "_law_take" ["_law_pen_here", "_law_limit"] spTakeL) (g_len : mg "len" = none) :
    FnOk P w K mg base CX0 2 f fd ["_law_pen_here", "_law_some"] (spPickL K) := by
  refine F.ok sc_pick (fun vs H Q E h => ?_) (fun cdv A outer s H vs Q E hr h => ?_)
  · obtain ⟨d, l, p, cells, a, r, xs, rfl, _⟩ := h
    rfl
  · obtain ⟨d, l, p, cells, a, r, xs, rfl, PA, ha, hpd, hS, h0, h1, k⟩ := h
    refine ⟨_, PSs.nox (pss_one (ps_ret (pe_ix ix_list (pv 1) (pe_cd CT hr (by rfl) pass0 (pa_cons (pv 0) (pa_cons (pe_callB call_len_seq (by rfl) g_len PySem.boot_len (pa_cons (pv 1) pa_nil)) pa_nil))) (fun _ _ => rfl)))), ?_⟩
    refine ⟨_, rfl, _, rfl, _, rfl, p, _, rfl, .inl hS, d, l, cells, a, r, _, rfl, PA, ha, by omega, by omega, fun z a' r' H' z0 z1 h2 bt P' => ?_⟩
    obtain ⟨n, hn⟩ := Int.eq_ofNat_of_zero_le z0
    have hlt : n < xs.length := by omega
    exact ⟨p, xs, _, xs[n], rfl, rfl, bt.seq hpd hS, at_of hn (List.getElem?_eq_getElem hlt), k n _ a' r' H' (List.getElem?_eq_getElem hlt) h2 bt P'⟩
theorem ok_bases {f : Addr} {fd : FuncData} (F : FunD K "_law_bases" "_law_bases" (defArgs sLBases) (defBody sLBases) (defScope sLBases) [] [] f fd) (CT : Cd P w K mg base CX0 1 "_law_take" ["_law_pen_here", "_law_limit"] spTakeL)
    (CP : Cd P w K mg base CX0 2 "_law_pick" ["_law_pen_here", "_law_some"] (spPickL K)) (g_range : mg "range" = none) : FnOk P w K mg base CX0 3 f fd ["_law_pen_here"] spBasesL := by
  refine F.ok sc_bs (fun vs H Q E h => ?_) (fun cdv A outer s H vs Q E hr h => ?_)
  · obtain ⟨d, l, cells, a, r, rfl, _⟩ := h
    rfl
  · obtain ⟨d, l, cells, a, r, rfl, PA, ha, k⟩ := h
    have sc := sc_bs
    have r1 := hr.mono (show 1 ≤ 2 by decide)
    refine ⟨_, PSs.nox (pss_one (ps_ret (pe_lc (own := [("_law_at", 1)]) (g := gName 1) (tt := tYes) rfl sc.nd (pi_range1 rfl g_range (pa_cons (pe_op op_add pe_int (pe_cd CT r1 (by rfl) pass0 (pa_cons (pv 0) (pa_cons pe_int pa_nil)))) pa_nil)) (blkOk_by (N := nBs) (sc := defScope sLBases) (by decide +kernel))
          (fun _ _ _ _ _ => pg_name (i := 1) sc.nd rfl (Or.inl rfl)) (fun _ _ _ _ _ => pts_nil) (fun _ _ _ _ _ => (pe_cd CP hr (by rfl) pass0 (pa_cons (pv 0) (pa_cons (pe_lst (pa_cons pe_int (pa_cons pe_int (pa_cons pe_int (pa_cons pe_int (pa_cons (pe_op op_add pe_int (pe_cd CT r1 (by rfl) pass0 (pa_cons (pv 0) (pa_cons pe_int pa_nil)))) pa_nil)))))) pa_nil))))))), ?_⟩
    refine ⟨_, rfl, d, l, cells, a, r, 4, rfl, PA, by omega, by decide, by decide, fun z b3 q3 H3 z0 z1 l3 t03 P3 => ?_⟩
    refine ⟨_, _, rfl, rfl, _, rfl, by omega, by omega, fun D hD => ?_⟩
    have nDd : D ≠ d := (ne_of_none P3.dk hD).symm
    have nDl : D ≠ l := (ne_of_none P3.cl hD).symm
    have hn : (1 + z).toNat ≤ 4 ∧ 1 ≤ (1 + z).toNat := by omega
    generalize (1 + z).toNat = n at hn
    refine lc_it walk_range (fun j H' => ∃ (zs : List Int) (b' r' : Int), zs.length = j ∧ (∀ y ∈ zs, 2 ≤ y ∧ y ≤ 100) ∧ Bt d H H' ∧ PenL H' d l cells b' r' ∧ b' ≤ a + 1 + 2 * (j : Int) ∧ H' D = some (.lst (zs.map V.int))) ?_ (fun _ _ _ _ => trivial) ?_ ?_
    · exact ⟨[], b3, q3, rfl, fun y hy => (List.not_mem_nil hy).elim, t03.same (upd_new hD), P3.same (upd_new hD), by omega, upd_same⟩
    · rintro j v H4 H5 hj ⟨zs, b4, q4, e4, hz, t4, P4, l4, h4⟩ ⟨rfl, rfl⟩
      refine ⟨rfl, yesT ?_⟩
      refine yes_ ⟨_, rfl, _, rfl, d, l, cells, b4, q4, 99, rfl, P4, by omega, by decide, by decide, fun x b5 q5 H6 x0 x1 l6 t6 P6 => ?_⟩
      refine ⟨_, _, rfl, rfl, by show 5 ≤ sizeLine; decide, fun p hp => ?_⟩
      refine ⟨d, l, p, cells, b5, q5, _, rfl, P6.same (upd_new hp), by omega, (ne_of_none P6.dk hp).symm, SqL.of upd_same, by show 0 < 5; decide, by show 5 ≤ 1000; decide, fun i v b7 q7 H7 hi l7 t7 P7 => ?_⟩
      have t07 := (t4.trans t6).trans ((Bt.of (upd_new hp)).trans t7)
      have h7 : H7 D = some (.lst (zs.map V.int)) := t7 _ _ (upd_new hp _ _ (t6 _ _ h4 nDd)) nDd
      have fin : ∀ x : Int, v = .int x → 2 ≤ x → x ≤ 100 → ∃ acc, H7 D = some (.lst acc) ∧ acc.length < sizeLine ∧ ∃ (zs : List Int) (b' r' : Int), zs.length = j + 1 ∧ (∀ y ∈ zs, 2 ≤ y ∧ y ≤ 100) ∧ Bt d H (upd H7 D (.lst (acc ++ [v]))) ∧ PenL (upd H7 D (.lst (acc ++ [v]))) d l cells b' r' ∧ b' ≤ a + 1 + 2 * ((j + 1 : Nat) : Int) ∧ (upd H7 D (.lst (acc ++ [v]))) D = some (.lst (zs.map V.int)) := fun x e c1 c2 => by
        subst e
        refine ⟨_, h7, by rw [List.length_map, e4, sizeLine_eq]; omega, zs ++ [x], b7, q7, by rw [List.length_append, e4]; rfl, fun y hy => ?_, t03.fill hD t07, P7.off nDd nDl, by omega, ?_⟩
        · rcases List.mem_append.mp hy with hy | hy
          · exact hz y hy
          · rw [List.mem_singleton.mp hy]
            exact ⟨c1, c2⟩
        · rw [upd_same, List.map_append]
          rfl
      match i, hi with
      | 0, hi => exact fin 2 (Option.some.inj hi).symm (by decide) (by decide)
      | 1, hi => exact fin 3 (Option.some.inj hi).symm (by decide) (by decide)
      | 2, hi => exact fin 10 (Option.some.inj hi).symm (by decide) (by decide)
      | 3, hi => exact fin 100 (Option.some.inj hi).symm (by decide) (by decide)
      | 4, hi => exact fin (2 + x) (Option.some.inj hi).symm (by omega) (by omega)
      | i + 5, hi => cases hi
    · rintro H4 ⟨zs, b4, q4, e4, hz, t4, P4, l4, h4⟩
      exact k D zs b4 q4 H4 t4 P4 (by omega) h4 ⟨by omega, by omega, hz⟩
theorem ok_digits {f : Addr} {fd : FuncData} (F : FunD K "_law_digits" "_law_digits" (defArgs sLDigits) (defBody sLDigits) (defScope sLDigits) [] [] f fd) (CT : Cd P w K mg base CX0 1 "_law_take" ["_law_pen_here", "_law_limit"] spTakeL)
    (CP : Cd P w K mg base CX0 2 "_law_pick" ["_law_pen_here", "_law_some"] (spPickL K)) : FnOk P w K mg base CX0 3 f fd ["_law_pen_here", "_law_bases_here"] spDigitsL := by
  refine F.ok sc_ds (fun vs H Q E h => ?_) (fun cdv A outer s H vs Q E hr h => ?_)
  · obtain ⟨d, l, p, cells, a, r, bs, rfl, _⟩ := h
    rfl
  · obtain ⟨d, l, D, cells, a, r, zs, rfl, P4, ha, h4, B, k⟩ := h
    have sc := sc_ds
    have r1 := hr.mono (show 1 ≤ 2 by decide)
    have hz := B.2.2
    have hl4 := B.2.1
    have nDd : D ≠ d := ints_ne P4.dk h4
    refine ⟨_, PSs.nox (pss_one (ps_ret (pe_lc (own := [("_law_base", 2)]) (g := gName 2) (tt := tYes) rfl sc.nd (pi_list (pv 1)) (blkOk_by (N := nDs) (sc := defScope sLDigits) (by decide +kernel))
          (fun _ _ _ _ _ => pg_name (i := 2) sc.nd rfl (Or.inl rfl)) (fun _ _ _ _ _ => pts_nil)
          (fun _ _ _ _ _ => (pe_cd CP hr (by rfl) pass0 (pa_cons (pv 0) (pa_cons (pe_lst (pa_cons pe_int (pa_cons (pe_op op_sub (pv 2) pe_int) (pa_cons (pe_cd CT r1 (by rfl) pass0 (pa_cons (pv 0) (pa_cons (pv 2) pa_nil))) pa_nil)))) pa_nil))))))), ?_⟩
    refine ⟨_, rfl, D, rfl, ⟨_, SqL.of h4⟩, fun D2 hD2 => ?_⟩
    have nEd : D2 ≠ d := (ne_of_none P4.dk hD2).symm
    have nEl : D2 ≠ l := (ne_of_none P4.cl hD2).symm
    have nED : D ≠ D2 := ne_of_none h4 hD2
    refine lc_it walk_list (fun j H' => ∃ (ds : List Int) (b' r' : Int), ds.length = j ∧ (∀ (i : Nat) (x b : Int), ds[i]? = some x → zs[i]? = some b → 0 ≤ x ∧ x < b) ∧ Bt d H H' ∧ PenL H' d l cells b' r' ∧ b' ≤ a + 2 * (j : Int) ∧ H' D = some (.lst (zs.map V.int)) ∧ H' D2 = some (.lst (ds.map V.int))) ?_ (fun _ _ _ ⟨_, _, _, _, _, _, _, _, q, _⟩ => SqL.of q) ?_ ?_
    · exact ⟨[], a, r, rfl, fun i x b e _ => (by cases e), (Bt.of (upd_new hD2)), P4.same (upd_new hD2), by omega, upd_new hD2 _ _ h4, upd_same⟩
    · rintro j v H5 H6 hj ⟨ds, b3, q3, e3, hd, t5, P5, l5, h5, h6⟩ ⟨rfl, ev⟩
      rw [List.length_map] at hj
      have jz : zs[j]? = some zs[j] := List.getElem?_eq_getElem hj
      rw [List.getElem?_map, jz] at ev
      cases ev
      obtain ⟨c1, c2⟩ := hz _ (List.mem_of_getElem? jz)
      refine ⟨rfl, yesT ?_⟩
      refine yes_ ⟨_, rfl, _, rfl, _, _, rfl, rfl, ?_⟩
      refine ⟨_, rfl, _, rfl, d, l, cells, b3, q3, zs[j], rfl, P5, by omega, by omega, by omega, fun y b4 q4 H7 y0 y1 l7 t7 P7 => ?_⟩
      refine ⟨by show 3 ≤ sizeLine; decide, fun p hp => ?_⟩
      refine ⟨d, l, p, cells, b4, q4, _, rfl, P7.same (upd_new hp), by omega, (ne_of_none P7.dk hp).symm, SqL.of upd_same, by show 0 < 3; decide, by show 3 ≤ 1000; decide, fun i v b5 q5 H8 hi l8 t8 P8 => ?_⟩
      have t08 := (t5.trans t7).trans ((Bt.of (upd_new hp)).trans t8)
      have g5 : H8 D = some (.lst (zs.map V.int)) := t8 _ _ (upd_new hp _ _ (t7 _ _ h5 nDd)) nDd
      have g6 : H8 D2 = some (.lst (ds.map V.int)) := t8 _ _ (upd_new hp _ _ (t7 _ _ h6 nEd)) nEd
      have fin : ∀ x : Int, v = .int x → 0 ≤ x → x < zs[j] → ∃ acc, H8 D2 = some (.lst acc) ∧ acc.length < sizeLine ∧ ∃ (ds : List Int) (b' r' : Int), ds.length = j + 1 ∧ (∀ (i : Nat) (x b : Int), ds[i]? = some x → zs[i]? = some b → 0 ≤ x ∧ x < b) ∧ Bt d H (upd H8 D2 (.lst (acc ++ [v]))) ∧ PenL (upd H8 D2 (.lst (acc ++ [v]))) d l cells b' r' ∧
          b' ≤ a + 2 * ((j + 1 : Nat) : Int) ∧ (upd H8 D2 (.lst (acc ++ [v]))) D = some (.lst (zs.map V.int)) ∧ (upd H8 D2 (.lst (acc ++ [v]))) D2 = some (.lst (ds.map V.int)) := fun x e c3 c4 => by
        subst e
        refine ⟨_, g6, by rw [List.length_map, e3, sizeLine_eq]; omega, ds ++ [x], b5, q5, by rw [List.length_append, e3]; rfl, fun i u b e1 e2 => ?_, (Bt.of (Same.refl H)).fill hD2 t08, P8.off nEd nEl, by omega, by rw [upd_ne nED]; exact g5, ?_⟩
        · by_cases hi : i < ds.length
          · rw [List.getElem?_append_left hi] at e1
            exact hd i u b e1 e2
          · have hi2 : i = ds.length := by
              have := (List.getElem?_eq_some_iff.mp e1).1
              rw [List.length_append] at this
              have : i < ds.length + 1 := this
              omega
            subst hi2
            rw [List.getElem?_append_right (Nat.le_refl _), Nat.sub_self] at e1
            cases e1
            rw [e3, jz] at e2
            cases e2
            exact ⟨c3, c4⟩
        · rw [upd_same, List.map_append]
          rfl
      match i, hi with
      | 0, hi => exact fin 0 (Option.some.inj hi).symm (by decide) (by omega)
      | 1, hi => exact fin (zs[j] - 1) (Option.some.inj hi).symm (by omega) (by omega)
      | 2, hi => exact fin y (Option.some.inj hi).symm y0 y1
      | i + 3, hi => cases hi
    · rintro H5 ⟨ds, b3, q3, e3, hd, t5, P5, l5, h5, h6⟩
      rw [List.length_map] at e3 l5
      exact k D2 ds b3 q3 H5 t5 P5 (by omega) h6 (dgs_of e3 hd)
end
end K04

set_option Elab.async false
set_option linter.all false
set_option maxRecDepth 100000
set_option maxHeartbeats 4000000
namespace K04
open PySem PySem.Spec PyProof.Rows L2 Ru
/-- (digits, bases) as data -/
def prD (ds bs : List Int) : PyData := .tuple [.tuple (intsD ds), .tuple (intsD bs)]
def ovD (v : Int) : PyData := .tuple [.str "overflow", .int v]
def wdD (x : Str) : PyData := .tuple [.str x, .none]
/-- what is told -/
def ToldAt (H : Hp) (t : Addr) (x : PyData) : Prop :=
  (∃ (da ba : Addr) (ds bs : List Int), x = prD ds bs ∧ H t = some (.tup [.ref da, .ref ba]) ∧ Rd H da (.tup (ds.map V.int)) ∧ Rd H ba (.tup (bs.map V.int))) ∨
  (∃ v : Int, x = ovD v ∧ H t = some (.tup [.str "overflow", .int v])) ∨ (∃ y : Str, x = wdD y ∧ H t = some (.tup [.str y, .non]))
theorem ToldAt.same {H H' : Hp} {t : Addr} {x : PyData} (s : Same H H') (h : ToldAt H t x) : ToldAt H' t x := by
  rcases h with ⟨da, ba, ds, bs, e, h1, h2, h3⟩ | ⟨v, e, h1⟩ | ⟨y, e, h1⟩
  · exact .inl ⟨da, ba, ds, bs, e, s _ _ h1, Same.rd s h2, Same.rd s h3⟩
  · exact .inr (.inl ⟨v, e, s _ _ h1⟩)
  · exact .inr (.inr ⟨y, e, s _ _ h1⟩)
theorem ToldAt.ext {H H' : Hp} {t : Addr} {x : PyData} (s : LamX.ExtN H H') (h : ToldAt H t x) : ToldAt H' t x := by
  have rd : ∀ {b : Addr} {u : HO}, (∀ ps, u ≠ .tbl ps) → Rd H b u → Rd H' b u := fun {b u} n q => q.elim (fun q => .inl (s _ _ q n)) fun ⟨o, q⟩ => .inr ⟨o, s _ _ q fun _ z => by cases z⟩
  rcases h with ⟨da, ba, ds, bs, e, h1, h2, h3⟩ | ⟨v, e, h1⟩ | ⟨y, e, h1⟩
  · exact .inl ⟨da, ba, ds, bs, e, s _ _ h1 (fun _ z => by cases z), rd (fun _ z => by cases z) h2, rd (fun _ z => by cases z) h3⟩
  · exact .inr (.inl ⟨v, e, s _ _ h1 (fun _ z => by cases z)⟩)
  · exact .inr (.inr ⟨y, e, s _ _ h1 (fun _ z => by cases z)⟩)
/-- the classes that the law looks at -/
structure RfT (K : PySem.W.Frag) (mg : Str → Option Value) (O D U : Addr) : Prop where
  gR : mg "RisingError" = some (.ref (He.ga K "RisingError"))
  gN : mg "NoNumeral" = some (.ref (He.ga K "NoNumeral"))
  gO : mg "Overflow" = some (.ref O)
  gD : mg "NoDivisor" = some (.ref D)
  gU : mg "Unlike" = some (.ref U)
  g_isi : mg "isinstance" = none
  exO : PySem.W.exmOne K (.ref O) (.ref (He.ga K "RisingError")) = some true
  exD : PySem.W.exmOne K (.ref D) (.ref (He.ga K "RisingError")) = some true
  exU : PySem.W.exmOne K (.ref U) (.ref (He.ga K "RisingError")) = some true
  xkO : ExK K O
  xkD : ExK K D
  xkU : ExK K U
  oO : PySem.W.kitOne K (.ref O) (.ref O) = some true
  oD : PySem.W.kitOne K (.ref O) (.ref D) = some false
  oU : PySem.W.kitOne K (.ref O) (.ref U) = some false
  dO : PySem.W.kitOne K (.ref D) (.ref O) = some false
  dD : PySem.W.kitOne K (.ref D) (.ref D) = some true
  dU : PySem.W.kitOne K (.ref D) (.ref U) = some false
  uO : PySem.W.kitOne K (.ref U) (.ref O) = some false
  uD : PySem.W.kitOne K (.ref U) (.ref D) = some false
  uU : PySem.W.kitOne K (.ref U) (.ref U) = some true
  uN : PySem.W.kitOne K (.ref U) (.ref (He.ga K "NoNumeral")) = some false
  no : PySem.W.findIn K (.ref O) "value" = some none
/-- what is told of what is asked -/
def TTd (C O D U : Addr) : (XK → Hp → VK → Prop) → Hp → VK → Prop := fun tl H0 Q => ∀ H, Same H0 H → ∀ Qn : VK, (∀ v H', (∃ a ds bs, v = .ref a ∧ NumAt C H' a ds bs ∧ ∀ t H'', Same H' H'' → ToldAt H'' t (prD ds bs) → Q (.ref t) H'') → Qn v H') →
  tl (fun cls d H' => (cls = .ref O ∧ ∃ dd v, d = some dd ∧ H' dd = some (.xd [("value", .int v)]) ∧ ∀ t H'', Same H' H'' → ToldAt H'' t (ovD v) → Q (.ref t) H'') ∨ (cls = .ref D ∧ d = none ∧ ∀ t H'', Same H' H'' → ToldAt H'' t (wdD "divisor") → Q (.ref t) H'') ∨
    (cls = .ref U ∧ d = none ∧ ∀ t H'', Same H' H'' → ToldAt H'' t (wdD "unlike") → Q (.ref t) H'')) H Qn
theorem xd_same {H H' : Hp} {d : Option Addr} {fs : List (Str × V)} (s : Same H H') (h : XdAt H d fs) : XdAt H' d fs := h.imp id fun ⟨dd, e, h⟩ => ⟨dd, e, s _ _ h⟩
theorem eq3 {K : PySem.W.Frag} {H : Hp} {p q : Addr} {a b c x y z : Bool} {Q : VK} (hp : H p = some (.lst [.bl a, .bl b, .bl c])) (hq : H q = some (.lst [.bl x, .bl y, .bl z])) (k : Q (.bl ((a == x) && ((b == y) && (c == z)))) H) : rEqD K (.ref p) (.ref q) H Q := by
  refine ⟨.list [.bool a, .bool b, .bool c], .list [.bool x, .bool y, .bool z], .lst (SqL.of hp) (.cons (.bl _) (.cons (.bl _) (.cons (.bl _) .nil))), .lst (SqL.of hq) (.cons (.bl _) (.cons (.bl _) (.cons (.bl _) .nil))), ?_, ?_, ?_⟩
  · cases a <;> cases b <;> cases c <;> decide +kernel
  · cases x <;> cases y <;> cases z <;> decide +kernel
  · have e : PyData.eqv (.list [.bool a, .bool b, .bool c]) (.list [.bool x, .bool y, .bool z]) = ((a == x) && ((b == y) && (c == z))) := by
      cases a <;> cases b <;> cases c <;> cases x <;> cases y <;> cases z <;> decide +kernel
    rw [e]
    exact k
abbrev nTold : List Str := ["_law_ask", "_law_found", "_law_numeral", "error", "_law_marks"]
theorem sc_told : FnScope nTold ["_law_ask"] (defScope sLTold) := ⟨rfl, rfl, rfl, by decide +kernel, rfl, by decide +kernel, by decide +kernel⟩
theorem gives_told {X : Cx} {C O D U g : Addr} {cdg : Value} {q : Str} {k : Nat} (N : NumK X.K X.mg C) (R : RfT X.K X.mg O D U) (hr : Room (k + 1) X.A) : LamX.GivesTo X nTold "_law_told" (defScope sLTold) g cdg (defBody sLTold) "_law_ask" q (TTd C O D U) := by
  intro f c' s H Q tl act hc h
  have sc := sc_told
  have hu := (hr.deeper (envOfC "_law_told" (defScope sLTold) s.heap.objs.size g cdg)).units
  refine ⟨_, pss_cons (ps_set (i := 1) sc.nd rfl (Or.inl rfl) (pe_tup (pa_cons pe_str (pa_cons pe_non pa_nil))))
    (pss_cons (ps_try_keep (X := (cxOf C8.CX0 X.prog X.w X.K X.mg X.base nTold "_law_told" (defScope sLTold) g cdg X.A X.stack s H C8.E0).nox) (c := .ref (He.ga X.K "RisingError")) (i := 3)
      (tb := fun W D σ H => ∃ Ech : XK, (∀ cls d σ' H', Ech cls d H' → σ'.length = 5 → W cls d σ' H') ∧ σ[0]? = some (some (.ref f)) ∧ H c' = some (LamX.CodeO c' q) ∧
        tl Ech H fun v H1 => gName 2 v σ H1 fun σ2 H2 => tAsg (tTup (tCons (tFld X.K (tVar 2) "digits") (tCons (tFld X.K (tVar 2) "bases") tNil))) (gName 1) D σ2 H2)
      rfl rfl rfl sc.nd rfl rfl ⟨rfl, by decide, .inl R.gR⟩ LamX.takes0 (fun W pn xe tk _ => ?_) (fun a oe cls d pn hz hf =>
        pss_cons (ps_set (i := 4) sc.nd rfl (Or.inl rfl) (pe_lst (pa_cons (pe_callB (call_isP hz hf) (by rfl) R.g_isi boot_isinstance (pa_cons (pv 3) (pa_cons (pe_glob (v := V.ref O) (by rfl) R.gO rfl) pa_nil))) (pa_cons (pe_callB (call_isP hz hf) (by rfl) R.g_isi boot_isinstance (pa_cons (pv 3) (pa_cons (pe_glob (v := V.ref D) (by rfl) R.gD rfl) pa_nil))) (pa_cons (pe_callB (call_isP hz hf) (by rfl) R.g_isi boot_isinstance (pa_cons (pv 3) (pa_cons (pe_glob (v := V.ref U) (by rfl) R.gU rfl) pa_nil))) pa_nil)))))
        (pss_cons (ps_if (pt_cmpR (r := rEqD X.K) (op_eqD hu) (pv 4) (pe_lst (pa_cons pe_bl (pa_cons pe_bl (pa_cons pe_bl pa_nil)))) (nomark _)) (pss_one (ps_set (i := 1) sc.nd rfl (Or.inl rfl) (pe_tupP (pa_cons pe_str (pa_cons (pe_pxf hz hf (pv 3)) pa_nil))))) pss_nil)
        (pss_cons (ps_if (pt_cmpR (r := rEqD X.K) (op_eqD hu) (pv 4) (pe_lst (pa_cons pe_bl (pa_cons pe_bl (pa_cons pe_bl pa_nil)))) (nomark _)) (pss_one (ps_set (i := 1) sc.nd rfl (Or.inl rfl) (pe_tupP (pa_cons pe_str (pa_cons pe_non pa_nil))))) pss_nil)
        (pss_one (ps_if (PW.pt (pw_and (pt_cmpR (r := rEqD X.K) (op_eqD hu) (pv 4) (pe_lst (pa_cons pe_bl (pa_cons pe_bl (pa_cons pe_bl pa_nil)))) (nomark _)) (pw_and1 (pt_not (pt_val (pe_callB (call_isP hz hf) (by rfl) R.g_isi boot_isinstance (pa_cons (pv 3) (pa_cons (pe_glob (v := V.ref (He.ga X.K "NoNumeral")) (by rfl) R.gN rfl) pa_nil)))))))) (pss_one (ps_set (i := 1) sc.nd rfl (Or.inl rfl) (pe_tupP (pa_cons pe_str (pa_cons pe_non pa_nil))))) pss_nil))))))
    (pss_one (ps_ret (pv 1)))), ?_⟩
  · refine ⟨fun pins s' σ H' D I h' => ?_⟩
    obtain ⟨Ech, hW, h1, h2, h3⟩ := h'
    exact (pss_cons (ps_set (i := 2) sc.nd rfl (Or.inl rfl) (act (fun cls d σ' H' => σ'.length = 5 → W cls d σ' H') _ _ Ech _ _ (takes_len tk) (fun cls d σ' H' e => hW cls d σ' H' e)))
      (pss_one (ps_set (i := 1) sc.nd rfl (Or.inl rfl) (pe_tup (pa_cons (pe_fld (pv 2) rfl) (pa_cons (pe_fld (pv 2) rfl) pa_nil)))))).run pins s' σ H' D I ⟨h1, h2, h3⟩
  · refine ⟨by show 2 ≤ sizeLine; decide, fun t0 ht0 => ?_⟩
    have nc : c' ≠ t0 := ne_of_none hc ht0
    have s0 : Same H (upd H t0 (.tup [.str "odd", .non])) := upd_new ht0
    have hc0 := s0 _ _ hc
    generalize upd H t0 (.tup [.str "odd", .non]) = H0 at s0 hc0 ⊢
    refine ⟨fun cls d H' => (cls = .ref O ∧ ∃ dd v, d = some dd ∧ H' dd = some (.xd [("value", .int v)]) ∧ ∀ t H'', Same H' H'' → ToldAt H'' t (ovD v) → Q (.ref t) H'') ∨ (cls = .ref D ∧ d = none ∧ ∀ t H'', Same H' H'' → ToldAt H'' t (wdD "divisor") → Q (.ref t) H'') ∨
      (cls = .ref U ∧ d = none ∧ ∀ t H'', Same H' H'' → ToldAt H'' t (wdD "unlike") → Q (.ref t) H''), ?_, rfl, hc0, ?_⟩
    · rintro cls d σ' H' hh hl
      match σ', hl with
      | [x0, x1, x2, x3, x4], _ =>
      rcases hh with ⟨rfl, dd, v, rfl, h1, k⟩ | ⟨rfl, rfl, k⟩ | ⟨rfl, rfl, k⟩
      · refine ⟨true, R.exO, fun _ a ha => ?_, nofun⟩
        have xd : XdAt H' (some dd) [("value", .int v)] := .inr ⟨dd, rfl, h1⟩
        refine ⟨_, rfl, O, _, _, _, _, rfl, rfl, xd, R.xkO, .own _, R.oO, _, rfl, O, _, _, _, _, rfl, rfl, xd, R.xkO, .own _, R.oD, _, rfl, O, _, _, _, _, rfl, rfl, xd, R.xkO, .own _, R.oU, by show 3 ≤ sizeLine; decide, fun m hm => ?_⟩
        have S1 : Same H' (upd H' m (.lst [.bl true, .bl false, .bl false])) := upd_new hm
        have em : (upd H' m (.lst [.bl true, .bl false, .bl false])) m = some (.lst [.bl true, .bl false, .bl false]) := upd_same
        generalize upd H' m (.lst [.bl true, .bl false, .bl false]) = H1 at S1 em ⊢
        refine ⟨_, rfl, by show 3 ≤ sizeLine; decide, fun p0 hp0 => ?_⟩
        have s0 : Same H1 (upd H1 p0 (.lst [.bl true, .bl false, .bl false])) := upd_new hp0
        have e0 : (upd H1 p0 (.lst [.bl true, .bl false, .bl false])) p0 = some (.lst [.bl true, .bl false, .bl false]) := upd_same
        generalize upd H1 p0 (.lst [.bl true, .bl false, .bl false]) = H2 at s0 e0 ⊢
        have S2 := S1.trans s0
        have em := s0 _ _ em
        refine eq3 em e0 ⟨_, rfl, ?_⟩
        refine iteT ?_
        refine ⟨_, rfl, O, _, .int v, rfl, rfl, (xd_same S2 xd), R.xkO, R.no, rfl, by show 2 ≤ sizeLine; decide, fun u hu => ?_⟩
        refine ⟨u, _, rfl, upd_same, fun nu => ?_⟩
        have su : Same H2 (upd H2 u (.tup [.str "overflow", .int v])) := upd_new hu
        have eu : (upd H2 u (.tup [.str "overflow", .int v])) u = some (.tup [.str "overflow", .int v]) := upd_same
        generalize upd H2 u (.tup [.str "overflow", .int v]) = H3 at su eu ⊢
        have S3 := S2.trans su
        have em := su _ _ em
        have eu' := eu
        refine ⟨_, rfl, by show 3 ≤ sizeLine; decide, fun p1 hp1 => ?_⟩
        have s1 : Same H3 (upd H3 p1 (.lst [.bl false, .bl true, .bl false])) := upd_new hp1
        have e1 : (upd H3 p1 (.lst [.bl false, .bl true, .bl false])) p1 = some (.lst [.bl false, .bl true, .bl false]) := upd_same
        generalize upd H3 p1 (.lst [.bl false, .bl true, .bl false]) = H4 at s1 e1 ⊢
        have S4 := S3.trans s1
        have em := s1 _ _ em
        have eu' := s1 _ _ eu'
        refine eq3 em e1 ⟨_, rfl, ?_⟩
        refine iteF ?_
        refine ⟨_, rfl, by show 3 ≤ sizeLine; decide, fun p2 hp2 => ?_⟩
        have s2 : Same H4 (upd H4 p2 (.lst [.bl false, .bl false, .bl true])) := upd_new hp2
        have e2 : (upd H4 p2 (.lst [.bl false, .bl false, .bl true])) p2 = some (.lst [.bl false, .bl false, .bl true]) := upd_same
        generalize upd H4 p2 (.lst [.bl false, .bl false, .bl true]) = H5 at s2 e2 ⊢
        have S5 := S4.trans s2
        have em := s2 _ _ em
        have eu' := s2 _ _ eu'
        refine eq3 em e2 ⟨_, rfl, ?_⟩
        refine iteF ?_
        exact ⟨_, rfl, k u _ (same_put ha S5) (.inr (.inl ⟨v, rfl, by rw [upd_ne nu]; exact eu'⟩))⟩
      · refine ⟨true, R.exD, fun _ a ha => ?_, nofun⟩
        have xd : ∀ {H : Hp}, XdAt H none [] := .inl ⟨rfl, rfl⟩
        refine ⟨_, rfl, D, _, _, _, _, rfl, rfl, xd, R.xkD, .own _, R.dO, _, rfl, D, _, _, _, _, rfl, rfl, xd, R.xkD, .own _, R.dD, _, rfl, D, _, _, _, _, rfl, rfl, xd, R.xkD, .own _, R.dU, by show 3 ≤ sizeLine; decide, fun m hm => ?_⟩
        have S1 : Same H' (upd H' m (.lst [.bl false, .bl true, .bl false])) := upd_new hm
        have em : (upd H' m (.lst [.bl false, .bl true, .bl false])) m = some (.lst [.bl false, .bl true, .bl false]) := upd_same
        generalize upd H' m (.lst [.bl false, .bl true, .bl false]) = H1 at S1 em ⊢
        refine ⟨_, rfl, by show 3 ≤ sizeLine; decide, fun p0 hp0 => ?_⟩
        have s0 : Same H1 (upd H1 p0 (.lst [.bl true, .bl false, .bl false])) := upd_new hp0
        have e0 : (upd H1 p0 (.lst [.bl true, .bl false, .bl false])) p0 = some (.lst [.bl true, .bl false, .bl false]) := upd_same
        generalize upd H1 p0 (.lst [.bl true, .bl false, .bl false]) = H2 at s0 e0 ⊢
        have S2 := S1.trans s0
        have em := s0 _ _ em
        refine eq3 em e0 ⟨_, rfl, ?_⟩
        refine iteF ?_
        refine ⟨_, rfl, by show 3 ≤ sizeLine; decide, fun p1 hp1 => ?_⟩
        have s1 : Same H2 (upd H2 p1 (.lst [.bl false, .bl true, .bl false])) := upd_new hp1
        have e1 : (upd H2 p1 (.lst [.bl false, .bl true, .bl false])) p1 = some (.lst [.bl false, .bl true, .bl false]) := upd_same
        generalize upd H2 p1 (.lst [.bl false, .bl true, .bl false]) = H3 at s1 e1 ⊢
        have S3 := S2.trans s1
        have em := s1 _ _ em
        refine eq3 em e1 ⟨_, rfl, ?_⟩
        refine iteT ?_
        refine ⟨by show 2 ≤ sizeLine; decide, fun u hu => ?_⟩
        refine ⟨u, _, rfl, upd_same, fun nu => ?_⟩
        have su : Same H3 (upd H3 u (.tup [.str "divisor", .non])) := upd_new hu
        have eu : (upd H3 u (.tup [.str "divisor", .non])) u = some (.tup [.str "divisor", .non]) := upd_same
        generalize upd H3 u (.tup [.str "divisor", .non]) = H4 at su eu ⊢
        have S4 := S3.trans su
        have em := su _ _ em
        have eu' := eu
        refine ⟨_, rfl, by show 3 ≤ sizeLine; decide, fun p2 hp2 => ?_⟩
        have s2 : Same H4 (upd H4 p2 (.lst [.bl false, .bl false, .bl true])) := upd_new hp2
        have e2 : (upd H4 p2 (.lst [.bl false, .bl false, .bl true])) p2 = some (.lst [.bl false, .bl false, .bl true]) := upd_same
        generalize upd H4 p2 (.lst [.bl false, .bl false, .bl true]) = H5 at s2 e2 ⊢
        have S5 := S4.trans s2
        have em := s2 _ _ em
        have eu' := s2 _ _ eu'
        refine eq3 em e2 ⟨_, rfl, ?_⟩
        refine iteF ?_
        exact ⟨_, rfl, k u _ (same_put ha S5) (.inr (.inr ⟨"divisor", rfl, by rw [upd_ne nu]; exact eu'⟩))⟩
      · refine ⟨true, R.exU, fun _ a ha => ?_, nofun⟩
        have xd : ∀ {H : Hp}, XdAt H none [] := .inl ⟨rfl, rfl⟩
        refine ⟨_, rfl, U, _, _, _, _, rfl, rfl, xd, R.xkU, .own _, R.uO, _, rfl, U, _, _, _, _, rfl, rfl, xd, R.xkU, .own _, R.uD, _, rfl, U, _, _, _, _, rfl, rfl, xd, R.xkU, .own _, R.uU, by show 3 ≤ sizeLine; decide, fun m hm => ?_⟩
        have S1 : Same H' (upd H' m (.lst [.bl false, .bl false, .bl true])) := upd_new hm
        have em : (upd H' m (.lst [.bl false, .bl false, .bl true])) m = some (.lst [.bl false, .bl false, .bl true]) := upd_same
        generalize upd H' m (.lst [.bl false, .bl false, .bl true]) = H1 at S1 em ⊢
        refine ⟨_, rfl, by show 3 ≤ sizeLine; decide, fun p0 hp0 => ?_⟩
        have s0 : Same H1 (upd H1 p0 (.lst [.bl true, .bl false, .bl false])) := upd_new hp0
        have e0 : (upd H1 p0 (.lst [.bl true, .bl false, .bl false])) p0 = some (.lst [.bl true, .bl false, .bl false]) := upd_same
        generalize upd H1 p0 (.lst [.bl true, .bl false, .bl false]) = H2 at s0 e0 ⊢
        have S2 := S1.trans s0
        have em := s0 _ _ em
        refine eq3 em e0 ⟨_, rfl, ?_⟩
        refine iteF ?_
        refine ⟨_, rfl, by show 3 ≤ sizeLine; decide, fun p1 hp1 => ?_⟩
        have s1 : Same H2 (upd H2 p1 (.lst [.bl false, .bl true, .bl false])) := upd_new hp1
        have e1 : (upd H2 p1 (.lst [.bl false, .bl true, .bl false])) p1 = some (.lst [.bl false, .bl true, .bl false]) := upd_same
        generalize upd H2 p1 (.lst [.bl false, .bl true, .bl false]) = H3 at s1 e1 ⊢
        have S3 := S2.trans s1
        have em := s1 _ _ em
        refine eq3 em e1 ⟨_, rfl, ?_⟩
        refine iteF ?_
        refine ⟨_, rfl, by show 3 ≤ sizeLine; decide, fun p2 hp2 => ?_⟩
        have s2 : Same H3 (upd H3 p2 (.lst [.bl false, .bl false, .bl true])) := upd_new hp2
        have e2 : (upd H3 p2 (.lst [.bl false, .bl false, .bl true])) p2 = some (.lst [.bl false, .bl false, .bl true]) := upd_same
        generalize upd H3 p2 (.lst [.bl false, .bl false, .bl true]) = H4 at s2 e2 ⊢
        have S4 := S3.trans s2
        have em := s2 _ _ em
        refine eq3 em e2 ⟨_, rfl, ?_⟩
        refine iteT ?_
        refine ⟨_, rfl, U, _, _, _, _, rfl, rfl, xd, R.xkU, .own _, R.uN, _, rfl, ?_⟩
        refine iteT ?_
        refine ⟨by show 2 ≤ sizeLine; decide, fun u hu => ?_⟩
        refine ⟨u, _, rfl, upd_same, fun nu => ?_⟩
        have su : Same H4 (upd H4 u (.tup [.str "unlike", .non])) := upd_new hu
        have eu : (upd H4 u (.tup [.str "unlike", .non])) u = some (.tup [.str "unlike", .non]) := upd_same
        generalize upd H4 u (.tup [.str "unlike", .non]) = H5 at su eu ⊢
        have S5 := S4.trans su
        have em := su _ _ em
        have eu' := eu
        exact ⟨_, rfl, k u _ (same_put ha S5) (.inr (.inr ⟨"unlike", rfl, by rw [upd_ne nu]; exact eu'⟩))⟩
    · refine h H0 s0 _ fun v H' hv => ?_
      obtain ⟨a, ds, bs, rfl, hn, k⟩ := hv
      obtain ⟨dx, da, ba, a1, a2, a3⟩ := id hn
      refine ⟨_, rfl, a, C, dx, _, _, rfl, a1, N.cl, N.nD, rfl, _, rfl, a, C, dx, _, _, rfl, a1, N.cl, N.nB, rfl, by show 2 ≤ sizeLine; decide, fun t ht => ?_⟩
      exact ⟨_, rfl, k t _ (upd_new ht) (.inl ⟨da, ba, ds, bs, rfl, upd_same, Same.rd (upd_new ht) a2, Same.rd (upd_new ht) a3⟩)⟩
end K04

set_option Elab.async false
set_option linter.all false
set_option maxRecDepth 100000
set_option maxHeartbeats 4000000
namespace K04
open PySem PySem.Spec PyProof.Rows L2 Ru
theorem rev_drop {zs : List Int} {i : Nat} {z : Int} (h : zs.reverse[i]? = some z) : zs.drop (zs.length - (i + 1)) = z :: zs.drop (zs.length - i) := by
  obtain ⟨hi, e⟩ := List.getElem?_eq_some_iff.mp h
  have hi' : i < zs.length := by rw [List.length_reverse] at hi; exact hi
  have hlt : zs.length - (i + 1) < zs.length := by omega
  rw [List.drop_eq_getElem_cons hlt, show zs.length - (i + 1) + 1 = zs.length - i by omega]
  rw [List.getElem_reverse] at e
  rw [← e]
  congr 1
  congr 1
  omega
/-- what is due of a value -/
def dueD (bs : List Int) (v : Int) : PyData := if v / prodL bs = 0 then prD (dgsV bs v) bs else ovD v
theorem dueD_yes {bs : List Int} {v : Int} (h : v / prodL bs = 0) : dueD bs v = prD (dgsV bs v) bs := if_pos h
theorem dueD_no {bs : List Int} {v : Int} (h : v / prodL bs ≠ 0) : dueD bs v = ovD v := if_neg h
def spDue : Sp := fun vs H Q _ => ∃ (p : Addr) (v : Int) (bs : List Int), vs = [.int v, .ref p] ∧ H p = some (.lst (bs.map V.int)) ∧ Bss bs ∧ ∀ t H', Same H H' → ToldAt H' t (dueD bs v) → Q (.ref t) H'
abbrev nDue : List Str := ["_law_value", "_law_bases_here", "_law_rest", "_law_digits_here", "_law_base"]
theorem sc_due : FnScope nDue ["_law_value", "_law_bases_here"] (defScope sLDue) := ⟨rfl, rfl, rfl, by decide +kernel, rfl, by decide +kernel, by decide +kernel⟩
theorem sc_num : FnScope ["_law_pen_here", "_law_value", "_law_room", "_law_some"] ["_law_pen_here", "_law_value", "_law_room"] (defScope sLNumber) := ⟨rfl, rfl, rfl, by decide +kernel, rfl, by decide +kernel, by decide +kernel⟩
/-- a drawn whole number -/
def spNum : Sp := fun vs H Q _ => ∃ (d l : Addr) (cells : List Int) (a r v m : Int), vs = [.ref d, .int v, .int m] ∧ PenL H d l cells a r ∧ a ≤ 99900 ∧ 0 ≤ v ∧ v < m ∧ m ≤ 100000000 ∧ ∀ (k a' r' : Int) (H' : Hp), k.natAbs < 2 ^ 140 → a' ≤ a + 3 → Bt d H H' → PenL H' d l cells a' r' → Q (.int k) H'
section
variable {P : Program} {w : World} {K : PySem.W.Frag} {mg : Str → Option Value} {base : Heap}
theorem ok_due {f : Addr} {fd : FuncData} (F : FunD K "_law_due" "_law_due" (defArgs sLDue) (defBody sLDue) (defScope sLDue) [] [] f fd) (g_tuple : mg "tuple" = none) (g_int : mg "int" = none) : FnOk P w K mg base CX0 1 f fd ["_law_value", "_law_bases_here"] spDue := by
  refine F.ok sc_due (fun vs H Q E h => ?_) (fun cdv A outer s H vs Q E hr h => ?_)
  · obtain ⟨p, v, bs, rfl, _⟩ := h
    rfl
  · obtain ⟨p, v, bs, rfl, hp, B, q⟩ := h
    have sc := sc_due
    refine ⟨_, PSs.nox (pss_cons (ps_set (i := 2) sc.nd rfl (Or.inl rfl) (pv 0))
      (pss_cons (ps_set (i := 3) sc.nd rfl (Or.inl rfl) (pe_lst pa_nil))
      (pss_cons (ps_for PassesOwn.never rfl (pi_list (pe_revL (pv 1))) (pg_name (i := 4) sc.nd rfl (Or.inl rfl))
        (pss_cons (ps_set (i := 3) sc.nd rfl (Or.inl rfl) (pe_op op_cat (pe_lst (pa_cons (pe_op op_mod (pe_callTy call_int1 (by rfl) g_int boot_int (pa_cons (pv 2) pa_nil)) (pv 4)) pa_nil)) (pv 3)))
        (pss_one (ps_set (i := 2) sc.nd rfl (Or.inl rfl) (pe_op op_fdiv (pv 2) (pv 4))))))
      (pss_one (ps_ret (pe_ifExp (pt_cmpR op_eq (pv 2) pe_int (nomark _)) (pe_tup (pa_cons (pe_tupA (by rfl) g_tuple (pv 3)) (pa_cons (pe_tupA (by rfl) g_tuple (pv 1)) pa_nil))) (pe_tup (pa_cons pe_str (pa_cons (pv 0) pa_nil))))))))), ?_⟩
    have l4 : bs.length ≤ 4 := B.2.1
    refine ⟨_, rfl, by show 0 ≤ sizeLine; decide, fun n0 hn0 => ?_⟩
    have s1 : Same H (upd H n0 (.lst [])) := upd_new hn0
    have e1 : (upd H n0 (.lst [])) n0 = some (.lst []) := upd_same
    generalize upd H n0 (.lst []) = H1 at s1 e1 ⊢
    refine ⟨_, rfl, p, _, rfl, SqL.of (s1 _ _ hp), fun r hnr => ?_⟩
    have s2 : Same H1 (upd H1 r (.lst (bs.map V.int).reverse)) := upd_new hnr
    have er : (upd H1 r (.lst (bs.map V.int).reverse)) r = some (.lst (bs.map V.int).reverse) := upd_same
    have e1 := s2 _ _ e1
    generalize upd H1 r (.lst (bs.map V.int).reverse) = H2 at s2 er e1 ⊢
    have s12 := s1.trans s2
    refine ⟨r, rfl, ⟨_, SqL.of er⟩, for_list (K := K) (a := r) (xs := (bs.map V.int).reverse) (fun i σ H' => ∃ (u : Option V) (n : Addr), σ = [some (.int v), some (.ref p), some (.int (v / prodL (bs.drop (bs.length - i)))), some (.ref n), u] ∧ Same H2 H' ∧ H' n = some (.lst ((dgsV (bs.drop (bs.length - i)) v).map V.int)))
      ?_ (fun i σ H' _ ⟨_, _, _, s, _⟩ => SqL.of (s _ _ er)) ?_ ?_⟩
    · refine ⟨none, n0, ?_, Same.refl H2, ?_⟩
      · rw [Nat.sub_zero, List.drop_length]
        show _ = [some (V.int v), some (V.ref p), some (V.int (v / 1)), some (V.ref n0), none]
        rw [Int.ediv_one]
        rfl
      · rw [Nat.sub_zero, List.drop_length]
        exact e1
    · rintro i y σ H3 hi ⟨u, n, rfl, s3, e3⟩
      rw [← List.map_reverse, List.getElem?_map] at hi
      cases ez : bs.reverse[i]? with
      | none => rw [ez] at hi; cases hi
      | some z =>
        rw [ez] at hi
        cases hi
        have hz : 2 ≤ z ∧ z ≤ 100 := B.2.2 z (List.mem_reverse.mp (List.mem_of_getElem? ez))
        have hil : i < bs.length := by
          have := (List.getElem?_eq_some_iff.mp ez).1
          rwa [List.length_reverse] at this
        have ed := rev_drop ez
        have hP : 0 < prodL (bs.drop (bs.length - i)) := prodL_pos fun y hy => B.2.2 y (List.mem_of_mem_drop hy)
        have hlen : (dgsV (bs.drop (bs.length - i)) v).length ≤ 4 := by rw [dgsV_len, List.length_drop]; omega
        rw [ed]
        generalize bs.drop (bs.length - i) = S at e3 hP hlen ⊢
        refine ⟨_, rfl, .inl ⟨_, rfl, _, rfl, _, _, rfl, rfl, by omega, by show 1 ≤ sizeLine; decide, fun a ha => ?_⟩⟩
        have s4 : Same H3 (upd H3 a (.lst [.int (v / prodL S % z)])) := upd_new ha
        have e4 : (upd H3 a (.lst [.int (v / prodL S % z)])) a = some (.lst [.int (v / prodL S % z)]) := upd_same
        have e3 := s4 _ _ e3
        generalize upd H3 a (.lst [.int (v / prodL S % z)]) = H4 at s4 e4 e3 ⊢
        refine ⟨_, rfl, a, n, _, _, rfl, rfl, e4, e3, by rw [List.length_map, sizeLine_eq]; show 1 + _ ≤ _; omega, fun c hc => ?_⟩
        refine ⟨_, rfl, _, rfl, _, _, rfl, rfl, ⟨by omega, by omega⟩, ?_⟩
        refine ⟨some (.int z), c, ?_, (s3.trans s4).trans (upd_new hc), upd_same⟩
        rw [← dgs_step hP]
        rfl
    · rintro σ H3 ⟨u, n, rfl, s3, e3⟩
      rw [List.length_reverse, List.length_map, Nat.sub_self, List.drop_zero] at e3 ⊢
      refine ⟨_, rfl, rfl, _, rfl, ?_⟩
      have s13 := s12.trans s3
      by_cases c : v / prodL bs = 0
      · rw [decide_eq_true (congrArg V.int c)]
        refine iteT ?_
        refine ⟨_, rfl, false, n, _, rfl, .inl e3, fun t1 H4 s4 r1 => ?_⟩
        refine ⟨_, rfl, false, p, _, rfl, .inl ((s13.trans s4) _ _ hp), fun t2 H5 s5 r2 => ?_⟩
        refine ⟨by show 2 ≤ sizeLine; decide, fun t ht => ?_⟩
        have st := upd_new (o := .tup [.ref t1, .ref t2]) ht
        exact q t _ (((s13.trans s4).trans s5).trans st) (.inl ⟨t1, t2, _, _, dueD_yes c, upd_same, Same.rd (s5.trans st) r1, Same.rd st r2⟩)
      · rw [decide_eq_false (fun e => c (by injection e))]
        refine iteF ?_
        refine ⟨_, rfl, by show 2 ≤ sizeLine; decide, fun t ht => ?_⟩
        exact q t _ (s13.trans (upd_new ht)) (.inr (.inl ⟨v, dueD_no c, upd_same⟩))
theorem ok_num {f : Addr} {fd : FuncData} (F : FunD K "_law_number" "_law_number" (defArgs sLNumber) (defBody sLNumber) (defScope sLNumber) [] [] f fd) (CT : Cd P w K mg base CX0 1 "_law_take" ["_law_pen_here", "_law_limit"] spTakeL)
    (CP : Cd P w K mg base CX0 2 "_law_pick" ["_law_pen_here", "_law_some"] (spPickL K)) : FnOk P w K mg base CX0 3 f fd ["_law_pen_here", "_law_value", "_law_room"] spNum := by
  refine F.ok sc_num (fun vs H Q E h => ?_) (fun cdv A outer s H vs Q E hr h => ?_)
  · obtain ⟨d, l, cells, a, r, v, m, rfl, _⟩ := h
    rfl
  · obtain ⟨d, l, cells, a, r, v, m, rfl, PA, ha, v0, v1, m1, q⟩ := h
    have sc := sc_num
    have r1 := hr.mono (show 1 ≤ 2 by decide)
    refine ⟨_, PSs.nox (pss_cons (ps_set (i := 3) sc.nd rfl (Or.inl rfl) (pe_lst (pa_cons pe_int (pa_cons pe_int (pa_cons (pe_un un_neg pe_int) (pa_cons (pe_op op_sub (pe_op op_sub (pv 2) pe_int) (pv 1)) (pa_cons (pe_op op_sub (pv 2) (pv 1)) (pa_cons (pv 1) (pa_cons (pe_un un_neg (pv 1)) (pa_cons (pe_op op_sub (pe_un un_neg pe_int) (pv 1))
        (pa_cons (pe_op op_pow pe_int pe_int) (pa_cons (pe_un un_neg (pe_op op_pow pe_int pe_int)) pa_nil))))))))))))
      (pss_one (ps_ret (pe_cd CP hr (by rfl) pass0 (pa_cons (pv 0) (pa_cons (pe_op op_cat (pv 3) (pe_lst (pa_cons (pe_cd CT r1 (by rfl) pass0 (pa_cons (pv 0) (pa_cons (pv 2) pa_nil))) (pa_cons (pe_op op_add pe_int (pe_cd CT r1 (by rfl) pass0 (pa_cons (pv 0) (pa_cons pe_int pa_nil)))) pa_nil)))) pa_nil)))))), ?_⟩
    refine ⟨_, rfl, _, rfl, _, _, rfl, rfl, _, rfl, _, _, rfl, rfl, _, rfl, _, rfl, _, _, rfl, rfl, _, rfl, _, rfl, _, rfl, _, rfl, _, rfl, _, _, rfl, rfl, ?_⟩
    refine ⟨_, _, rfl, rfl, ⟨by decide, by decide, by decide⟩, _, _, rfl, rfl, ⟨by decide, by decide, by decide⟩, _, rfl, by show 10 ≤ sizeLine; decide, fun p hp => ?_⟩
    have s1 : Same H (upd H p (.lst [.int 0, .int 1, .int (-1), .int (m - 1 - v), .int (m - v), .int v, .int (-v), .int (-1 - v), .int (10 ^ Int.toNat 40), .int (-(10 ^ Int.toNat 40))])) := upd_new hp
    have e1 : (upd H p (.lst [.int 0, .int 1, .int (-1), .int (m - 1 - v), .int (m - v), .int v, .int (-v), .int (-1 - v), .int (10 ^ Int.toNat 40), .int (-(10 ^ Int.toNat 40))])) p = some (.lst [.int 0, .int 1, .int (-1), .int (m - 1 - v), .int (m - v), .int v, .int (-v), .int (-1 - v), .int (10 ^ Int.toNat 40), .int (-(10 ^ Int.toNat 40))]) := upd_same
    have npd : p ≠ d := (ne_of_none PA.dk hp).symm
    generalize upd H p (.lst [.int 0, .int 1, .int (-1), .int (m - 1 - v), .int (m - v), .int v, .int (-v), .int (-1 - v), .int (10 ^ Int.toNat 40), .int (-(10 ^ Int.toNat 40))]) = H1 at s1 e1 ⊢
    refine ⟨_, rfl, _, rfl, _, rfl, _, rfl, d, l, cells, a, r, m, rfl, PA.same s1, by omega, by omega, by omega, fun x a2 r2 H2 x0 x1 l2 t2 P2 => ?_⟩
    refine ⟨_, rfl, d, l, cells, a2, r2, 9, rfl, P2, by omega, by decide, by decide, fun y a3 r3 H3 y0 y1 l3 t3 P3 => ⟨_, _, rfl, rfl, by show 2 ≤ sizeLine; decide, fun p2 hp2 => ?_⟩⟩
    have e3 := upd_new (o := .lst [.int x, .int (2 + y)]) hp2 _ _ (t3 _ _ (t2 _ _ e1 npd) npd)
    have t13 := (t2.trans t3).same (upd_new (o := .lst [.int x, .int (2 + y)]) hp2)
    have P4 := P3.same (upd_new (o := .lst [.int x, .int (2 + y)]) hp2)
    have e4 : (upd H3 p2 (.lst [.int x, .int (2 + y)])) p2 = some (.lst [.int x, .int (2 + y)]) := upd_same
    generalize upd H3 p2 (.lst [.int x, .int (2 + y)]) = H4 at e3 t13 P4 e4 ⊢
    refine ⟨p, p2, _, _, rfl, rfl, e3, e4, by show 12 ≤ sizeLine; decide, fun p3 hp3 => ?_⟩
    refine ⟨d, l, p3, cells, a3, r3, _, rfl, P4.same (upd_new hp3), by omega, (ne_of_none P4.dk hp3).symm, SqL.of upd_same, by show 0 < 12; decide, by show 12 ≤ 1000; decide, fun j u a5 r5 H5 hj l5 t5 P5 => ?_⟩
    have tt := ((Bt.of s1).trans t13).trans ((Bt.of (upd_new hp3)).trans t5)
    have big : (2 : Nat) ^ 140 = 1393796574908163946345982392040522594123776 := by decide
    have fin : ∀ k : Int, u = .int k → k.natAbs < 2 ^ 140 → Q u H5 := fun k e hk => by
      subst e
      exact q k a5 r5 H5 hk (by omega) tt P5
    match j, hj with
    | 0, hj => exact fin 0 (Option.some.inj hj).symm (by decide)
    | 1, hj => exact fin 1 (Option.some.inj hj).symm (by decide)
    | 2, hj => exact fin (-1) (Option.some.inj hj).symm (by decide)
    | 3, hj => exact fin (m - 1 - v) (Option.some.inj hj).symm (by omega)
    | 4, hj => exact fin (m - v) (Option.some.inj hj).symm (by omega)
    | 5, hj => exact fin v (Option.some.inj hj).symm (by omega)
    | 6, hj => exact fin (-v) (Option.some.inj hj).symm (by omega)
    | 7, hj => exact fin (-1 - v) (Option.some.inj hj).symm (by omega)
    | 8, hj => exact fin (10 ^ Int.toNat 40) (Option.some.inj hj).symm (by decide)
    | 9, hj => exact fin (-(10 ^ Int.toNat 40)) (Option.some.inj hj).symm (by decide)
    | 10, hj => exact fin x (Option.some.inj hj).symm (by omega)
    | 11, hj => exact fin (2 + y) (Option.some.inj hj).symm (by omega)
    | j + 12, hj => cases hj
end
end K04

set_option Elab.async false
set_option linter.all false
set_option maxRecDepth 100000
set_option maxHeartbeats 4000000
namespace K04
open PySem PySem.Spec PyProof.Rows L2 Ru
theorem Md.intB {z : Int} (h : z.natAbs < 2 ^ 500) : Md 1 600 (.int z) := by
  have hl : z.natAbs.log2 < 500 := by
    by_cases e : z.natAbs = 0
    · rw [e]
      decide
    · exact (Nat.log2_lt e).mpr h
  refine ⟨by rw [PyData.showable]; exact decide_eq_true (by omega), by rw [PyData.depth]; omega, ?_⟩
  rw [PyData.shown]
  show (Str.ofString (toString z)).length ≤ 600
  rw [PySem.ofString_length]
  exact Nat.le_trans (int_text_length_le (k := 500) (by decide) hl) (by decide)
theorem prD_md {ds bs : List Int} (d : Dgs ds bs) (B : Bss bs) : Md 3 3000 (prD ds bs) := by
  have small : ∀ {zs : List Int}, (∀ z ∈ zs, 0 ≤ z ∧ z ≤ 100 ^ 4) → ∀ x ∈ intsD zs, Md 1 141 x := fun h x hx => by
    obtain ⟨z, hz, e⟩ := List.mem_map.mp hx
    rw [← e]
    exact Md.int (log2_small (h z hz).1 (h z hz).2)
  have q : (100 : Int) ^ 4 = 100000000 := by decide
  have hb : ∀ z ∈ bs, 0 ≤ z ∧ z ≤ 100 ^ 4 := fun z hz => by
    have := B.2.2 z hz
    omega
  have hd : ∀ z ∈ ds, 0 ≤ z ∧ z ≤ 100 ^ 4 := fun z hz => by
    obtain ⟨i, hi, e⟩ := List.getElem_of_mem hz
    have hl := d.len
    have hi2 : i < bs.length := by omega
    have := d.at (i := i) (by rw [List.getElem?_eq_getElem hi, e]) (List.getElem?_eq_getElem hi2)
    have := B.2.2 _ (List.getElem_mem hi2)
    omega
  have l1 : (intsD ds).length = ds.length := List.length_map _
  have l2 : (intsD bs).length = bs.length := List.length_map _
  have hl := d.len
  have h4 := B.2.1
  refine (Md.tuple (D := 2) (L := 600) (fun x hx => ?_)).mono (Nat.le_refl _) (by show 3 + 2 * (600 + 2) ≤ 3000; decide)
  rcases List.mem_cons.mp hx with e | hx
  · rw [e]
    exact (Md.tuple (small hd)).mono (Nat.le_refl _) (by omega)
  · rw [List.mem_singleton.mp hx]
    exact (Md.tuple (small hb)).mono (Nat.le_refl _) (by omega)
theorem ovD_md {v : Int} (h : v.natAbs < 2 ^ 500) : Md 3 3000 (ovD v) := by
  refine (Md.tuple (D := 1) (L := 600) (fun x hx => ?_)).mono (by decide) (by show 3 + 2 * (600 + 2) ≤ 3000; decide)
  rcases List.mem_cons.mp hx with e | hx
  · rw [e]
    exact ⟨rfl, by decide, by decide +kernel⟩
  · rw [List.mem_singleton.mp hx]
    exact Md.intB h
theorem wd_md {y : Str} (h : (PyData.str y).shown.length ≤ 600) : Md 3 3000 (wdD y) := by
  refine (Md.tuple (D := 1) (L := 600) (fun x hx => ?_)).mono (by decide) (by show 3 + 2 * (600 + 2) ≤ 3000; decide)
  rcases List.mem_cons.mp hx with e | hx
  · rw [e]
    exact ⟨rfl, by rw [PyData.depth]; decide, h⟩
  · rw [List.mem_singleton.mp hx]
    exact ⟨rfl, by rw [PyData.depth]; decide, by rw [PyData.shown]; decide +kernel⟩
theorem dueD_md {bs : List Int} {v : Int} (B : Bss bs) (h : v.natAbs < 2 ^ 500) : Md 3 3000 (dueD bs v) := by
  by_cases c : v / prodL bs = 0
  · rw [dueD_yes c]
    exact prD_md (dgsV_dgs B.2.2) B
  · rw [dueD_no c]
    exact ovD_md h
theorem ToldAt.dq {K : PySem.W.Frag} {H : Hp} {t m C dx : Addr} {fs : List (Str × V)} {x : PyData} (hm : H m = some (.ins C dx fs)) (h : ToldAt H t x) : Dq K m H (.ref t) x := by
  have ne : ∀ {a : Addr} {xs : List V}, H a = some (.tup xs) → a ≠ m := fun e n => by
    rw [n, hm] at e
    cases e
  have ne2 : ∀ {a : Addr} {xs : List V}, Rd H a (.tup xs) → a ≠ m := fun e n => by
    rcases e with e | ⟨o, e⟩ <;> rw [n, hm] at e <;> cases e
  rcases h with ⟨da, ba, ds, bs, e, h1, h2, h3⟩ | ⟨v, e, h1⟩ | ⟨y, e, h1⟩
  · rw [e]
    exact .tup (.inl h1) (ne h1) (.cons (.tup h2 (ne2 h2) dq_ints) (.cons (.tup h3 (ne2 h3) dq_ints) .nil))
  · rw [e]
    exact .tup (.inl h1) (ne h1) (.cons (.str _) (.cons (.int _) .nil))
  · rw [e]
    exact .tup (.inl h1) (ne h1) (.cons (.str _) (.cons .non .nil))
theorem ToldAt.ki {H H' : Hp} {q t : Addr} {xs : List V} {x : PyData} (s : Ki q H H') (hq : H q = some (.lst xs)) (h : ToldAt H t x) : ToldAt H' t x := by
  have ne : ∀ {a : Addr} {ys : List V}, H a = some (.tup ys) → H' a = some (.tup ys) := fun {a ys} e => s _ _ e (fun n => by rw [n, hq] at e; cases e) (fun _ z => by cases z)
  have ne2 : ∀ {a : Addr} {ys : List V}, Rd H a (.tup ys) → Rd H' a (.tup ys) := fun {a ys} e => by
    rcases e with e | ⟨o, e⟩
    · exact .inl (ne e)
    · exact .inr ⟨o, s _ _ e (fun n => by rw [n, hq] at e; cases e) (fun _ z => by cases z)⟩
  rcases h with ⟨da, ba, ds, bs, e, h1, h2, h3⟩ | ⟨v, e, h1⟩ | ⟨y, e, h1⟩
  · exact .inl ⟨da, ba, ds, bs, e, ne h1, ne2 h2, ne2 h3⟩
  · exact .inr (.inl ⟨v, e, ne h1⟩)
  · exact .inr (.inr ⟨y, e, ne h1⟩)
/-! ### rows of what is told -/
def TL (H : Hp) : List V → List PyData → Prop
  | [], [] => True
  | t :: ts, x :: xs => (∃ a, t = .ref a ∧ ToldAt H a x) ∧ TL H ts xs
  | _, _ => False
theorem TL.same {H H' : Hp} (s : Same H H') : ∀ {ts : List V} {xs : List PyData}, TL H ts xs → TL H' ts xs
  | [], [], _ => trivial
  | _ :: _, _ :: _, ⟨⟨a, e, t⟩, r⟩ => ⟨⟨a, e, t.same s⟩, TL.same s r⟩
  | [], _ :: _, h => h.elim
  | _ :: _, [], h => h.elim
theorem TL.ext {H H' : Hp} (s : LamX.ExtN H H') : ∀ {ts : List V} {xs : List PyData}, TL H ts xs → TL H' ts xs
  | [], [], _ => trivial
  | _ :: _, _ :: _, ⟨⟨a, e, t⟩, r⟩ => ⟨⟨a, e, t.ext s⟩, TL.ext s r⟩
  | [], _ :: _, h => h.elim
  | _ :: _, [], h => h.elim
theorem TL.ki {H H' : Hp} {q : Addr} {ys : List V} (s : Ki q H H') (hq : H q = some (.lst ys)) : ∀ {ts : List V} {xs : List PyData}, TL H ts xs → TL H' ts xs
  | [], [], _ => trivial
  | _ :: _, _ :: _, ⟨⟨a, e, t⟩, r⟩ => ⟨⟨a, e, t.ki s hq⟩, TL.ki s hq r⟩
  | [], _ :: _, h => h.elim
  | _ :: _, [], h => h.elim
theorem TL.app {H : Hp} {a : Addr} {x : PyData} (h : ToldAt H a x) : ∀ {ts : List V} {xs : List PyData}, TL H ts xs → TL H (ts ++ [.ref a]) (xs ++ [x])
  | [], [], _ => ⟨⟨a, rfl, h⟩, trivial⟩
  | _ :: _, _ :: _, ⟨t, r⟩ => ⟨t, TL.app h r⟩
  | [], _ :: _, h => h.elim
  | _ :: _, [], h => h.elim
theorem TL.len {H : Hp} : ∀ {ts : List V} {xs : List PyData}, TL H ts xs → ts.length = xs.length
  | [], [], _ => rfl
  | _ :: _, _ :: _, ⟨_, r⟩ => congrArg Nat.succ r.len
  | [], _ :: _, h => h.elim
  | _ :: _, [], h => h.elim
theorem TL.dqa {K : PySem.W.Frag} {H : Hp} {m C dx : Addr} {fs : List (Str × V)} (hm : H m = some (.ins C dx fs)) : ∀ {ts : List V} {xs : List PyData}, TL H ts xs → DqA K m H ts xs
  | [], [], _ => .nil
  | _ :: _, _ :: _, ⟨⟨a, e, t⟩, r⟩ => by
    rw [e]
    exact .cons (t.dq hm) (r.dqa hm)
  | [], _ :: _, h => h.elim
  | _ :: _, [], h => h.elim
theorem TL.dq {K : PySem.W.Frag} {H : Hp} {q m C dx : Addr} {fs : List (Str × V)} {ts : List V} {xs : List PyData} (hm : H m = some (.ins C dx fs)) (hq : H q = some (.lst ts)) (h : TL H ts xs) : Dq K m H (.ref q) (.list xs) :=
  .lst (SqL.of hq) (fun e => by rw [e, hm] at hq; cases hq) (h.dqa hm)
theorem rows_sh {xs : List PyData} (h : ∀ x ∈ xs, Md 3 3000 x) (hl : xs.length ≤ 20) : Sh (.list xs) :=
  (Md.list h).sh (by decide) (by omega)
/-- what comes of an asked sum: a numeral, or one of the errors -/
def OutX (C O D U : Addr) (x : PyData) (H : Hp) (Q : VK) (E : XK) : Prop :=
  (∀ ds bs, x = prD ds bs → ∀ r H', Same H H' → NumAt C H' r ds bs → Q (.ref r) H') ∧ (∀ v, x = ovD v → ∀ dd H', Same H H' → H' dd = some (.xd [("value", .int v)]) → E (.ref O) (some dd) H') ∧ (x = wdD "divisor" → E (.ref D) none H) ∧ (x = wdD "unlike" → E (.ref U) none H)
theorem OutX.out {C O D U : Addr} {bs : List Int} {v : Int} {H : Hp} {Q : VK} {E : XK} (h : OutX C O D U (dueD bs v) H Q E) : Out C O bs v H Q E := ⟨fun e r H' s nm => h.1 _ _ (dueD_yes e) r H' s nm, fun e => h.2.1 v (dueD_no e)⟩
theorem told_out {C O D U : Addr} {T : List (Addr × Str)} {σ : L2.St} {G : Hp} {Qr : VK} {t : XK → TE} {x : PyData} (hT : LamX.Tabs T G) (run : ∀ H3, LamX.ExtN G H3 → ∀ (Qn : VK) (E : XK), OutX C O D U x H3 Qn E → t E σ H3 Qn)
    (q : ∀ t H4, LamX.ExtN G H4 → LamX.Tabs T H4 → ToldAt H4 t x → Qr (.ref t) H4) : LamX.tLam T (TTd C O D U) t σ G Qr := by
  refine ⟨hT, fun H2 x2 T2 H3 s3 Qn hQ => ?_⟩
  have x3 := x2.trans (LamX.ExtN.of s3)
  have T3 := T2.ext s3
  refine run H3 x3 Qn _ ⟨fun ds bs e r H4 s4 nm => hQ _ _ ⟨r, ds, bs, rfl, nm, fun t H5 s5 td => ?_⟩, fun v e dd H4 s4 ed => .inl ⟨rfl, dd, v, rfl, ed, fun t H5 s5 td => ?_⟩, fun e => .inr (.inl ⟨rfl, rfl, fun t H5 s5 td => ?_⟩), fun e => .inr (.inr ⟨rfl, rfl, fun t H5 s5 td => ?_⟩)⟩
  · exact q t H5 (x3.trans (LamX.ExtN.of (s4.trans s5))) (T3.ext (s4.trans s5)) (by rw [e]; exact td)
  · exact q t H5 (x3.trans (LamX.ExtN.of (s4.trans s5))) (T3.ext (s4.trans s5)) (by rw [e]; exact td)
  · exact q t H5 (x3.trans (LamX.ExtN.of s5)) (T3.ext s5) (by rw [e]; exact td)
  · exact q t H5 (x3.trans (LamX.ExtN.of s5)) (T3.ext s5) (by rw [e]; exact td)
/-- zq is new, all else but the tables stays -/
def FX (zq : Addr) (H H' : Hp) : Prop := ∀ b o, H b = some o → (∀ ps, o ≠ .tbl ps) → b ≠ zq ∧ H' b = some o
theorem FX.ki {zq : Addr} {H H1 H2 : Hp} (x : FX zq H H1) (y : Ki zq H1 H2) : FX zq H H2 := fun b o e t => by
  obtain ⟨n, e1⟩ := x b o e t
  exact ⟨n, y b o e1 n t⟩
theorem FX.ext {zq : Addr} {H H1 : Hp} (x : FX zq H H1) : LamX.ExtN H H1 := fun b o e t => (x b o e t).2
theorem FX.same {zq : Addr} {H H1 H2 : Hp} (x : FX zq H H1) (s : Same H1 H2) : FX zq H H2 := x.ki (Ki.same s)
/-- list(e) -/
abbrev rLst (K : PySem.W.Frag) : List V → Hp → VK → Prop := fun xs H Q => ∃ p ys, xs = [.ref p] ∧ (SqL K H p ys ∨ SqT K H p ys) ∧ ∀ l, H l = none → Q (.ref l) (upd H l (.lst ys))
/-- [told(lambda)] -/
theorem rd_new {C O D U : Addr} {T : List (Addr × Str)} {σ : L2.St} {H : Hp} {t : XK → TE} {x : PyData} {Q : VK} (hT : LamX.Tabs T H) (run : ∀ H3, LamX.ExtN H H3 → ∀ (Qn : VK) (E : XK), OutX C O D U x H3 Qn E → t E σ H3 Qn)
    (k : ∀ zq u H', FX zq H H' → LamX.Tabs T H' → H' zq = some (.lst [.ref u]) → TL H' [.ref u] [x] → Q (.ref zq) H') : tLst (tCons (LamX.tLam T (TTd C O D U) t) tNil) σ H Q := by
  refine told_out hT run fun u H4 x4 T4 td => ⟨by show 1 ≤ sizeLine; decide, fun zq hz => ?_⟩
  have s : Same H4 (upd H4 zq (.lst [.ref u])) := upd_new hz
  exact k zq u _ (fun b o e n => ⟨ne_of_none (x4 b o e n) hz, s _ _ (x4 b o e n)⟩) (T4.ext s) upd_same ⟨⟨u, rfl, td.same s⟩, trivial⟩
/-- row.append(told(lambda)) -/
theorem rd_app {K : PySem.W.Frag} {C O D U zq : Addr} {T : List (Addr × Str)} {i : Nat} {σ : L2.St} {H : Hp} {t : XK → TE} {x : PyData} {ts : List V} {xs : List PyData} {Q : VK} (hi : σ[i]? = some (some (.ref zq))) (hT : LamX.Tabs T H) (hz : H zq = some (.lst ts)) (tl : TL H ts xs) (hl : ts.length ≤ 100)
    (run : ∀ H3, LamX.ExtN H H3 → ∀ (Qn : VK) (E : XK), OutX C O D U x H3 Qn E → t E σ H3 Qn) (k : ∀ u H', Ki zq H H' → LamX.Tabs T H' → H' zq = some (.lst (ts ++ [.ref u])) → TL H' (ts ++ [.ref u]) (xs ++ [x]) → Q .non H') :
    tBM K "list" rAppend (tVar i) (tCons (LamX.tLam T (TTd C O D U) t) tNil) σ H Q := by
  refine ⟨_, hi, .inl ⟨rfl, _, .inl (.inl hz)⟩, ?_⟩
  refine told_out hT run fun u H4 x4 T4 td => ?_
  have hz4 := x4 _ _ hz (fun _ z => by cases z)
  refine ⟨zq, _, _, rfl, rfl, hz4, by rw [sizeLine_eq]; omega, ?_⟩
  have kp : Ki zq H4 (upd H4 zq (.lst (ts ++ [.ref u]))) := Ki.of .put
  exact k u _ ((Ki.ext x4).trans kp) (tabs_bt hz4 .put T4) upd_same (TL.app (td.ki kp hz4) ((tl.ext x4).ki kp hz4))
/-- .. as statements -/
theorem sd_new {C O D U : Addr} {T : List (Addr × Str)} {i : Nat} {σ : L2.St} {H : Hp} {t : XK → TE} {x : PyData} {Z : Ends} (hT : LamX.Tabs T H) (run : ∀ H3, LamX.ExtN H H3 → ∀ (Qn : VK) (E : XK), OutX C O D U x H3 Qn E → t E σ H3 Qn)
    (k : ∀ zq u H', FX zq H H' → LamX.Tabs T H' → H' zq = some (.lst [.ref u]) → TL H' [.ref u] [x] → Z.nx (σ.set i (some (.ref zq))) H') : tAsg (tLst (tCons (LamX.tLam T (TTd C O D U) t) tNil)) (gName i) Z σ H := rd_new hT run k
theorem sd_app {K : PySem.W.Frag} {C O D U zq : Addr} {T : List (Addr × Str)} {i : Nat} {σ : L2.St} {H : Hp} {t : XK → TE} {x : PyData} {ts : List V} {xs : List PyData} {Z : Ends} (hi : σ[i]? = some (some (.ref zq))) (hT : LamX.Tabs T H) (hz : H zq = some (.lst ts)) (tl : TL H ts xs) (hl : ts.length ≤ 100)
    (run : ∀ H3, LamX.ExtN H H3 → ∀ (Qn : VK) (E : XK), OutX C O D U x H3 Qn E → t E σ H3 Qn) (k : ∀ u H', Ki zq H H' → LamX.Tabs T H' → H' zq = some (.lst (ts ++ [.ref u])) → TL H' (ts ++ [.ref u]) (xs ++ [x]) → Z.nx σ H') :
    tDrop (tBM K "list" rAppend (tVar i) (tCons (LamX.tLam T (TTd C O D U) t) tNil)) Z σ H := rd_app hi hT hz tl hl run k
theorem end_eq {x : Str} {H : Hp} {Q : VK} (q : Q (.bl true) H) : Q (.bl (decide (V.str x = V.str x))) H := by
  rw [decide_eq_true rfl]
  exact q
end K04

set_option Elab.async false
set_option linter.all false
set_option maxRecDepth 100000
set_option maxHeartbeats 4000000
namespace K04
open PySem PySem.Spec PyProof.Rows L2 Ru
/-- what the text says of the class, for its signs -/
structure OpC (K : PySem.W.Frag) (C : Addr) : Prop where
  c : PySem.W.selfFirst K C = true
  u : PySem.W.subIn K (.type "int") (.ref C) = some false
  t : PySem.W.subIn K (.ref C) (.type "int") = some false
theorem run_im {C O D U a : Addr} {f : Int → Int → Int} {k : Int} {i j : Nat} {ds bs : List Int} {σ : L2.St} {G : Hp} (nA : NumAt C G a ds bs) (B : Bss bs) (d : Dgs ds bs) (hk : k.natAbs < 2 ^ 200) (h0 : σ[i]? = some (some (.ref a))) (h1 : σ[j]? = some (some (.int k))) :
    ∀ H3, LamX.ExtN G H3 → ∀ (Qn : VK) (E : XK), OutX C O D U (dueD bs (f (valD ds bs) k)) H3 Qn E → tOp (rBinI C (spAI f C O) E) (tVar i) (tVar j) σ H3 Qn := fun H3 x3 Qn E ho => by
  have n3 := num_ext x3 nA
  obtain ⟨dx, da, ba, a1, _⟩ := id n3
  exact ⟨_, h0, _, h1, a, dx, _, k, rfl, rfl, a1, a, k, ds, bs, rfl, n3, B, d, hk, ho.out⟩
theorem run_tm {C O D U a : Addr} {f : Int → Int → Int} {k : Int} {i j : Nat} {ds bs : List Int} {σ : L2.St} {G : Hp} (nA : NumAt C G a ds bs) (B : Bss bs) (d : Dgs ds bs) (hk : k.natAbs < 2 ^ 200) (h0 : σ[i]? = some (some (.ref a))) (h1 : σ[j]? = some (some (.int k))) :
    ∀ H3, LamX.ExtN G H3 → ∀ (Qn : VK) (E : XK), OutX C O D U (dueD bs (f (valD ds bs) k)) H3 Qn E → tOp (rTurn C (spAI f C O) E) (tVar j) (tVar i) σ H3 Qn := fun H3 x3 Qn E ho => by
  have n3 := num_ext x3 nA
  obtain ⟨dx, da, ba, a1, _⟩ := id n3
  exact ⟨_, h1, _, h0, a, dx, _, k, rfl, rfl, a1, a, k, ds, bs, rfl, n3, B, d, hk, ho.out⟩
theorem run_bs {C O D U a b : Addr} {f : Int → Int → Int} {i j : Nat} {ds es bs : List Int} {σ : L2.St} {G : Hp} (nA : NumAt C G a ds bs) (nB : NumAt C G b es bs) (B : Bss bs) (d1 : Dgs ds bs) (d2 : Dgs es bs) (h0 : σ[i]? = some (some (.ref a))) (h1 : σ[j]? = some (some (.ref b))) :
    ∀ H3, LamX.ExtN G H3 → ∀ (Qn : VK) (E : XK), OutX C O D U (dueD bs (f (valD ds bs) (valD es bs))) H3 Qn E → tOp (rOwnI C (spAN f C O U) E) (tVar i) (tVar j) σ H3 Qn := fun H3 x3 Qn E ho => by
  have n3 := num_ext x3 nA
  have m3 := num_ext x3 nB
  obtain ⟨dx, da, ba, a1, _⟩ := id n3
  obtain ⟨ex, ea, ca, c1, _⟩ := id m3
  exact ⟨_, h0, _, h1, a, b, dx, ex, _, _, rfl, rfl, a1, c1, a, b, ds, bs, es, bs, rfl, n3, m3, B, B, fun _ => ho.out, fun e => (e rfl).elim⟩
abbrev nSums : List Str := ["_law_one", "_law_other", "_law_k", "_law_v", "_law_w", "_law_told_here", "_law_due_here", "_law_value"]
theorem sc_sums : FnScope nSums ["_law_one", "_law_other", "_law_k"] (defScope sLSumsRight) := ⟨rfl, rfl, rfl, by decide +kernel, rfl, by decide +kernel, by decide +kernel⟩
def qSums : Str := (envOfC "_law_sums_right" (defScope sLSumsRight) 0 0 .none).qual ++ "<lambda>"
def spSums (C : Addr) (T : List (Addr × Str)) : Sp := fun vs H Q _ => ∃ (a b : Addr) (k : Int) (ds es bs : List Int), vs = [.ref a, .ref b, .int k] ∧ NumAt C H a ds bs ∧ NumAt C H b es bs ∧ Bss bs ∧ Dgs ds bs ∧ Dgs es bs ∧ k.natAbs < 2 ^ 140 ∧ LamX.Tabs T H ∧
  ∀ H', LamX.ExtN H H' → LamX.Tabs T H' → Q (.bl true) H'
section
variable {P : Program} {w : World} {K : PySem.W.Frag} {mg : Str → Option Value} {base : Heap}
theorem ok_sums {C O D U f fR : Addr} {fd fdR : FuncData} {T : List (Addr × Str)} (F : FunD K "_law_sums_right" "_law_sums_right" (defArgs sLSumsRight) (defBody sLSumsRight) (defScope sLSumsRight) [] [] f fd) (FR : FunD K "_law_told" "_law_told" (defArgs sLTold) (defBody sLTold) (defScope sLTold) [] [] fR fdR)
    (mR : mg "_law_told" = some (.ref fR)) (N : NumK K mg C) (SC : OpC K C) (R : RfT K mg O D U) (M : SmK K) (hf : He.fAd K ("_law_sums_right", none) = f) (TB : LamX.TabB base mg (He.cT K ("_law_sums_right", none)).1 (He.cT K ("_law_sums_right", none)).2)
    (hmT : ((He.cT K ("_law_sums_right", none)).2, qSums) ∈ T) (un : ∀ p ∈ T, p.1 = (He.cT K ("_law_sums_right", none)).2 → p.2 = qSums) (BA : BinN K C "add") (BS_ : BinN K C "sub") (BM : BinN K C "mul") (MAI : CdM P w K mg base (L2.CX P w) 8 C "__add__" ["self", "other"] (spAI (fun i j => i + j) C O)) (MAN : CdM P w K mg base (L2.CX P w) 8 C "__add__" ["self", "other"] (spAN (fun i j => i + j) C O U))
    (MRA : CdM P w K mg base (L2.CX P w) 8 C "__radd__" ["self", "other"] (spAI (fun i j => j + i) C O)) (MSI : CdM P w K mg base (L2.CX P w) 8 C "__sub__" ["self", "other"] (spAI (fun i j => i - j) C O)) (MSN : CdM P w K mg base (L2.CX P w) 8 C "__sub__" ["self", "other"] (spAN (fun i j => i - j) C O U))
    (MRS : CdM P w K mg base (L2.CX P w) 8 C "__rsub__" ["self", "other"] (spAI (fun i j => j - i) C O)) (MM : CdM P w K mg base (L2.CX P w) 8 C "__mul__" ["self", "other"] (spAI (fun i j => i * j) C O)) (MRM : CdM P w K mg base (L2.CX P w) 8 C "__rmul__" ["self", "other"] (spAI (fun i j => j * i) C O))
    (CD : Cd P w K mg base CX0 1 "_law_due" ["_law_value", "_law_bases_here"] spDue) (g_repr : mg "repr" = none) (g_list : mg "list" = none) : FnG P w K mg base CX0 11 f fd ["_law_one", "_law_other", "_law_k"] (spSums C T) := by
  obtain ⟨ocR, odR, dVR, kVR, docR, pmR, anR, cdvR, ctR, oslR, eR, lkR, hcdR, _, _⟩ := FR.ex
  have bR : Binds K fdR ["_law_ask"] [] := FR.bindsN fun _ _ _ _ _ _ us hl => match us, hl with | [_], _ => rfl
  subst eR
  refine okGT F sc_sums (fun vs H Q E h => ?_) (fun c A outer s H vs Q E hco hG hr h => ?_)
  · obtain ⟨a, b, k, ds, es, bs, rfl, _⟩ := h
    rfl
  · obtain ⟨a, b, k, ds, es, bs, rfl, nA, nB, B, d1, d2, hk, hT, kk⟩ := h
    have sc := sc_sums
    have e1 := hco _ hf
    have TB' : LamX.TabB base mg c (He.cT K ("_law_sums_right", none)).2 := by
      have e2 : (He.cT K ("_law_sums_right", none)).1 = c := e1
      rw [← e2]
      exact TB
    have r1 := hr.mono (show 1 ≤ 10 by decide)
    refine ⟨_, PSs.nox (pss_cons (ps_set (i := 3) sc.nd rfl (Or.inl rfl) (pe_fld (pv 0) rfl))
      (pss_cons (ps_set (i := 4) sc.nd rfl (Or.inl rfl) (pe_fld (pv 1) rfl))
      (pss_cons (ps_set (i := 5) sc.nd rfl (Or.inl rfl) (pe_lst (pa_cons (LamX.pe_lamcall (k := 8) (T := T) (TT := TTd C O D U) (by rfl) mR FR.kp lkR hcdR bR sc_told rfl (Or.inl rfl) (gives_told N R hr) TB' rfl hmT un hr (LamX.lamS_by (sc := defScope sLSumsRight) (by decide +kernel)) rfl (fun _ _ _ _ _ => rfl)
            (fun A outer s H E f c' hrA => pe_op (op_im (op := .Add) MAI (by decide) SC.c BA SC.u hrA (passes_call (takes_of rfl rfl rfl rfl) (fun _ _ _ _ h => h))) (pv 0) (pv 2))) pa_nil)))
      (pss_cons (ps_expr (pe_bm PySem.F.plainAttrs_list PySem.F.slot_list_append PySem.F.type_list_append mt_append (pv 5) (pa_cons (LamX.pe_lamcall (k := 8) (T := T) (TT := TTd C O D U) (by rfl) mR FR.kp lkR hcdR bR sc_told rfl (Or.inl rfl) (gives_told N R hr) TB' rfl hmT un hr (LamX.lamS_by (sc := defScope sLSumsRight) (by decide +kernel)) rfl (fun _ _ _ _ _ => rfl)
            (fun A outer s H E f c' hrA => pe_op (op_bs (op := .Add) MAN (by decide) SC.c hrA (passes_call (takes_of rfl rfl rfl rfl) (fun _ _ _ _ h => h))) (pv 0) (pv 1))) pa_nil)))
      (pss_cons (ps_expr (pe_bm PySem.F.plainAttrs_list PySem.F.slot_list_append PySem.F.type_list_append mt_append (pv 5) (pa_cons (LamX.pe_lamcall (k := 8) (T := T) (TT := TTd C O D U) (by rfl) mR FR.kp lkR hcdR bR sc_told rfl (Or.inl rfl) (gives_told N R hr) TB' rfl hmT un hr (LamX.lamS_by (sc := defScope sLSumsRight) (by decide +kernel)) rfl (fun _ _ _ _ _ => rfl)
            (fun A outer s H E f c' hrA => pe_op (op_tm (op := .Add) MAI MRA (by decide) (by decide) SC.c dec_add SC.t hrA (passes_call (takes_of rfl rfl rfl rfl) (fun _ _ _ _ h => h))) (pv 2) (pv 0))) pa_nil)))
      (pss_cons (ps_expr (pe_bm PySem.F.plainAttrs_list PySem.F.slot_list_append PySem.F.type_list_append mt_append (pv 5) (pa_cons (LamX.pe_lamcall (k := 8) (T := T) (TT := TTd C O D U) (by rfl) mR FR.kp lkR hcdR bR sc_told rfl (Or.inl rfl) (gives_told N R hr) TB' rfl hmT un hr (LamX.lamS_by (sc := defScope sLSumsRight) (by decide +kernel)) rfl (fun _ _ _ _ _ => rfl)
            (fun A outer s H E f c' hrA => pe_op (op_im (op := .Sub) MSI (by decide) SC.c BS_ SC.u hrA (passes_call (takes_of rfl rfl rfl rfl) (fun _ _ _ _ h => h))) (pv 0) (pv 2))) pa_nil)))
      (pss_cons (ps_expr (pe_bm PySem.F.plainAttrs_list PySem.F.slot_list_append PySem.F.type_list_append mt_append (pv 5) (pa_cons (LamX.pe_lamcall (k := 8) (T := T) (TT := TTd C O D U) (by rfl) mR FR.kp lkR hcdR bR sc_told rfl (Or.inl rfl) (gives_told N R hr) TB' rfl hmT un hr (LamX.lamS_by (sc := defScope sLSumsRight) (by decide +kernel)) rfl (fun _ _ _ _ _ => rfl)
            (fun A outer s H E f c' hrA => pe_op (op_bs (op := .Sub) MSN (by decide) SC.c hrA (passes_call (takes_of rfl rfl rfl rfl) (fun _ _ _ _ h => h))) (pv 0) (pv 1))) pa_nil)))
      (pss_cons (ps_expr (pe_bm PySem.F.plainAttrs_list PySem.F.slot_list_append PySem.F.type_list_append mt_append (pv 5) (pa_cons (LamX.pe_lamcall (k := 8) (T := T) (TT := TTd C O D U) (by rfl) mR FR.kp lkR hcdR bR sc_told rfl (Or.inl rfl) (gives_told N R hr) TB' rfl hmT un hr (LamX.lamS_by (sc := defScope sLSumsRight) (by decide +kernel)) rfl (fun _ _ _ _ _ => rfl)
            (fun A outer s H E f c' hrA => pe_op (op_tm (op := .Sub) MSI MRS (by decide) (by decide) SC.c dec_sub SC.t hrA (passes_call (takes_of rfl rfl rfl rfl) (fun _ _ _ _ h => h))) (pv 2) (pv 0))) pa_nil)))
      (pss_cons (ps_expr (pe_bm PySem.F.plainAttrs_list PySem.F.slot_list_append PySem.F.type_list_append mt_append (pv 5) (pa_cons (LamX.pe_lamcall (k := 8) (T := T) (TT := TTd C O D U) (by rfl) mR FR.kp lkR hcdR bR sc_told rfl (Or.inl rfl) (gives_told N R hr) TB' rfl hmT un hr (LamX.lamS_by (sc := defScope sLSumsRight) (by decide +kernel)) rfl (fun _ _ _ _ _ => rfl)
            (fun A outer s H E f c' hrA => pe_op (op_im (op := .Mult) MM (by decide) SC.c BM SC.u hrA (passes_call (takes_of rfl rfl rfl rfl) (fun _ _ _ _ h => h))) (pv 0) (pv 2))) pa_nil)))
      (pss_cons (ps_expr (pe_bm PySem.F.plainAttrs_list PySem.F.slot_list_append PySem.F.type_list_append mt_append (pv 5) (pa_cons (LamX.pe_lamcall (k := 8) (T := T) (TT := TTd C O D U) (by rfl) mR FR.kp lkR hcdR bR sc_told rfl (Or.inl rfl) (gives_told N R hr) TB' rfl hmT un hr (LamX.lamS_by (sc := defScope sLSumsRight) (by decide +kernel)) rfl (fun _ _ _ _ _ => rfl)
            (fun A outer s H E f c' hrA => pe_op (op_tm (op := .Mult) MM MRM (by decide) (by decide) SC.c dec_mul SC.t hrA (passes_call (takes_of rfl rfl rfl rfl) (fun _ _ _ _ h => h))) (pv 2) (pv 0))) pa_nil)))
      (pss_cons (ps_set (i := 6) sc.nd rfl (Or.inl rfl) (pe_lst (pa_cons (pe_op op_add (pv 3) (pv 2)) (pa_cons (pe_op op_add (pv 3) (pv 4)) (pa_cons (pe_op op_add (pv 2) (pv 3)) (pa_cons (pe_op op_sub (pv 3) (pv 2)) (pa_cons (pe_op op_sub (pv 3) (pv 4)) (pa_cons (pe_op op_sub (pv 2) (pv 3)) (pa_cons (pe_op op_mulW (pv 3) (pv 2)) (pa_cons (pe_op op_mulW (pv 2) (pv 3)) pa_nil))))))))))
      (pss_one (ps_ret (pe_cmpR op_eq (pe_callB (call_reprQ M hG hr.units) (by rfl) g_repr boot_repr (pa_cons (pv 5) pa_nil)) (pe_callB (call_reprQ M hG hr.units) (by rfl) g_repr boot_repr (pa_cons (pe_lc (own := [("_law_value", 7)]) (g := gName 7) (tt := tYes) (te := tCall spDue [] E0 (tCons (tVar 7) (tCons (tCB (rLst K) (tCons (tFld K (tVar 0) "bases") tNil)) tNil))) rfl sc.nd (pi_list (pv 6)) (blkOk_by (N := nSums) (sc := defScope sLSumsRight) (by decide +kernel)) (fun _ _ _ _ _ => pg_name (i := 7) sc.nd rfl (Or.inl rfl)) (fun _ _ _ _ _ => pts_nil)
        (fun _ _ _ _ _ => pe_cd CD r1 (by rfl) pass0 (pa_cons (pv 7) (pa_cons (pe_callTy call_list_of (by rfl) g_list boot_list (pa_cons (pe_fld (pv 0) rfl) pa_nil)) pa_nil)))) pa_nil)) (nomark _))))))))))))))), ?_⟩
    obtain ⟨dx, da, ba, a1, a2, a3⟩ := id nA
    obtain ⟨ex, ea, ca, c1, c2, c3⟩ := id nB
    have l4 : bs.length ≤ 4 := B.2.1
    have hk2 := abs_up hk (show 140 ≤ 200 by decide)
    have vv := val_abs d1 B
    have ww := val_abs d2 B
    refine ⟨_, rfl, a, C, dx, _, _, rfl, a1, N.cl, N.nV, rfl, ?_⟩
    refine ⟨_, rfl, b, C, ex, _, _, rfl, c1, N.cl, N.nV, rfl, ?_⟩
    refine sd_new (x := dueD bs (valD ds bs + k)) hT ?_ fun zq u0 H0 X0 hT hz tl => ?_
    · exact run_im (f := fun i j => i + j) nA B d1 hk2 rfl rfl
    have nA := num_ext X0.ext nA
    have nB := num_ext X0.ext nB
    refine sd_app (x := dueD bs (valD ds bs + valD es bs)) rfl hT hz tl (Nat.le_of_ble_eq_true rfl) ?_ fun u1 H1 k1 hT hz1 tl => ?_
    · exact run_bs (f := fun i j => i + j) nA nB B d1 d2 rfl rfl
    have nA := nA.ki k1 hz
    have nB := nB.ki k1 hz
    have X0 := X0.ki k1
    have hz := hz1
    refine sd_app (x := dueD bs (k + valD ds bs)) rfl hT hz tl (Nat.le_of_ble_eq_true rfl) ?_ fun u2 H2 k2 hT hz2 tl => ?_
    · exact run_tm (f := fun i j => j + i) nA B d1 hk2 rfl rfl
    have nA := nA.ki k2 hz
    have nB := nB.ki k2 hz
    have X0 := X0.ki k2
    have hz := hz2
    refine sd_app (x := dueD bs (valD ds bs - k)) rfl hT hz tl (Nat.le_of_ble_eq_true rfl) ?_ fun u3 H3 k3 hT hz3 tl => ?_
    · exact run_im (f := fun i j => i - j) nA B d1 hk2 rfl rfl
    have nA := nA.ki k3 hz
    have nB := nB.ki k3 hz
    have X0 := X0.ki k3
    have hz := hz3
    refine sd_app (x := dueD bs (valD ds bs - valD es bs)) rfl hT hz tl (Nat.le_of_ble_eq_true rfl) ?_ fun u4 H4 k4 hT hz4 tl => ?_
    · exact run_bs (f := fun i j => i - j) nA nB B d1 d2 rfl rfl
    have nA := nA.ki k4 hz
    have nB := nB.ki k4 hz
    have X0 := X0.ki k4
    have hz := hz4
    refine sd_app (x := dueD bs (k - valD ds bs)) rfl hT hz tl (Nat.le_of_ble_eq_true rfl) ?_ fun u5 H5 k5 hT hz5 tl => ?_
    · exact run_tm (f := fun i j => j - i) nA B d1 hk2 rfl rfl
    have nA := nA.ki k5 hz
    have nB := nB.ki k5 hz
    have X0 := X0.ki k5
    have hz := hz5
    refine sd_app (x := dueD bs (valD ds bs * k)) rfl hT hz tl (Nat.le_of_ble_eq_true rfl) ?_ fun u6 H6 k6 hT hz6 tl => ?_
    · exact run_im (f := fun i j => i * j) nA B d1 hk2 rfl rfl
    have nA := nA.ki k6 hz
    have nB := nB.ki k6 hz
    have X0 := X0.ki k6
    have hz := hz6
    refine sd_app (x := dueD bs (k * valD ds bs)) rfl hT hz tl (Nat.le_of_ble_eq_true rfl) ?_ fun u7 H7 k7 hT hz7 tl => ?_
    · exact run_tm (f := fun i j => j * i) nA B d1 hk2 rfl rfl
    have nA := nA.ki k7 hz
    have nB := nB.ki k7 hz
    have X0 := X0.ki k7
    have hz := hz7
    obtain ⟨dx', da', ba', a1, a2, a3⟩ := id nA
    refine ⟨_, rfl, _, rfl, _, _, rfl, rfl, _, rfl, _, rfl, _, _, rfl, rfl, _, rfl, _, rfl, _, _, rfl, rfl, _, rfl, _, rfl, _, _, rfl, rfl, _, rfl, _, rfl, _, _, rfl, rfl, _, rfl, _, rfl, _, _, rfl, rfl, _, rfl, _, rfl, _, _, rfl, rfl, mulW vv hk2 (by decide) (by decide) (by decide), _, rfl, _, rfl, _, _, rfl, rfl, mulW hk2 vv (by decide) (by decide) (by decide), by show 8 ≤ sizeLine; decide, fun y hy => ?_⟩
    have ey : (upd H7 y (.lst [.int (valD ds bs + k), .int (valD ds bs + valD es bs), .int (k + valD ds bs), .int (valD ds bs - k), .int (valD ds bs - valD es bs), .int (k - valD ds bs), .int (valD ds bs * k), .int (k * valD ds bs)])) y = some (.lst ([valD ds bs + k, valD ds bs + valD es bs, k + valD ds bs, valD ds bs - k, valD ds bs - valD es bs, k - valD ds bs, valD ds bs * k, k * valD ds bs].map V.int)) := upd_same
    have sy : Same H7 (upd H7 y (.lst [.int (valD ds bs + k), .int (valD ds bs + valD es bs), .int (k + valD ds bs), .int (valD ds bs - k), .int (valD ds bs - valD es bs), .int (k - valD ds bs), .int (valD ds bs * k), .int (k * valD ds bs)])) := upd_new hy
    generalize upd H7 y (.lst [.int (valD ds bs + k), .int (valD ds bs + valD es bs), .int (k + valD ds bs), .int (valD ds bs - k), .int (valD ds bs - valD es bs), .int (k - valD ds bs), .int (valD ds bs * k), .int (k * valD ds bs)]) = Hy at ey sy ⊢
    have hx : [dueD bs (valD ds bs + k), dueD bs (valD ds bs + valD es bs), dueD bs (k + valD ds bs), dueD bs (valD ds bs - k), dueD bs (valD ds bs - valD es bs), dueD bs (k - valD ds bs), dueD bs (valD ds bs * k), dueD bs (k * valD ds bs)] = [valD ds bs + k, valD ds bs + valD es bs, k + valD ds bs, valD ds bs - k, valD ds bs - valD es bs, k - valD ds bs, valD ds bs * k, k * valD ds bs].map (dueD bs) := rfl
    have tl : TL H7 _ ([valD ds bs + k, valD ds bs + valD es bs, k + valD ds bs, valD ds bs - k, valD ds bs - valD es bs, k - valD ds bs, valD ds bs * k, k * valD ds bs].map (dueD bs)) := tl
    have small : ∀ z ∈ [valD ds bs + k, valD ds bs + valD es bs, k + valD ds bs, valD ds bs - k, valD ds bs - valD es bs, k - valD ds bs, valD ds bs * k, k * valD ds bs], z.natAbs < 2 ^ 500 := by
      have v1 := abs_up vv (show 27 ≤ 200 by decide)
      have w1 := abs_up ww (show 27 ≤ 200 by decide)
      have m1 := wide_lt vv hk2
      have m2 := wide_lt hk2 vv
      intro z hz
      simp only [List.mem_cons, List.not_mem_nil, or_false] at hz
      rcases hz with e | e | e | e | e | e | e | e <;> rw [e]
      · exact abs_up (abs_add v1 hk2) (by decide)
      · exact abs_up (abs_add v1 w1) (by decide)
      · exact abs_up (abs_add hk2 v1) (by decide)
      · exact abs_up (abs_sub v1 hk2) (by decide)
      · exact abs_up (abs_sub v1 w1) (by decide)
      · exact abs_up (abs_sub hk2 v1) (by decide)
      · exact abs_up (m1) (by decide)
      · exact abs_up (m2) (by decide)
    have len : [valD ds bs + k, valD ds bs + valD es bs, k + valD ds bs, valD ds bs - k, valD ds bs - valD es bs, k - valD ds bs, valD ds bs * k, k * valD ds bs].length = 8 := rfl
    generalize [valD ds bs + k, valD ds bs + valD es bs, k + valD ds bs, valD ds bs - k, valD ds bs - valD es bs, k - valD ds bs, valD ds bs * k, k * valD ds bs] = zs at ey tl small len
    have nA := nA.same sy
    obtain ⟨dx', da', ba', a1, a2, a3⟩ := id nA
    have hz := sy _ _ hz
    have tl := tl.same sy
    have hT := hT.ext sy
    have X0 := X0.same sy
    have hsh : Sh (.list (zs.map (dueD bs))) := rows_sh (fun x hx => by
      obtain ⟨z, hz, e⟩ := List.mem_map.mp hx
      rw [← e]
      exact dueD_md B (small z hz)) (by rw [List.length_map]; omega)
    refine ⟨_, rfl, .ref zq, a, .list (zs.map (dueD bs)), rfl, TL.dq a1 hz tl, hsh, ?_⟩
    refine ⟨_, rfl, y, rfl, ⟨_, SqL.of ey⟩, fun D0 hD => ?_⟩
    refine lc_it walk_list (fun i H' => ∃ ts, Same Hy H' ∧ H' D0 = some (.lst ts) ∧ TL H' ts ((zs.take i).map (dueD bs))) ⟨[], upd_new hD, upd_same, trivial⟩ (fun i H' _ ⟨_, s, _⟩ => SqL.of (s _ _ ey)) ?_ ?_
    · rintro i v H8 H9 hi ⟨ts, s8, eD, t8⟩ ⟨rfl, ev⟩
      rw [List.length_map] at hi
      have j1 : zs[i]? = some zs[i] := List.getElem?_eq_getElem hi
      rw [List.getElem?_map, j1] at ev
      cases ev
      refine ⟨rfl, yesT ?_⟩
      refine yes_ ⟨_, rfl, _, rfl, a, C, _, _, _, rfl, s8 _ _ a1, N.cl, N.nB, rfl, ba', _, rfl, .inr (Or.inl (Same.rd s8 a3)), fun l hl => ?_⟩
      refine ⟨l, zs[i], bs, rfl, upd_same, B, fun t H10 s10 td => ?_⟩
      have sl := (upd_new hl).trans s10
      have eD' := sl _ _ eD
      refine ⟨ts, eD', by rw [t8.len, List.length_map, List.length_take, sizeLine_eq]; omega, ts ++ [.ref t], same_put hD (s8.trans sl), upd_same, ?_⟩
      have kp : Ki D0 H10 (upd H10 D0 (.lst (ts ++ [.ref t]))) := Ki.of .put
      rw [List.take_succ, j1, List.map_append]
      exact TL.app (td.ki kp eD') ((t8.same sl).ki kp eD')
    · rintro H8 ⟨ts, s8, eD, t8⟩
      rw [List.length_map, List.take_of_length_le (Nat.le_refl _)] at t8
      refine ⟨.ref D0, a, .list (zs.map (dueD bs)), rfl, TL.dq (s8 _ _ a1) eD t8, hsh, rfl, ?_⟩
      exact end_eq (kk _ (X0.same s8).ext (hT.ext s8))
end
end K04

set_option Elab.async false
set_option linter.all false
set_option maxRecDepth 100000
set_option maxHeartbeats 4000000
namespace K04
open PySem PySem.Spec PyProof.Rows L2 Ru
theorem ext_out {zq dq : Addr} {H H1 H2 : Hp} (x : FX zq H H1) (n : ∀ b o, H b = some o → (∀ ps, o ≠ .tbl ps) → b ≠ dq) (y : Ki dq H1 H2) : LamX.ExtN H H2 := fun b o e t => y b o (x b o e t).2 (n b o e t) t
theorem run_pw {C O D U a : Addr} {k : Nat} {i : Nat} {ds bs : List Int} {σ : L2.St} {G : Hp} (nA : NumAt C G a ds bs) (B : Bss bs) (d : Dgs ds bs) (hk : k ≤ 16) (h0 : σ[i]? = some (some (.ref a))) :
    ∀ H3, LamX.ExtN G H3 → ∀ (Qn : VK) (E : XK), OutX C O D U (dueD bs (valD ds bs ^ k)) H3 Qn E → tOp (rBinI C (spPw C O) E) (tVar i) (tC (.int (k : Int))) σ H3 Qn := fun H3 x3 Qn E ho => by
  have n3 := num_ext x3 nA
  obtain ⟨dx, da, ba, a1, _⟩ := id n3
  exact ⟨_, h0, a, dx, _, (k : Int), rfl, rfl, a1, a, k, ds, bs, rfl, n3, B, d, hk, ho.out⟩
theorem run_dv {C O D U a : Addr} {f : Int → Int → Int} {k : Int} {i j : Nat} {x : PyData} {ds bs : List Int} {σ : L2.St} {G : Hp} (nA : NumAt C G a ds bs) (B : Bss bs) (d : Dgs ds bs) (hk : k.natAbs < 2 ^ 200) (h0 : σ[i]? = some (some (.ref a))) (h1 : σ[j]? = some (some (.int k)))
    (q1 : 0 < k → x = dueD bs (f (valD ds bs) k)) (q2 : k < 1 → x = wdD "divisor") : ∀ H3, LamX.ExtN G H3 → ∀ (Qn : VK) (E : XK), OutX C O D U x H3 Qn E → tOp (rBinI C (spDv f C O D) E) (tVar i) (tVar j) σ H3 Qn := fun H3 x3 Qn E ho => by
  have n3 := num_ext x3 nA
  obtain ⟨dx, da, ba, a1, _⟩ := id n3
  exact ⟨_, h0, _, h1, a, dx, _, k, rfl, rfl, a1, a, k, ds, bs, rfl, n3, B, d, hk, fun c => by rw [q1 c] at ho; exact ho.out, fun c => ho.2.2.1 (q2 c)⟩
def exps : List Nat := [0, 1, 2, 3, 4, 5, 6, 7, 9, 11, 14, 15, 16]
abbrev nPows : List Str := ["_law_one", "_law_told_here", "_law_due_here", "_law_power", "_law_product", "_law_turn"]
theorem sc_pows : FnScope nPows ["_law_one"] (defScope sLPowersRight) := ⟨rfl, rfl, rfl, by decide +kernel, rfl, by decide +kernel, by decide +kernel⟩
def qPows : Str := (envOfC "_law_powers_right" (defScope sLPowersRight) 0 0 .none).qual ++ "<lambda>"
def spPows (C : Addr) (T : List (Addr × Str)) : Sp := fun vs H Q _ => ∃ (a : Addr) (ds bs : List Int), vs = [.ref a] ∧ NumAt C H a ds bs ∧ Bss bs ∧ Dgs ds bs ∧ LamX.Tabs T H ∧ ∀ H', LamX.ExtN H H' → LamX.Tabs T H' → Q (.bl true) H'
abbrev nParts : List Str := ["_law_one", "_law_k", "_law_v", "_law_bases_here", "_law_told_here", "_law_due_here"]
theorem sc_parts : FnScope nParts ["_law_one", "_law_k"] (defScope sLPartsRight) := ⟨rfl, rfl, rfl, by decide +kernel, rfl, by decide +kernel, by decide +kernel⟩
def qParts : Str := (envOfC "_law_parts_right" (defScope sLPartsRight) 0 0 .none).qual ++ "<lambda>"
def spParts (C : Addr) (T : List (Addr × Str)) : Sp := fun vs H Q _ => ∃ (a : Addr) (k : Int) (ds bs : List Int), vs = [.ref a, .int k] ∧ NumAt C H a ds bs ∧ Bss bs ∧ Dgs ds bs ∧ k.natAbs < 2 ^ 140 ∧ LamX.Tabs T H ∧ ∀ H', LamX.ExtN H H' → LamX.Tabs T H' → Q (.bl true) H'
section
variable {P : Program} {w : World} {K : PySem.W.Frag} {mg : Str → Option Value} {base : Heap}
theorem ok_pows {C O D U f fR : Addr} {fd fdR : FuncData} {T : List (Addr × Str)} (F : FunD K "_law_powers_right" "_law_powers_right" (defArgs sLPowersRight) (defBody sLPowersRight) (defScope sLPowersRight) [] [] f fd) (FR : FunD K "_law_told" "_law_told" (defArgs sLTold) (defBody sLTold) (defScope sLTold) [] [] fR fdR)
    (mR : mg "_law_told" = some (.ref fR)) (N : NumK K mg C) (SC : OpC K C) (R : RfT K mg O D U) (M : SmK K) (hf : He.fAd K ("_law_powers_right", none) = f) (TB : LamX.TabB base mg (He.cT K ("_law_powers_right", none)).1 (He.cT K ("_law_powers_right", none)).2)
    (hmT : ((He.cT K ("_law_powers_right", none)).2, qPows) ∈ T) (un : ∀ p ∈ T, p.1 = (He.cT K ("_law_powers_right", none)).2 → p.2 = qPows) (BP : BinN K C "pow") (MP : CdM P w K mg base (L2.CX P w) 8 C "__pow__" ["self", "other"] (spPw C O)) (CD : Cd P w K mg base CX0 1 "_law_due" ["_law_value", "_law_bases_here"] spDue)
    (g_repr : mg "repr" = none) (g_list : mg "list" = none) (g_range : mg "range" = none) : FnG P w K mg base CX0 11 f fd ["_law_one"] (spPows C T) := by
  obtain ⟨ocR, odR, dVR, kVR, docR, pmR, anR, cdvR, ctR, oslR, eR, lkR, hcdR, _, _⟩ := FR.ex
  have bR : Binds K fdR ["_law_ask"] [] := FR.bindsN fun _ _ _ _ _ _ us hl => match us, hl with | [_], _ => rfl
  subst eR
  refine okGT F sc_pows (fun vs H Q E h => ?_) (fun c A outer s H vs Q E hco hG hr h => ?_)
  · obtain ⟨a, ds, bs, rfl, _⟩ := h
    rfl
  · obtain ⟨a, ds, bs, rfl, nA, B, d1, hT, kk⟩ := h
    have sc := sc_pows
    have e1 := hco _ hf
    have TB' : LamX.TabB base mg c (He.cT K ("_law_powers_right", none)).2 := by
      have e2 : (He.cT K ("_law_powers_right", none)).1 = c := e1
      rw [← e2]
      exact TB
    have r1 := hr.mono (show 1 ≤ 10 by decide)
    refine ⟨_, PSs.nox (pss_cons (ps_set (i := 1) sc.nd rfl (Or.inl rfl) (pe_lst (pa_cons (LamX.pe_lamcall (k := 8) (T := T) (TT := TTd C O D U) (by rfl) mR FR.kp lkR hcdR bR sc_told rfl (Or.inl rfl) (gives_told N R hr) TB' rfl hmT un hr (LamX.lamS_by (sc := defScope sLPowersRight) (by decide +kernel)) rfl (fun _ _ _ _ _ => rfl)
            (fun A outer s H E f c' hrA => pe_op (op_im (op := .Pow) MP (by decide) SC.c BP SC.u hrA (passes_call (takes_of rfl rfl rfl rfl) (fun _ _ _ _ h => h))) (pv 0) pe_int)) pa_nil)))
      (pss_cons (ps_expr (pe_bm PySem.F.plainAttrs_list PySem.F.slot_list_append PySem.F.type_list_append mt_append (pv 1) (pa_cons (LamX.pe_lamcall (k := 8) (T := T) (TT := TTd C O D U) (by rfl) mR FR.kp lkR hcdR bR sc_told rfl (Or.inl rfl) (gives_told N R hr) TB' rfl hmT un hr (LamX.lamS_by (sc := defScope sLPowersRight) (by decide +kernel)) rfl (fun _ _ _ _ _ => rfl)
            (fun A outer s H E f c' hrA => pe_op (op_im (op := .Pow) MP (by decide) SC.c BP SC.u hrA (passes_call (takes_of rfl rfl rfl rfl) (fun _ _ _ _ h => h))) (pv 0) pe_int)) pa_nil)))
      (pss_cons (ps_expr (pe_bm PySem.F.plainAttrs_list PySem.F.slot_list_append PySem.F.type_list_append mt_append (pv 1) (pa_cons (LamX.pe_lamcall (k := 8) (T := T) (TT := TTd C O D U) (by rfl) mR FR.kp lkR hcdR bR sc_told rfl (Or.inl rfl) (gives_told N R hr) TB' rfl hmT un hr (LamX.lamS_by (sc := defScope sLPowersRight) (by decide +kernel)) rfl (fun _ _ _ _ _ => rfl)
            (fun A outer s H E f c' hrA => pe_op (op_im (op := .Pow) MP (by decide) SC.c BP SC.u hrA (passes_call (takes_of rfl rfl rfl rfl) (fun _ _ _ _ h => h))) (pv 0) pe_int)) pa_nil)))
      (pss_cons (ps_expr (pe_bm PySem.F.plainAttrs_list PySem.F.slot_list_append PySem.F.type_list_append mt_append (pv 1) (pa_cons (LamX.pe_lamcall (k := 8) (T := T) (TT := TTd C O D U) (by rfl) mR FR.kp lkR hcdR bR sc_told rfl (Or.inl rfl) (gives_told N R hr) TB' rfl hmT un hr (LamX.lamS_by (sc := defScope sLPowersRight) (by decide +kernel)) rfl (fun _ _ _ _ _ => rfl)
            (fun A outer s H E f c' hrA => pe_op (op_im (op := .Pow) MP (by decide) SC.c BP SC.u hrA (passes_call (takes_of rfl rfl rfl rfl) (fun _ _ _ _ h => h))) (pv 0) pe_int)) pa_nil)))
      (pss_cons (ps_expr (pe_bm PySem.F.plainAttrs_list PySem.F.slot_list_append PySem.F.type_list_append mt_append (pv 1) (pa_cons (LamX.pe_lamcall (k := 8) (T := T) (TT := TTd C O D U) (by rfl) mR FR.kp lkR hcdR bR sc_told rfl (Or.inl rfl) (gives_told N R hr) TB' rfl hmT un hr (LamX.lamS_by (sc := defScope sLPowersRight) (by decide +kernel)) rfl (fun _ _ _ _ _ => rfl)
            (fun A outer s H E f c' hrA => pe_op (op_im (op := .Pow) MP (by decide) SC.c BP SC.u hrA (passes_call (takes_of rfl rfl rfl rfl) (fun _ _ _ _ h => h))) (pv 0) pe_int)) pa_nil)))
      (pss_cons (ps_expr (pe_bm PySem.F.plainAttrs_list PySem.F.slot_list_append PySem.F.type_list_append mt_append (pv 1) (pa_cons (LamX.pe_lamcall (k := 8) (T := T) (TT := TTd C O D U) (by rfl) mR FR.kp lkR hcdR bR sc_told rfl (Or.inl rfl) (gives_told N R hr) TB' rfl hmT un hr (LamX.lamS_by (sc := defScope sLPowersRight) (by decide +kernel)) rfl (fun _ _ _ _ _ => rfl)
            (fun A outer s H E f c' hrA => pe_op (op_im (op := .Pow) MP (by decide) SC.c BP SC.u hrA (passes_call (takes_of rfl rfl rfl rfl) (fun _ _ _ _ h => h))) (pv 0) pe_int)) pa_nil)))
      (pss_cons (ps_expr (pe_bm PySem.F.plainAttrs_list PySem.F.slot_list_append PySem.F.type_list_append mt_append (pv 1) (pa_cons (LamX.pe_lamcall (k := 8) (T := T) (TT := TTd C O D U) (by rfl) mR FR.kp lkR hcdR bR sc_told rfl (Or.inl rfl) (gives_told N R hr) TB' rfl hmT un hr (LamX.lamS_by (sc := defScope sLPowersRight) (by decide +kernel)) rfl (fun _ _ _ _ _ => rfl)
            (fun A outer s H E f c' hrA => pe_op (op_im (op := .Pow) MP (by decide) SC.c BP SC.u hrA (passes_call (takes_of rfl rfl rfl rfl) (fun _ _ _ _ h => h))) (pv 0) pe_int)) pa_nil)))
      (pss_cons (ps_expr (pe_bm PySem.F.plainAttrs_list PySem.F.slot_list_append PySem.F.type_list_append mt_append (pv 1) (pa_cons (LamX.pe_lamcall (k := 8) (T := T) (TT := TTd C O D U) (by rfl) mR FR.kp lkR hcdR bR sc_told rfl (Or.inl rfl) (gives_told N R hr) TB' rfl hmT un hr (LamX.lamS_by (sc := defScope sLPowersRight) (by decide +kernel)) rfl (fun _ _ _ _ _ => rfl)
            (fun A outer s H E f c' hrA => pe_op (op_im (op := .Pow) MP (by decide) SC.c BP SC.u hrA (passes_call (takes_of rfl rfl rfl rfl) (fun _ _ _ _ h => h))) (pv 0) pe_int)) pa_nil)))
      (pss_cons (ps_expr (pe_bm PySem.F.plainAttrs_list PySem.F.slot_list_append PySem.F.type_list_append mt_append (pv 1) (pa_cons (LamX.pe_lamcall (k := 8) (T := T) (TT := TTd C O D U) (by rfl) mR FR.kp lkR hcdR bR sc_told rfl (Or.inl rfl) (gives_told N R hr) TB' rfl hmT un hr (LamX.lamS_by (sc := defScope sLPowersRight) (by decide +kernel)) rfl (fun _ _ _ _ _ => rfl)
            (fun A outer s H E f c' hrA => pe_op (op_im (op := .Pow) MP (by decide) SC.c BP SC.u hrA (passes_call (takes_of rfl rfl rfl rfl) (fun _ _ _ _ h => h))) (pv 0) pe_int)) pa_nil)))
      (pss_cons (ps_expr (pe_bm PySem.F.plainAttrs_list PySem.F.slot_list_append PySem.F.type_list_append mt_append (pv 1) (pa_cons (LamX.pe_lamcall (k := 8) (T := T) (TT := TTd C O D U) (by rfl) mR FR.kp lkR hcdR bR sc_told rfl (Or.inl rfl) (gives_told N R hr) TB' rfl hmT un hr (LamX.lamS_by (sc := defScope sLPowersRight) (by decide +kernel)) rfl (fun _ _ _ _ _ => rfl)
            (fun A outer s H E f c' hrA => pe_op (op_im (op := .Pow) MP (by decide) SC.c BP SC.u hrA (passes_call (takes_of rfl rfl rfl rfl) (fun _ _ _ _ h => h))) (pv 0) pe_int)) pa_nil)))
      (pss_cons (ps_expr (pe_bm PySem.F.plainAttrs_list PySem.F.slot_list_append PySem.F.type_list_append mt_append (pv 1) (pa_cons (LamX.pe_lamcall (k := 8) (T := T) (TT := TTd C O D U) (by rfl) mR FR.kp lkR hcdR bR sc_told rfl (Or.inl rfl) (gives_told N R hr) TB' rfl hmT un hr (LamX.lamS_by (sc := defScope sLPowersRight) (by decide +kernel)) rfl (fun _ _ _ _ _ => rfl)
            (fun A outer s H E f c' hrA => pe_op (op_im (op := .Pow) MP (by decide) SC.c BP SC.u hrA (passes_call (takes_of rfl rfl rfl rfl) (fun _ _ _ _ h => h))) (pv 0) pe_int)) pa_nil)))
      (pss_cons (ps_expr (pe_bm PySem.F.plainAttrs_list PySem.F.slot_list_append PySem.F.type_list_append mt_append (pv 1) (pa_cons (LamX.pe_lamcall (k := 8) (T := T) (TT := TTd C O D U) (by rfl) mR FR.kp lkR hcdR bR sc_told rfl (Or.inl rfl) (gives_told N R hr) TB' rfl hmT un hr (LamX.lamS_by (sc := defScope sLPowersRight) (by decide +kernel)) rfl (fun _ _ _ _ _ => rfl)
            (fun A outer s H E f c' hrA => pe_op (op_im (op := .Pow) MP (by decide) SC.c BP SC.u hrA (passes_call (takes_of rfl rfl rfl rfl) (fun _ _ _ _ h => h))) (pv 0) pe_int)) pa_nil)))
      (pss_cons (ps_expr (pe_bm PySem.F.plainAttrs_list PySem.F.slot_list_append PySem.F.type_list_append mt_append (pv 1) (pa_cons (LamX.pe_lamcall (k := 8) (T := T) (TT := TTd C O D U) (by rfl) mR FR.kp lkR hcdR bR sc_told rfl (Or.inl rfl) (gives_told N R hr) TB' rfl hmT un hr (LamX.lamS_by (sc := defScope sLPowersRight) (by decide +kernel)) rfl (fun _ _ _ _ _ => rfl)
            (fun A outer s H E f c' hrA => pe_op (op_im (op := .Pow) MP (by decide) SC.c BP SC.u hrA (passes_call (takes_of rfl rfl rfl rfl) (fun _ _ _ _ h => h))) (pv 0) pe_int)) pa_nil)))
      (pss_cons (ps_set (i := 2) sc.nd rfl (Or.inl rfl) (pe_lst pa_nil))
      (pss_cons (ps_for PassesOwn.never rfl (pi_list (pe_lst (pa_cons pe_int (pa_cons pe_int (pa_cons pe_int (pa_cons pe_int (pa_cons pe_int (pa_cons pe_int (pa_cons pe_int (pa_cons pe_int (pa_cons pe_int (pa_cons pe_int (pa_cons pe_int (pa_cons pe_int (pa_cons pe_int pa_nil))))))))))))))) (pg_name (i := 3) sc.nd rfl (Or.inl rfl))
        (pss_cons (ps_set (i := 4) sc.nd rfl (Or.inl rfl) pe_int)
        (pss_cons (ps_for PassesOwn.never rfl (pi_range1 rfl g_range (pa_cons (pv 3) pa_nil)) (pg_name (i := 5) sc.nd rfl (Or.inl rfl)) (pss_one (ps_set (i := 4) sc.nd rfl (Or.inl rfl) (pe_op op_mulW (pv 4) (pe_fld (pv 0) rfl)))))
        (pss_one (ps_expr (pe_bm PySem.F.plainAttrs_list PySem.F.slot_list_append PySem.F.type_list_append mt_append (pv 2) (pa_cons (pe_cd CD r1 (by rfl) pass0 (pa_cons (pv 4) (pa_cons (pe_callTy call_list_of (by rfl) g_list boot_list (pa_cons (pe_fld (pv 0) rfl) pa_nil)) pa_nil))) pa_nil)))))))
      (pss_one (ps_ret (pe_cmpR op_eq (pe_callB (call_reprQ M hG hr.units) (by rfl) g_repr boot_repr (pa_cons (pv 1) pa_nil)) (pe_callB (call_reprQ M hG hr.units) (by rfl) g_repr boot_repr (pa_cons (pv 2) pa_nil)) (nomark _))))))))))))))))))), ?_⟩
    have l4 : bs.length ≤ 4 := B.2.1
    have vv := val_abs d1 B
    refine sd_new (x := dueD bs (valD ds bs ^ 0)) hT ?_ fun zq u0 H0 X0 hT hz tl => ?_
    · exact run_pw (k := 0) nA B d1 (by decide) rfl
    have nA := num_ext X0.ext nA
    refine sd_app (x := dueD bs (valD ds bs ^ 1)) rfl hT hz tl (Nat.le_of_ble_eq_true rfl) ?_ fun u1 H1 k1 hT hz1 tl => ?_
    · exact run_pw (k := 1) nA B d1 (by decide) rfl
    have nA := nA.ki k1 hz
    have X0 := X0.ki k1
    have hz := hz1
    refine sd_app (x := dueD bs (valD ds bs ^ 2)) rfl hT hz tl (Nat.le_of_ble_eq_true rfl) ?_ fun u2 H2 k2 hT hz2 tl => ?_
    · exact run_pw (k := 2) nA B d1 (by decide) rfl
    have nA := nA.ki k2 hz
    have X0 := X0.ki k2
    have hz := hz2
    refine sd_app (x := dueD bs (valD ds bs ^ 3)) rfl hT hz tl (Nat.le_of_ble_eq_true rfl) ?_ fun u3 H3 k3 hT hz3 tl => ?_
    · exact run_pw (k := 3) nA B d1 (by decide) rfl
    have nA := nA.ki k3 hz
    have X0 := X0.ki k3
    have hz := hz3
    refine sd_app (x := dueD bs (valD ds bs ^ 4)) rfl hT hz tl (Nat.le_of_ble_eq_true rfl) ?_ fun u4 H4 k4 hT hz4 tl => ?_
    · exact run_pw (k := 4) nA B d1 (by decide) rfl
    have nA := nA.ki k4 hz
    have X0 := X0.ki k4
    have hz := hz4
    refine sd_app (x := dueD bs (valD ds bs ^ 5)) rfl hT hz tl (Nat.le_of_ble_eq_true rfl) ?_ fun u5 H5 k5 hT hz5 tl => ?_
    · exact run_pw (k := 5) nA B d1 (by decide) rfl
    have nA := nA.ki k5 hz
    have X0 := X0.ki k5
    have hz := hz5
    refine sd_app (x := dueD bs (valD ds bs ^ 6)) rfl hT hz tl (Nat.le_of_ble_eq_true rfl) ?_ fun u6 H6 k6 hT hz6 tl => ?_
    · exact run_pw (k := 6) nA B d1 (by decide) rfl
    have nA := nA.ki k6 hz
    have X0 := X0.ki k6
    have hz := hz6
    refine sd_app (x := dueD bs (valD ds bs ^ 7)) rfl hT hz tl (Nat.le_of_ble_eq_true rfl) ?_ fun u7 H7 k7 hT hz7 tl => ?_
    · exact run_pw (k := 7) nA B d1 (by decide) rfl
    have nA := nA.ki k7 hz
    have X0 := X0.ki k7
    have hz := hz7
    refine sd_app (x := dueD bs (valD ds bs ^ 9)) rfl hT hz tl (Nat.le_of_ble_eq_true rfl) ?_ fun u8 H8 k8 hT hz8 tl => ?_
    · exact run_pw (k := 9) nA B d1 (by decide) rfl
    have nA := nA.ki k8 hz
    have X0 := X0.ki k8
    have hz := hz8
    refine sd_app (x := dueD bs (valD ds bs ^ 11)) rfl hT hz tl (Nat.le_of_ble_eq_true rfl) ?_ fun u9 H9 k9 hT hz9 tl => ?_
    · exact run_pw (k := 11) nA B d1 (by decide) rfl
    have nA := nA.ki k9 hz
    have X0 := X0.ki k9
    have hz := hz9
    refine sd_app (x := dueD bs (valD ds bs ^ 14)) rfl hT hz tl (Nat.le_of_ble_eq_true rfl) ?_ fun u10 H10 k10 hT hz10 tl => ?_
    · exact run_pw (k := 14) nA B d1 (by decide) rfl
    have nA := nA.ki k10 hz
    have X0 := X0.ki k10
    have hz := hz10
    refine sd_app (x := dueD bs (valD ds bs ^ 15)) rfl hT hz tl (Nat.le_of_ble_eq_true rfl) ?_ fun u11 H11 k11 hT hz11 tl => ?_
    · exact run_pw (k := 15) nA B d1 (by decide) rfl
    have nA := nA.ki k11 hz
    have X0 := X0.ki k11
    have hz := hz11
    refine sd_app (x := dueD bs (valD ds bs ^ 16)) rfl hT hz tl (Nat.le_of_ble_eq_true rfl) ?_ fun u12 H12 k12 hT hz12 tl => ?_
    · exact run_pw (k := 16) nA B d1 (by decide) rfl
    have nA := nA.ki k12 hz
    have X0 := X0.ki k12
    have hz := hz12
    have ex16 : ∀ k ∈ exps, k ≤ 16 := by decide
    have exl : exps.length = 13 := rfl
    have tl : TL H12 _ (exps.map fun k => dueD bs (valD ds bs ^ k)) := tl
    obtain ⟨us, hus⟩ : ∃ us, H12 zq = some (.lst us) ∧ TL H12 us (exps.map fun k => dueD bs (valD ds bs ^ k)) := ⟨_, hz, tl⟩
    obtain ⟨hz, tl⟩ := hus
    have hz0 := hz
    refine ⟨by show 0 ≤ sizeLine; decide, fun dq hdq => ?_⟩
    have nq0 : ∀ b o, H b = some o → (∀ ps, o ≠ .tbl ps) → b ≠ dq := fun b o e n => ne_of_none (X0.ext b o e n) hdq
    have sq : Same H12 (upd H12 dq (.lst [])) := upd_new hdq
    have eq : (upd H12 dq (.lst [])) dq = some (.lst []) := upd_same
    generalize upd H12 dq (.lst []) = Hq at sq eq ⊢
    refine ⟨by show 13 ≤ sizeLine; decide, fun l hl => ?_⟩
    have sl : Same Hq (upd Hq l (.lst [.int 0, .int 1, .int 2, .int 3, .int 4, .int 5, .int 6, .int 7, .int 9, .int 11, .int 14, .int 15, .int 16])) := upd_new hl
    have el : (upd Hq l (.lst [.int 0, .int 1, .int 2, .int 3, .int 4, .int 5, .int 6, .int 7, .int 9, .int 11, .int 14, .int 15, .int 16])) l = some (.lst (exps.map fun (k : Nat) => V.int (k : Int))) := upd_same
    have nlq : l ≠ dq := fun e => by rw [e, eq] at hl; cases hl
    generalize upd Hq l (.lst [.int 0, .int 1, .int 2, .int 3, .int 4, .int 5, .int 6, .int 7, .int 9, .int 11, .int 14, .int 15, .int 16]) = Hl at sl el ⊢
    have eq := sl _ _ eq
    have sql := sq.trans sl
    have nA := nA.same sql
    have hT := hT.ext sql
    have tl := tl.same sql
    have hz := sql _ _ hz
    have X0 := X0.same sql
    have nzq : zq ≠ dq := ne_of_none (H := H12) hz0 hdq
    generalize exps = es at *
    refine ⟨l, rfl, ⟨_, SqL.of el⟩, for_list (K := K) (a := l) (xs := es.map fun (k : Nat) => V.int (k : Int)) (fun i σ H' => ∃ (x3 x4 x5 : Option V) (ts : List V), σ = [some (.ref a), some (.ref zq), some (.ref dq), x3, x4, x5] ∧ Ki dq Hl H' ∧ LamX.Tabs T H' ∧ H' dq = some (.lst ts) ∧ TL H' ts ((es.take i).map fun k => dueD bs (valD ds bs ^ k)))
      ⟨none, none, none, [], rfl, Ki.refl, hT, eq, trivial⟩ (fun _ _ _ _ ⟨_, _, _, _, _, kk', _⟩ => SqL.of (kk' _ _ el nlq (fun _ z => by cases z))) ?_ ?_⟩
    · rintro i y σ H3 hi ⟨x3, x4, x5, ts, rfl, k3, T3, e3, t3⟩
      rw [List.getElem?_map] at hi
      cases ez : es[i]? with
      | none => rw [ez] at hi; cases hi
      | some k =>
        rw [ez] at hi
        cases hi
        have hk := ex16 k (List.mem_of_getElem? ez)
        have hi2 := (List.getElem?_eq_some_iff.mp ez).1
        have n3 := nA.ki k3 eq
        obtain ⟨dx, da, ba, a1, a2, a3⟩ := id n3
        refine ⟨_, rfl, (k : Int), rfl, by omega, by omega, for_range (n := Int.toNat (k : Int)) (fun j σ H' => ∃ u, σ = [some (.ref a), some (.ref zq), some (.ref dq), some (.int (k : Int)), some (.int (valD ds bs ^ j)), u] ∧ H' = H3) ⟨x5, by rw [Int.pow_zero]; rfl, rfl⟩ ?_ ?_⟩
        · rintro j σ H4 hj ⟨u, rfl, rfl⟩
          rw [Int.toNat_natCast] at hj
          have hp := abs_pow vv (by decide) j
          refine ⟨_, rfl, _, rfl, a, C, dx, _, _, rfl, a1, N.cl, N.nV, rfl, _, _, rfl, rfl, mulW (abs_up hp (show 27 * j + 1 ≤ 500 by omega)) vv (by decide) (by decide) (by decide), ?_⟩
          exact ⟨_, by rw [Int.pow_succ]; rfl, rfl⟩
        · rintro σ H4 ⟨u, rfl, rfl⟩
          rw [Int.toNat_natCast]
          refine ⟨_, rfl, .inl ⟨rfl, _, .inl (.inl e3)⟩, ?_⟩
          refine ⟨_, rfl, _, rfl, a, C, dx, _, _, rfl, a1, N.cl, N.nB, rfl, ba, _, rfl, .inr (Or.inl a3), fun l2 hl2 => ?_⟩
          refine ⟨l2, valD ds bs ^ k, bs, rfl, upd_same, B, fun t H10 s10 td => ?_⟩
          have st := (upd_new hl2).trans s10
          have e10 := st _ _ e3
          refine ⟨dq, _, _, rfl, rfl, e10, by have := t3.len; rw [List.length_map, List.length_take] at this; rw [sizeLine_eq]; omega, ?_⟩
          have kp : Ki dq H10 (upd H10 dq (.lst (ts ++ [.ref t]))) := Ki.of .put
          refine ⟨_, _, _, ts ++ [.ref t], rfl, (k3.trans (Ki.same st)).trans kp, tabs_bt e10 .put (T3.ext st), upd_same, ?_⟩
          rw [List.take_succ, ez, List.map_append]
          exact TL.app (td.ki kp e10) ((t3.same st).ki kp e10)
    · rintro σ H3 ⟨x3, x4, x5, ts, rfl, k3, T3, e3, t3⟩
      rw [List.length_map, List.take_of_length_le (Nat.le_refl _)] at t3
      have n3 := nA.ki k3 eq
      obtain ⟨dx, da, ba, a1, a2, a3⟩ := id n3
      have hz3 := k3 _ _ hz nzq (fun _ z => by cases z)
      have tl3 := tl.ki k3 eq
      have hsh : Sh (.list (es.map fun k => dueD bs (valD ds bs ^ k))) := rows_sh (fun x hx => by
        obtain ⟨k, hk, e⟩ := List.mem_map.mp hx
        rw [← e]
        have := ex16 k hk
        exact dueD_md B (abs_up (abs_pow vv (by decide) k) (by omega))) (by rw [List.length_map]; omega)
      refine ⟨_, rfl, .ref zq, a, _, rfl, TL.dq a1 hz3 tl3, hsh, ?_⟩
      refine ⟨_, rfl, .ref dq, a, _, rfl, TL.dq a1 e3 t3, hsh, rfl, ?_⟩
      refine end_eq (kk _ ?_ T3)
      exact ext_out X0 nq0 k3
theorem ok_parts {C O D U f fR : Addr} {fd fdR : FuncData} {T : List (Addr × Str)} (F : FunD K "_law_parts_right" "_law_parts_right" (defArgs sLPartsRight) (defBody sLPartsRight) (defScope sLPartsRight) [] [] f fd) (FR : FunD K "_law_told" "_law_told" (defArgs sLTold) (defBody sLTold) (defScope sLTold) [] [] fR fdR)
    (mR : mg "_law_told" = some (.ref fR)) (N : NumK K mg C) (SC : OpC K C) (R : RfT K mg O D U) (M : SmK K) (hf : He.fAd K ("_law_parts_right", none) = f) (TB : LamX.TabB base mg (He.cT K ("_law_parts_right", none)).1 (He.cT K ("_law_parts_right", none)).2)
    (hmT : ((He.cT K ("_law_parts_right", none)).2, qParts) ∈ T) (un : ∀ p ∈ T, p.1 = (He.cT K ("_law_parts_right", none)).2 → p.2 = qParts) (BF : BinN K C "floordiv") (BO : BinN K C "mod") (MF : CdM P w K mg base (L2.CX P w) 8 C "__floordiv__" ["self", "other"] (spDv (fun i j => i / j) C O D)) (MO : CdM P w K mg base (L2.CX P w) 8 C "__mod__" ["self", "other"] (spDv (fun i j => i % j) C O D))
    (CD : Cd P w K mg base CX0 1 "_law_due" ["_law_value", "_law_bases_here"] spDue) (g_repr : mg "repr" = none) (g_list : mg "list" = none) (g_int : mg "int" = none) : FnG P w K mg base CX0 11 f fd ["_law_one", "_law_k"] (spParts C T) := by
  obtain ⟨ocR, odR, dVR, kVR, docR, pmR, anR, cdvR, ctR, oslR, eR, lkR, hcdR, _, _⟩ := FR.ex
  have bR : Binds K fdR ["_law_ask"] [] := FR.bindsN fun _ _ _ _ _ _ us hl => match us, hl with | [_], _ => rfl
  subst eR
  refine okGT F sc_parts (fun vs H Q E h => ?_) (fun c A outer s H vs Q E hco hG hr h => ?_)
  · obtain ⟨a, k, ds, bs, rfl, _⟩ := h
    rfl
  · obtain ⟨a, k, ds, bs, rfl, nA, B, d1, hk, hT, kk⟩ := h
    have sc := sc_parts
    have e1 := hco _ hf
    have TB' : LamX.TabB base mg c (He.cT K ("_law_parts_right", none)).2 := by
      have e2 : (He.cT K ("_law_parts_right", none)).1 = c := e1
      rw [← e2]
      exact TB
    have r1 := hr.mono (show 1 ≤ 10 by decide)
    refine ⟨_, PSs.nox (pss_cons (ps_set (i := 2) sc.nd rfl (Or.inl rfl) (pe_fld (pv 0) rfl))
      (pss_cons (ps_set (i := 3) sc.nd rfl (Or.inl rfl) (pe_callTy call_list_of (by rfl) g_list boot_list (pa_cons (pe_fld (pv 0) rfl) pa_nil)))
      (pss_cons (ps_set (i := 4) sc.nd rfl (Or.inl rfl) (pe_lst (pa_cons (LamX.pe_lamcall (k := 8) (T := T) (TT := TTd C O D U) (by rfl) mR FR.kp lkR hcdR bR sc_told rfl (Or.inl rfl) (gives_told N R hr) TB' rfl hmT un hr (LamX.lamS_by (sc := defScope sLPartsRight) (by decide +kernel)) rfl (fun _ _ _ _ _ => rfl)
            (fun A outer s H E f c' hrA => pe_op (op_im (op := .FloorDiv) MF (by decide) SC.c BF SC.u hrA (passes_call (takes_of rfl rfl rfl rfl) (fun _ _ _ _ h => h))) (pv 0) (pv 1))) pa_nil)))
      (pss_cons (ps_expr (pe_bm PySem.F.plainAttrs_list PySem.F.slot_list_append PySem.F.type_list_append mt_append (pv 4) (pa_cons (LamX.pe_lamcall (k := 8) (T := T) (TT := TTd C O D U) (by rfl) mR FR.kp lkR hcdR bR sc_told rfl (Or.inl rfl) (gives_told N R hr) TB' rfl hmT un hr (LamX.lamS_by (sc := defScope sLPartsRight) (by decide +kernel)) rfl (fun _ _ _ _ _ => rfl)
            (fun A outer s H E f c' hrA => pe_op (op_im (op := .Mod) MO (by decide) SC.c BO SC.u hrA (passes_call (takes_of rfl rfl rfl rfl) (fun _ _ _ _ h => h))) (pv 0) (pv 1))) pa_nil)))
      (pss_cons (ps_set (i := 5) sc.nd rfl (Or.inl rfl) (pe_lst (pa_cons (pe_tup (pa_cons pe_str (pa_cons pe_non pa_nil))) (pa_cons (pe_tup (pa_cons pe_str (pa_cons pe_non pa_nil))) pa_nil))))
      (pss_cons (ps_if (pt_cmpR op_gt (pv 1) pe_int (nomark _)) (pss_one (ps_set (i := 5) sc.nd rfl (Or.inl rfl) (pe_lst (pa_cons (pe_cd CD r1 (by rfl) pass0 (pa_cons (pe_op op_fdivW (pv 2) (pv 1)) (pa_cons (pv 3) pa_nil))) (pa_cons (pe_cd CD r1 (by rfl) pass0 (pa_cons (pe_op op_mod (pe_callTy call_int1 (by rfl) g_int boot_int (pa_cons (pv 2) pa_nil)) (pv 1)) (pa_cons (pv 3) pa_nil))) pa_nil))))) pss_nil)
      (pss_one (ps_ret (pe_cmpR op_eq (pe_callB (call_reprQ M hG hr.units) (by rfl) g_repr boot_repr (pa_cons (pv 4) pa_nil)) (pe_callB (call_reprQ M hG hr.units) (by rfl) g_repr boot_repr (pa_cons (pv 5) pa_nil)) (nomark _)))))))))), ?_⟩
    obtain ⟨dx, da, ba, a1, a2, a3⟩ := id nA
    have vv := val_abs d1 B
    have v0 := (valD_range d1).1
    have hk2 := abs_up hk (show 140 ≤ 200 by decide)
    refine ⟨_, rfl, a, C, dx, _, _, rfl, a1, N.cl, N.nV, rfl, ?_⟩
    refine ⟨_, rfl, a, C, dx, _, _, rfl, a1, N.cl, N.nB, rfl, ba, _, rfl, .inr (Or.inl a3), fun p hp => ?_⟩
    have s1 : Same H (upd H p (.lst (bs.map V.int))) := upd_new hp
    have ep : (upd H p (.lst (bs.map V.int))) p = some (.lst (bs.map V.int)) := upd_same
    generalize upd H p (.lst (bs.map V.int)) = H1 at s1 ep ⊢
    have ep1 := ep
    have nA := nA.same s1
    have hT := hT.ext s1
    obtain ⟨X1, eX1, oX1⟩ : ∃ X1, (0 < k → X1 = dueD bs (valD ds bs / k)) ∧ (k < 1 → X1 = wdD "divisor") := by
      by_cases c : 0 < k
      · exact ⟨_, fun _ => rfl, fun z => by omega⟩
      · exact ⟨_, fun z => (c z).elim, fun _ => rfl⟩
    obtain ⟨X2, eX2, oX2⟩ : ∃ X2, (0 < k → X2 = dueD bs (valD ds bs % k)) ∧ (k < 1 → X2 = wdD "divisor") := by
      by_cases c : 0 < k
      · exact ⟨_, fun _ => rfl, fun z => by omega⟩
      · exact ⟨_, fun z => (c z).elim, fun _ => rfl⟩
    refine sd_new (x := X1) hT ?_ fun zq u0 H2 X0 hT hz tl => ?_
    · exact run_dv (f := fun i j => i / j) nA B d1 hk2 rfl rfl eX1 oX1
    have nA := num_ext X0.ext nA
    have ep := X0.ext _ _ ep (fun _ z => by cases z)
    have npz := (X0 _ _ ep1 (fun _ z => by cases z)).1
    refine sd_app (x := X2) rfl hT hz tl (Nat.le_of_ble_eq_true rfl) ?_ fun u1 H3 k3 hT hz3 tl => ?_
    · exact run_dv (f := fun i j => i % j) nA B d1 hk2 rfl rfl eX2 oX2
    have nA := nA.ki k3 hz
    have ep := k3 _ _ ep npz (fun _ z => by cases z)
    have X0 := X0.ki k3
    have hz := hz3
    refine ⟨by show 2 ≤ sizeLine; decide, fun t1 ht1 => ⟨by show 2 ≤ sizeLine; decide, fun t2 ht2 => ⟨by show 2 ≤ sizeLine; decide, fun q hq => ?_⟩⟩⟩
    have sa : Same H3 (upd H3 t1 (.tup [.str "divisor", .non])) := upd_new ht1
    have ea : (upd H3 t1 (.tup [.str "divisor", .non])) t1 = some (.tup [.str "divisor", .non]) := upd_same
    generalize upd H3 t1 (.tup [.str "divisor", .non]) = Ha at *
    have sb : Same Ha (upd Ha t2 (.tup [.str "divisor", .non])) := upd_new ht2
    have eb : (upd Ha t2 (.tup [.str "divisor", .non])) t2 = some (.tup [.str "divisor", .non]) := upd_same
    generalize upd Ha t2 (.tup [.str "divisor", .non]) = Hb at *
    have sc' : Same Hb (upd Hb q (.lst [.ref t1, .ref t2])) := upd_new hq
    have ec : (upd Hb q (.lst [.ref t1, .ref t2])) q = some (.lst [.ref t1, .ref t2]) := upd_same
    generalize upd Hb q (.lst [.ref t1, .ref t2]) = Hc at *
    have s4 := (sa.trans sb).trans sc'
    have nA := nA.same s4
    have ep := s4 _ _ ep
    have X0 := X0.same s4
    have hz := s4 _ _ hz
    have tl := tl.same s4
    have hT := hT.ext s4
    have ea := sc' _ _ (sb _ _ ea)
    have eb := sc' _ _ eb
    have kx : ∀ H', LamX.ExtN H1 H' → LamX.Tabs T H' → Q (.bl true) H' := fun H' x t => kk H' ((LamX.ExtN.of s1).trans x) t
    have hm1 : Md 3 3000 X1 := by
      by_cases c : 0 < k
      · rw [eX1 c]
        exact dueD_md B (abs_up (abs_div vv v0 c) (by decide))
      · rw [oX1 (by omega)]
        exact wd_md (by decide +kernel)
    have hm2 : Md 3 3000 X2 := by
      by_cases c : 0 < k
      · rw [eX2 c]
        refine dueD_md B ?_
        have h1 := Int.emod_nonneg (valD ds bs) (show k ≠ 0 by omega)
        have h2 := Int.emod_lt_of_pos (valD ds bs) c
        have h3 : (valD ds bs % k).natAbs < 2 ^ 140 := by omega
        exact abs_up h3 (by decide)
      · rw [oX2 (by omega)]
        exact wd_md (by decide +kernel)
    have hsh : Sh (.list [X1, X2]) := rows_sh (fun x hx => by
      rcases List.mem_cons.mp hx with e | hx
      · rw [e]; exact hm1
      · rw [List.mem_singleton.mp hx]; exact hm2) (Nat.le_of_ble_eq_true rfl)
    refine ⟨_, rfl, _, _, rfl, rfl, _, rfl, ?_⟩
    refine ifC (fun cp => ?_) (fun cn => ?_)
    · refine ⟨_, rfl, _, rfl, _, _, rfl, rfl, wide_div cp hk2 (by decide) (by decide), _, rfl, p, _, bs, rfl, ep, B, fun d1' H5 s5 td1 => ?_⟩
      refine ⟨_, rfl, .inl ⟨_, rfl, _, rfl, _, _, rfl, rfl, cp, _, rfl, p, _, bs, rfl, s5 _ _ ep, B, fun d2' H6 s6 td2 => ⟨by show 2 ≤ sizeLine; decide, fun r hr' => ?_⟩⟩⟩
      have sr : Same H6 (upd H6 r (.lst [.ref d1', .ref d2'])) := upd_new hr'
      have er : (upd H6 r (.lst [.ref d1', .ref d2'])) r = some (.lst [.ref d1', .ref d2']) := upd_same
      generalize upd H6 r (.lst [.ref d1', .ref d2']) = H7 at sr er ⊢
      have s7 := (s5.trans s6).trans sr
      have nA := nA.same s7
      obtain ⟨dx, da, ba, a1, a2, a3⟩ := id nA
      have tw : TL H7 [.ref d1', .ref d2'] [X1, X2] := ⟨⟨_, rfl, by rw [eX1 cp]; exact td1.same (s6.trans sr)⟩, ⟨_, rfl, by rw [eX2 cp]; exact td2.same sr⟩, trivial⟩
      refine ⟨_, rfl, .ref zq, a, _, rfl, TL.dq a1 (s7 _ _ hz) (tl.same s7), hsh, ?_⟩
      refine ⟨_, rfl, .ref r, a, _, rfl, TL.dq a1 er tw, hsh, rfl, ?_⟩
      exact end_eq (kx _ (X0.same s7).ext (hT.ext s7))
    · obtain ⟨dx, da, ba, a1, a2, a3⟩ := id nA
      have tw : TL Hc [.ref t1, .ref t2] [X1, X2] := ⟨⟨_, rfl, .inr (.inr ⟨"divisor", oX1 (by omega), ea⟩)⟩, ⟨_, rfl, .inr (.inr ⟨"divisor", oX2 (by omega), eb⟩)⟩, trivial⟩
      refine ⟨_, rfl, .ref zq, a, _, rfl, TL.dq a1 hz tl, hsh, ?_⟩
      refine ⟨_, rfl, .ref q, a, _, rfl, TL.dq a1 ec tw, hsh, rfl, ?_⟩
      exact end_eq (kx _ X0.ext hT)
end
end K04

set_option Elab.async false
set_option linter.all false
set_option maxRecDepth 100000
set_option maxHeartbeats 4000000
namespace K04
open PySem PySem.Spec PyProof.Rows L2 Ru
theorem cutN {xs : List V} {n : Nat} : cutV xs none (some (n : Int)) = xs.take n := by
  by_cases c : n ≤ xs.length
  · exact cutTo c
  · rw [cutTop (by omega), List.take_of_length_le (by omega)]
theorem _root_.Ru.PenL.kz {H H' : Hp} {d l zq : Addr} {cells : List Int} {a r : Int} (k : Ki zq H H') (n1 : d ≠ zq) (n2 : l ≠ zq) (P : PenL H d l cells a r) : PenL H' d l cells a r := ⟨k _ _ P.dk n1 (fun _ z => by cases z), k _ _ P.cl n2 (fun _ z => by cases z), P.len, P.a0, P.r0⟩
theorem run_un {C O D U a b : Addr} {f : Int → Int → Int} {i j : Nat} {ds bs es cs : List Int} {σ : L2.St} {G : Hp} (nA : NumAt C G a ds bs) (nB : NumAt C G b es cs) (B1 : Bss bs) (B2 : Bss cs) (ne : cs ≠ bs) (h0 : σ[i]? = some (some (.ref a))) (h1 : σ[j]? = some (some (.ref b))) :
    ∀ H3, LamX.ExtN G H3 → ∀ (Qn : VK) (E : XK), OutX C O D U (wdD "unlike") H3 Qn E → tOp (rOwnI C (spAN f C O U) E) (tVar i) (tVar j) σ H3 Qn := fun H3 x3 Qn E ho => by
  have n3 := num_ext x3 nA
  have m3 := num_ext x3 nB
  obtain ⟨dx, da, ba, a1, _⟩ := id n3
  obtain ⟨ex, ea, ca, c1, _⟩ := id m3
  exact ⟨_, h0, _, h1, a, b, dx, ex, _, _, rfl, rfl, a1, c1, a, b, ds, bs, es, cs, rfl, n3, m3, B1, B2, fun e => (ne e).elim, fun _ => ho.2.2.2 rfl⟩
theorem told_un {H : Hp} {t : Addr} {y : Str} (h : ToldAt H t (wdD y)) : H t = some (.tup [.str y, .non]) := by
  rcases h with ⟨da, ba, ds, bs, e, _⟩ | ⟨v, e, _⟩ | ⟨z, e, h⟩
  · cases e
  · cases e
  · cases e
    exact h
theorem un_at {H : Hp} {t : Addr} {y : Str} (h : H t = some (.tup [.str y, .non])) : ToldAt H t (wdD y) := .inr (.inr ⟨y, rfl, h⟩)
theorem un_dp {K : PySem.W.Frag} {H : Hp} {y : Str} : ∀ {n : Nat} {ts : List V}, TL H ts (List.replicate n (wdD y)) → DpAll K H ts (List.replicate n (wdD y))
  | 0, [], _ => .nil
  | n + 1, _ :: _, ⟨⟨a, e, t⟩, r⟩ => by
    rw [e]
    exact .cons (.tup (Or.inl (.inl (told_un t))) (.cons (.str _) (.cons .non .nil))) (un_dp (n := n) r)
  | 0, _ :: _, h => h.elim
  | _ + 1, [], h => h.elim
theorem shaped_un5 : SeqAt.shaped (.list [wdD "unlike", wdD "unlike", wdD "unlike", wdD "unlike", wdD "unlike"]) = true := by decide +kernel
theorem eqv_un5 : PyData.eqv (.list [wdD "unlike", wdD "unlike", wdD "unlike", wdD "unlike", wdD "unlike"]) (.list [wdD "unlike", wdD "unlike", wdD "unlike", wdD "unlike", wdD "unlike"]) = true := by decide +kernel
theorem eqv_lst {xs ys : List Int} : PyData.eqv (.list (intsD xs)) (.list (intsD ys)) = decide (xs = ys) := by
  rw [PyData.eqv, eqv_ints]
abbrev nUnl : List Str := ["_law_pen_here", "_law_one", "_law_bases_here", "_law_at", "_law_base", "_law_fresh", "_law_some", "_law_other", "_law_great", "_law_told_here"]
theorem sc_unl : FnScope nUnl ["_law_pen_here", "_law_one"] (defScope sLUnlikeRight) := ⟨rfl, rfl, rfl, by decide +kernel, rfl, by decide +kernel, by decide +kernel⟩
def qUnl : Str := (envOfC "_law_unlike_right" (defScope sLUnlikeRight) 0 0 .none).qual ++ "<lambda>"
def spUnl (C : Addr) (T : List (Addr × Str)) : Sp := fun vs H Q _ => ∃ (d l a : Addr) (cells ds bs : List Int) (p0 r0 : Int), vs = [.ref d, .ref a] ∧ PenL H d l cells p0 r0 ∧ p0 ≤ 99900 ∧ NumAt C H a ds bs ∧ Bss bs ∧ Dgs ds bs ∧ LamX.Tabs T H ∧
  ∀ (p r : Int) (H' : Hp), Ki d H H' → LamX.Tabs T H' → PenL H' d l cells p r → p ≤ p0 + 3 → Q (.bl true) H'
section
variable {P : Program} {w : World} {K : PySem.W.Frag} {mg : Str → Option Value} {base : Heap}
theorem ok_unl {C O D U f fR : Addr} {fd fdR : FuncData} {T : List (Addr × Str)} (F : FunD K "_law_unlike_right" "_law_unlike_right" (defArgs sLUnlikeRight) (defBody sLUnlikeRight) (defScope sLUnlikeRight) [] [] f fd) (FR : FunD K "_law_told" "_law_told" (defArgs sLTold) (defBody sLTold) (defScope sLTold) [] [] fR fdR)
    (mR : mg "_law_told" = some (.ref fR)) (N : NumK K mg C) (SC : OpC K C) (R : RfT K mg O D U) (M : SmK K) (hf : He.fAd K ("_law_unlike_right", none) = f) (TB : LamX.TabB base mg (He.cT K ("_law_unlike_right", none)).1 (He.cT K ("_law_unlike_right", none)).2)
    (hmT : ((He.cT K ("_law_unlike_right", none)).2, qUnl) ∈ T) (un : ∀ p ∈ T, p.1 = (He.cT K ("_law_unlike_right", none)).2 → p.2 = qUnl) {mc : Value} {pm g : Addr} (CRD : ClX.CRead K C mc) (CMT : ClX.CMet K C mc "of" pm g) (FOf : FnR P w K mg base (L2.CX P w) 7 g (fun vs H Q E => spOfV C O (vs ++ []) H Q E)) (CC : Cd P w K mg base (L2.CX P w) 4 "count_of" ["bases"] (spCnt K "NoNumeral"))
    (CT : Cd P w K mg base CX0 1 "_law_take" ["_law_pen_here", "_law_limit"] spTakeL) (CP : Cd P w K mg base CX0 2 "_law_pick" ["_law_pen_here", "_law_some"] (spPickL K)) (MAN : CdM P w K mg base (L2.CX P w) 8 C "__add__" ["self", "other"] (spAN (fun i j => i + j) C O U))
    (MSN : CdM P w K mg base (L2.CX P w) 8 C "__sub__" ["self", "other"] (spAN (fun i j => i - j) C O U)) (g_list : mg "list" = none) (g_len : mg "len" = none) (g_int : mg "int" = none) : FnG P w K mg base CX0 11 f fd ["_law_pen_here", "_law_one"] (spUnl C T) := by
  obtain ⟨ocR, odR, dVR, kVR, docR, pmR, anR, cdvR, ctR, oslR, eR, lkR, hcdR, _, _⟩ := FR.ex
  have bR : Binds K fdR ["_law_ask"] [] := FR.bindsN fun _ _ _ _ _ _ us hl => match us, hl with | [_], _ => rfl
  subst eR
  refine okGT F sc_unl (fun vs H Q E h => ?_) (fun c A outer s H vs Q E hco hG hr h => ?_)
  · obtain ⟨d, l, a, cells, ds, bs, p0, r0, rfl, _⟩ := h
    rfl
  · obtain ⟨d, l, a, cells, ds, bs, p0, r0, rfl, PA, hp0, nA, B, d1, hT, kk⟩ := h
    have sc := sc_unl
    have e1 := hco _ hf
    have TB' : LamX.TabB base mg c (He.cT K ("_law_unlike_right", none)).2 := by
      have e2 : (He.cT K ("_law_unlike_right", none)).1 = c := e1
      rw [← e2]
      exact TB
    have r1 := hr.mono (show 1 ≤ 10 by decide)
    have r2 := hr.mono (show 2 ≤ 10 by decide)
    have r4 := hr.mono (show 4 ≤ 10 by decide)
    have r7 := hr.mono (show 7 ≤ 10 by decide)
    refine ⟨_, PSs.nox (pss_cons (ps_set (i := 2) sc.nd rfl (Or.inl rfl) (pe_callTy call_list_of (by rfl) g_list boot_list (pa_cons (pe_fld (pv 1) rfl) pa_nil)))
      (pss_cons (ps_set (i := 3) sc.nd rfl (Or.inl rfl) (pe_cd CT r1 (by rfl) pass0 (pa_cons (pv 0) (pa_cons (pe_callB call_len_seq (by rfl) g_len PySem.boot_len (pa_cons (pv 2) pa_nil)) pa_nil))))
      (pss_cons (ps_set (i := 4) sc.nd rfl (Or.inl rfl) (pe_op op_add pe_int (pe_op op_mod (pe_callTy call_int1 (by rfl) g_int boot_int (pa_cons (pe_op op_sub (pe_ix ix_list (pv 2) (pv 3) (fun _ _ => rfl)) pe_int) pa_nil)) pe_int)))
      (pss_cons (ps_set (i := 5) sc.nd rfl (Or.inl rfl) (pe_op op_cat (pe_op op_cat (pe_slice sl_list (pv 2) po_none (po_some (pv 3))) (pe_lst (pa_cons (pv 4) pa_nil))) (pe_slice sl_list (pv 2) (po_some (pe_op op_add (pv 3) pe_int)) po_none)))
      (pss_cons (ps_set (i := 6) sc.nd rfl (Or.inl rfl) (pe_lst (pa_cons (pv 5) (pa_cons (pe_op op_cat (pe_revL (pv 5)) (pe_lst (pa_cons pe_int pa_nil))) (pa_cons (pv 5) pa_nil)))))
      (pss_cons (ps_set (i := 5) sc.nd rfl (Or.inl rfl) (pe_slice sl_list (pe_cd CP r2 (by rfl) pass0 (pa_cons (pv 0) (pa_cons (pv 6) pa_nil))) po_none (po_some pe_int)))
      (pss_cons (ps_if (pt_cmpR (op_eqD hr.units) (pv 5) (pv 2) (nomark _)) (pss_one (ps_ret pe_bl)) pss_nil)
      (pss_cons (ps_set (i := 7) sc.nd rfl (Or.inr rfl) (ClX.pe_cmeth (pe_glob (v := V.ref C) (by rfl) N.gN rfl) CRD CMT FOf r7 passN (pa_cons (pe_cd CP r2 (by rfl) pass0 (pa_cons (pv 0) (pa_cons (pe_lst (pa_cons pe_int (pa_cons (pe_op op_sub (pe_cd CC r4 (by rfl) passN (pa_cons (pv 5) pa_nil)) pe_int) pa_nil))) pa_nil))) (pa_cons (pv 5) pa_nil))))
      (pss_cons (ps_set (i := 8) sc.nd rfl (Or.inr rfl) (ClX.pe_cmeth (pe_glob (v := V.ref C) (by rfl) N.gN rfl) CRD CMT FOf r7 passN (pa_cons (pe_op op_sub (pe_cd CC r4 (by rfl) passN (pa_cons (pv 2) pa_nil)) pe_int) (pa_cons (pv 2) pa_nil))))
      (pss_cons (ps_set (i := 9) sc.nd rfl (Or.inl rfl) (pe_lst (pa_cons (LamX.pe_lamcall (k := 8) (T := T) (TT := TTd C O D U) (by rfl) mR FR.kp lkR hcdR bR sc_told rfl (Or.inl rfl) (gives_told N R hr) TB' rfl hmT un hr (LamX.lamS_by (sc := defScope sLUnlikeRight) (by decide +kernel)) rfl (fun _ _ _ _ _ => rfl)
            (fun A outer s H E f c' hrA => pe_op (op_bs (op := .Add) MAN (by decide) SC.c hrA (passes_call (takes_of rfl rfl rfl rfl) (fun _ _ _ _ h => h))) (pv 1) (pv 7))) pa_nil)))
      (pss_cons (ps_expr (pe_bm PySem.F.plainAttrs_list PySem.F.slot_list_append PySem.F.type_list_append mt_append (pv 9) (pa_cons (LamX.pe_lamcall (k := 8) (T := T) (TT := TTd C O D U) (by rfl) mR FR.kp lkR hcdR bR sc_told rfl (Or.inl rfl) (gives_told N R hr) TB' rfl hmT un hr (LamX.lamS_by (sc := defScope sLUnlikeRight) (by decide +kernel)) rfl (fun _ _ _ _ _ => rfl)
            (fun A outer s H E f c' hrA => pe_op (op_bs (op := .Sub) MSN (by decide) SC.c hrA (passes_call (takes_of rfl rfl rfl rfl) (fun _ _ _ _ h => h))) (pv 1) (pv 7))) pa_nil)))
      (pss_cons (ps_expr (pe_bm PySem.F.plainAttrs_list PySem.F.slot_list_append PySem.F.type_list_append mt_append (pv 9) (pa_cons (LamX.pe_lamcall (k := 8) (T := T) (TT := TTd C O D U) (by rfl) mR FR.kp lkR hcdR bR sc_told rfl (Or.inl rfl) (gives_told N R hr) TB' rfl hmT un hr (LamX.lamS_by (sc := defScope sLUnlikeRight) (by decide +kernel)) rfl (fun _ _ _ _ _ => rfl)
            (fun A outer s H E f c' hrA => pe_op (op_bs (op := .Add) MAN (by decide) SC.c hrA (passes_call (takes_of rfl rfl rfl rfl) (fun _ _ _ _ h => h))) (pv 7) (pv 1))) pa_nil)))
      (pss_cons (ps_expr (pe_bm PySem.F.plainAttrs_list PySem.F.slot_list_append PySem.F.type_list_append mt_append (pv 9) (pa_cons (LamX.pe_lamcall (k := 8) (T := T) (TT := TTd C O D U) (by rfl) mR FR.kp lkR hcdR bR sc_told rfl (Or.inl rfl) (gives_told N R hr) TB' rfl hmT un hr (LamX.lamS_by (sc := defScope sLUnlikeRight) (by decide +kernel)) rfl (fun _ _ _ _ _ => rfl)
            (fun A outer s H E f c' hrA => pe_op (op_bs (op := .Add) MAN (by decide) SC.c hrA (passes_call (takes_of rfl rfl rfl rfl) (fun _ _ _ _ h => h))) (pv 8) (pv 7))) pa_nil)))
      (pss_cons (ps_expr (pe_bm PySem.F.plainAttrs_list PySem.F.slot_list_append PySem.F.type_list_append mt_append (pv 9) (pa_cons (LamX.pe_lamcall (k := 8) (T := T) (TT := TTd C O D U) (by rfl) mR FR.kp lkR hcdR bR sc_told rfl (Or.inl rfl) (gives_told N R hr) TB' rfl hmT un hr (LamX.lamS_by (sc := defScope sLUnlikeRight) (by decide +kernel)) rfl (fun _ _ _ _ _ => rfl)
            (fun A outer s H E f c' hrA => pe_op (op_bs (op := .Sub) MSN (by decide) SC.c hrA (passes_call (takes_of rfl rfl rfl rfl) (fun _ _ _ _ h => h))) (pv 7) (pv 8))) pa_nil)))
      (pss_one (ps_ret (pe_cmpR (op_eqD hr.units) (pv 9) (pe_op op_rep (pe_lst (pa_cons (pe_tup (pa_cons pe_str (pa_cons pe_non pa_nil))) pa_nil)) pe_int) (nomark _)))))))))))))))))), ?_⟩
    obtain ⟨dx, da, ba, a1, a2, a3⟩ := id nA
    have hB1 := B.1
    have hB4 := B.2.1
    refine ⟨_, rfl, a, C, dx, _, _, rfl, a1, N.cl, N.nB, rfl, ba, _, rfl, .inr (Or.inl a3), fun pb fb => ?_⟩
    have t0 : Bt d H H := Bt.of (Same.refl H)
    have s1 : Same H (upd H pb (.lst (bs.map V.int))) := upd_new fb
    have e1 : (upd H pb (.lst (bs.map V.int))) pb = some (.lst (bs.map V.int)) := upd_same
    have n1 : pb ≠ d := (ne_of_none PA.dk fb).symm
    generalize upd H pb (.lst (bs.map V.int)) = G1 at s1 e1 ⊢
    have T1 := t0.same s1
    have P1' := PA.same s1
    refine ⟨_, rfl, _, rfl, pb, _, rfl, .inl (SqL.of e1), d, l, cells, p0, r0, _, rfl, P1', by omega, by rw [List.length_map]; omega, by rw [List.length_map]; omega, fun zm a2 r2 G2 zm0 zm1 l2' u2 P2' => ?_⟩
    have T2 := T1.trans u2
    have e1 := u2 _ _ e1 n1
    rw [List.length_map] at zm1
    obtain ⟨m, em⟩ := Int.eq_ofNat_of_zero_le zm0
    subst em
    have hm : m < bs.length := by omega
    have jb : bs[m]? = some bs[m] := List.getElem?_eq_getElem hm
    refine ⟨_, rfl, _, rfl, pb, _, _, .int bs[m], rfl, rfl, SqL.of e1, at_of (j := m) rfl (by rw [List.getElem?_map, jb]; rfl), _, _, rfl, rfl, .inl ⟨_, rfl, _, _, rfl, rfl, (show (0 : Int) < 99 by decide), _, _, rfl, rfl, ?_⟩⟩
    have b1 : 2 ≤ 2 + (bs[m] - 1) % 99 := by
      have := Int.emod_nonneg (bs[m] - 1) (show (99 : Int) ≠ 0 by decide)
      omega
    have b2 : 2 + (bs[m] - 1) % 99 ≤ 100 := by
      have := Int.emod_lt_of_pos (bs[m] - 1) (show (0 : Int) < 99 by decide)
      omega
    refine ⟨_, rfl, _, rfl, _, rfl, pb, _, rfl, SqL.of e1, fun c3 f3 => ?_⟩
    have w3 : cutV (bs.map V.int) none (some (m : Int)) = (bs.take m).map V.int := by rw [show (m : Int) = ((m : Nat) : Int) by omega, cutTo (by simp only [List.length_map, List.length_set]; omega), List.map_take]
    rw [w3]
    have s4 : Same G2 (upd G2 c3 (.lst ((bs.take m).map V.int))) := upd_new f3
    have e4 : (upd G2 c3 (.lst ((bs.take m).map V.int))) c3 = some (.lst ((bs.take m).map V.int)) := upd_same
    have n4 : c3 ≠ d := (ne_of_none P2'.dk f3).symm
    generalize upd G2 c3 (.lst ((bs.take m).map V.int)) = G4 at s4 e4 ⊢
    have T4 := T2.same s4
    have P4' := P2'.same s4
    have e1 := s4 _ _ e1
    refine ⟨_, rfl, by show 1 ≤ sizeLine; decide, fun c5 f5 => ?_⟩
    have s6 : Same G4 (upd G4 c5 (.lst [V.int (2 + (bs[m] - 1) % 99)])) := upd_new f5
    have e6 : (upd G4 c5 (.lst [V.int (2 + (bs[m] - 1) % 99)])) c5 = some (.lst [V.int (2 + (bs[m] - 1) % 99)]) := upd_same
    have n6 : c5 ≠ d := (ne_of_none P4'.dk f5).symm
    generalize upd G4 c5 (.lst [V.int (2 + (bs[m] - 1) % 99)]) = G6 at s6 e6 ⊢
    have T6 := T4.same s6
    have P6' := P4'.same s6
    have e1 := s6 _ _ e1
    have e4 := s6 _ _ e4
    refine ⟨c3, c5, _, _, rfl, rfl, e4, e6, by simp only [List.length_map, List.length_append, List.length_take, List.length_drop, List.length_cons, List.length_nil, List.length_set, List.length_reverse, sizeLine_eq]; omega, fun c7 f7 => ?_⟩
    have s8 : Same G6 (upd G6 c7 (.lst ((bs.take m).map V.int ++ [V.int (2 + (bs[m] - 1) % 99)]))) := upd_new f7
    have e8 : (upd G6 c7 (.lst ((bs.take m).map V.int ++ [V.int (2 + (bs[m] - 1) % 99)]))) c7 = some (.lst ((bs.take m).map V.int ++ [V.int (2 + (bs[m] - 1) % 99)])) := upd_same
    have n8 : c7 ≠ d := (ne_of_none P6'.dk f7).symm
    generalize upd G6 c7 (.lst ((bs.take m).map V.int ++ [V.int (2 + (bs[m] - 1) % 99)])) = G8 at s8 e8 ⊢
    have T8 := T6.same s8
    have P8' := P6'.same s8
    have e1 := s8 _ _ e1
    have e4 := s8 _ _ e4
    have e6 := s8 _ _ e6
    refine ⟨_, rfl, _, rfl, _, _, rfl, rfl, _, rfl, pb, _, rfl, SqL.of e1, fun c9 f9 => ?_⟩
    have w9 : cutV (bs.map V.int) (some ((m : Int) + 1)) none = (bs.drop (m + 1)).map V.int := by rw [show (m : Int) + 1 = ((m + 1 : Nat) : Int) by omega, cutFrom (by simp only [List.length_map]; omega), List.map_drop]
    first | rw [w9] | (show ∃ l b xs zs, _; rw [w9]) | (show ∃ a, _; rw [w9])
    have s10 : Same G8 (upd G8 c9 (.lst ((bs.drop (m + 1)).map V.int))) := upd_new f9
    have e10 : (upd G8 c9 (.lst ((bs.drop (m + 1)).map V.int))) c9 = some (.lst ((bs.drop (m + 1)).map V.int)) := upd_same
    have n10 : c9 ≠ d := (ne_of_none P8'.dk f9).symm
    generalize upd G8 c9 (.lst ((bs.drop (m + 1)).map V.int)) = G10 at s10 e10 ⊢
    have T10 := T8.same s10
    have P10' := P8'.same s10
    have e1 := s10 _ _ e1
    have e4 := s10 _ _ e4
    have e6 := s10 _ _ e6
    have e8 := s10 _ _ e8
    refine ⟨c7, c9, _, _, rfl, rfl, e8, e10, by simp only [List.length_map, List.length_append, List.length_take, List.length_drop, List.length_cons, List.length_nil, List.length_set, List.length_reverse, sizeLine_eq]; omega, fun c11 f11 => ?_⟩
    have s12 : Same G10 (upd G10 c11 (.lst ((bs.take m).map V.int ++ [V.int (2 + (bs[m] - 1) % 99)] ++ (bs.drop (m + 1)).map V.int))) := upd_new f11
    have e12 : (upd G10 c11 (.lst ((bs.take m).map V.int ++ [V.int (2 + (bs[m] - 1) % 99)] ++ (bs.drop (m + 1)).map V.int))) c11 = some (.lst ((bs.take m).map V.int ++ [V.int (2 + (bs[m] - 1) % 99)] ++ (bs.drop (m + 1)).map V.int)) := upd_same
    have n12 : c11 ≠ d := (ne_of_none P10'.dk f11).symm
    generalize upd G10 c11 (.lst ((bs.take m).map V.int ++ [V.int (2 + (bs[m] - 1) % 99)] ++ (bs.drop (m + 1)).map V.int)) = G12 at s12 e12 ⊢
    have T12 := T10.same s12
    have P12' := P10'.same s12
    have e1 := s12 _ _ e1
    have e4 := s12 _ _ e4
    have e6 := s12 _ _ e6
    have e8 := s12 _ _ e8
    have e10 := s12 _ _ e10
    have z1 : (bs.take m).map V.int ++ [V.int (2 + (bs[m] - 1) % 99)] ++ (bs.drop (m + 1)).map V.int = (bs.set m (2 + (bs[m] - 1) % 99)).map V.int := by rw [← set_cut hm, List.map_append, List.map_append]; rfl
    rw [z1] at e12
    have Bf : Bss (bs.set m (2 + (bs[m] - 1) % 99)) := bss_set B ⟨b1, b2⟩
    generalize bs.set m (2 + (bs[m] - 1) % 99) = fs at *
    have hF1 := Bf.1
    have hF4 := Bf.2.1
    refine ⟨_, rfl, _, rfl, c11, _, rfl, SqL.of e12, fun rv fv => ?_⟩
    have s14 : Same G12 (upd G12 rv (.lst (fs.map V.int).reverse)) := upd_new fv
    have e14 : (upd G12 rv (.lst (fs.map V.int).reverse)) rv = some (.lst (fs.map V.int).reverse) := upd_same
    have n14 : rv ≠ d := (ne_of_none P12'.dk fv).symm
    generalize upd G12 rv (.lst (fs.map V.int).reverse) = G14 at s14 e14 ⊢
    have T14 := T12.same s14
    have P14' := P12'.same s14
    have e1 := s14 _ _ e1
    have e12 := s14 _ _ e12
    refine ⟨by show 1 ≤ sizeLine; decide, fun c15 f15 => ?_⟩
    have s16 : Same G14 (upd G14 c15 (.lst [V.int 2])) := upd_new f15
    have e16 : (upd G14 c15 (.lst [V.int 2])) c15 = some (.lst [V.int 2]) := upd_same
    have n16 : c15 ≠ d := (ne_of_none P14'.dk f15).symm
    generalize upd G14 c15 (.lst [V.int 2]) = G16 at s16 e16 ⊢
    have T16 := T14.same s16
    have P16' := P14'.same s16
    have e1 := s16 _ _ e1
    have e12 := s16 _ _ e12
    have e14 := s16 _ _ e14
    refine ⟨rv, c15, _, _, rfl, rfl, e14, e16, by simp only [List.length_map, List.length_append, List.length_take, List.length_drop, List.length_cons, List.length_nil, List.length_set, List.length_reverse, sizeLine_eq]; omega, fun c17 f17 => ?_⟩
    have s18 : Same G16 (upd G16 c17 (.lst ((fs.map V.int).reverse ++ [V.int 2]))) := upd_new f17
    have e18 : (upd G16 c17 (.lst ((fs.map V.int).reverse ++ [V.int 2]))) c17 = some (.lst ((fs.map V.int).reverse ++ [V.int 2])) := upd_same
    have n18 : c17 ≠ d := (ne_of_none P16'.dk f17).symm
    generalize upd G16 c17 (.lst ((fs.map V.int).reverse ++ [V.int 2])) = G18 at s18 e18 ⊢
    have T18 := T16.same s18
    have P18' := P16'.same s18
    have e1 := s18 _ _ e1
    have e12 := s18 _ _ e12
    have e14 := s18 _ _ e14
    have e16 := s18 _ _ e16
    refine ⟨_, rfl, by show 3 ≤ sizeLine; decide, fun sm fm => ?_⟩
    have s19 : Same G18 (upd G18 sm (.lst [.ref c11, .ref c17, .ref c11])) := upd_new fm
    have e19 : (upd G18 sm (.lst [.ref c11, .ref c17, .ref c11])) sm = some (.lst [.ref c11, .ref c17, .ref c11]) := upd_same
    have n19 : sm ≠ d := (ne_of_none P18'.dk fm).symm
    generalize upd G18 sm (.lst [.ref c11, .ref c17, .ref c11]) = G19 at s19 e19 ⊢
    have T19 := T18.same s19
    have P19' := P18'.same s19
    have e1 := s19 _ _ e1
    have e12 := s19 _ _ e12
    have e14 := s19 _ _ e14
    have e16 := s19 _ _ e16
    have e18 := s19 _ _ e18
    refine ⟨_, rfl, _, rfl, d, l, sm, cells, a2, r2, _, rfl, P19', by omega, n19, SqL.of e19, by show 0 < 3; decide, by show 3 ≤ 1000; decide, fun j v p1 r1' Hp hj lp tp PP => ?_⟩
    have e1 := tp _ _ e1 n1
    have e12 := tp _ _ e12 n12
    have e14 := tp _ _ e14 n14
    have e16 := tp _ _ e16 n16
    have e18 := tp _ _ e18 n18
    have e19 := tp _ _ e19 n19
    have TT := T19.trans tp
    obtain ⟨q, zs, ev, eq, nq, Bz⟩ : ∃ (q : Addr) (zs : List Int), v = .ref q ∧ Hp q = some (.lst (zs.map V.int)) ∧ q ≠ d ∧ Bss (zs.take 4) := by
      have zr : (fs.map V.int).reverse ++ [V.int 2] = (fs.reverse ++ [2]).map V.int := by rw [List.map_append, List.map_reverse]; rfl
      have bf : Bss (fs.take 4) := by rw [List.take_of_length_le hF4]; exact Bf
      match j, hj with
      | 0, hj => exact ⟨c11, fs, (Option.some.inj hj).symm, e12, n12, bf⟩
      | 1, hj =>
        refine ⟨c17, fs.reverse ++ [2], (Option.some.inj hj).symm, by rw [← zr]; exact e18, n18, by rw [List.length_take, List.length_append, List.length_reverse]; show 1 ≤ min 4 (fs.length + 1); omega, by rw [List.length_take]; omega, fun z hz => ?_⟩
        rcases List.mem_append.mp (List.mem_of_mem_take hz) with h | h
        · exact Bf.2.2 z (List.mem_reverse.mp h)
        · rw [List.mem_singleton.mp h]
          decide
      | 2, hj => exact ⟨c11, fs, (Option.some.inj hj).symm, e12, n12, bf⟩
      | j + 3, hj => cases hj
    subst ev
    refine ⟨_, rfl, q, _, rfl, SqL.of eq, fun fq ff => ?_⟩
    have w4 : cutV (zs.map V.int) none (some 4) = (zs.take 4).map V.int := by
      rw [show (4 : Int) = ((4 : Nat) : Int) by rfl, cutN, List.map_take]
    rw [w4]
    generalize zs.take 4 = cs at *
    have s20 : Same Hp (upd Hp fq (.lst (cs.map V.int))) := upd_new ff
    have e20 : (upd Hp fq (.lst (cs.map V.int))) fq = some (.lst (cs.map V.int)) := upd_same
    have n20 : fq ≠ d := (ne_of_none PP.dk ff).symm
    generalize upd Hp fq (.lst (cs.map V.int)) = G20 at s20 e20 ⊢
    have T20 := TT.same s20
    have P20' := PP.same s20
    have e1 := s20 _ _ e1
    refine ⟨_, rfl, _, rfl, .list (intsD cs), .list (intsD bs), .lst (SqL.of e20) dp_ints, .lst (SqL.of e1) dp_ints, shaped_ints, shaped_ints, _, rfl, ?_⟩
    rw [eqv_lst]
    by_cases c0 : cs = bs
    · rw [decide_eq_true c0]
      exact iteT (kk _ _ _ (Ki.of T20) (tabs_bt PA.dk T20 hT) P20' (by omega))
    rw [decide_eq_false c0]
    refine iteF ?_
    obtain ⟨_, pc1, pc2⟩ := room_abs Bz
    obtain ⟨_, pb1, pb2⟩ := room_abs B
    have cB : ∀ {ys us : List Int}, (PyData.list (intsD us) = .list (intsD ys) ∨ PyData.list (intsD us) = .tuple (intsD ys)) → ys = us := fun {ys us} hx => by
      rcases hx with e | e
      · injection e with e
        exact (intsD_inj e).symm
      · cases e
    refine ⟨rfl, _, rfl, _, rfl, _, fq + 1, _, rfl, .lst (SqL.of e20) (Nat.ne_of_lt (Nat.lt_succ_self fq)) dq_ints, fun ys _ hx Hc sc' => ?_, fun z => by rw [(basesD_of Bz).1] at z; cases z⟩
    have ey := cB hx
    subst ey
    have e1 := sc' _ _ e1
    have e20 := sc' _ _ e20
    have TC := T20.same sc'
    have PC := P20'.same sc'
    refine ⟨_, _, rfl, rfl, by show 2 ≤ sizeLine; decide, fun vq fv2 => ?_⟩
    have s21 : Same Hc (upd Hc vq (.lst [.int 0, .int (prodL ys - 1)])) := upd_new fv2
    have e21 : (upd Hc vq (.lst [.int 0, .int (prodL ys - 1)])) vq = some (.lst [.int 0, .int (prodL ys - 1)]) := upd_same
    have n21 : vq ≠ d := (ne_of_none PC.dk fv2).symm
    generalize upd Hc vq (.lst [.int 0, .int (prodL ys - 1)]) = G21 at s21 e21 ⊢
    have T21 := TC.same s21
    have P21' := PC.same s21
    have e1 := s21 _ _ e1
    have e20 := s21 _ _ e20
    refine ⟨d, l, vq, cells, p1, r1', _, rfl, P21', by omega, n21, SqL.of e21, by show 0 < 2; decide, by show 2 ≤ 1000; decide, fun j2 v2 p2 r2' Hv hj2 lv tv PV => ?_⟩
    have e1 := tv _ _ e1 n1
    have e20 := tv _ _ e20 n20
    have e21 := tv _ _ e21 n21
    have TV := T21.trans tv
    obtain ⟨vo, ev2, hv0⟩ : ∃ vo : Int, v2 = .int vo ∧ vo / prodL ys = 0 := by
      match j2, hj2 with
      | 0, hj2 => exact ⟨0, (Option.some.inj hj2).symm, Int.zero_ediv _⟩
      | 1, hj2 => exact ⟨prodL ys - 1, (Option.some.inj hj2).symm, (in_room (by omega)).mpr ⟨by omega, by omega⟩⟩
      | j2 + 2, hj2 => cases hj2
    subst ev2
    refine ⟨_, rfl, fq, false, ys, vo, rfl, .inl e20, Bz, fun _ ro Ho so no => ?_, fun e => (e hv0).elim⟩
    have dgo := dgsV_dgs (bs := ys) (v := vo) Bz.2.2
    generalize dgsV ys vo = eo at no dgo
    have e1 := so _ _ e1
    have e20 := so _ _ e20
    have TO := TV.same so
    have PO := PV.same so
    refine ⟨rfl, _, rfl, _, pb + 1, _, rfl, .lst (SqL.of e1) (Nat.ne_of_lt (Nat.lt_succ_self pb)) dq_ints, fun xs _ hx Hd sd => ?_, fun z => by rw [(basesD_of B).1] at z; cases z⟩
    have ex := cB hx
    subst ex
    have no := no.same sd
    have e1 := sd _ _ e1
    have TO := TO.same sd
    have PO := PO.same sd
    refine ⟨_, _, rfl, rfl, _, rfl, pb, false, xs, _, rfl, .inl e1, B, fun _ rg Hg sg ng => ?_, fun e => (e ((in_room (by omega)).mpr ⟨by omega, by omega⟩)).elim⟩
    have dgg := dgsV_dgs (bs := xs) (v := prodL xs - 1) B.2.2
    generalize dgsV xs (prodL xs - 1) = eg at ng dgg
    have no := no.same sg
    have TO := TO.same sg
    have PO := PO.same sg
    have nA := nA.ki (Ki.of TO) PA.dk
    have hT := tabs_bt PA.dk TO hT
    refine sd_new (x := wdD "unlike") hT ?_ fun zq u0 H0 X0 hT hz tl => ?_
    · exact run_un (f := fun i j => i + j) nA no B Bz c0 rfl rfl
    have nA := num_ext X0.ext nA
    have no := num_ext X0.ext no
    have ng := num_ext X0.ext ng
    have nzd := (X0 _ _ PO.dk (fun _ z => by cases z)).1
    have nzl := (X0 _ _ PO.cl (fun _ z => by cases z)).1
    have PO := PO.ext X0.ext
    refine sd_app (x := wdD "unlike") rfl hT hz tl (Nat.le_of_ble_eq_true rfl) ?_ fun u1 H1' k1 hT hz1 tl => ?_
    · exact run_un (f := fun i j => i - j) nA no B Bz c0 rfl rfl
    have nA := nA.ki k1 hz
    have no := no.ki k1 hz
    have ng := ng.ki k1 hz
    have X0 := X0.ki k1
    have PO := PO.kz k1 nzd nzl
    have hz := hz1
    refine sd_app (x := wdD "unlike") rfl hT hz tl (Nat.le_of_ble_eq_true rfl) ?_ fun u2 H2' k2 hT hz2 tl => ?_
    · exact run_un (f := fun i j => i + j) no nA Bz B (fun e => c0 e.symm) rfl rfl
    have nA := nA.ki k2 hz
    have no := no.ki k2 hz
    have ng := ng.ki k2 hz
    have X0 := X0.ki k2
    have PO := PO.kz k2 nzd nzl
    have hz := hz2
    refine sd_app (x := wdD "unlike") rfl hT hz tl (Nat.le_of_ble_eq_true rfl) ?_ fun u3 H3' k3 hT hz3 tl => ?_
    · exact run_un (f := fun i j => i + j) ng no B Bz c0 rfl rfl
    have nA := nA.ki k3 hz
    have no := no.ki k3 hz
    have ng := ng.ki k3 hz
    have X0 := X0.ki k3
    have PO := PO.kz k3 nzd nzl
    have hz := hz3
    refine sd_app (x := wdD "unlike") rfl hT hz tl (Nat.le_of_ble_eq_true rfl) ?_ fun u4 H4' k4 hT hz4 tl => ?_
    · exact run_un (f := fun i j => i - j) no ng Bz B (fun e => c0 e.symm) rfl rfl
    have nA := nA.ki k4 hz
    have no := no.ki k4 hz
    have ng := ng.ki k4 hz
    have X0 := X0.ki k4
    have PO := PO.kz k4 nzd nzl
    have hz := hz4
    refine ⟨_, rfl, by show 2 ≤ sizeLine; decide, fun tu ftu => ⟨by show 1 ≤ sizeLine; decide, fun sq fsq => ?_⟩⟩
    have s1 : Same H4' (upd H4' tu (.tup [.str "unlike", .non])) := upd_new ftu
    have e1 : (upd H4' tu (.tup [.str "unlike", .non])) tu = some (.tup [.str "unlike", .non]) := upd_same
    generalize upd H4' tu (.tup [.str "unlike", .non]) = Hx at s1 e1 fsq ⊢
    have s2 : Same Hx (upd Hx sq (.lst [.ref tu])) := upd_new fsq
    have e2 : (upd Hx sq (.lst [.ref tu])) sq = some (.lst [.ref tu]) := upd_same
    generalize upd Hx sq (.lst [.ref tu]) = Hy at s2 e2 ⊢
    refine ⟨sq, _, _, rfl, rfl, e2, by decide, by decide, by rw [sizeLine_eq]; exact Nat.le_of_ble_eq_true rfl, fun rq frq => ?_⟩
    have s3 : Same Hy (upd Hy rq (.lst (List.replicate (Int.toNat 5) [V.ref tu]).flatten)) := upd_new frq
    have e3 : (upd Hy rq (.lst (List.replicate (Int.toNat 5) [V.ref tu]).flatten)) rq = some (.lst [.ref tu, .ref tu, .ref tu, .ref tu, .ref tu]) := upd_same
    generalize upd Hy rq (.lst (List.replicate (Int.toNat 5) [V.ref tu]).flatten) = Hz at s3 e3 ⊢
    have ss := (s1.trans s2).trans s3
    have e1 := s3 _ _ (s2 _ _ e1)
    have tw : TL Hz [.ref tu, .ref tu, .ref tu, .ref tu, .ref tu] (List.replicate 5 (wdD "unlike")) := ⟨⟨tu, rfl, un_at e1⟩, ⟨tu, rfl, un_at e1⟩, ⟨tu, rfl, un_at e1⟩, ⟨tu, rfl, un_at e1⟩, ⟨tu, rfl, un_at e1⟩, trivial⟩
    refine ⟨.list [wdD "unlike", wdD "unlike", wdD "unlike", wdD "unlike", wdD "unlike"], .list [wdD "unlike", wdD "unlike", wdD "unlike", wdD "unlike", wdD "unlike"], .lst (SqL.of (ss _ _ hz)) (un_dp (n := 5) (y := "unlike") (tl.same ss)), .lst (SqL.of e3) (un_dp (n := 5) (y := "unlike") tw), shaped_un5, shaped_un5, ?_⟩
    rw [eqv_un5]
    exact kk _ _ _ (((Ki.of TO).trans (Ki.ext X0.ext)).trans (Ki.same ss)) (hT.ext ss) (PO.same ss) (by omega)
end
end K04

set_option Elab.async false
set_option linter.all false
set_option maxRecDepth 100000
set_option maxHeartbeats 4000000
namespace K04
open PySem PySem.Spec PyProof.Rows L2 Ru
theorem ToldAt.dqT {K : PySem.W.Frag} {H : Hp} {t m : Addr} {x : PyData} (hm : ∃ ps, H m = some (.tbl ps)) (h : ToldAt H t x) : Dq K m H (.ref t) x := by
  obtain ⟨ps, hm⟩ := hm
  have ne : ∀ {a : Addr} {xs : List V}, H a = some (.tup xs) → a ≠ m := fun e n => by
    rw [n, hm] at e
    cases e
  have ne2 : ∀ {a : Addr} {xs : List V}, Rd H a (.tup xs) → a ≠ m := fun e n => by
    rcases e with e | ⟨o, e⟩ <;> rw [n, hm] at e <;> cases e
  rcases h with ⟨da, ba, ds, bs, e, h1, h2, h3⟩ | ⟨v, e, h1⟩ | ⟨y, e, h1⟩
  · rw [e]
    exact .tup (.inl h1) (ne h1) (.cons (.tup h2 (ne2 h2) dq_ints) (.cons (.tup h3 (ne2 h3) dq_ints) .nil))
  · rw [e]
    exact .tup (.inl h1) (ne h1) (.cons (.str _) (.cons (.int _) .nil))
  · rw [e]
    exact .tup (.inl h1) (ne h1) (.cons (.str _) (.cons .non .nil))
theorem TL.dqaT {K : PySem.W.Frag} {H : Hp} {m : Addr} (hm : ∃ ps, H m = some (.tbl ps)) : ∀ {ts : List V} {xs : List PyData}, TL H ts xs → DqA K m H ts xs
  | [], [], _ => .nil
  | _ :: _, _ :: _, ⟨⟨a, e, t⟩, r⟩ => by
    rw [e]
    exact .cons (t.dqT hm) (TL.dqaT hm r)
  | [], _ :: _, h => h.elim
  | _ :: _, [], h => h.elim
theorem TL.dqT {K : PySem.W.Frag} {H : Hp} {q m : Addr} {ts : List V} {xs : List PyData} (hm : ∃ ps, H m = some (.tbl ps)) (hq : H q = some (.lst ts)) (h : TL H ts xs) : Dq K m H (.ref q) (.list xs) :=
  .lst (SqL.of hq) (fun e => by
    obtain ⟨ps, hm⟩ := hm
    rw [e, hm] at hq
    cases hq) (TL.dqaT hm h)
abbrev nOfR : List Str := ["_law_bases_here", "_law_room", "_law_values", "_law_told_here", "_law_value"]
theorem sc_ofr : FnScope nOfR ["_law_bases_here", "_law_room"] (defScope sLOfRight) := ⟨rfl, rfl, rfl, by decide +kernel, rfl, by decide +kernel, by decide +kernel⟩
def qOfR : Str := (envOfC "_law_of_right" (defScope sLOfRight) 0 0 .none).qual ++ "<lambda>"
def spOfR (T : List (Addr × Str)) : Sp := fun vs H Q _ => ∃ (p : Addr) (bs : List Int), vs = [.ref p, .int (prodL bs)] ∧ H p = some (.lst (bs.map V.int)) ∧ Bss bs ∧ LamX.Tabs T H ∧ ∀ H', LamX.ExtN H H' → LamX.Tabs T H' → Q (.bl true) H'
section
variable {P : Program} {w : World} {K : PySem.W.Frag} {mg : Str → Option Value} {base : Heap}
theorem ok_ofr {C O D U f fR : Addr} {fd fdR : FuncData} {T : List (Addr × Str)} (F : FunD K "_law_of_right" "_law_of_right" (defArgs sLOfRight) (defBody sLOfRight) (defScope sLOfRight) [] [] f fd) (FR : FunD K "_law_told" "_law_told" (defArgs sLTold) (defBody sLTold) (defScope sLTold) [] [] fR fdR)
    (mR : mg "_law_told" = some (.ref fR)) (N : NumK K mg C) (SC : OpC K C) (R : RfT K mg O D U) (M : SmK K) (hf : He.fAd K ("_law_of_right", none) = f) (TB : LamX.TabB base mg (He.cT K ("_law_of_right", none)).1 (He.cT K ("_law_of_right", none)).2)
    (hmT : ((He.cT K ("_law_of_right", none)).2, qOfR) ∈ T) (un : ∀ p ∈ T, p.1 = (He.cT K ("_law_of_right", none)).2 → p.2 = qOfR) {mc : Value} {pm g : Addr} (CRD : ClX.CRead K C mc) (CMT : ClX.CMet K C mc "of" pm g) (FOf : FnR P w K mg base (L2.CX P w) 7 g (fun vs H Q E => spOfV C O (vs ++ []) H Q E))
    (CD : Cd P w K mg base CX0 1 "_law_due" ["_law_value", "_law_bases_here"] spDue) (g_repr : mg "repr" = none) : FnG P w K mg base CX0 10 f fd ["_law_bases_here", "_law_room"] (spOfR T) := by
  obtain ⟨ocR, odR, dVR, kVR, docR, pmR, anR, cdvR, ctR, oslR, eR, lkR, hcdR, _, _⟩ := FR.ex
  have bR : Binds K fdR ["_law_ask"] [] := FR.bindsN fun _ _ _ _ _ _ us hl => match us, hl with | [_], _ => rfl
  subst eR
  refine okGT F sc_ofr (fun vs H Q E h => ?_) (fun c A outer s H vs Q E hco hG hr h => ?_)
  · obtain ⟨p, bs, rfl, _⟩ := h
    rfl
  · obtain ⟨p, bs, rfl, hp, B, hT, kk⟩ := h
    have sc := sc_ofr
    have e1 := hco _ hf
    have TB' : LamX.TabB base mg c (He.cT K ("_law_of_right", none)).2 := by
      have e2 : (He.cT K ("_law_of_right", none)).1 = c := e1
      rw [← e2]
      exact TB
    have r1 := hr.mono (show 1 ≤ 9 by decide)
    refine ⟨_, PSs.nox (pss_cons (ps_set (i := 2) sc.nd rfl (Or.inl rfl) (pe_lst (pa_cons pe_int (pa_cons (pe_op op_sub (pv 1) pe_int) (pa_cons (pv 1) (pa_cons (pe_un un_neg pe_int) (pa_cons (pe_op op_pow pe_int pe_int) (pa_cons (pe_un un_neg (pe_op op_pow pe_int pe_int)) (pa_cons (pe_op op_add (pv 1) pe_int) pa_nil)))))))))
      (pss_cons (ps_setLc (i := 3) (own := [("_law_value", 4)]) (g := gName 4) (tt := tYes) (te := LamX.tLam T (TTd C O D U) (fun E => ClX.tCMeth C (fun vs H Q E => spOfV C O (vs ++ []) H Q E) E (tC (.ref C)) (tCons (tVar 4) (tCons (tVar 0) tNil)))) rfl sc.nd rfl rfl (sw_true rfl rfl rfl (by decide +kernel)) (pi_list (pv 2)) (blkOk_by (N := nOfR) (sc := defScope sLOfRight) (by decide +kernel))
        (fun _ _ _ _ _ => pg_name (i := 4) sc.nd rfl (Or.inr rfl)) (fun _ _ _ _ _ => pts_nil) (fun _ _ _ _ _ => (LamX.pe_lamcall (k := 7) (T := T) (TT := TTd C O D U) (by rfl) mR FR.kp lkR hcdR bR sc_told rfl (Or.inl rfl) (gives_told N R hr) TB' rfl hmT un hr (LamX.lamS_by (by show LamX.lamSB (relS _ (defScope sLOfRight)) _ = true; decide +kernel)) rfl (fun _ _ _ _ _ => rfl)
            (fun A outer s H E f c' hrA => ClX.pe_cmeth (pe_glob (v := V.ref C) (by rfl) N.gN rfl) CRD CMT FOf hrA (passes_call (takes_of rfl rfl rfl rfl) (fun _ _ _ _ h => h)) (pa_cons (pv 4) (pa_cons (pv 0) pa_nil))))))
      (pss_one (ps_ret (pe_cmpR op_eq (pe_callB (call_reprQ M hG hr.units) (by rfl) g_repr boot_repr (pa_cons (pv 3) pa_nil)) (pe_callB (call_reprQ M hG hr.units) (by rfl) g_repr boot_repr (pa_cons (pe_lc (own := [("_law_value", 4)]) (g := gName 4) (tt := tYes) (te := tCall spDue [] E0 (tCons (tVar 4) (tCons (tVar 0) tNil))) rfl sc.nd (pi_list (pv 2)) (blkOk_by (N := nOfR) (sc := defScope sLOfRight) (by decide +kernel)) (fun _ _ _ _ _ => pg_name (i := 4) sc.nd rfl (Or.inl rfl)) (fun _ _ _ _ _ => pts_nil)
        (fun _ _ _ _ _ => pe_cd CD r1 (by rfl) pass0 (pa_cons (pv 4) (pa_cons (pv 0) pa_nil)))) pa_nil)) (nomark _)))))), ?_⟩
    obtain ⟨rm, rp1, rp2⟩ := room_abs B
    refine ⟨_, rfl, _, _, rfl, rfl, _, rfl, _, rfl, _, _, rfl, rfl, ⟨by decide, by decide, by decide⟩, _, _, rfl, rfl, ⟨by decide, by decide, by decide⟩, _, rfl, _, rfl, _, _, rfl, rfl, by show 7 ≤ sizeLine; decide, fun y hy => ?_⟩
    have sy : Same H (upd H y (.lst [.int 0, .int (prodL bs - 1), .int (prodL bs), .int (-1), .int (10 ^ Int.toNat 40), .int (-(10 ^ Int.toNat 40)), .int (prodL bs + 1)])) := upd_new hy
    have ey : (upd H y (.lst [.int 0, .int (prodL bs - 1), .int (prodL bs), .int (-1), .int (10 ^ Int.toNat 40), .int (-(10 ^ Int.toNat 40)), .int (prodL bs + 1)])) y = some (.lst (([0, prodL bs - 1, prodL bs, -1, 10 ^ Int.toNat 40, -(10 ^ Int.toNat 40), prodL bs + 1] : List Int).map V.int)) := upd_same
    have small : ∀ z ∈ ([0, prodL bs - 1, prodL bs, -1, 10 ^ Int.toNat 40, -(10 ^ Int.toNat 40), prodL bs + 1] : List Int), z.natAbs < 2 ^ 500 := by
      have q27 : (2 : Nat) ^ 140 = 1393796574908163946345982392040522594123776 := by decide
      have h0 : ∀ z : Int, z.natAbs < 2 ^ 140 → z.natAbs < 2 ^ 500 := fun z h => abs_up h (by decide)
      intro z hz
      simp only [List.mem_cons, List.not_mem_nil, or_false] at hz
      rcases hz with e | e | e | e | e | e | e <;> rw [e]
      · exact h0 _ (by decide)
      · exact h0 _ (by omega)
      · exact h0 _ (by omega)
      · exact h0 _ (by decide)
      · exact h0 _ (by decide)
      · exact h0 _ (by decide)
      · exact h0 _ (by omega)
    have len : ([0, prodL bs - 1, prodL bs, -1, 10 ^ Int.toNat 40, -(10 ^ Int.toNat 40), prodL bs + 1] : List Int).length = 7 := rfl
    generalize upd H y (.lst [.int 0, .int (prodL bs - 1), .int (prodL bs), .int (-1), .int (10 ^ Int.toNat 40), .int (-(10 ^ Int.toNat 40)), .int (prodL bs + 1)]) = Hy at sy ey ⊢
    generalize ([0, prodL bs - 1, prodL bs, -1, 10 ^ Int.toNat 40, -(10 ^ Int.toNat 40), prodL bs + 1] : List Int) = zs at ey small len
    have ep := sy _ _ hp
    have hT := hT.ext sy
    refine ⟨_, rfl, y, rfl, ⟨_, SqL.of ey⟩, fun D1 hD1 => ?_⟩
    refine lc_it walk_list (fun i H' => ∃ ts, LamX.ExtN Hy H' ∧ LamX.Tabs T H' ∧ H' D1 = some (.lst ts) ∧ TL H' ts ((zs.take i).map (dueD bs))) ⟨[], LamX.ExtN.of (upd_new hD1), hT.ext (upd_new hD1), upd_same, trivial⟩ (fun i H' _ ⟨_, s, _⟩ => SqL.of (s _ _ ey (fun _ z => by cases z))) ?_ ?_
    · rintro i v H8 H9 hi ⟨ts, x8, T8, eD, t8⟩ ⟨rfl, ev⟩
      rw [List.length_map] at hi
      have j1 : zs[i]? = some zs[i] := List.getElem?_eq_getElem hi
      rw [List.getElem?_map, j1] at ev
      cases ev
      refine ⟨rfl, yesT ?_⟩
      refine yes_ (told_out (x := dueD bs zs[i]) T8 (fun H3 x3 Qn E ho => ?_) fun t H4 x4 T4 td => ?_)
      · exact ⟨rfl, _, rfl, _, rfl, p, false, bs, zs[i], rfl, .inl ((x8.trans x3) _ _ ep (fun _ z => by cases z)), B, ho.out⟩
      · have eD' := x4 _ _ eD (fun _ z => by cases z)
        refine ⟨ts, eD', by rw [t8.len, List.length_map, List.length_take, sizeLine_eq]; omega, ts ++ [.ref t], ext_put (LamX.ExtN.refl Hy) hD1 (x8.trans x4), tabs_bt eD' .put T4, upd_same, ?_⟩
        have kp : Ki D1 H4 (upd H4 D1 (.lst (ts ++ [.ref t]))) := Ki.of .put
        rw [List.take_succ, j1, List.map_append]
        exact TL.app (td.ki kp eD') ((t8.ext x4).ki kp eD')
    · rintro H8 ⟨ts, x8, T8, eD, t8⟩
      rw [List.length_map, List.take_of_length_le (Nat.le_refl _)] at t8
      have ey8 := x8 _ _ ey (fun _ z => by cases z)
      have ep8 := x8 _ _ ep (fun _ z => by cases z)
      have hsh : Sh (.list (zs.map (dueD bs))) := rows_sh (fun x hx => by
        obtain ⟨z, hz, e⟩ := List.mem_map.mp hx
        rw [← e]
        exact dueD_md B (small z hz)) (by rw [List.length_map]; omega)
      obtain ⟨m, pm⟩ : ∃ m, ∃ ps, H8 m = some (.tbl ps) := by
        obtain ⟨ps, h1, _⟩ := T8 _ hmT
        exact ⟨_, ps, h1⟩
      refine ⟨_, rfl, .ref D1, m, .list (zs.map (dueD bs)), rfl, TL.dqT pm eD t8, hsh, ?_⟩
      refine ⟨_, rfl, y, rfl, ⟨_, SqL.of ey8⟩, fun D0 hD => ?_⟩
      refine lc_it walk_list (fun i H' => ∃ ts, Same H8 H' ∧ H' D0 = some (.lst ts) ∧ TL H' ts ((zs.take i).map (dueD bs))) ⟨[], upd_new hD, upd_same, trivial⟩ (fun i H' _ ⟨_, s, _⟩ => SqL.of (s _ _ ey8)) ?_ ?_
      · rintro i v H9 H10 hi ⟨us, s9, eD9, t9⟩ ⟨rfl, ev⟩
        rw [List.length_map] at hi
        have j1 : zs[i]? = some zs[i] := List.getElem?_eq_getElem hi
        rw [List.getElem?_map, j1] at ev
        cases ev
        refine ⟨rfl, yesT ?_⟩
        refine yes_ ⟨_, rfl, _, rfl, p, zs[i], bs, rfl, s9 _ _ ep8, B, fun t H11 sl td => ?_⟩
        have eD' := sl _ _ eD9
        refine ⟨us, eD', by rw [t9.len, List.length_map, List.length_take, sizeLine_eq]; omega, us ++ [.ref t], same_put hD (s9.trans sl), upd_same, ?_⟩
        have kp : Ki D0 H11 (upd H11 D0 (.lst (us ++ [.ref t]))) := Ki.of .put
        rw [List.take_succ, j1, List.map_append]
        exact TL.app (td.ki kp eD') ((t9.same sl).ki kp eD')
      · rintro H9 ⟨us, s9, eD9, t9⟩
        rw [List.length_map, List.take_of_length_le (Nat.le_refl _)] at t9
        obtain ⟨ps, pm⟩ := pm
        refine ⟨.ref D0, m, .list (zs.map (dueD bs)), rfl, TL.dqT ⟨ps, s9 _ _ pm⟩ eD9 t9, hsh, rfl, ?_⟩
        exact end_eq (kk _ ((LamX.ExtN.of sy).trans (x8.trans (LamX.ExtN.of s9))) (T8.ext s9))
end
end K04

set_option Elab.async false
set_option linter.all false
set_option maxRecDepth 100000
set_option maxHeartbeats 4000000
namespace K04
open PySem PySem.Spec PyProof.Rows L2 Ru
def quadD (ds : List Int) (v : Int) (es : List Int) (w : Int) : PyData := .tuple [.tuple (intsD ds), .int v, .tuple (intsD es), .int w]
theorem shaped_quad {ds es : List Int} {v w : Int} : SeqAt.shaped (quadD ds v es w) = true := by
  have h1 := deep_ints (cells := ds)
  have h2 := lay_ints (cells := ds)
  have h3 := deep_ints (cells := es)
  have h4 := lay_ints (cells := es)
  unfold SeqAt.shaped quadD
  rw [Bool.and_eq_true]
  refine ⟨?_, decide_eq_true ?_⟩
  · simp only [PyData.canLay0, PyData.canLayAll0, h2, h4, Bool.and_self]
  · simp only [PyData.depth, PyData.depthAll]
    omega
theorem eqv_quad {ds es : List Int} {v w : Int} : PyData.eqv (quadD ds v es w) (quadD ds v es w) = true := by
  unfold quadD
  simp [PyData.eqv, PyData.eqvAll, eqv_ints]
theorem quad_dp {K : PySem.W.Frag} {H : Hp} {t da ea : Addr} {ds es : List Int} {v w : Int} (h : H t = some (.tup [.ref da, .int v, .ref ea, .int w])) (r1 : Rd H da (.tup (ds.map V.int))) (r2 : Rd H ea (.tup (es.map V.int))) : Dp K H (.ref t) (quadD ds v es w) :=
  .tup (Or.inl (.inl h)) (.cons (.tup (Or.inl r1) dp_ints) (.cons (.int _) (.cons (.tup (Or.inl r2) dp_ints) (.cons (.int _) .nil))))
abbrev nInp : List Str := ["_law_one", "_law_other", "_law_face", "_law_fresh", "_law_more"]
theorem sc_inp : FnScope nInp ["_law_one", "_law_other"] (defScope sLInPlaceRight) := ⟨rfl, rfl, rfl, by decide +kernel, rfl, by decide +kernel, by decide +kernel⟩
def spInp (C : Addr) : Sp := fun vs H Q _ => ∃ (a b : Addr) (ds es bs : List Int), vs = [.ref a, .ref b] ∧ NumAt C H a ds bs ∧ NumAt C H b es bs ∧ Bss bs ∧ Dgs ds bs ∧ Dgs es bs ∧ ∀ H', Same H H' → Q (.bl true) H'
section
variable {P : Program} {w : World} {K : PySem.W.Frag} {mg : Str → Option Value} {base : Heap}
theorem ok_inp {C O D U f : Addr} {fd : FuncData} (F : FunD K "_law_in_place_right" "_law_in_place_right" (defArgs sLInPlaceRight) (defBody sLInPlaceRight) (defScope sLInPlaceRight) [] [] f fd) (N : NumK K mg C) (SC : OpC K C) (BA : BinN K C "add") (NA : NoI K C "add") (BS_ : BinN K C "sub") (NS : NoI K C "sub") (BM : BinN K C "mul") (NM : NoI K C "mul") (BF : BinN K C "floordiv") (NF : NoI K C "floordiv") (BO : BinN K C "mod") (NO : NoI K C "mod")
    (MAI : CdM P w K mg base (L2.CX P w) 8 C "__add__" ["self", "other"] (spAI (fun i j => i + j) C O))
    (MAN : CdM P w K mg base (L2.CX P w) 8 C "__add__" ["self", "other"] (spAN (fun i j => i + j) C O U))
    (MSI : CdM P w K mg base (L2.CX P w) 8 C "__sub__" ["self", "other"] (spAI (fun i j => i - j) C O))
    (MM : CdM P w K mg base (L2.CX P w) 8 C "__mul__" ["self", "other"] (spAI (fun i j => i * j) C O))
    (MF : CdM P w K mg base (L2.CX P w) 8 C "__floordiv__" ["self", "other"] (spDv (fun i j => i / j) C O D))
    (MO : CdM P w K mg base (L2.CX P w) 8 C "__mod__" ["self", "other"] (spDv (fun i j => i % j) C O D))
    (ME : CdM P w K mg base CX0 1 C "__eq__" ["self", "other"] (spEqN C)) (hne : PySem.W.findIn K (.ref C) "__ne__" = some (some (.builtin "object.__ne__"))) (g_int : mg "int" = none) : FnOk P w K mg base CX0 9 f fd ["_law_one", "_law_other"] (spInp C) := by
  refine F.ok sc_inp (fun vs H Q E h => ?_) (fun cdv A outer s H vs Q E hr h => ?_)
  · obtain ⟨a, b, ds, es, bs, rfl, _⟩ := h
    rfl
  · obtain ⟨a, b, ds, es, bs, rfl, nA, nB, B, d1, d2, kk⟩ := h
    have sc := sc_inp
    have r2 := hr.mono (show 2 ≤ 8 by decide)
    refine ⟨_, PSs.nox (pss_cons (ps_set (i := 2) sc.nd rfl (Or.inl rfl) (pe_tup (pa_cons (pe_fld (pv 0) rfl) (pa_cons (pe_fld (pv 0) rfl) (pa_cons (pe_fld (pv 1) rfl) (pa_cons (pe_fld (pv 1) rfl) pa_nil))))))
      (pss_cons (ps_set (i := 3) sc.nd rfl (Or.inl rfl) (pv 0))
      (pss_cons (ps_aug (i := 3) sc.nd rfl (Or.inl rfl) (pe_op op_sub pe_int (pe_fld (pv 0) rfl)) (iop_im (op := .Add) MAI (by decide) SC.c BA NA SC.u hr passN))
      (pss_cons (ps_aug (i := 3) sc.nd rfl (Or.inl rfl) (pv 1) (iop_bs (op := .Add) MAN (by decide) SC.c NA hr passN))
      (pss_cons (ps_if (PW.pt (pw_or (pt_cmpR (op_cmNe ME hne N.hm r2 pass0) (pv 3) (pv 1) (nomark _)) (pw_or1 (pt_cmpR (op_neD hr.units) (pe_tup (pa_cons (pe_fld (pv 0) rfl) (pa_cons (pe_fld (pv 0) rfl) (pa_cons (pe_fld (pv 1) rfl) (pa_cons (pe_fld (pv 1) rfl) pa_nil))))) (pv 2) (nomark _))))) (pss_one (ps_ret pe_bl)) pss_nil)
      (pss_cons (ps_aug (i := 3) sc.nd rfl (Or.inl rfl) (pe_fld (pv 1) rfl) (iop_im (op := .Sub) MSI (by decide) SC.c BS_ NS SC.u hr passN))
      (pss_cons (ps_aug (i := 3) sc.nd rfl (Or.inl rfl) pe_int (iop_im (op := .Mult) MM (by decide) SC.c BM NM SC.u hr passN))
      (pss_cons (ps_set (i := 4) sc.nd rfl (Or.inl rfl) (pv 0))
      (pss_cons (ps_aug (i := 4) sc.nd rfl (Or.inl rfl) pe_int (iop_im (op := .FloorDiv) MF (by decide) SC.c BF NF SC.u hr passN))
      (pss_cons (ps_aug (i := 4) sc.nd rfl (Or.inl rfl) pe_int (iop_im (op := .Mod) MO (by decide) SC.c BO NO SC.u hr passN))
      (pss_cons (ps_if (PW.pt (pw_or (pt_cmpR op_ne (pe_fld (pv 3) rfl) pe_int (nomark _)) (pw_or1 (pt_cmpR op_ne (pe_fld (pv 4) rfl) (pe_op op_mod (pe_callTy call_int1 (by rfl) g_int boot_int (pa_cons (pe_op op_fdiv (pe_fld (pv 0) rfl) pe_int) pa_nil)) pe_int) (nomark _))))) (pss_one (ps_ret pe_bl)) pss_nil)
      (pss_one (ps_ret (pe_cmpR (op_eqD hr.units) (pe_tup (pa_cons (pe_fld (pv 0) rfl) (pa_cons (pe_fld (pv 0) rfl) (pa_cons (pe_fld (pv 1) rfl) (pa_cons (pe_fld (pv 1) rfl) pa_nil))))) (pv 2) (nomark _))))))))))))))), ?_⟩
    obtain ⟨dx, da, ba, a1, a2, a3⟩ := id nA
    obtain ⟨ex, ea, ca, c1, c2, c3⟩ := id nB
    have vv := val_abs d1 B
    have ww := val_abs d2 B
    obtain ⟨v0, v1⟩ := valD_range d1
    obtain ⟨w0, w1⟩ := valD_range d2
    have hP := prodL_pos B.2.2
    have z0 : (0 : Int) / prodL bs = 0 := Int.zero_ediv _
    have f0 := val_of B.2.2 z0
    have g0 := dgsV_dgs (bs := bs) (v := 0) B.2.2
    obtain ⟨de, we⟩ := dgs_val d2 B.2.2
    obtain ⟨dd, ve⟩ := dgs_val d1 B.2.2
    have q1 : (valD ds bs + (0 - valD ds bs)) / prodL bs = 0 := by rw [show valD ds bs + (0 - valD ds bs) = 0 by omega]; exact z0
    have q2 : (valD (dgsV bs 0) bs + valD es bs) / prodL bs = 0 := by rw [f0, Int.zero_add]; exact we
    have q3 : (valD es bs - valD es bs) / prodL bs = 0 := by rw [Int.sub_self]; exact z0
    have q4 : (valD (dgsV bs 0) bs * 3) / prodL bs = 0 := by rw [f0]; exact z0
    refine ⟨_, rfl, a, C, dx, _, _, rfl, a1, N.cl, N.nD, rfl, _, rfl, a, C, dx, _, _, rfl, a1, N.cl, N.nV, rfl, _, rfl, b, C, ex, _, _, rfl, c1, N.cl, N.nD, rfl, _, rfl, b, C, ex, _, _, rfl, c1, N.cl, N.nV, rfl, by show 4 ≤ sizeLine; decide, fun tf htf => ?_⟩
    have S1 : Same H (upd H tf (.tup [.ref da, .int (valD ds bs), .ref ea, .int (valD es bs)])) := upd_new htf
    have ef : (upd H tf (.tup [.ref da, .int (valD ds bs), .ref ea, .int (valD es bs)])) tf = some (.tup [.ref da, .int (valD ds bs), .ref ea, .int (valD es bs)]) := upd_same
    generalize upd H tf (.tup [.ref da, .int (valD ds bs), .ref ea, .int (valD es bs)]) = H1 at S1 ef ⊢
    refine ⟨_, rfl, ?_⟩
    refine ⟨_, rfl, _, rfl, a, C, dx, _, _, rfl, (S1 _ _ a1), N.cl, N.nV, rfl, _, _, rfl, rfl, a, dx, _, _, rfl, rfl, S1 _ _ a1, a, 0 - valD ds bs, ds, bs, rfl, nA.same S1, B, d1, abs_up (show (0 - valD ds bs).natAbs < 2 ^ 27 by omega) (by decide), fun _ r1 H2 s2 n1 => ?_, fun e => (e q1).elim⟩
    have n1 : NumAt C H2 r1 (dgsV bs (valD ds bs + (0 - valD ds bs))) bs := n1
    rw [show valD ds bs + (0 - valD ds bs) = 0 by omega] at n1
    have S2 := S1.trans s2
    have ef := s2 _ _ ef
    obtain ⟨y1, _, _, i1, _, _⟩ := id n1
    refine ⟨_, rfl, _, rfl, r1, b, _, ex, _, _, rfl, rfl, i1, S2 _ _ c1, r1, b, dgsV bs 0, bs, es, bs, rfl, n1, nB.same S2, B, B, fun _ => ⟨fun _ r2 H3 s3 n2 => ?_, fun e => (e q2).elim⟩, fun e => (e rfl).elim⟩
    have n2 : NumAt C H3 r2 (dgsV bs (valD (dgsV bs 0) bs + valD es bs)) bs := n2
    rw [f0, Int.zero_add, de] at n2
    have S3 := S2.trans s3
    have ef := s3 _ _ ef
    obtain ⟨y2, _, _, i2, _, _⟩ := id n2
    refine ⟨_, rfl, _, rfl, r2, b, _, ex, _, _, rfl, rfl, i2, S3 _ _ c1, r2, b, es, bs, es, bs, rfl, n2, nB.same S3, d2, d2, B, B, fun H4 s4 => ⟨_, rfl, _, rfl, ?_⟩⟩
    rw [decide_eq_true (rfl : bs = bs), decide_eq_true (rfl : es = es)]
    refine iteF ?_
    have S4 := S3.trans s4
    have ef := s4 _ _ ef
    have n2 := n2.same s4
    refine ⟨_, rfl, a, C, dx, _, _, rfl, (S4 _ _ a1), N.cl, N.nD, rfl, _, rfl, a, C, dx, _, _, rfl, (S4 _ _ a1), N.cl, N.nV, rfl, _, rfl, b, C, ex, _, _, rfl, (S4 _ _ c1), N.cl, N.nD, rfl, _, rfl, b, C, ex, _, _, rfl, (S4 _ _ c1), N.cl, N.nV, rfl, by show 4 ≤ sizeLine; decide, fun t5 h5 => ?_⟩
    have s5 : Same H4 (upd H4 t5 (.tup [.ref da, .int (valD ds bs), .ref ea, .int (valD es bs)])) := upd_new h5
    have e5 : (upd H4 t5 (.tup [.ref da, .int (valD ds bs), .ref ea, .int (valD es bs)])) t5 = some (.tup [.ref da, .int (valD ds bs), .ref ea, .int (valD es bs)]) := upd_same
    generalize upd H4 t5 (.tup [.ref da, .int (valD ds bs), .ref ea, .int (valD es bs)]) = H5 at s5 e5 ⊢
    have S5 := S4.trans s5
    have ef := s5 _ _ ef
    have n2 := n2.same s5
    refine ⟨_, rfl, quadD ds (valD ds bs) es (valD es bs), quadD ds (valD ds bs) es (valD es bs), quad_dp e5 (Same.rd S5 a2) (Same.rd S5 c2), quad_dp ef (Same.rd S5 a2) (Same.rd S5 c2), shaped_quad, shaped_quad, _, rfl, ?_⟩
    rw [eqv_quad]
    refine iteF ?_
    obtain ⟨y3, _, _, i3, _, _⟩ := id n2
    refine ⟨_, rfl, _, rfl, b, C, ex, _, _, rfl, (S5 _ _ c1), N.cl, N.nV, rfl, r2, _, _, _, rfl, rfl, i3, r2, valD es bs, es, bs, rfl, n2, B, d2, abs_up ww (by decide), fun _ r6 H6 s6 n6 => ?_, fun e => (e q3).elim⟩
    have n6 : NumAt C H6 r6 (dgsV bs (valD es bs - valD es bs)) bs := n6
    rw [Int.sub_self] at n6
    have S6 := S5.trans s6
    have ef := s6 _ _ ef
    obtain ⟨y4, _, _, i4, _, _⟩ := id n6
    refine ⟨_, rfl, r6, _, _, _, rfl, rfl, i4, r6, 3, dgsV bs 0, bs, rfl, n6, B, g0, by decide, fun _ r7 H7 s7 n7 => ?_, fun e => (e q4).elim⟩
    have n7 : NumAt C H7 r7 (dgsV bs (valD (dgsV bs 0) bs * 3)) bs := n7
    rw [f0, Int.zero_mul] at n7
    have S7 := S6.trans s7
    have ef := s7 _ _ ef
    refine ⟨_, rfl, ?_⟩
    have h2 : valD ds bs / 2 / prodL bs = 0 := (in_room hP).mpr ⟨by omega, by omega⟩
    refine ⟨_, rfl, a, dx, _, _, rfl, rfl, S7 _ _ a1, a, 2, ds, bs, rfl, nA.same S7, B, d1, by decide, fun _ => ⟨fun _ r8 H8 s8 n8 => ?_, fun e => (e h2).elim⟩, fun e => by omega⟩
    have n8 : NumAt C H8 r8 (dgsV bs (valD ds bs / 2)) bs := n8
    have n7 := n7.same s8
    have S8 := S7.trans s8
    have ef := s8 _ _ ef
    obtain ⟨y5, _, _, i5, _, _⟩ := id n8
    have g2 := dgsV_dgs (bs := bs) (v := valD ds bs / 2) B.2.2
    have f2 := val_of B.2.2 h2
    have h3 : valD ds bs / 2 % 2 / prodL bs = 0 := (in_room hP).mpr ⟨by omega, by omega⟩
    have q5 : (valD (dgsV bs (valD ds bs / 2)) bs % 2) / prodL bs = 0 := by rw [f2]; exact h3
    refine ⟨_, rfl, r8, _, _, _, rfl, rfl, i5, r8, 2, _, bs, rfl, n8, B, g2, by decide, fun _ => ⟨fun _ r9 H9 s9 n9 => ?_, fun e => (e q5).elim⟩, fun e => by omega⟩
    have n9 : NumAt C H9 r9 (dgsV bs (valD (dgsV bs (valD ds bs / 2)) bs % 2)) bs := n9
    rw [f2] at n9
    have n7 := n7.same s9
    have S9 := S8.trans s9
    have ef := s9 _ _ ef
    obtain ⟨y6, _, _, i6, _, _⟩ := id n7
    obtain ⟨y7, _, _, i7, _, _⟩ := id n9
    rw [f0] at i6
    rw [val_of B.2.2 h3] at i7
    refine ⟨_, rfl, r7, C, y6, _, _, rfl, i6, N.cl, N.nV, rfl, rfl, _, rfl, ?_⟩
    rw [decide_eq_true rfl]
    refine iteF ?_
    refine ⟨_, rfl, r9, C, y7, _, _, rfl, i7, N.cl, N.nV, rfl, _, rfl, a, C, dx, _, _, rfl, (S9 _ _ a1), N.cl, N.nV, rfl, _, _, rfl, rfl, ⟨by decide, by decide⟩, .inl ⟨_, rfl, _, _, rfl, rfl, (show (0 : Int) < 2 by decide), rfl, _, rfl, ?_⟩⟩
    rw [decide_eq_true rfl]
    refine iteF ?_
    refine ⟨_, rfl, a, C, dx, _, _, rfl, (S9 _ _ a1), N.cl, N.nD, rfl, _, rfl, a, C, dx, _, _, rfl, (S9 _ _ a1), N.cl, N.nV, rfl, _, rfl, b, C, ex, _, _, rfl, (S9 _ _ c1), N.cl, N.nD, rfl, _, rfl, b, C, ex, _, _, rfl, (S9 _ _ c1), N.cl, N.nV, rfl, by show 4 ≤ sizeLine; decide, fun t9 h9 => ?_⟩
    have s10 : Same H9 (upd H9 t9 (.tup [.ref da, .int (valD ds bs), .ref ea, .int (valD es bs)])) := upd_new h9
    have e10 : (upd H9 t9 (.tup [.ref da, .int (valD ds bs), .ref ea, .int (valD es bs)])) t9 = some (.tup [.ref da, .int (valD ds bs), .ref ea, .int (valD es bs)]) := upd_same
    generalize upd H9 t9 (.tup [.ref da, .int (valD ds bs), .ref ea, .int (valD es bs)]) = H10 at s10 e10 ⊢
    have S10 := S9.trans s10
    have ef := s10 _ _ ef
    refine ⟨_, rfl, quadD ds (valD ds bs) es (valD es bs), quadD ds (valD ds bs) es (valD es bs), quad_dp e10 (Same.rd S10 a2) (Same.rd S10 c2), quad_dp ef (Same.rd S10 a2) (Same.rd S10 c2), shaped_quad, shaped_quad, ?_⟩
    rw [eqv_quad]
    exact kk _ S10
end
end K04

set_option Elab.async false
set_option linter.all false
set_option maxRecDepth 100000
set_option maxHeartbeats 4000000
namespace K04
open PySem PySem.Spec PyProof.Rows L2 Ru
abbrev nLaw : List Str := ["_law_script", "_law_pen_here", "_law_turn", "_law_bases_here", "_law_one", "_law_other", "_law_room", "_law_again", "_law_k", "_law_small"]
theorem sc_law : FnScope nLaw ["_law_script"] (defScope sLaw) := ⟨rfl, rfl, rfl, by decide +kernel, rfl, by decide +kernel, by decide +kernel⟩
/-- it answers True -/
def spLaw (K : PySem.W.Frag) (T : List (Addr × Str)) : Sp := fun vs H Q _ => ∃ (a : Addr) (ns : List Int), vs = [.ref a] ∧ SqL K H a (ns.map V.int) ∧ ns.length ≤ 63 ∧ LamX.Tabs T H ∧ ∀ H', Q (.bl true) H'
section
variable {P : Program} {w : World} {K : PySem.W.Frag} {mg : Str → Option Value} {base : Heap}
theorem ok_law {C O f g pm : Addr} {fd : FuncData} {mc : Value} {T : List (Addr × Str)} (F : FunD K "law" "law" (defArgs sLaw) (defBody sLaw) (defScope sLaw) [] [] f fd) (N : NumK K mg C) (CPn : Cd P w K mg base CX0 1 "_law_pen" ["_law_script"] (spPenL K)) (CT : Cd P w K mg base CX0 1 "_law_take" ["_law_pen_here", "_law_limit"] spTakeL)
    (CB : Cd P w K mg base CX0 3 "_law_bases" ["_law_pen_here"] spBasesL) (CG : Cd P w K mg base CX0 3 "_law_digits" ["_law_pen_here", "_law_bases_here"] spDigitsL) (CNM : CdC P w K mg base CX0 5 "Numeral" C ["self", "digits", "bases"] (spInit K C)) (CC : Cd P w K mg base (L2.CX P w) 4 "count_of" ["bases"] (spCnt K "NoNumeral"))
    (CNu : Cd P w K mg base CX0 3 "_law_number" ["_law_pen_here", "_law_value", "_law_room"] spNum) (CSm : CdG P w K mg base CX0 11 "_law_sums_right" ["_law_one", "_law_other", "_law_k"] (spSums C T)) (CPa : CdG P w K mg base CX0 11 "_law_parts_right" ["_law_one", "_law_k"] (spParts C T))
    (CIn : Cd P w K mg base CX0 9 "_law_in_place_right" ["_law_one", "_law_other"] (spInp C)) (CUn : CdG P w K mg base CX0 11 "_law_unlike_right" ["_law_pen_here", "_law_one"] (spUnl C T)) (CPw : CdG P w K mg base CX0 11 "_law_powers_right" ["_law_one"] (spPows C T)) (COf : CdG P w K mg base CX0 10 "_law_of_right" ["_law_bases_here", "_law_room"] (spOfR T))
    (CRD : ClX.CRead K C mc) (CMT : ClX.CMet K C mc "of" pm g) (FOf : FnR P w K mg base (L2.CX P w) 7 g (fun vs H Q E => spOfV C O (vs ++ []) H Q E)) (g_range : mg "range" = none) (g_min : mg "min" = none) : FnG P w K mg base CX0 12 f fd ["_law_script"] (spLaw K T) := by
  refine okG F sc_law (fun vs H Q E h => ?_) (fun cdv A outer s H vs Q E hG hr h => ?_)
  · obtain ⟨a, ns, rfl, _⟩ := h
    rfl
  · obtain ⟨a, ns, rfl, hS, hlen, hT, k⟩ := h
    have sc := sc_law
    have r1 := hr.mono (show 1 ≤ 11 by decide)
    have r3 := hr.mono (show 3 ≤ 11 by decide)
    have r4 := hr.mono (show 4 ≤ 11 by decide)
    have r6 := hr.mono (show 6 ≤ 11 by decide)
    have r7 := hr.mono (show 7 ≤ 11 by decide)
    have r9 := hr.mono (show 9 ≤ 11 by decide)
    have r10 := hr.mono (show 10 ≤ 11 by decide)
    refine ⟨_, PSs.nox (pss_cons (ps_set (i := 1) sc.nd rfl (Or.inl rfl) (pe_cd CPn r1 (by rfl) pass0 (pa_cons (pv 0) pa_nil)))
      (pss_cons (ps_for PassesOwn.never rfl (pi_range1 rfl g_range (pa_cons pe_int pa_nil)) (pg_name (i := 2) sc.nd rfl (Or.inl rfl))
        (pss_cons (ps_set (i := 3) sc.nd rfl (Or.inl rfl) (pe_cd CB r3 (by rfl) pass0 (pa_cons (pv 1) pa_nil)))
        (pss_cons (ps_set (i := 4) sc.nd rfl (Or.inl rfl) (pe_cc CNM r6 (by rfl) pass0 (pa_cons (pe_cd CG r3 (by rfl) pass0 (pa_cons (pv 1) (pa_cons (pv 3) pa_nil))) (pa_cons (pv 3) pa_nil))))
        (pss_cons (ps_set (i := 5) sc.nd rfl (Or.inl rfl) (pe_cc CNM r6 (by rfl) pass0 (pa_cons (pe_cd CG r3 (by rfl) pass0 (pa_cons (pv 1) (pa_cons (pv 3) pa_nil))) (pa_cons (pv 3) pa_nil))))
        (pss_cons (ps_set (i := 6) sc.nd rfl (Or.inl rfl) (pe_cd CC r4 (by rfl) passN (pa_cons (pv 3) pa_nil)))
        (pss_cons (ps_for PassesOwn.never rfl (pi_range1 rfl g_range (pa_cons pe_int pa_nil)) (pg_name (i := 7) sc.nd rfl (Or.inl rfl))
          (pss_cons (ps_set (i := 8) sc.nd rfl (Or.inl rfl) (pe_cd CNu r3 (by rfl) pass0 (pa_cons (pv 1) (pa_cons (pe_fld (pv 4) rfl) (pa_cons (pv 6) pa_nil)))))
          (pss_cons (ps_if (pt_not (pt_val (pe_cdG hG CSm hr (by rfl) pass0 (pa_cons (pv 4) (pa_cons (pv 5) (pa_cons (pv 8) pa_nil)))))) (pss_one (ps_ret pe_bl)) pss_nil)
          (pss_one (ps_if (pt_not (pt_val (pe_cdG hG CPa hr (by rfl) pass0 (pa_cons (pv 4) (pa_cons (pv 8) pa_nil))))) (pss_one (ps_ret pe_bl)) pss_nil)))))
        (pss_cons (ps_if (pt_not (pt_val (pe_cd CIn r9 (by rfl) pass0 (pa_cons (pv 4) (pa_cons (pv 5) pa_nil))))) (pss_one (ps_ret pe_bl)) pss_nil)
        (pss_cons (ps_if (PW.pt (pw_or (pt_not (pt_val (pe_cdG hG CUn hr (by rfl) pass0 (pa_cons (pv 1) (pa_cons (pv 4) pa_nil))))) (pw_or1 (pt_not (pt_val (pe_cdG hG CPw hr (by rfl) pass0 (pa_cons (pv 4) pa_nil))))))) (pss_one (ps_ret pe_bl)) pss_nil)
        (pss_cons (ps_set (i := 9) sc.nd rfl (Or.inl rfl) (ClX.pe_cmeth (pe_glob (v := V.ref C) (by rfl) N.gN rfl) CRD CMT FOf r7 passN (pa_cons (pe_callB (call_min2 rfl) (by rfl) g_min boot_min (pa_cons (pe_op op_sub (pv 6) pe_int) (pa_cons (pe_cd CT r1 (by rfl) pass0 (pa_cons (pv 1) (pa_cons pe_int pa_nil))) pa_nil))) (pa_cons (pv 3) pa_nil))))
        (pss_one (ps_if (PW.pt (pw_or (pt_not (pt_val (pe_cdG hG CPw hr (by rfl) pass0 (pa_cons (pv 9) pa_nil)))) (pw_or1 (pt_not (pt_val (pe_cdG hG COf r10 (by rfl) pass0 (pa_cons (pv 3) (pa_cons (pv 6) pa_nil)))))))) (pss_one (ps_ret pe_bl)) pss_nil)))))))))))
      (pss_one (ps_ret pe_bl)))), ?_⟩
    refine ⟨_, rfl, a, ns, rfl, hS, hlen, fun d l H1 s1 P1 => ?_⟩
    refine ⟨6, rfl, by decide, by decide, for_range (n := 6) (fun i σ H => ∃ (x2 x3 x4 x5 x6 x7 x8 x9 : Option V) (b r : Int), σ = [some (.ref a), some (.ref d), x2, x3, x4, x5, x6, x7, x8, x9] ∧ PenL H d l ns b r ∧ b ≤ 40 * (i : Int) ∧ LamX.Tabs T H)
      ⟨none, none, none, none, none, none, none, none, 0, 0, rfl, P1, by decide, hT.ext s1⟩ ?_ ?_⟩
    · rintro i σ H2 hi ⟨x2, x3, x4, x5, x6, x7, x8, x9, b, r, rfl, P2, hb, T2⟩
      refine ⟨_, rfl, d, l, ns, b, r, rfl, P2, by omega, fun p bs b3 r3' H3 t3 P3 l3 ep B => ?_⟩
      have T3 := tabs_bt P2.dk t3 T2
      have npd : p ≠ d := ints_ne P3.dk ep
      refine ⟨_, rfl, _, rfl, d, l, p, ns, b3, r3', bs, rfl, P3, by omega, ep, B, fun q1 ds b4 r4' H4 t4 P4 l4 e1 g1 => ⟨_, rfl, ?_⟩⟩
      intro m1 dx1 ny nd ne
      have sn : Same H4 (upd (upd H4 dx1 (.own m1)) m1 (.ins C dx1 [])) := fun c o e => by
        rw [upd_ne (ne_of_none e ny), upd_ne (ne_of_none e nd)]
        exact e
      refine ⟨m1, dx1, q1, p, false, false, ds, bs, rfl, upd_same, .inl (sn _ _ e1), .inl (sn _ _ (t4 _ _ ep npd)), B, g1, fun H5 kp n1 => ⟨rfl, ?_⟩⟩
      have s5 : Same H4 H5 := fun c o e => kp c o (sn c o e) (ne_of_none e ny)
      clear sn kp ny nd ne
      have ep := s5 _ _ (t4 _ _ ep npd)
      have T5 := (tabs_bt P3.dk t4 T3).ext s5
      have P5 := P4.same s5
      refine ⟨_, rfl, _, rfl, d, l, p, ns, b4, r4', bs, rfl, P5, by omega, ep, B, fun q2 es b6 r6' H6 t6 P6 l6 e2 g2 => ⟨_, rfl, ?_⟩⟩
      intro m2 dx2 ny nd ne
      have sn : Same H6 (upd (upd H6 dx2 (.own m2)) m2 (.ins C dx2 [])) := fun c o e => by
        rw [upd_ne (ne_of_none e ny), upd_ne (ne_of_none e nd)]
        exact e
      refine ⟨m2, dx2, q2, p, false, false, es, bs, rfl, upd_same, .inl (sn _ _ e2), .inl (sn _ _ (t6 _ _ ep npd)), B, g2, fun H7 kp n2 => ⟨rfl, ?_⟩⟩
      have s7 : Same H6 H7 := fun c o e => kp c o (sn c o e) (ne_of_none e ny)
      clear sn kp ny nd ne
      have n1 := (n1.ki (Ki.of t6) P5.dk).same s7
      have ep := s7 _ _ (t6 _ _ ep npd)
      have T7 := (tabs_bt P5.dk t6 T5).ext s7
      have P7 := P6.same s7
      refine ⟨_, rfl, _, p + 1, _, rfl, .lst (SqL.of ep) (Nat.ne_of_lt (Nat.lt_succ_self p)) dq_ints, fun zs _ hx H8 s8 => ?_, fun z => by rw [(basesD_of B).1] at z; cases z⟩
      have ez : zs = bs := by
        rcases hx with e | e
        · injection e with e
          exact (intsD_inj e).symm
        · cases e
      subst ez
      have ep := s8 _ _ ep
      have n1 := n1.same s8
      have n2 := n2.same s8
      have T8 := T7.ext s8
      have P8 := P7.same s8
      obtain ⟨v0, v1⟩ := valD_range g1
      obtain ⟨_, rp1, rp2⟩ := room_abs B
      have hP := prodL_pos B.2.2
      refine ⟨3, rfl, by decide, by decide, for_range (n := 3) (fun j σ H => ∃ (x7 x8 : Option V) (b' r' : Int), σ = [some (.ref a), some (.ref d), some (.int (0 + (i : Int))), some (.ref p), some (.ref m1), some (.ref m2), some (.int (prodL zs)), x7, x8, x9] ∧ PenL H d l ns b' r' ∧ b' ≤ b6 + 3 * (j : Int) ∧ LamX.Tabs T H ∧ H p = some (.lst (zs.map V.int)) ∧ NumAt C H m1 ds zs ∧ NumAt C H m2 es zs)
        ⟨x7, x8, b6, r6', rfl, P8, by omega, T8, ep, n1, n2⟩ ?_ ?_⟩
      · rintro j σ H9 hj ⟨z7, z8, b9, r9', rfl, P9, l9, T9, ep9, n9, o9⟩
        obtain ⟨y1, _, _, i1, _, _⟩ := id n9
        refine ⟨_, rfl, _, rfl, m1, C, y1, _, _, rfl, i1, N.cl, N.nV, rfl, _, rfl, d, l, ns, b9, r9', _, _, rfl, P9, by omega, v0, v1, rp2, fun k bA rA HA hk lA tA PA => ?_⟩
        have nA := n9.ki (Ki.of tA) P9.dk
        have oA := o9.ki (Ki.of tA) P9.dk
        have TA := tabs_bt P9.dk tA T9
        have epA := tA _ _ ep9 npd
        refine ⟨_, rfl, _, rfl, _, rfl, m1, m2, k, ds, es, zs, rfl, nA, oA, B, g1, g2, hk, TA, fun HB xB TB => ⟨_, rfl, ?_⟩⟩
        refine iteF ?_
        refine ⟨_, rfl, _, rfl, m1, k, ds, zs, rfl, num_ext xB nA, B, g1, hk, TB, fun HC xC TC => ⟨_, rfl, ?_⟩⟩
        refine iteF ?_
        have x := xB.trans xC
        exact ⟨_, _, bA, rA, rfl, PA.ext x, by omega, TC, x _ _ epA (fun _ z => by cases z), num_ext x nA, num_ext x oA⟩
      · rintro σ H9 ⟨z7, z8, b9, r9', rfl, P9, l9, T9, ep9, n9, o9⟩
        have l9 : b9 ≤ b6 + 3 * ((3 : Nat) : Int) := l9
        refine ⟨_, rfl, _, rfl, m1, m2, ds, es, zs, rfl, n9, o9, B, g1, g2, fun HA sA => ⟨_, rfl, ?_⟩⟩
        refine iteF ?_
        have nA := n9.same sA
        have epA := sA _ _ ep9
        have TA := T9.ext sA
        have PA := P9.same sA
        refine ⟨_, rfl, _, rfl, d, l, m1, ns, ds, zs, b9, r9', rfl, PA, by omega, nA, B, g1, TA, fun bB rB HB kB TB PB lB => ⟨_, rfl, ?_⟩⟩
        refine iteF ?_
        have nB := nA.ki kB PA.dk
        have epB := kB _ _ epA npd (fun _ z => by cases z)
        refine ⟨_, rfl, m1, ds, zs, rfl, nB, B, g1, TB, fun HC xC TC => ⟨_, rfl, ?_⟩⟩
        refine iteF ?_
        have epC := xC _ _ epB (fun _ z => by cases z)
        have PC := PB.ext xC
        refine ⟨rfl, _, rfl, _, _, rfl, rfl, _, rfl, d, l, ns, bB, rB, 4, rfl, PC, by omega, by decide, by decide, fun z bD rD HD z0 z1 lD tD PD => ⟨_, _, rfl, ?_⟩⟩
        have epD := tD _ _ epC npd
        have TD := tabs_bt PC.dk tD TC
        obtain ⟨sv, hsv, hs0⟩ : ∃ sv : Int, (if z < prodL zs - 1 then z else prodL zs - 1) = sv ∧ sv / prodL zs = 0 := by
          by_cases c : z < prodL zs - 1
          · exact ⟨z, if_pos c, (in_room hP).mpr ⟨by omega, by omega⟩⟩
          · exact ⟨_, if_neg c, (in_room hP).mpr ⟨by omega, by omega⟩⟩
        rw [hsv]
        refine ⟨_, rfl, p, false, zs, sv, rfl, .inl epD, B, fun _ ms HE sE nE => ?_, fun e => (e hs0).elim⟩
        have epE := sE _ _ epD
        have TE := TD.ext sE
        have PE' := PD.same sE
        refine ⟨_, rfl, ms, _, zs, rfl, nE, B, dgsV_dgs B.2.2, TE, fun HF xF TF => ⟨_, rfl, ?_⟩⟩
        refine iteF ?_
        refine ⟨_, rfl, _, rfl, p, zs, rfl, xF _ _ epE (fun _ z => by cases z), B, TF, fun HG xG TG => ⟨_, rfl, ?_⟩⟩
        refine iteF ?_
        exact ⟨_, _, _, _, _, _, _, _, bD, rD, rfl, PE'.ext (xF.trans xG), by omega, TG⟩
    · rintro σ H2 ⟨x2, x3, x4, x5, x6, x7, x8, x9, b, r, rfl, _⟩
      exact k H2
end
end K04

set_option Elab.async false
set_option linter.all false
set_option maxRecDepth 100000
set_option maxHeartbeats 0
namespace K04
open PySem PySem.Spec PyProof.Rows L2 Ru
def fa0 : List He.Fa := [.glo "is_whole", .glo "is_sequence", .glo "is_bases", .glo "_products", .glo "weights", .glo "count_of", .glo "_is_as_long", .glo "_first_wrong", .glo "_digits_of", .glo "_check_like", .glo "_check_divisor", .glo "_amount_of"]
def fa1 : List He.Fa := [.glo "_law_pen", .glo "_law_take", .glo "_law_pick", .glo "_law_bases", .glo "_law_digits", .glo "_law_told", .glo "_law_due", .glo "_law_number", .glo "_law_sums_right", .glo "_law_powers_right", .glo "_law_parts_right", .glo "_law_unlike_right"]
def fa2 : List He.Fa := [.glo "_law_of_right", .glo "_law_in_place_right", .glo "law", .glo "RisingError", .glo "NoNumeral", .glo "NoPlace", .glo "Overflow", .glo "Unlike", .glo "NoDivisor", .glo "Numeral", .free "isinstance", .free "int"]
def fa3 : List He.Fa := [.free "bool", .free "tuple", .free "list", .free "len", .free "all", .free "abs", .free "repr", .free "range", .free "zip", .free "enumerate", .free "sum", .free "min"]
def fa4 : List He.Fa := [.int "LEAST_BASE" 2, .int "GREATEST_BASE" 100, .int "MOST_PLACES" 4, .exm "Overflow" "RisingError" true, .exm "NoDivisor" "RisingError" true, .exm "Unlike" "RisingError" true, .exc "NoDivisor", .exc "Unlike", .cls "Numeral", .mkr "Numeral", .noat "Numeral" "digits", .noat "Numeral" "bases"]
def fa5 : List He.Fa := [.noat "Numeral" "value", .meth "Numeral" "__eq__", .meth "Numeral" "_with_value", .meth "Numeral" "__add__", .meth "Numeral" "__radd__", .meth "Numeral" "__sub__", .meth "Numeral" "__rsub__", .meth "Numeral" "__mul__", .meth "Numeral" "__rmul__", .meth "Numeral" "__pow__", .meth "Numeral" "__floordiv__", .meth "Numeral" "__mod__"]
def fa : List He.Fa := fa0 ++ fa1 ++ fa2 ++ fa3 ++ fa4 ++ fa5
def fn0 : List He.DefD := [dIsWhole, dIsSequence, dIsBases, dProducts, dWeights, dCountOf, dIsAsLong, dFirstWrong, dDigitsOf, dCheckLike, dCheckDivisor, dAmountOf]
def fn1 : List He.DefD := [dPen, dTake, dLPick, dLBases, dLDigits, dLTold, dLDue, dLNumber, dLSumsRight, dLPowersRight, dLPartsRight, dLUnlikeRight]
def fn2 : List He.DefD := [dLOfRight, dLInPlaceRight, dLaw, dNoNumeral_init, dOverflow_init, dNumeral_init, dNumeral_eq, dNumeral_with_value, dNumeral_add, dNumeral_radd, dNumeral_sub, dNumeral_rsub]
def fn3 : List He.DefD := [dNumeral_mul, dNumeral_rmul, dNumeral_pow, dNumeral_floordiv, dNumeral_mod]
def fn : List He.DefD := fn0 ++ fn1 ++ fn2 ++ fn3
def dOf : He5.DefA := { at_ := fun K => He5.wf K (He.ga K "Numeral") "classmethod" "of", name := "of", qual := "Numeral.of", params := defArgs sNumeral_of, body := defBody sNumeral_of, scope := defScope sNumeral_of }
def fw : List He5.DefA := [dOf]
def tf : List He.Defn := [("_law_sums_right", none), ("_law_powers_right", none), ("_law_parts_right", none), ("_law_unlike_right", none), ("_law_of_right", none)]
def ex (K : PySem.W.Frag) : Bool := exAllB K && exKB K (He.ga K "Overflow") && exKB K (He.ga K "NoDivisor") && exKB K (He.ga K "Unlike") && oexB K (He.ga K "NoNumeral") && He.eqO (PySem.W.findIn K (.ref (He.ga K "NoNumeral")) "at") (some none) && oexB K (He.ga K "Overflow") && He.eqO (PySem.W.findIn K (.ref (He.ga K "Overflow")) "value") (some none) && optB (PySem.W.kitOne K (.ref (He.ga K "Overflow")) (.ref (He.ga K "Overflow"))) (some true) && optB (PySem.W.kitOne K (.ref (He.ga K "Overflow")) (.ref (He.ga K "NoDivisor"))) (some false) && optB (PySem.W.kitOne K (.ref (He.ga K "Overflow")) (.ref (He.ga K "Unlike"))) (some false) && optB (PySem.W.kitOne K (.ref (He.ga K "NoDivisor")) (.ref (He.ga K "Overflow"))) (some false) && optB (PySem.W.kitOne K (.ref (He.ga K "NoDivisor")) (.ref (He.ga K "NoDivisor"))) (some true) && optB (PySem.W.kitOne K (.ref (He.ga K "NoDivisor")) (.ref (He.ga K "Unlike"))) (some false) && optB (PySem.W.kitOne K (.ref (He.ga K "Unlike")) (.ref (He.ga K "Overflow"))) (some false) && optB (PySem.W.kitOne K (.ref (He.ga K "Unlike")) (.ref (He.ga K "NoDivisor"))) (some false) && optB (PySem.W.kitOne K (.ref (He.ga K "Unlike")) (.ref (He.ga K "Unlike"))) (some true) && optB (PySem.W.kitOne K (.ref (He.ga K "Unlike")) (.ref (He.ga K "NoNumeral"))) (some false) && He.eqO (PySem.W.findIn K (.ref (He.ga K "Numeral")) "__class__") (some (some (.builtin "object.__class__"))) && optB (PySem.W.mroIn K (He.ga K "Numeral") (.type "object")) (some true) && optB (PySem.W.kitOne K (.ref (He.ga K "Numeral")) (.ref (He.ga K "Numeral"))) (some true) && optB (PySem.W.kitOne K (.ref (He.ga K "Numeral")) (.type "int")) (some false) && He.eqO (PySem.W.findIn K (.ref (He.ga K "Numeral")) "__ne__") (some (some (.builtin "object.__ne__"))) && PySem.W.selfFirst K (He.ga K "Numeral") && optB (PySem.W.subIn K (.type "int") (.ref (He.ga K "Numeral"))) (some false) && optB (PySem.W.subIn K (.ref (He.ga K "Numeral")) (.type "int")) (some false) && decide ((PySem.W.clsIn K (He.ga K "Numeral")).map (·.mro) = some [.ref (He.ga K "Numeral"), .type "object"]) && turnB K (He.ga K "Numeral") "add" && (PySem.W.findIn K (.type "int") (PySem.dunder "add")).isSome && (PySem.W.findIn K (.type "int") (dunderR "add")).isSome && He.eqO (PySem.W.findIn K (.ref (He.ga K "Numeral")) (dunderI "add")) (some none) && He.eqO (PySem.W.findIn K (.type "object") (dunderI "add")) (some none) && turnB K (He.ga K "Numeral") "sub" && (PySem.W.findIn K (.type "int") (PySem.dunder "sub")).isSome && (PySem.W.findIn K (.type "int") (dunderR "sub")).isSome && He.eqO (PySem.W.findIn K (.ref (He.ga K "Numeral")) (dunderI "sub")) (some none) && He.eqO (PySem.W.findIn K (.type "object") (dunderI "sub")) (some none) && turnB K (He.ga K "Numeral") "mul" && (PySem.W.findIn K (.type "int") (PySem.dunder "mul")).isSome && (PySem.W.findIn K (.type "int") (dunderR "mul")).isSome && He.eqO (PySem.W.findIn K (.ref (He.ga K "Numeral")) (dunderI "mul")) (some none) && He.eqO (PySem.W.findIn K (.type "object") (dunderI "mul")) (some none) && turnB K (He.ga K "Numeral") "pow" && (PySem.W.findIn K (.type "int") (PySem.dunder "pow")).isSome && (PySem.W.findIn K (.type "int") (dunderR "pow")).isSome && turnB K (He.ga K "Numeral") "floordiv" && (PySem.W.findIn K (.type "int") (PySem.dunder "floordiv")).isSome && (PySem.W.findIn K (.type "int") (dunderR "floordiv")).isSome && He.eqO (PySem.W.findIn K (.ref (He.ga K "Numeral")) (dunderI "floordiv")) (some none) && He.eqO (PySem.W.findIn K (.type "object") (dunderI "floordiv")) (some none) && turnB K (He.ga K "Numeral") "mod" && (PySem.W.findIn K (.type "int") (PySem.dunder "mod")).isSome && (PySem.W.findIn K (.type "int") (dunderR "mod")).isSome && He.eqO (PySem.W.findIn K (.ref (He.ga K "Numeral")) (dunderI "mod")) (some none) && He.eqO (PySem.W.findIn K (.type "object") (dunderI "mod")) (some none) && PySem.W.readsIn K (He.ga K "Numeral") (.type "type") && He.eqO (PySem.W.specialIn K (.ref (He.ga K "Numeral")) "__getattribute__") (some (some (.builtin "type.__getattribute__"))) && He5.wrapB K (He.ga K "Numeral") "classmethod" "classmethod.__get__" "of" && PySem.W.fnIn K (He5.wf K (He.ga K "Numeral") "classmethod" "of") && decide ((He.cT K ("_law_sums_right", none)).2 ≠ (He.cT K ("_law_powers_right", none)).2) && decide ((He.cT K ("_law_sums_right", none)).2 ≠ (He.cT K ("_law_parts_right", none)).2) && decide ((He.cT K ("_law_sums_right", none)).2 ≠ (He.cT K ("_law_unlike_right", none)).2) && decide ((He.cT K ("_law_sums_right", none)).2 ≠ (He.cT K ("_law_of_right", none)).2) && decide ((He.cT K ("_law_powers_right", none)).2 ≠ (He.cT K ("_law_parts_right", none)).2) && decide ((He.cT K ("_law_powers_right", none)).2 ≠ (He.cT K ("_law_unlike_right", none)).2) && decide ((He.cT K ("_law_powers_right", none)).2 ≠ (He.cT K ("_law_of_right", none)).2) && decide ((He.cT K ("_law_parts_right", none)).2 ≠ (He.cT K ("_law_unlike_right", none)).2) && decide ((He.cT K ("_law_parts_right", none)).2 ≠ (He.cT K ("_law_of_right", none)).2) && decide ((He.cT K ("_law_unlike_right", none)).2 ≠ (He.cT K ("_law_of_right", none)).2)
abbrev R : PySem.W.OpenRow := PySem.W.OpenLaw.row PySem.Challenge.rw_risingread_k04_arithmetic_by_value
abbrev hk : PySem.W.Hook := hookZ 6 fa fn fw tf ex
def ob (s : PySem.W.SharedT) : AlZ := obsZ 6 fa fn fw tf ex (HandSHeadRun.getT s)
theorem ob_eq (s : PySem.W.SharedT) : ob s = hk.obs s.abs := obsZ_eq (HandSHeadRun.getT_eq s)
def loose0 : List Str := ["_wall", "FIGURES", "is_whole", "is_sequence", "RisingError", "NoNumeral", "NoPlace", "Overflow", "Unlike", "NoDivisor", "NoText", "LEAST_BASE"]
def loose1 : List Str := ["GREATEST_BASE", "MOST_PLACES", "is_bases", "_products", "weights", "count_of", "MOST_FIGURES", "Numeral", "_is_as_long", "_first_wrong", "_digits_of", "_check_like"]
def loose2 : List Str := ["_check_divisor", "_amount_of", "_moved_up", "_dotted", "_end_of_number", "_read_numbers", "_law_pen", "_law_take", "_law_pick", "_law_bases", "_law_digits", "_law_told"]
def loose3 : List Str := ["_law_due", "_law_number", "_law_sums_right", "_law_powers_right", "_law_parts_right", "_law_unlike_right", "_law_of_right", "_law_in_place_right"]
def loose : List Str := loose0 ++ loose1 ++ loose2 ++ loose3
section
variable {P : Program} {w : World} {K : PySem.W.Frag} {mg : Str → Option Value} {h : Heap}
theorem facts {f : Addr} (X : K.In h) (G : h.Ns mainGlobals mg) (hfa : mg ("law" : Str) = some (.ref f)) (c : SaysY fa fn tf ex h K) (cw : obsW fw K = valW fw) :
    ∃ fd : FuncData, (∀ (s : Shared) (v : Value), BindsTo s fd ⟨[v], []⟩ [("_law_script", v)]) ∧ (∀ p ∈ [He.cT K ("_law_sums_right", none), He.cT K ("_law_powers_right", none), He.cT K ("_law_parts_right", none), He.cT K ("_law_unlike_right", none), He.cT K ("_law_of_right", none)], h.get? p.2 = some { cls := .none, data := .fields #[] }) ∧ (∀ p ∈ [He.cT K ("_law_sums_right", none), He.cT K ("_law_powers_right", none), He.cT K ("_law_parts_right", none), He.cT K ("_law_unlike_right", none), He.cT K ("_law_of_right", none)], K.lookup p.2 = none) ∧
      (∀ p ∈ [He.cT K ("_law_sums_right", none), He.cT K ("_law_powers_right", none), He.cT K ("_law_parts_right", none), He.cT K ("_law_unlike_right", none), He.cT K ("_law_of_right", none)], PySem.W.CodeHd h p.1 p.2) ∧
      ∀ base : Heap, K.In base → base.Ns mainGlobals mg → (∀ p ∈ [He.cT K ("_law_sums_right", none), He.cT K ("_law_powers_right", none), He.cT K ("_law_parts_right", none), He.cT K ("_law_unlike_right", none), He.cT K ("_law_of_right", none)], LamX.TabB base mg p.1 p.2) → FnG P w K mg base CX0 12 f fd ["_law_script"] (spLaw K [((He.cT K ("_law_sums_right", none)).2, qSums), ((He.cT K ("_law_powers_right", none)).2, qPows), ((He.cT K ("_law_parts_right", none)).2, qParts), ((He.cT K ("_law_unlike_right", none)).2, qUnl), ((He.cT K ("_law_of_right", none)).2, qOfR)]) := by
  have M := smB_ok c.sm
  have hx := c.more
  unfold ex at hx
  simp only [Bool.and_eq_true] at hx
  obtain ⟨⟨⟨⟨⟨⟨⟨⟨⟨⟨⟨⟨⟨⟨⟨⟨⟨⟨⟨⟨⟨⟨⟨⟨⟨⟨⟨⟨⟨⟨⟨⟨⟨⟨⟨⟨⟨⟨⟨⟨⟨⟨⟨⟨⟨⟨⟨⟨⟨⟨⟨⟨⟨⟨⟨⟨⟨⟨⟨⟨⟨⟨⟨⟨⟨⟨⟨⟨h1, h2⟩, h3⟩, h4⟩, h5⟩, h6⟩, h7⟩, h8⟩, h9⟩, h10⟩, h11⟩, h12⟩, h13⟩, h14⟩, h15⟩, h16⟩, h17⟩, h18⟩, h19⟩, h20⟩, h21⟩, h22⟩, h23⟩, h24⟩, h25⟩, h26⟩, h27⟩, h28⟩, h29⟩, h30⟩, h31⟩, h32⟩, h33⟩, h34⟩, h35⟩, h36⟩, h37⟩, h38⟩, h39⟩, h40⟩, h41⟩, h42⟩, h43⟩, h44⟩, h45⟩, h46⟩, h47⟩, h48⟩, h49⟩, h50⟩, h51⟩, h52⟩, h53⟩, h54⟩, h55⟩, h56⟩, h57⟩, h58⟩, h59⟩, h60⟩, h61⟩, h62⟩, h63⟩, h64⟩, h65⟩, h66⟩, h67⟩, h68⟩, h69⟩ := hx
  obtain ⟨fdIsWhole, FIsWhole⟩ := c.d.def_ 0 (d := dIsWhole) rfl
  obtain ⟨fdIsSequence, FIsSequence⟩ := c.d.def_ 1 (d := dIsSequence) rfl
  obtain ⟨fdIsBases, FIsBases⟩ := c.d.def_ 2 (d := dIsBases) rfl
  obtain ⟨fdProducts, FProducts⟩ := c.d.def_ 3 (d := dProducts) rfl
  obtain ⟨fdWeights, FWeights⟩ := c.d.def_ 4 (d := dWeights) rfl
  obtain ⟨fdCountOf, FCountOf⟩ := c.d.def_ 5 (d := dCountOf) rfl
  obtain ⟨fdIsAsLong, FIsAsLong⟩ := c.d.def_ 6 (d := dIsAsLong) rfl
  obtain ⟨fdFirstWrong, FFirstWrong⟩ := c.d.def_ 7 (d := dFirstWrong) rfl
  obtain ⟨fdDigitsOf, FDigitsOf⟩ := c.d.def_ 8 (d := dDigitsOf) rfl
  obtain ⟨fdCheckLike, FCheckLike⟩ := c.d.def_ 9 (d := dCheckLike) rfl
  obtain ⟨fdCheckDivisor, FCheckDivisor⟩ := c.d.def_ 10 (d := dCheckDivisor) rfl
  obtain ⟨fdAmountOf, FAmountOf⟩ := c.d.def_ 11 (d := dAmountOf) rfl
  obtain ⟨fdPen, FPen⟩ := c.d.def_ 12 (d := dPen) rfl
  obtain ⟨fdTake, FTake⟩ := c.d.def_ 13 (d := dTake) rfl
  obtain ⟨fdLPick, FLPick⟩ := c.d.def_ 14 (d := dLPick) rfl
  obtain ⟨fdLBases, FLBases⟩ := c.d.def_ 15 (d := dLBases) rfl
  obtain ⟨fdLDigits, FLDigits⟩ := c.d.def_ 16 (d := dLDigits) rfl
  obtain ⟨fdLTold, FLTold⟩ := c.d.def_ 17 (d := dLTold) rfl
  obtain ⟨fdLDue, FLDue⟩ := c.d.def_ 18 (d := dLDue) rfl
  obtain ⟨fdLNumber, FLNumber⟩ := c.d.def_ 19 (d := dLNumber) rfl
  obtain ⟨fdLSumsRight, FLSumsRight⟩ := c.d.def_ 20 (d := dLSumsRight) rfl
  obtain ⟨fdLPowersRight, FLPowersRight⟩ := c.d.def_ 21 (d := dLPowersRight) rfl
  obtain ⟨fdLPartsRight, FLPartsRight⟩ := c.d.def_ 22 (d := dLPartsRight) rfl
  obtain ⟨fdLUnlikeRight, FLUnlikeRight⟩ := c.d.def_ 23 (d := dLUnlikeRight) rfl
  obtain ⟨fdLOfRight, FLOfRight⟩ := c.d.def_ 24 (d := dLOfRight) rfl
  obtain ⟨fdLInPlaceRight, FLInPlaceRight⟩ := c.d.def_ 25 (d := dLInPlaceRight) rfl
  obtain ⟨fdLaw, FLaw⟩ := c.d.def_ 26 (d := dLaw) rfl
  obtain ⟨fdNN, FNN⟩ := c.d.def_ 27 (d := dNoNumeral_init) rfl
  have FI : FunD K "__init__" "NoNumeral.__init__" (defArgs sNoNumeral_init) (defBody sNoNumeral_init) (defScope sNoNumeral_init) [] [] (He.ma K (He.ga K "NoNumeral") "__init__") fdNN := FNN
  obtain ⟨fdOO, FOO⟩ := c.d.def_ 28 (d := dOverflow_init) rfl
  have FIO : FunD K "__init__" "Overflow.__init__" (defArgs sOverflow_init) (defBody sOverflow_init) (defScope sOverflow_init) [] [] (He.ma K (He.ga K "Overflow") "__init__") fdOO := FOO
  obtain ⟨fdM_init, FM_init'⟩ := c.d.def_ 29 (d := dNumeral_init) rfl
  have FM_init : FunD K "__init__" "Numeral.__init__" (defArgs sNumeral_init) (defBody sNumeral_init) (defScope sNumeral_init) [] [] (He.ma K (He.ga K "Numeral") "__init__") fdM_init := FM_init'
  obtain ⟨fdM_eq, FM_eq'⟩ := c.d.def_ 30 (d := dNumeral_eq) rfl
  have FM_eq : FunD K "__eq__" "Numeral.__eq__" (defArgs sNumeral_eq) (defBody sNumeral_eq) (defScope sNumeral_eq) [] [] (He.ma K (He.ga K "Numeral") "__eq__") fdM_eq := FM_eq'
  obtain ⟨fdM_with_value, FM_with_value'⟩ := c.d.def_ 31 (d := dNumeral_with_value) rfl
  have FM_with_value : FunD K "_with_value" "Numeral._with_value" (defArgs sNumeral_with_value) (defBody sNumeral_with_value) (defScope sNumeral_with_value) [] [] (He.ma K (He.ga K "Numeral") "_with_value") fdM_with_value := FM_with_value'
  obtain ⟨fdM_add, FM_add'⟩ := c.d.def_ 32 (d := dNumeral_add) rfl
  have FM_add : FunD K "__add__" "Numeral.__add__" (defArgs sNumeral_add) (defBody sNumeral_add) (defScope sNumeral_add) [] [] (He.ma K (He.ga K "Numeral") "__add__") fdM_add := FM_add'
  obtain ⟨fdM_radd, FM_radd'⟩ := c.d.def_ 33 (d := dNumeral_radd) rfl
  have FM_radd : FunD K "__radd__" "Numeral.__radd__" (defArgs sNumeral_radd) (defBody sNumeral_radd) (defScope sNumeral_radd) [] [] (He.ma K (He.ga K "Numeral") "__radd__") fdM_radd := FM_radd'
  obtain ⟨fdM_sub, FM_sub'⟩ := c.d.def_ 34 (d := dNumeral_sub) rfl
  have FM_sub : FunD K "__sub__" "Numeral.__sub__" (defArgs sNumeral_sub) (defBody sNumeral_sub) (defScope sNumeral_sub) [] [] (He.ma K (He.ga K "Numeral") "__sub__") fdM_sub := FM_sub'
  obtain ⟨fdM_rsub, FM_rsub'⟩ := c.d.def_ 35 (d := dNumeral_rsub) rfl
  have FM_rsub : FunD K "__rsub__" "Numeral.__rsub__" (defArgs sNumeral_rsub) (defBody sNumeral_rsub) (defScope sNumeral_rsub) [] [] (He.ma K (He.ga K "Numeral") "__rsub__") fdM_rsub := FM_rsub'
  obtain ⟨fdM_mul, FM_mul'⟩ := c.d.def_ 36 (d := dNumeral_mul) rfl
  have FM_mul : FunD K "__mul__" "Numeral.__mul__" (defArgs sNumeral_mul) (defBody sNumeral_mul) (defScope sNumeral_mul) [] [] (He.ma K (He.ga K "Numeral") "__mul__") fdM_mul := FM_mul'
  obtain ⟨fdM_rmul, FM_rmul'⟩ := c.d.def_ 37 (d := dNumeral_rmul) rfl
  have FM_rmul : FunD K "__rmul__" "Numeral.__rmul__" (defArgs sNumeral_rmul) (defBody sNumeral_rmul) (defScope sNumeral_rmul) [] [] (He.ma K (He.ga K "Numeral") "__rmul__") fdM_rmul := FM_rmul'
  obtain ⟨fdM_pow, FM_pow'⟩ := c.d.def_ 38 (d := dNumeral_pow) rfl
  have FM_pow : FunD K "__pow__" "Numeral.__pow__" (defArgs sNumeral_pow) (defBody sNumeral_pow) (defScope sNumeral_pow) [] [] (He.ma K (He.ga K "Numeral") "__pow__") fdM_pow := FM_pow'
  obtain ⟨fdM_floordiv, FM_floordiv'⟩ := c.d.def_ 39 (d := dNumeral_floordiv) rfl
  have FM_floordiv : FunD K "__floordiv__" "Numeral.__floordiv__" (defArgs sNumeral_floordiv) (defBody sNumeral_floordiv) (defScope sNumeral_floordiv) [] [] (He.ma K (He.ga K "Numeral") "__floordiv__") fdM_floordiv := FM_floordiv'
  obtain ⟨fdM_mod, FM_mod'⟩ := c.d.def_ 40 (d := dNumeral_mod) rfl
  have FM_mod : FunD K "__mod__" "Numeral.__mod__" (defArgs sNumeral_mod) (defBody sNumeral_mod) (defScope sNumeral_mod) [] [] (He.ma K (He.ga K "Numeral") "__mod__") fdM_mod := FM_mod'
  obtain ⟨fdOf, FOf'⟩ := saysW_def cw 0 (d := dOf) rfl
  have FOf : FunD K "of" "Numeral.of" (defArgs sNumeral_of) (defBody sNumeral_of) (defScope sNumeral_of) [] [] (He5.wf K (He.ga K "Numeral") "classmethod" "of") fdOf := FOf'
  have e := hfa.symm.trans (He.glo_ok X G (c.d.fact 26 (f := .glo "law") rfl))
  cases e
  have b := FunD.bindsA (ps := ["_law_script"]) FLaw fun _ _ _ _ _ _ us hl => match us, hl with | [_], _ => rfl
  have tin : ∀ p ∈ [He.cT K ("_law_sums_right", none), He.cT K ("_law_powers_right", none), He.cT K ("_law_parts_right", none), He.cT K ("_law_unlike_right", none), He.cT K ("_law_of_right", none)], ∃ q ∈ tf, p = He.cT K q := fun p hp => by
    rcases List.mem_cons.mp hp with e | hp
    · exact ⟨("_law_sums_right", none), List.mem_cons_self, e⟩
    rcases List.mem_cons.mp hp with e | hp
    · exact ⟨("_law_powers_right", none), (List.mem_cons_of_mem _ List.mem_cons_self), e⟩
    rcases List.mem_cons.mp hp with e | hp
    · exact ⟨("_law_parts_right", none), (List.mem_cons_of_mem _ (List.mem_cons_of_mem _ List.mem_cons_self)), e⟩
    rcases List.mem_cons.mp hp with e | hp
    · exact ⟨("_law_unlike_right", none), (List.mem_cons_of_mem _ (List.mem_cons_of_mem _ (List.mem_cons_of_mem _ List.mem_cons_self))), e⟩
    exact ⟨("_law_of_right", none), (List.mem_cons_of_mem _ (List.mem_cons_of_mem _ (List.mem_cons_of_mem _ (List.mem_cons_of_mem _ List.mem_cons_self)))), List.mem_singleton.mp hp⟩
  refine ⟨fdLaw, fun s v => b s [v] rfl, fun p hp => ?_, fun p hp => ?_, fun p hp => ?_, fun base _ _ TB => ?_⟩
  · obtain ⟨q, hq, e⟩ := tin p hp
    rw [e]
    exact c.empty q hq
  · obtain ⟨q, hq, e⟩ := tin p hp
    rw [e]
    exact c.out q hq
  · obtain ⟨q, hq, e⟩ := tin p hp
    rw [e]
    exact PySem.W.codeHd_of_K X (c.hd q hq)
  obtain ⟨oT, oI, oF⟩ := oexB_ok h5
  have RX : RsX P w K mg base "NoNumeral" "at" := ⟨oT, oI, oF, He.eqO_ok h6, (He.glo_ok X G (c.d.fact 28 (f := .glo "NoNumeral") rfl)), fdNN, iniF FI ⟨rfl, rfl, rfl, by decide +kernel, rfl, by decide +kernel, by decide +kernel⟩ (Or.inl rfl) (Or.inl rfl), FI.bindsN fun _ _ _ _ _ _ us hl => match us, hl with | [_, _], _ => rfl⟩
  obtain ⟨uT, uI, uF⟩ := oexB_ok h7
  have RO : RsX P w K mg base "Overflow" "value" := ⟨uT, uI, uF, He.eqO_ok h8, (He.glo_ok X G (c.d.fact 30 (f := .glo "Overflow") rfl)), fdOO, iniF FIO ⟨rfl, rfl, rfl, by decide +kernel, rfl, by decide +kernel, by decide +kernel⟩ (Or.inl rfl) (Or.inl rfl), FIO.bindsN fun _ _ _ _ _ _ us hl => match us, hl with | [_, _], _ => rfl⟩
  have CS : Cst mg := ⟨(He.int_ok X G (c.d.fact 48 (f := .int "LEAST_BASE" 2) rfl)), (He.int_ok X G (c.d.fact 49 (f := .int "GREATEST_BASE" 100) rfl)), (He.int_ok X G (c.d.fact 50 (f := .int "MOST_PLACES" 4) rfl))⟩
  have ZD : RaiK K mg "NoDivisor" (He.ga K "NoDivisor") := ⟨(He.glo_ok X G (c.d.fact 32 (f := .glo "NoDivisor") rfl)), (He.exc_ok (c.d.fact 54 (f := .exc "NoDivisor") rfl)).1, (He.exc_ok (c.d.fact 54 (f := .exc "NoDivisor") rfl)).2.1, (He.exc_ok (c.d.fact 54 (f := .exc "NoDivisor") rfl)).2.2.1, (He.exc_ok (c.d.fact 54 (f := .exc "NoDivisor") rfl)).2.2.2⟩
  have ZU : RaiK K mg "Unlike" (He.ga K "Unlike") := ⟨(He.glo_ok X G (c.d.fact 31 (f := .glo "Unlike") rfl)), (He.exc_ok (c.d.fact 55 (f := .exc "Unlike") rfl)).1, (He.exc_ok (c.d.fact 55 (f := .exc "Unlike") rfl)).2.1, (He.exc_ok (c.d.fact 55 (f := .exc "Unlike") rfl)).2.2.1, (He.exc_ok (c.d.fact 55 (f := .exc "Unlike") rfl)).2.2.2⟩
  have hA : exAllB K = true := h1
  unfold exAllB at hA
  simp only [Bool.and_eq_true] at hA
  have N : NumK K mg (He.ga K "Numeral") := ⟨(He.glo_ok X G (c.d.fact 33 (f := .glo "Numeral") rfl)), He.cls_ok (c.d.fact 56 (f := .cls "Numeral") rfl), (He.noat_ok (c.d.fact 58 (f := .noat "Numeral" "digits") rfl)), (He.noat_ok (c.d.fact 59 (f := .noat "Numeral" "bases") rfl)), (He.noat_ok (c.d.fact 60 (f := .noat "Numeral" "value") rfl)), He.eqO_ok h19, He.eqO_ok hA.1, of_decide_eq_true hA.2, of_decide_eq_true h20, of_decide_eq_true h21⟩
  have RF : RfT K mg (He.ga K "Overflow") (He.ga K "NoDivisor") (He.ga K "Unlike") := ⟨(He.glo_ok X G (c.d.fact 27 (f := .glo "RisingError") rfl)), (He.glo_ok X G (c.d.fact 28 (f := .glo "NoNumeral") rfl)), (He.glo_ok X G (c.d.fact 30 (f := .glo "Overflow") rfl)), (He.glo_ok X G (c.d.fact 32 (f := .glo "NoDivisor") rfl)), (He.glo_ok X G (c.d.fact 31 (f := .glo "Unlike") rfl)), (He.free_ok X G (c.d.fact 34 (f := .free "isinstance") rfl)), He.exm_ok (c.d.fact 51 (f := .exm "Overflow" "RisingError" true) rfl), He.exm_ok (c.d.fact 52 (f := .exm "NoDivisor" "RisingError" true) rfl), He.exm_ok (c.d.fact 53 (f := .exm "Unlike" "RisingError" true) rfl), exKB_ok h1 h2, exKB_ok h1 h3, exKB_ok h1 h4, of_decide_eq_true h9, of_decide_eq_true h10, of_decide_eq_true h11, of_decide_eq_true h12, of_decide_eq_true h13, of_decide_eq_true h14, of_decide_eq_true h15, of_decide_eq_true h16, of_decide_eq_true h17, of_decide_eq_true h18, He.eqO_ok h8⟩
  have SC : OpC K (He.ga K "Numeral") := ⟨h24, of_decide_eq_true h25, of_decide_eq_true h26⟩
  have B_add : BinN K (He.ga K "Numeral") "add" := ⟨h28, h29, h30⟩
  have N_add : NoI K (He.ga K "Numeral") "add" := ⟨of_decide_eq_true h27, He.eqO_ok h31, He.eqO_ok h32⟩
  have B_sub : BinN K (He.ga K "Numeral") "sub" := ⟨h33, h34, h35⟩
  have N_sub : NoI K (He.ga K "Numeral") "sub" := ⟨of_decide_eq_true h27, He.eqO_ok h36, He.eqO_ok h37⟩
  have B_mul : BinN K (He.ga K "Numeral") "mul" := ⟨h38, h39, h40⟩
  have N_mul : NoI K (He.ga K "Numeral") "mul" := ⟨of_decide_eq_true h27, He.eqO_ok h41, He.eqO_ok h42⟩
  have B_pow : BinN K (He.ga K "Numeral") "pow" := ⟨h43, h44, h45⟩
  have B_floordiv : BinN K (He.ga K "Numeral") "floordiv" := ⟨h46, h47, h48⟩
  have N_floordiv : NoI K (He.ga K "Numeral") "floordiv" := ⟨of_decide_eq_true h27, He.eqO_ok h49, He.eqO_ok h50⟩
  have B_mod : BinN K (He.ga K "Numeral") "mod" := ⟨h51, h52, h53⟩
  have N_mod : NoI K (He.ga K "Numeral") "mod" := ⟨of_decide_eq_true h27, He.eqO_ok h54, He.eqO_ok h55⟩
  have C1 : Cd P w K mg base CX0 1 "is_sequence" ["thing"] (spSeq K) := ⟨_, _, ok_seq FIsSequence (He.free_ok X G (c.d.fact 34 (f := .free "isinstance") rfl)) (He.free_ok X G (c.d.fact 37 (f := .free "tuple") rfl)) (He.free_ok X G (c.d.fact 38 (f := .free "list") rfl)), (He.glo_ok X G (c.d.fact 1 (f := .glo "is_sequence") rfl)), FIsSequence.kp, FIsSequence.bindsN fun _ _ _ _ _ _ us hl => match us, hl with | [_], _ => rfl⟩
  have C2 : Cd P w K mg base CX0 1 "is_whole" ["thing"] (spWhole K) := ⟨_, _, ok_whole FIsWhole (He.free_ok X G (c.d.fact 34 (f := .free "isinstance") rfl)) (He.free_ok X G (c.d.fact 35 (f := .free "int") rfl)) (He.free_ok X G (c.d.fact 36 (f := .free "bool") rfl)), (He.glo_ok X G (c.d.fact 0 (f := .glo "is_whole") rfl)), FIsWhole.kp, FIsWhole.bindsN fun _ _ _ _ _ _ us hl => match us, hl with | [_], _ => rfl⟩
  have C2N : Cd P w K mg base CX0 1 "is_whole" ["thing"] (spWholeN (He.ga K "Numeral")) := ⟨_, _, ok_wholeN FIsWhole N (of_decide_eq_true h22) (He.free_ok X G (c.d.fact 34 (f := .free "isinstance") rfl)) (He.free_ok X G (c.d.fact 35 (f := .free "int") rfl)) (He.free_ok X G (c.d.fact 36 (f := .free "bool") rfl)), (He.glo_ok X G (c.d.fact 0 (f := .glo "is_whole") rfl)), FIsWhole.kp, FIsWhole.bindsN fun _ _ _ _ _ _ us hl => match us, hl with | [_], _ => rfl⟩
  have C3 : Cd P w K mg base CX0 2 "is_bases" ["thing"] (spIsB K) := ⟨_, _, ok_isb FIsBases C1 C2 CS (He.free_ok X G (c.d.fact 39 (f := .free "len") rfl)) (He.free_ok X G (c.d.fact 40 (f := .free "all") rfl)), (He.glo_ok X G (c.d.fact 2 (f := .glo "is_bases") rfl)), FIsBases.kp, FIsBases.bindsN fun _ _ _ _ _ _ us hl => match us, hl with | [_], _ => rfl⟩
  have C4 : Cd P w K mg base (L2.CX P w) 3 "_products" ["bases"] (spProds K "NoNumeral") := ⟨_, _, ok_prods FProducts C3 RX, (He.glo_ok X G (c.d.fact 3 (f := .glo "_products") rfl)), FProducts.kp, FProducts.bindsN fun _ _ _ _ _ _ us hl => match us, hl with | [_], _ => rfl⟩
  have C5 : Cd P w K mg base (L2.CX P w) 4 "weights" ["bases"] (spWts K "NoNumeral") := ⟨_, _, ok_wts FWeights C4 (He.free_ok X G (c.d.fact 37 (f := .free "tuple") rfl)), (He.glo_ok X G (c.d.fact 4 (f := .glo "weights") rfl)), FWeights.kp, FWeights.bindsN fun _ _ _ _ _ _ us hl => match us, hl with | [_], _ => rfl⟩
  have C9 : Cd P w K mg base (L2.CX P w) 4 "count_of" ["bases"] (spCnt K "NoNumeral") := ⟨_, _, ok_cnt FCountOf C4, (He.glo_ok X G (c.d.fact 5 (f := .glo "count_of") rfl)), FCountOf.kp, FCountOf.bindsN fun _ _ _ _ _ _ us hl => match us, hl with | [_], _ => rfl⟩
  have C6 : Cd P w K mg base CX0 3 "_is_as_long" ["digits", "bases"] (spLong K) := ⟨_, _, ok_long FIsAsLong C3 C1 (He.free_ok X G (c.d.fact 39 (f := .free "len") rfl)), (He.glo_ok X G (c.d.fact 6 (f := .glo "_is_as_long") rfl)), FIsAsLong.kp, FIsAsLong.bindsN fun _ _ _ _ _ _ us hl => match us, hl with | [_, _], _ => rfl⟩
  have C7 : Cd P w K mg base CX0 2 "_first_wrong" ["digits", "bases"] (spWrong K) := ⟨_, _, ok_wrong FFirstWrong C2 (He.free_ok X G (c.d.fact 45 (f := .free "enumerate") rfl)), (He.glo_ok X G (c.d.fact 7 (f := .glo "_first_wrong") rfl)), FFirstWrong.kp, FFirstWrong.bindsN fun _ _ _ _ _ _ us hl => match us, hl with | [_, _], _ => rfl⟩
  have C8 : Cd P w K mg base (L2.CX P w) 1 "_check_like" ["one", "other"] (spLike (He.ga K "Numeral") (He.ga K "Unlike")) := ⟨_, _, ok_like FCheckLike N ZU, (He.glo_ok X G (c.d.fact 9 (f := .glo "_check_like") rfl)), FCheckLike.kp, FCheckLike.bindsN fun _ _ _ _ _ _ us hl => match us, hl with | [_, _], _ => rfl⟩
  have CV : Cd P w K mg base (L2.CX P w) 2 "_check_divisor" ["thing"] (spDivs (He.ga K "NoDivisor")) := ⟨_, _, ok_divs FCheckDivisor C2 ZD, (He.glo_ok X G (c.d.fact 10 (f := .glo "_check_divisor") rfl)), FCheckDivisor.kp, FCheckDivisor.bindsN fun _ _ _ _ _ _ us hl => match us, hl with | [_], _ => rfl⟩
  have CAI : Cd P w K mg base (L2.CX P w) 2 "_amount_of" ["thing", "numeral"] spAmI := ⟨_, _, ok_amI FAmountOf C2 C8 N (He.free_ok X G (c.d.fact 34 (f := .free "isinstance") rfl)), (He.glo_ok X G (c.d.fact 11 (f := .glo "_amount_of") rfl)), FAmountOf.kp, FAmountOf.bindsN fun _ _ _ _ _ _ us hl => match us, hl with | [_, _], _ => rfl⟩
  have CAN : Cd P w K mg base (L2.CX P w) 2 "_amount_of" ["thing", "numeral"] (spAmN (He.ga K "Numeral") (He.ga K "Unlike")) := ⟨_, _, ok_amN FAmountOf C2N C8 N (He.free_ok X G (c.d.fact 34 (f := .free "isinstance") rfl)), (He.glo_ok X G (c.d.fact 11 (f := .glo "_amount_of") rfl)), FAmountOf.kp, FAmountOf.bindsN fun _ _ _ _ _ _ us hl => match us, hl with | [_, _], _ => rfl⟩
  have CDg : Cd P w K mg base (L2.CX P w) 5 "_digits_of" ["value", "bases"] (spDgV (He.ga K "Overflow")) := ⟨_, _, ok_dg FDigitsOf C9 C5 RO (He.free_ok X G (c.d.fact 44 (f := .free "zip") rfl)), (He.glo_ok X G (c.d.fact 8 (f := .glo "_digits_of") rfl)), FDigitsOf.kp, FDigitsOf.bindsN fun _ _ _ _ _ _ us hl => match us, hl with | [_, _], _ => rfl⟩
  have OI : FnOk P w K mg base CX0 5 (He.ma K (He.ga K "Numeral") "__init__") fdM_init ["self", "digits", "bases"] (spInit K (He.ga K "Numeral")) := ok_init FM_init C6 C7 C5 N (He.free_ok X G (c.d.fact 37 (f := .free "tuple") rfl)) (He.free_ok X G (c.d.fact 46 (f := .free "sum") rfl)) (He.free_ok X G (c.d.fact 44 (f := .free "zip") rfl))
  have bI : Binds K fdM_init ["self", "digits", "bases"] [] := FM_init.bindsN fun _ _ _ _ _ _ us hl => match us, hl with | [_, _, _], _ => rfl
  have CN : CdC P w K mg base CX0 5 "Numeral" (He.ga K "Numeral") ["self", "digits", "bases"] (spInit K (He.ga K "Numeral")) := ⟨_, _, OI, (He.mkr_ok (c.d.fact 57 (f := .mkr "Numeral") rfl)), (He.glo_ok X G (c.d.fact 33 (f := .glo "Numeral") rfl)), bI⟩
  have FO : FnR P w K mg base (L2.CX P w) 7 (He5.wf K (He.ga K "Numeral") "classmethod" "of") (fun vs H Q E => spOfV (He.ga K "Numeral") (He.ga K "Overflow") (vs ++ []) H Q E) := (ok_of FOf CDg OI (He.mkr_ok (c.d.fact 57 (f := .mkr "Numeral") rfl)) bI).raw (ds := []) (FOf.bindsN fun _ _ _ _ _ _ us hl => match us, hl with | [_, _, _], _ => rfl) .nil
  have ME : CdM P w K mg base CX0 1 (He.ga K "Numeral") "__eq__" ["self", "other"] (spEqN (He.ga K "Numeral")) := ⟨_, _, ok_eq FM_eq N (He.free_ok X G (c.d.fact 34 (f := .free "isinstance") rfl)), (He.meth_ok (c.d.fact 61 (f := .meth "Numeral" "__eq__") rfl)).at_, (He.meth_ok (c.d.fact 61 (f := .meth "Numeral" "__eq__") rfl)).fn, (He.meth_ok (c.d.fact 61 (f := .meth "Numeral" "__eq__") rfl)).kp, FM_eq.bindsN fun _ _ _ _ _ _ us hl => match us, hl with | [_, _], _ => rfl⟩
  have MW : CdM P w K mg base (L2.CX P w) 7 (He.ga K "Numeral") "_with_value" ["self", "value"] (spWV (He.ga K "Numeral") (He.ga K "Overflow")) := ⟨_, _, ok_wv FM_with_value N CDg CN, (He.meth_ok (c.d.fact 62 (f := .meth "Numeral" "_with_value") rfl)).at_, (He.meth_ok (c.d.fact 62 (f := .meth "Numeral" "_with_value") rfl)).fn, (He.meth_ok (c.d.fact 62 (f := .meth "Numeral" "_with_value") rfl)).kp, FM_with_value.bindsN fun _ _ _ _ _ _ us hl => match us, hl with | [_, _], _ => rfl⟩
  have MAI : CdM P w K mg base (L2.CX P w) 8 (He.ga K "Numeral") "__add__" ["self", "other"] (spAI (fun i j => i + j) (He.ga K "Numeral") (He.ga K "Overflow")) := ⟨_, _, ok_addI (U := (He.ga K "Unlike")) (D := (He.ga K "NoDivisor")) FM_add N MW CAI, (He.meth_ok (c.d.fact 63 (f := .meth "Numeral" "__add__") rfl)).at_, (He.meth_ok (c.d.fact 63 (f := .meth "Numeral" "__add__") rfl)).fn, (He.meth_ok (c.d.fact 63 (f := .meth "Numeral" "__add__") rfl)).kp, FM_add.bindsN fun _ _ _ _ _ _ us hl => match us, hl with | [_, _], _ => rfl⟩
  have MAN : CdM P w K mg base (L2.CX P w) 8 (He.ga K "Numeral") "__add__" ["self", "other"] (spAN (fun i j => i + j) (He.ga K "Numeral") (He.ga K "Overflow") (He.ga K "Unlike")) := ⟨_, _, ok_addN (D := (He.ga K "NoDivisor")) FM_add N MW CAN, (He.meth_ok (c.d.fact 63 (f := .meth "Numeral" "__add__") rfl)).at_, (He.meth_ok (c.d.fact 63 (f := .meth "Numeral" "__add__") rfl)).fn, (He.meth_ok (c.d.fact 63 (f := .meth "Numeral" "__add__") rfl)).kp, FM_add.bindsN fun _ _ _ _ _ _ us hl => match us, hl with | [_, _], _ => rfl⟩
  have MRA : CdM P w K mg base (L2.CX P w) 8 (He.ga K "Numeral") "__radd__" ["self", "other"] (spAI (fun i j => j + i) (He.ga K "Numeral") (He.ga K "Overflow")) := ⟨_, _, ok_radd (U := (He.ga K "Unlike")) (D := (He.ga K "NoDivisor")) FM_radd N MW C2, (He.meth_ok (c.d.fact 64 (f := .meth "Numeral" "__radd__") rfl)).at_, (He.meth_ok (c.d.fact 64 (f := .meth "Numeral" "__radd__") rfl)).fn, (He.meth_ok (c.d.fact 64 (f := .meth "Numeral" "__radd__") rfl)).kp, FM_radd.bindsN fun _ _ _ _ _ _ us hl => match us, hl with | [_, _], _ => rfl⟩
  have MSI : CdM P w K mg base (L2.CX P w) 8 (He.ga K "Numeral") "__sub__" ["self", "other"] (spAI (fun i j => i - j) (He.ga K "Numeral") (He.ga K "Overflow")) := ⟨_, _, ok_subI (U := (He.ga K "Unlike")) (D := (He.ga K "NoDivisor")) FM_sub N MW CAI, (He.meth_ok (c.d.fact 65 (f := .meth "Numeral" "__sub__") rfl)).at_, (He.meth_ok (c.d.fact 65 (f := .meth "Numeral" "__sub__") rfl)).fn, (He.meth_ok (c.d.fact 65 (f := .meth "Numeral" "__sub__") rfl)).kp, FM_sub.bindsN fun _ _ _ _ _ _ us hl => match us, hl with | [_, _], _ => rfl⟩
  have MSN : CdM P w K mg base (L2.CX P w) 8 (He.ga K "Numeral") "__sub__" ["self", "other"] (spAN (fun i j => i - j) (He.ga K "Numeral") (He.ga K "Overflow") (He.ga K "Unlike")) := ⟨_, _, ok_subN (D := (He.ga K "NoDivisor")) FM_sub N MW CAN, (He.meth_ok (c.d.fact 65 (f := .meth "Numeral" "__sub__") rfl)).at_, (He.meth_ok (c.d.fact 65 (f := .meth "Numeral" "__sub__") rfl)).fn, (He.meth_ok (c.d.fact 65 (f := .meth "Numeral" "__sub__") rfl)).kp, FM_sub.bindsN fun _ _ _ _ _ _ us hl => match us, hl with | [_, _], _ => rfl⟩
  have MRS : CdM P w K mg base (L2.CX P w) 8 (He.ga K "Numeral") "__rsub__" ["self", "other"] (spAI (fun i j => j - i) (He.ga K "Numeral") (He.ga K "Overflow")) := ⟨_, _, ok_rsub (U := (He.ga K "Unlike")) (D := (He.ga K "NoDivisor")) FM_rsub N MW C2, (He.meth_ok (c.d.fact 66 (f := .meth "Numeral" "__rsub__") rfl)).at_, (He.meth_ok (c.d.fact 66 (f := .meth "Numeral" "__rsub__") rfl)).fn, (He.meth_ok (c.d.fact 66 (f := .meth "Numeral" "__rsub__") rfl)).kp, FM_rsub.bindsN fun _ _ _ _ _ _ us hl => match us, hl with | [_, _], _ => rfl⟩
  have MM : CdM P w K mg base (L2.CX P w) 8 (He.ga K "Numeral") "__mul__" ["self", "other"] (spAI (fun i j => i * j) (He.ga K "Numeral") (He.ga K "Overflow")) := ⟨_, _, ok_mul (U := (He.ga K "Unlike")) (D := (He.ga K "NoDivisor")) FM_mul N MW C2, (He.meth_ok (c.d.fact 67 (f := .meth "Numeral" "__mul__") rfl)).at_, (He.meth_ok (c.d.fact 67 (f := .meth "Numeral" "__mul__") rfl)).fn, (He.meth_ok (c.d.fact 67 (f := .meth "Numeral" "__mul__") rfl)).kp, FM_mul.bindsN fun _ _ _ _ _ _ us hl => match us, hl with | [_, _], _ => rfl⟩
  have MRM : CdM P w K mg base (L2.CX P w) 8 (He.ga K "Numeral") "__rmul__" ["self", "other"] (spAI (fun i j => j * i) (He.ga K "Numeral") (He.ga K "Overflow")) := ⟨_, _, ok_rmul (U := (He.ga K "Unlike")) (D := (He.ga K "NoDivisor")) FM_rmul N MW C2, (He.meth_ok (c.d.fact 68 (f := .meth "Numeral" "__rmul__") rfl)).at_, (He.meth_ok (c.d.fact 68 (f := .meth "Numeral" "__rmul__") rfl)).fn, (He.meth_ok (c.d.fact 68 (f := .meth "Numeral" "__rmul__") rfl)).kp, FM_rmul.bindsN fun _ _ _ _ _ _ us hl => match us, hl with | [_, _], _ => rfl⟩
  have MP : CdM P w K mg base (L2.CX P w) 8 (He.ga K "Numeral") "__pow__" ["self", "other"] (spPw (He.ga K "Numeral") (He.ga K "Overflow")) := ⟨_, _, ok_pow (U := (He.ga K "Unlike")) (D := (He.ga K "NoDivisor")) FM_pow N MW C2 (He.free_ok X G (c.d.fact 43 (f := .free "range") rfl)), (He.meth_ok (c.d.fact 69 (f := .meth "Numeral" "__pow__") rfl)).at_, (He.meth_ok (c.d.fact 69 (f := .meth "Numeral" "__pow__") rfl)).fn, (He.meth_ok (c.d.fact 69 (f := .meth "Numeral" "__pow__") rfl)).kp, FM_pow.bindsN fun _ _ _ _ _ _ us hl => match us, hl with | [_, _], _ => rfl⟩
  have MF : CdM P w K mg base (L2.CX P w) 8 (He.ga K "Numeral") "__floordiv__" ["self", "other"] (spDv (fun i j => i / j) (He.ga K "Numeral") (He.ga K "Overflow") (He.ga K "NoDivisor")) := ⟨_, _, ok_floordiv (U := (He.ga K "Unlike")) FM_floordiv N MW CV, (He.meth_ok (c.d.fact 70 (f := .meth "Numeral" "__floordiv__") rfl)).at_, (He.meth_ok (c.d.fact 70 (f := .meth "Numeral" "__floordiv__") rfl)).fn, (He.meth_ok (c.d.fact 70 (f := .meth "Numeral" "__floordiv__") rfl)).kp, FM_floordiv.bindsN fun _ _ _ _ _ _ us hl => match us, hl with | [_, _], _ => rfl⟩
  have MO : CdM P w K mg base (L2.CX P w) 8 (He.ga K "Numeral") "__mod__" ["self", "other"] (spDv (fun i j => i % j) (He.ga K "Numeral") (He.ga K "Overflow") (He.ga K "NoDivisor")) := ⟨_, _, ok_mod (U := (He.ga K "Unlike")) FM_mod N MW CV, (He.meth_ok (c.d.fact 71 (f := .meth "Numeral" "__mod__") rfl)).at_, (He.meth_ok (c.d.fact 71 (f := .meth "Numeral" "__mod__") rfl)).fn, (He.meth_ok (c.d.fact 71 (f := .meth "Numeral" "__mod__") rfl)).kp, FM_mod.bindsN fun _ _ _ _ _ _ us hl => match us, hl with | [_, _], _ => rfl⟩
  have D1 : Cd P w K mg base CX0 1 "_law_pen" ["_law_script"] (spPenL K) := ⟨_, _, ok_pen FPen (He.free_ok X G (c.d.fact 38 (f := .free "list") rfl)), (He.glo_ok X G (c.d.fact 12 (f := .glo "_law_pen") rfl)), FPen.kp, FPen.bindsN fun _ _ _ _ _ _ us hl => match us, hl with | [_], _ => rfl⟩
  have D2 : Cd P w K mg base CX0 1 "_law_take" ["_law_pen_here", "_law_limit"] spTakeL := ⟨_, _, ok_take FTake (He.free_ok X G (c.d.fact 35 (f := .free "int") rfl)) (He.free_ok X G (c.d.fact 39 (f := .free "len") rfl)) (He.free_ok X G (c.d.fact 41 (f := .free "abs") rfl)), (He.glo_ok X G (c.d.fact 13 (f := .glo "_law_take") rfl)), FTake.kp, FTake.bindsN fun _ _ _ _ _ _ us hl => match us, hl with | [_, _], _ => rfl⟩
  have D3 : Cd P w K mg base CX0 2 "_law_pick" ["_law_pen_here", "_law_some"] (spPickL K) := ⟨_, _, ok_pick FLPick D2 (He.free_ok X G (c.d.fact 39 (f := .free "len") rfl)), (He.glo_ok X G (c.d.fact 14 (f := .glo "_law_pick") rfl)), FLPick.kp, FLPick.bindsN fun _ _ _ _ _ _ us hl => match us, hl with | [_, _], _ => rfl⟩
  have D4 : Cd P w K mg base CX0 3 "_law_bases" ["_law_pen_here"] spBasesL := ⟨_, _, ok_bases FLBases D2 D3 (He.free_ok X G (c.d.fact 43 (f := .free "range") rfl)), (He.glo_ok X G (c.d.fact 15 (f := .glo "_law_bases") rfl)), FLBases.kp, FLBases.bindsN fun _ _ _ _ _ _ us hl => match us, hl with | [_], _ => rfl⟩
  have D5 : Cd P w K mg base CX0 3 "_law_digits" ["_law_pen_here", "_law_bases_here"] spDigitsL := ⟨_, _, ok_digits FLDigits D2 D3, (He.glo_ok X G (c.d.fact 16 (f := .glo "_law_digits") rfl)), FLDigits.kp, FLDigits.bindsN fun _ _ _ _ _ _ us hl => match us, hl with | [_, _], _ => rfl⟩
  have D6 : Cd P w K mg base CX0 1 "_law_due" ["_law_value", "_law_bases_here"] spDue := ⟨_, _, ok_due FLDue (He.free_ok X G (c.d.fact 37 (f := .free "tuple") rfl)) (He.free_ok X G (c.d.fact 35 (f := .free "int") rfl)), (He.glo_ok X G (c.d.fact 18 (f := .glo "_law_due") rfl)), FLDue.kp, FLDue.bindsN fun _ _ _ _ _ _ us hl => match us, hl with | [_, _], _ => rfl⟩
  have D7 : Cd P w K mg base CX0 3 "_law_number" ["_law_pen_here", "_law_value", "_law_room"] spNum := ⟨_, _, ok_num FLNumber D2 D3, (He.glo_ok X G (c.d.fact 19 (f := .glo "_law_number") rfl)), FLNumber.kp, FLNumber.bindsN fun _ _ _ _ _ _ us hl => match us, hl with | [_, _, _], _ => rfl⟩
  have un0 : ∀ p ∈ ([((He.cT K ("_law_sums_right", none)).2, qSums), ((He.cT K ("_law_powers_right", none)).2, qPows), ((He.cT K ("_law_parts_right", none)).2, qParts), ((He.cT K ("_law_unlike_right", none)).2, qUnl), ((He.cT K ("_law_of_right", none)).2, qOfR)] : List (Addr × Str)), p.1 = (He.cT K ("_law_sums_right", none)).2 → p.2 = qSums := fun p hp e => by
    rcases List.mem_cons.mp hp with e2 | hp
    · rw [e2]
    rcases List.mem_cons.mp hp with e2 | hp
    · rw [e2] at e
      exact absurd e.symm (of_decide_eq_true h60)
    rcases List.mem_cons.mp hp with e2 | hp
    · rw [e2] at e
      exact absurd e.symm (of_decide_eq_true h61)
    rcases List.mem_cons.mp hp with e2 | hp
    · rw [e2] at e
      exact absurd e.symm (of_decide_eq_true h62)
    have e2 := List.mem_singleton.mp hp
    rw [e2] at e
    exact absurd e.symm (of_decide_eq_true h63)
  have un1 : ∀ p ∈ ([((He.cT K ("_law_sums_right", none)).2, qSums), ((He.cT K ("_law_powers_right", none)).2, qPows), ((He.cT K ("_law_parts_right", none)).2, qParts), ((He.cT K ("_law_unlike_right", none)).2, qUnl), ((He.cT K ("_law_of_right", none)).2, qOfR)] : List (Addr × Str)), p.1 = (He.cT K ("_law_powers_right", none)).2 → p.2 = qPows := fun p hp e => by
    rcases List.mem_cons.mp hp with e2 | hp
    · rw [e2] at e
      exact absurd e (of_decide_eq_true h60)
    rcases List.mem_cons.mp hp with e2 | hp
    · rw [e2]
    rcases List.mem_cons.mp hp with e2 | hp
    · rw [e2] at e
      exact absurd e.symm (of_decide_eq_true h64)
    rcases List.mem_cons.mp hp with e2 | hp
    · rw [e2] at e
      exact absurd e.symm (of_decide_eq_true h65)
    have e2 := List.mem_singleton.mp hp
    rw [e2] at e
    exact absurd e.symm (of_decide_eq_true h66)
  have un2 : ∀ p ∈ ([((He.cT K ("_law_sums_right", none)).2, qSums), ((He.cT K ("_law_powers_right", none)).2, qPows), ((He.cT K ("_law_parts_right", none)).2, qParts), ((He.cT K ("_law_unlike_right", none)).2, qUnl), ((He.cT K ("_law_of_right", none)).2, qOfR)] : List (Addr × Str)), p.1 = (He.cT K ("_law_parts_right", none)).2 → p.2 = qParts := fun p hp e => by
    rcases List.mem_cons.mp hp with e2 | hp
    · rw [e2] at e
      exact absurd e (of_decide_eq_true h61)
    rcases List.mem_cons.mp hp with e2 | hp
    · rw [e2] at e
      exact absurd e (of_decide_eq_true h64)
    rcases List.mem_cons.mp hp with e2 | hp
    · rw [e2]
    rcases List.mem_cons.mp hp with e2 | hp
    · rw [e2] at e
      exact absurd e.symm (of_decide_eq_true h67)
    have e2 := List.mem_singleton.mp hp
    rw [e2] at e
    exact absurd e.symm (of_decide_eq_true h68)
  have un3 : ∀ p ∈ ([((He.cT K ("_law_sums_right", none)).2, qSums), ((He.cT K ("_law_powers_right", none)).2, qPows), ((He.cT K ("_law_parts_right", none)).2, qParts), ((He.cT K ("_law_unlike_right", none)).2, qUnl), ((He.cT K ("_law_of_right", none)).2, qOfR)] : List (Addr × Str)), p.1 = (He.cT K ("_law_unlike_right", none)).2 → p.2 = qUnl := fun p hp e => by
    rcases List.mem_cons.mp hp with e2 | hp
    · rw [e2] at e
      exact absurd e (of_decide_eq_true h62)
    rcases List.mem_cons.mp hp with e2 | hp
    · rw [e2] at e
      exact absurd e (of_decide_eq_true h65)
    rcases List.mem_cons.mp hp with e2 | hp
    · rw [e2] at e
      exact absurd e (of_decide_eq_true h67)
    rcases List.mem_cons.mp hp with e2 | hp
    · rw [e2]
    have e2 := List.mem_singleton.mp hp
    rw [e2] at e
    exact absurd e.symm (of_decide_eq_true h69)
  have un4 : ∀ p ∈ ([((He.cT K ("_law_sums_right", none)).2, qSums), ((He.cT K ("_law_powers_right", none)).2, qPows), ((He.cT K ("_law_parts_right", none)).2, qParts), ((He.cT K ("_law_unlike_right", none)).2, qUnl), ((He.cT K ("_law_of_right", none)).2, qOfR)] : List (Addr × Str)), p.1 = (He.cT K ("_law_of_right", none)).2 → p.2 = qOfR := fun p hp e => by
    rcases List.mem_cons.mp hp with e2 | hp
    · rw [e2] at e
      exact absurd e (of_decide_eq_true h63)
    rcases List.mem_cons.mp hp with e2 | hp
    · rw [e2] at e
      exact absurd e (of_decide_eq_true h66)
    rcases List.mem_cons.mp hp with e2 | hp
    · rw [e2] at e
      exact absurd e (of_decide_eq_true h68)
    rcases List.mem_cons.mp hp with e2 | hp
    · rw [e2] at e
      exact absurd e (of_decide_eq_true h69)
    have e2 := List.mem_singleton.mp hp
    rw [e2]
  obtain ⟨w1, w2⟩ := He5.wrapB_ok h58
  have CRD : ClX.CRead K (He.ga K "Numeral") (.type "type") := ⟨h56, He.eqO_ok h57⟩
  have CMT : ClX.CMet K (He.ga K "Numeral") (.type "type") "of" _ (He5.wf K (He.ga K "Numeral") "classmethod" "of") := ⟨w1, w2, h59⟩
  have G1 : CdG P w K mg base CX0 11 "_law_sums_right" ["_law_one", "_law_other", "_law_k"] (spSums (He.ga K "Numeral") [((He.cT K ("_law_sums_right", none)).2, qSums), ((He.cT K ("_law_powers_right", none)).2, qPows), ((He.cT K ("_law_parts_right", none)).2, qParts), ((He.cT K ("_law_unlike_right", none)).2, qUnl), ((He.cT K ("_law_of_right", none)).2, qOfR)]) := ⟨_, _, ok_sums FLSumsRight FLTold (He.glo_ok X G (c.d.fact 17 (f := .glo "_law_told") rfl)) N SC RF M rfl (TB _ List.mem_cons_self) List.mem_cons_self un0 B_add B_sub B_mul MAI MAN MRA MSI MSN MRS MM MRM D6 (He.free_ok X G (c.d.fact 42 (f := .free "repr") rfl)) (He.free_ok X G (c.d.fact 38 (f := .free "list") rfl)), (He.glo_ok X G (c.d.fact 20 (f := .glo "_law_sums_right") rfl)), FLSumsRight.kp, FLSumsRight.bindsN fun _ _ _ _ _ _ us hl => match us, hl with | [_, _, _], _ => rfl⟩
  have G2 : CdG P w K mg base CX0 11 "_law_powers_right" ["_law_one"] (spPows (He.ga K "Numeral") [((He.cT K ("_law_sums_right", none)).2, qSums), ((He.cT K ("_law_powers_right", none)).2, qPows), ((He.cT K ("_law_parts_right", none)).2, qParts), ((He.cT K ("_law_unlike_right", none)).2, qUnl), ((He.cT K ("_law_of_right", none)).2, qOfR)]) := ⟨_, _, ok_pows FLPowersRight FLTold (He.glo_ok X G (c.d.fact 17 (f := .glo "_law_told") rfl)) N SC RF M rfl (TB _ (List.mem_cons_of_mem _ List.mem_cons_self)) (List.mem_cons_of_mem _ List.mem_cons_self) un1 B_pow MP D6 (He.free_ok X G (c.d.fact 42 (f := .free "repr") rfl)) (He.free_ok X G (c.d.fact 38 (f := .free "list") rfl)) (He.free_ok X G (c.d.fact 43 (f := .free "range") rfl)), (He.glo_ok X G (c.d.fact 21 (f := .glo "_law_powers_right") rfl)), FLPowersRight.kp, FLPowersRight.bindsN fun _ _ _ _ _ _ us hl => match us, hl with | [_], _ => rfl⟩
  have G3 : CdG P w K mg base CX0 11 "_law_parts_right" ["_law_one", "_law_k"] (spParts (He.ga K "Numeral") [((He.cT K ("_law_sums_right", none)).2, qSums), ((He.cT K ("_law_powers_right", none)).2, qPows), ((He.cT K ("_law_parts_right", none)).2, qParts), ((He.cT K ("_law_unlike_right", none)).2, qUnl), ((He.cT K ("_law_of_right", none)).2, qOfR)]) := ⟨_, _, ok_parts FLPartsRight FLTold (He.glo_ok X G (c.d.fact 17 (f := .glo "_law_told") rfl)) N SC RF M rfl (TB _ (List.mem_cons_of_mem _ (List.mem_cons_of_mem _ List.mem_cons_self))) (List.mem_cons_of_mem _ (List.mem_cons_of_mem _ List.mem_cons_self)) un2 B_floordiv B_mod MF MO D6 (He.free_ok X G (c.d.fact 42 (f := .free "repr") rfl)) (He.free_ok X G (c.d.fact 38 (f := .free "list") rfl)) (He.free_ok X G (c.d.fact 35 (f := .free "int") rfl)), (He.glo_ok X G (c.d.fact 22 (f := .glo "_law_parts_right") rfl)), FLPartsRight.kp, FLPartsRight.bindsN fun _ _ _ _ _ _ us hl => match us, hl with | [_, _], _ => rfl⟩
  have G4 : CdG P w K mg base CX0 11 "_law_unlike_right" ["_law_pen_here", "_law_one"] (spUnl (He.ga K "Numeral") [((He.cT K ("_law_sums_right", none)).2, qSums), ((He.cT K ("_law_powers_right", none)).2, qPows), ((He.cT K ("_law_parts_right", none)).2, qParts), ((He.cT K ("_law_unlike_right", none)).2, qUnl), ((He.cT K ("_law_of_right", none)).2, qOfR)]) := ⟨_, _, ok_unl FLUnlikeRight FLTold (He.glo_ok X G (c.d.fact 17 (f := .glo "_law_told") rfl)) N SC RF M rfl (TB _ (List.mem_cons_of_mem _ (List.mem_cons_of_mem _ (List.mem_cons_of_mem _ List.mem_cons_self)))) (List.mem_cons_of_mem _ (List.mem_cons_of_mem _ (List.mem_cons_of_mem _ List.mem_cons_self))) un3 CRD CMT FO C9 D2 D3 MAN MSN (He.free_ok X G (c.d.fact 38 (f := .free "list") rfl)) (He.free_ok X G (c.d.fact 39 (f := .free "len") rfl)) (He.free_ok X G (c.d.fact 35 (f := .free "int") rfl)), (He.glo_ok X G (c.d.fact 23 (f := .glo "_law_unlike_right") rfl)), FLUnlikeRight.kp, FLUnlikeRight.bindsN fun _ _ _ _ _ _ us hl => match us, hl with | [_, _], _ => rfl⟩
  have G5 : CdG P w K mg base CX0 10 "_law_of_right" ["_law_bases_here", "_law_room"] (spOfR [((He.cT K ("_law_sums_right", none)).2, qSums), ((He.cT K ("_law_powers_right", none)).2, qPows), ((He.cT K ("_law_parts_right", none)).2, qParts), ((He.cT K ("_law_unlike_right", none)).2, qUnl), ((He.cT K ("_law_of_right", none)).2, qOfR)]) := ⟨_, _, ok_ofr FLOfRight FLTold (He.glo_ok X G (c.d.fact 17 (f := .glo "_law_told") rfl)) N SC RF M rfl (TB _ (List.mem_cons_of_mem _ (List.mem_cons_of_mem _ (List.mem_cons_of_mem _ (List.mem_cons_of_mem _ List.mem_cons_self))))) (List.mem_cons_of_mem _ (List.mem_cons_of_mem _ (List.mem_cons_of_mem _ (List.mem_cons_of_mem _ List.mem_cons_self)))) un4 CRD CMT FO D6 (He.free_ok X G (c.d.fact 42 (f := .free "repr") rfl)), (He.glo_ok X G (c.d.fact 24 (f := .glo "_law_of_right") rfl)), FLOfRight.kp, FLOfRight.bindsN fun _ _ _ _ _ _ us hl => match us, hl with | [_, _], _ => rfl⟩
  have G6 : Cd P w K mg base CX0 9 "_law_in_place_right" ["_law_one", "_law_other"] (spInp (He.ga K "Numeral")) := ⟨_, _, ok_inp FLInPlaceRight N SC B_add N_add B_sub N_sub B_mul N_mul B_floordiv N_floordiv B_mod N_mod MAI MAN MSI MM MF MO ME (He.eqO_ok h23) (He.free_ok X G (c.d.fact 35 (f := .free "int") rfl)), (He.glo_ok X G (c.d.fact 25 (f := .glo "_law_in_place_right") rfl)), FLInPlaceRight.kp, FLInPlaceRight.bindsN fun _ _ _ _ _ _ us hl => match us, hl with | [_, _], _ => rfl⟩
  exact ok_law FLaw N D1 D2 D4 D5 CN C9 D7 G1 G3 G6 G4 G2 G5 CRD CMT FO (He.free_ok X G (c.d.fact 43 (f := .free "range") rfl)) (He.free_ok X G (c.d.fact 47 (f := .free "min") rfl))
end
end K04

set_option Elab.async false
set_option linter.all false
set_option maxRecDepth 100000
set_option maxHeartbeats 0
namespace K04
open PySem PySem.Spec PyProof.Rows L2 Ru
theorem run (w : World) : HandSHeadRun.RunEq R (PySem.W.view R.prog [49]) hk ob 20000 loose w := by
  intro os
  kernel_rfl
end K04

set_option Elab.async false
set_option linter.all false
set_option maxRecDepth 100000
set_option maxHeartbeats 4000000
open PySem PySem.W PySem.Calls PyProof.Rows
theorem PySem.Challenge.cw_risingread_k04_arithmetic_by_value_holds : PySem.Challenge.rw_risingread_k04_arithmetic_by_value.Holds := by
  w_on; o_law
  refine HandSHeadRun.head_any (r := OpenLaw.row PySem.Challenge.rw_risingread_k04_arithmetic_by_value) (q := view (OpenLaw.row PySem.Challenge.rw_risingread_k04_arithmetic_by_value).prog [49]) (H := K04.hk) (ob := K04.ob) (M := 20000) (loose := K04.loose)
    (d := HandSHeadRun.topDef (OpenLaw.row PySem.Challenge.rw_risingread_k04_arithmetic_by_value).prog 49) (kwd := []) K04.ob_eq (by kernel_rfl) (fun s => by kernel_rfl) K04.run (by kernel_rfl) (by kernel_rfl) (by kernel_rfl) (by rfl)
    (by first | assumption | decide +kernel) (by decide +kernel) ⟨rfl, rfl, rfl, rfl, rfl, by decide +kernel⟩ ?hw ?hc
  case hw => w_witness2
  case hc =>
    refine Ru.walkT (l := PySem.Challenge.rw_risingread_k04_arithmetic_by_value) (n := 63) (k := 12) (x := "_law_script") rfl (by decide) (by kernel_rfl) ⟨rfl, by decide, by decide⟩ ?F
    intro w mg fa h Y G hmg0
    obtain ⟨K, KX, c, cw⟩ := Y
    have hmg : mg ("law" : PySem.Str) = some (.ref fa) := by
      have e : (HandSHeadRun.topDef (OpenLaw.row PySem.Challenge.rw_risingread_k04_arithmetic_by_value).prog 49).name = ("law" : PySem.Str) := by kernel_rfl
      rw [← e]
      exact hmg0
    obtain ⟨fd, hb, h1, h2, h3, hF⟩ := K04.facts (P := (PySem.Challenge.rw_risingread_k04_arithmetic_by_value).prog) (w := w) KX G hmg c cw
    exact ⟨K, [He.cT K ("_law_sums_right", none), He.cT K ("_law_powers_right", none), He.cT K ("_law_parts_right", none), He.cT K ("_law_unlike_right", none), He.cT K ("_law_of_right", none)], fd, K04.spLaw K [((He.cT K ("_law_sums_right", none)).2, K04.qSums), ((He.cT K ("_law_powers_right", none)).2, K04.qPows), ((He.cT K ("_law_parts_right", none)).2, K04.qParts), ((He.cT K ("_law_unlike_right", none)).2, K04.qUnl), ((He.cT K ("_law_of_right", none)).2, K04.qOfR)], KX, h1, h2, h3, hb,
      fun H a ns hl hT hS => ⟨a, ns, rfl, hS, hl, fun p hp => by
        rcases List.mem_cons.mp hp with e | hp
        · rw [e]
          exact LamX.TabS.nil (hT _ List.mem_cons_self)
        rcases List.mem_cons.mp hp with e | hp
        · rw [e]
          exact LamX.TabS.nil (hT _ (List.mem_cons_of_mem _ List.mem_cons_self))
        rcases List.mem_cons.mp hp with e | hp
        · rw [e]
          exact LamX.TabS.nil (hT _ (List.mem_cons_of_mem _ (List.mem_cons_of_mem _ List.mem_cons_self)))
        rcases List.mem_cons.mp hp with e | hp
        · rw [e]
          exact LamX.TabS.nil (hT _ (List.mem_cons_of_mem _ (List.mem_cons_of_mem _ (List.mem_cons_of_mem _ List.mem_cons_self))))
        rw [List.mem_singleton.mp hp]
        exact LamX.TabS.nil (hT _ (List.mem_cons_of_mem _ (List.mem_cons_of_mem _ (List.mem_cons_of_mem _ (List.mem_cons_of_mem _ List.mem_cons_self))))), fun _ => rfl⟩, hF⟩

