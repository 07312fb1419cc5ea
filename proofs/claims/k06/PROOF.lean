import PyProof.Rows.All
import Wide.All
import OpenK.AllK
import Wide.FinOn
import PyProof.ReprRoads
import PyProof.Rows.NestShow
import HandS.ForMost
import HandS.ForExc
import HandS.ExcInit
import HandS.ExcValue
import HandS.ExcIs
import KE.KExcIs
import HandS.ExcField
import HandS.Deep
import HandS.Defaults
import HandS.HeadEnd
import HandS.Lambda
import HandS.Head0
import HandS.Head1
import HandS.Head2
import HandS.HeadHook1
import HandS.HeadHook2
import HandS.IsInst
import HandS.HeadHook4
import HandS.Small
import HandS.EndTab
import HandS.HeadNt
import HandS.Style
import HandS.TupLe
import KE.GoesNew
import KE.GoesMore
import HandS.Walk
import HandS.Zip
import PyProof.P3Eq
import HandS.OwnEq
import HandS.SlotsOwn
import KE.KOpsOwn
import HandS.ClsMeth
import HandS.Star
import PyProof.TwoTypes
import HandS.TupMul
import PyProof.FactsAll.int_1
import PyProof.FactsAll.tuple_1
import PyProof.FactsAll.list_1
import HandS.Wide
import HandS.ExcOwn
import HandS.Text
import PyProof.StrLawsRepr
import PyProof.Rows.ReprOcc
import KE.KFmtOwn
import PyProof.StrLaws
import PyProof.StrBlockL
import HandS.FStr
import HandS.NoneIn
import HandS.Steps
import PySem.Challenge.RW_risingread_k06_numerals_read
set_option Elab.async false
set_option linter.all false
set_option maxRecDepth 100000
set_option maxHeartbeats 2000000
/-! Own rules over the hand layer: repr of data, exceptions as values, counts, defs that lean on an empty row of guards. -/
namespace Ru
open PySem PySem.Spec PyProof.Rows L2

/-! ### repr of data -/
def rRepr (K : PySem.W.Frag) : List V → Hp → VK → Prop := fun xs H Q =>
  ∃ (a : Addr) (d : PyData), xs = [.ref a] ∧ Dp K H (.ref a) d ∧ d.showable = true ∧ d.hasDict = false ∧ d.depth ≤ 40 ∧ d.shown.length ≤ sizeLine ∧ Q (.str d.shown) H
theorem call_reprD {X : Cx} (hg : X.A.guards = some []) (hu : X.A.units + 64 < cLine) : CallR X (.builtin "repr") (rRepr X.K) := by
  intro pins s σ H xs us Q I r h
  obtain ⟨a, d, rfl, hd, hs, hn, hdp, hsz, q⟩ := h
  obtain ⟨u, rfl, ru⟩ := vals1 r
  cases ru
  obtain ⟨as, r1⟩ := Dp.reads I d _ _ hd rfl
  exact repr_of_reads' r1 hs (PyData.noDict_hsm hn) hg (by omega) (fun _ _ e => e) (fun h' u tk hk => ⟨.str d.shown, H, I.kept (t' := tk) hk, ⟨u, rfl⟩, q⟩) hsz

/-! ### how often a flat value stands in a list -/
theorem countP_eqU {x : V} : ∀ {xs : List V} {us : List Value}, Vals xs us → xs.all flatV = true → us.countP (eqU x) = xs.countP fun y => eqV y x
  | _, _, .nil, _ => rfl
  | y :: xs, u :: us, .cons r t, f => by
    rw [List.all_cons, Bool.and_eq_true] at f
    rw [List.countP_cons, List.countP_cons, eqU_of r f.1, countP_eqU t f.2]
def rCntF (K : PySem.W.Frag) : V → List V → Hp → VK → Prop := fun x xs H Q =>
  ∃ (p : Addr) (ys : List V) (k : V), x = .ref p ∧ xs = [k] ∧ SqL K H p ys ∧ flatV k = true ∧ ys.all flatV = true ∧ Q (.int ((ys.countP fun y => eqV y k) : Nat)) H
theorem mt_countF {X : Cx} : MtR X "list.count" (rCntF X.K) := by
  intro pins s σ H x xs v us Q I rx rxs h
  obtain ⟨p, ys, k, rfl, rfl, hs, fk, fy, q⟩ := h
  cases rx
  obtain ⟨u, rfl, ru⟩ := rxs.one
  obtain ⟨its, rv, ⟨⟨cls, dd, data, sl⟩, n, ho, hc, hdn, hd⟩, hlen⟩ := I.list hs
  simp only at hc hd
  subst hc hd
  refine call_meets PySem.F.slot_list_count ⟨_, ho, rfl⟩ PySem.F.entry_list_count (PySem.F.args_list_count_2 _ _)
    (SeqAt.list_countAt p its.toArray n dd sl u (eqU k)) ⟨ho, fun y hy => mem_eqAt ru fk rv fy y (by simpa using hy), ?_⟩
  have ec : its.toArray.toList.countP (eqU k) = ys.countP fun y => eqV y k := countP_eqU rv fy
  refine ⟨.int ((ys.countP fun y => eqV y k) : Nat), H, I.tok _, ⟨s.toks, ?_⟩, q⟩
  show Value.int ((its.toArray.toList.countP (eqU k) : Nat) : Int) s.toks = _
  rw [ec]

/-! ### own exceptions as values -/
/-- at e an exception of the class at C, with these fields of its own -/
def ExAt (H : Hp) (e C : Addr) (fs : List (Str × V)) : Prop := (fs = [] ∧ H e = some (ExO (.ref C) e)) ∨ ∃ d, H e = some (exo e C (some d)) ∧ H d = some (exd d fs)
theorem ExAt.same {H H' : Hp} {e C : Addr} {fs : List (Str × V)} (s : Same H H') (h : ExAt H e C fs) : ExAt H' e C fs := by
  rcases h with ⟨h1, h2⟩ | ⟨d, h1, h2⟩
  · exact .inl ⟨h1, s _ _ h2⟩
  · exact .inr ⟨d, s _ _ h1, s _ _ h2⟩
/-- the object itself, for the library's looks -/
theorem ExAt.inst {X : Cx} {pins : List (Addr × Obj)} {σ : L2.St} {H : Hp} {s : Shared} (I : Inv X pins σ H s) {e C : Addr} {fs : List (Str × V)} (h : ExAt H e C fs) :
    ∃ (ox : Obj) (od : Option Obj), PySem.W.InstAt s.heap e ox C od ∧ ∀ f v, fs.lookup f = some v → ∃ o u, od = some o ∧ PySem.W.lookIn f o = some (some u) ∧ RelV v u := by
  rcases h with ⟨h1, h2⟩ | ⟨d, h1, h2⟩
  · subst h1
    obtain ⟨⟨oe, vs, ho, hz, hd, _⟩, _, _⟩ := I.hok e _ h2
    obtain ⟨oc, odi, oda, osl⟩ := oe
    obtain ⟨z1, z2⟩ := hz
    dsimp only at z1 z2 hd
    subst z1 z2 hd
    exact ⟨_, none, ⟨ho, rfl, rfl, trivial⟩, fun f v q => nomatch q⟩
  · obtain ⟨t1, ho⟩ := exo_at I.hok h1
    obtain ⟨mA, hns, hr⟩ := exd_at I.hok h2
    obtain ⟨od, hod, hl⟩ := lookIn_ns hns
    refine ⟨_, some od, ⟨ho, rfl, rfl, hod⟩, fun f v q => ?_⟩
    obtain ⟨u, hu, ru⟩ := RelO.some_of (v := v) (o := mA f) (by rw [← q]; exact hr f)
    exact ⟨od, u, rfl, by rw [hl, hu], ru⟩

/-- what the written part says of an own exception class whose objects are looked at -/
structure ExK (K : PySem.W.Frag) (D : Addr) : Prop where
  hcl : (PySem.W.clsIn K D).isSome = true
  hga : PySem.W.findIn K (.ref D) "__getattribute__" = some (some (.builtin "BaseException.__getattribute__"))
  hgt : PySem.W.findIn K (.ref D) "__getattr__" = some none
  hsub : PySem.W.subIn K (.ref D) (.type "BaseException") = some true
  hdc : PySem.W.hasDictIn K D = true
  ha : PySem.W.findIn K (.ref D) "__class__" = some (some (.builtin "object.__class__"))
  hn : PySem.W.specialIn K (.builtin "object.__class__") "__get__" = some (some (.builtin "getset_descriptor.__get__"))
  htk : PySem.W.takesIn K (.builtin "object.__class__") = some true
  hm : PySem.W.mroIn K D (.type "object") = some true
/-- isinstance(e, c) -/
def rIsX (K : PySem.W.Frag) : List V → Hp → VK → Prop := fun xs H Q =>
  ∃ (e D : Addr) (fs : List (Str × V)) (c : V) (cv : Value) (b : Bool), xs = [.ref e, c] ∧ ExAt H e D fs ∧ ExK K D ∧ (∀ u, RelV c u → u = cv) ∧ PySem.W.kitOne K (.ref D) cv = some b ∧ Q (.bl b) H
theorem call_isX {X : Cx} : CallR X (.builtin "isinstance") (rIsX X.K) := by
  intro pins s σ H xs us Q I r h
  obtain ⟨e, D, fs, c, cv, b, rfl, he, C, hcv, ek, q⟩ := h
  cases r with
  | cons rx rr =>
    cases rr with
    | cons rt rr =>
      cases rr
      cases rx
      have ec := hcv _ rt
      subst ec
      obtain ⟨ox, od, J, _⟩ := he.inst I
      exact PySem.W.kia_one (PySem.W.kitx_exc C.hcl C.hga C.hgt C.hsub C.ha C.hn C.htk C.hm) I.kIn J ek (fun z => nomatch z) fun tk => ⟨.bl b, H, I.kept (t' := tk) fun _ _ z => z, rfl, q⟩
/-- e.f -/
def tExF (K : PySem.W.Frag) (f : Str) (te : TE) : TE := fun σ H Q => te σ H fun x H1 =>
  ∃ (e D : Addr) (fs : List (Str × V)) (v : V), x = .ref e ∧ ExAt H1 e D fs ∧ ExK K D ∧ PySem.W.findIn K (.ref D) f = some none ∧ fs.lookup f = some v ∧ Q v H1
theorem pe_exf {X : Cx} {e : Expr} {te : TE} {pos : Pos} {n : Str} (he : PE X e te) (hb : attributeBase e n X.env (eval e X.env) = eval e X.env := by rfl) : PE X (.Attribute e n pos) (tExF X.K n te) := by
  refine ⟨fun pins s σ H Q I h => ?_⟩
  refine attr_of hb (thn (he.run pins s σ H _ I h) fun u s1 hh => ?_)
  obtain ⟨x, H1, I1, rx, a, D, fs, v, ex, hx, T, hno, hl, q⟩ := hh
  subst ex
  obtain rfl : u = Value.ref a := rx
  obtain ⟨ox, od, J, hf⟩ := hx.inst I1
  obtain ⟨o, u, rfl, hlk, ru⟩ := hf n v hl
  exact HandSPX.exc_get I1.kIn J T.hga T.hgt T.hsub (PySem.W.findObj_own T.hdc hno rfl hlk) (handed_of ru) ⟨v, H1, I1.tok _, ru, q⟩

/-! ### making them -/
/-- X('u'): a class without an own __init__ -/
def tEx0 (C : Addr) (ta : TE) : TE := fun σ H Q => ta σ H fun _ H1 => ∀ e H2, Same H1 H2 → H1 e = none → ExAt H2 e C [] → Q (.ref e) H2
theorem weaken {X : Cx} {e : Expr} {t t' : TE} (h : PE X e t) (f : ∀ σ H Q, t' σ H Q → t σ H Q) : PE X e t' := ⟨fun pins s σ H Q I q => h.run pins s σ H Q I (f σ H Q q)⟩
theorem pe_ex0 {X : Cx} {C : Addr} {bmB : List Value} {B newId initId : String} {x : Str} {e : Expr} {te : TE} {p pos : Pos} (F : ExcBaseFacts B newId initId bmB) (q : PySem.W.excIn X.K C bmB newId = true)
    (gC : X.mg x = some (.ref C)) (kC : PySem.W.keepIn X.K (.ref C) = true) (hg : Gl X x) (he : PE X e te) (hs : starEach [e] X.env = (false, eval e X.env) :: starEach [] X.env := by rfl) (hdb : (x == ("__debug__" : Str)) = false := by decide)
    (hm : ∀ σ H (Q Q' : VK), (∀ v H', Q v H' → Q' v H') → te σ H Q → te σ H Q') :
    PE X (.Call (.Name x p) [e] [] pos) (tEx0 C te) :=
  weaken (pe_exc1 F q gC kC hg he hs hdb) fun σ H Q h => hm σ H _ _ (fun v H1 h1 a ha => h1 a _ (fun b o z => by rw [upd_ne (ne_of_none z ha)]; exact z) ha (.inl ⟨rfl, upd_same⟩)) h
/-- X(e, ..): the class has an own __init__ that keeps sp -/
def tExI (C : Addr) (sp : Sp) (ta : TA) : TE := fun σ H Q => ta σ H fun vs H1 => vs.length ≤ 1000 ∧ ∀ a, H1 a = none →
  sp (.ref a :: vs) (upd H1 a (exo a C none)) (fun v H2 => v = .non ∧ Q (.ref a) H2) fun _ _ _ => False
theorem pe_exI {X : Cx} {x : Str} {C fI : Addr} {k : Nat} {fd : FuncData} {ps : List Str} {sp : Sp} {e : Expr} {es : List Expr} {ta : TA} {p pos : Pos} (T : OexC X.K C) (iC : PySem.W.findIn X.K (.ref C) "__init__" = some (some (.ref fI)))
    (tI : PySem.W.typeIn X.K (.ref fI) = some (.type "function")) (G : FnOk X.prog X.w X.K X.mg X.base CX0 k fI fd ps sp) (hr : Room (k + 1) X.A) (hb : Binds X.K fd ps []) (hg : Gl X x) (hm : X.mg x = some (.ref C)) (ha : PA X (e :: es) ta)
    (hdb : (x == ("__debug__" : Str)) = false := by decide) (he : starEach (e :: es) X.env = (false, eval e X.env) :: starEach es X.env := by rfl) (hpl : (backTo pos (starEach es X.env)).any (·.1) = false := by rfl) :
    PE X (.Call (.Name x p) (e :: es) [] pos) (tExI C sp ta) := by
  constructor
  intro pins s σ H Q I h
  obtain ⟨nm, q, N, bs, bm, sn, sub, ab, col, dd, k0, k1, k2, k3, k5, hC, hbm⟩ := T.cls
  refine wpAny_Call_Name_kw (ld_glob I hg hm ?_ hdb)
  refine PySem.W.callWith_K (h₀ := X.base) I.ok.mod.kin T.kC ?_ he hpl
  refine thn (ha.run pos pins s σ H _ I h) ?_
  rintro us ⟨hp, g, dr, tk, os⟩ ⟨vs, H1, I1, r1, hz, q1⟩
  refine ⟨I1.kIn, ?_⟩
  show wpAny _ _ (call (.ref C) us) _ _ _
  let a : Addr := hp.objs.size + 1
  have lt1 : hp.objs.size ≤ a := Nat.le_succ _
  have hn : H1 a = none := I1.hok.fresh lt1
  have hq := q1 a hn
  have old : ∀ b o, hp.get? b = some o → ((hp.push (PySem.W.kdv_tup us)).push (PySem.HandSPX.excO C hp.objs.size)).get? b = some o := fun b o z => Heap.get?_push_of_some _ (Heap.get?_push_of_some _ z)
  have new : ((hp.push (PySem.W.kdv_tup us)).push (PySem.HandSPX.excO C hp.objs.size)).get? a = some (PySem.HandSPX.excO C hp.objs.size) := by
    show ((hp.push (PySem.W.kdv_tup us)).push (PySem.HandSPX.excO C hp.objs.size)).get? (hp.objs.size + 1) = _
    heap_get
  have I2 : Inv X pins σ (upd H1 a (exo a C none)) ⟨(hp.push (PySem.W.kdv_tup us)).push (PySem.HandSPX.excO C hp.objs.size), g, dr, tk, os⟩ := I1.laid (t' := tk) old lt1 (exo_ok new)
  have r2 : Vals (V.ref a :: vs) (Value.ref a :: us) := .cons rfl r1
  have hl : (Value.ref a :: us ++ []).length = ps.length := by
    rw [List.append_nil, ← r2.length]
    exact G.len _ _ _ _ hq
  have hus : us.length ≤ sizeLine := by
    rw [← Paired.length r1, sizeLine_eq]
    omega
  refine wpAny_call (PySem.HandSPX.call_own F.excBase_ValueError (fun Y => PySem.HandSPX.refsVE_contains Y bm hbm) (I1.kIn _ _ hC) (PySem.W.looks_findIn I1.kIn iC) (fun self => PySem.W.bind_fn I1.kIn self tI) hus ?_)
  have bd := hb _ (Value.ref a :: us) I2.kIn hl
  rw [List.append_nil] at bd
  refine codeAny_mono (G.run _ X.stack _ _ ⟨Value.ref a :: us, []⟩ (Value.ref a :: us) _ _ (fun _ _ _ => False) (hr.make C us []) (I2.env0.make C us []) bd r2 hq) fun r s' z => ?_
  match r, z with
  | .ok (.ret u), z =>
    obtain ⟨v, H2, J, rv, ev, q2⟩ := I2.after z
    subst ev
    exact ⟨rv, .ref a, H2, J, rfl, q2⟩
  | .error er, z => exact z.elim
end Ru

set_option Elab.async false
set_option linter.all false
set_option maxRecDepth 100000
set_option maxHeartbeats 2000000
namespace Ru
open PySem PySem.Spec PyProof.Rows L2
/-! ### defs that lean on an empty row of guards (repr of containers) -/
structure FnG (P : Program) (w : World) (K : PySem.W.Frag) (mg : Str → Option Value) (base : Heap) (CX : CXT) (k : Nat) (f : Addr) (fd : FuncData) (ps : List Str) (sp : Sp) : Prop where
  len : ∀ vs H Q E, sp vs H Q E → vs.length = ps.length
  run : ∀ (A : Around) (outer : List Env) (s : Shared) (H : Hp) (args : Args) (us : List Value) (vs : List V) (Q : VK) (E : XK), A.guards = some [] → Room k A → Env0 P w K mg base A outer s H →
    BindsTo s fd args (ps.zip us) → Vals vs us → sp vs H Q E → codeAny (model P w) A (.call (.ref f) args) (CR CX outer P w H s Q E) s
section
variable {P : Program} {w : World} {K : PySem.W.Frag} {mg : Str → Option Value} {base : Heap} {CX : CXT} {x qual : Str} {params : Arguments} {body : List Stmt} {scope : Scope} {dvs : List V} {kws : List (Str × V)} {f : Addr} {fd : FuncData} {N ps : List Str} {k : Nat} {sp : Sp}
theorem FnG.of (F : FnOk P w K mg base CX k f fd ps sp) : FnG P w K mg base CX k f fd ps sp := ⟨F.len, fun A o s H a us vs Q E _ hr => F.run A o s H a us vs Q E hr⟩
/-- the rule for such a def -/
theorem okG (F : FunD K x qual params body scope dvs kws f fd) (S : FnScope N ps scope) (len : ∀ vs H Q E, sp vs H Q E → vs.length = ps.length)
    (hb : ∀ (cdv : Value) (A : Around) (outer : List Env) (s : Shared) (H : Hp) (vs : List V) (Q : VK) (E : XK), A.guards = some [] → Room k (A.deeper (envOfC qual scope s.heap.objs.size f cdv)) → sp vs H Q E →
      ∃ t, PSs (cxOf CX P w K mg base N qual scope f cdv A outer s H E) body t ∧ t { nx := fun _ H' => Q .non H', rt := Q } (start N vs) H) : FnG P w K mg base CX (k + 1) f fd ps sp := by
  obtain ⟨_, _, _, _, _, _, _, code, _, _, e, lk, hcd, _⟩ := F.ex
  subst e
  exact ⟨len, fun A outer s H args us vs Q E g r e0 b v h => LamX.run_ofS lk hcd S r e0 b v (len vs H Q E h) fun r' => hb code A outer s H vs Q E g r' h⟩
end
section
variable {X : Cx} {CX : CXT} {k : Nat} {f : Addr} {fd : FuncData} {ps : List Str} {sp : Sp} {dvs : List V} {ds : List Value} {E : XK} {x : Str} {p pos : Pos} {e : Expr} {es : List Expr} {t : TA}
theorem pe_callG (hG : X.A.guards = some []) (F : FnG X.prog X.w X.K X.mg X.base CX k f fd ps sp) (hr : Room k X.A) (hg : Gl X x) (hm : X.mg x = some (.ref f)) (hk : PySem.W.keepIn X.K (.ref f) = true) (hb : Binds X.K fd ps ds) (hd : Vals dvs ds) (hx : Passes CX X E)
    (ha : PA X (e :: es) t) (hdb : (x == ("__debug__" : Str)) = false := by decide) (he : starEach (e :: es) X.env = (false, eval e X.env) :: starEach es X.env := by rfl) (hpl : (backTo pos (starEach es X.env)).any (·.1) = false := by rfl) :
    PE X (.Call (.Name x p) (e :: es) [] pos) (tCall sp dvs E t) := by
  constructor
  intro pins s σ H Q I h
  refine wpAny_Call_Name_kw (ld_glob I hg hm ?_ hdb)
  refine PySem.W.callWith_K (h₀ := X.base) I.ok.mod.kin hk ?_ he hpl
  refine thn (ha.run pos pins s σ H _ I h) ?_
  rintro us s1 ⟨vs, H1, I1, r, q⟩
  have r2 := r.append hd
  have hl : (us ++ ds).length = ps.length := r2.length.symm.trans (F.len _ _ _ _ q)
  refine ⟨I1.kIn, wpAny_call (codeAny_mono (F.run X.A X.stack s1 H1 ⟨us, []⟩ _ _ Q E hG hr I1.env0 (hb s1 us I1.kIn hl) r2 q) ?_)⟩
  intro r s' z
  match r, z with
  | .error er, z => exact hx pins σ H1 s1 er s' I1 z
  | .ok (.ret u), z => exact I1.after z
end

/-! ### the law's entry, at the caller that has no guards -/
section
variable {P : Program} {w : World} {K : PySem.W.Frag} {mg mb : Str → Option Value} {k : Nat} {fa a : Addr} {fd : FuncData} {x : Str} {sp : Sp} {s : Shared} {vs : List Value} {ns : List Int}
/-- the heap in which at most the script is tracked, locked -/
def onlyAt (a : Addr) (o : Obj) (u : HO) : Hp := fun b => if b = a then some (.frz o u) else none
theorem entry (KX : K.In s.heap) (hns : s.heap.Ns mainGlobals mg) (hb : s.heap.Ns builtinsNs mb) (hbb : ∀ x : Str, x ≠ "__name__" → mb x = bootBuiltins x) (hlim : s.heap.NoLimit) (hg : s.gens = #[])
    (ha : s.heap.get? a = some { cls := .type "list", data := .seq vs.toArray }) (hi : IntsAre vs ns) (hl : ns.length ≤ sizeLine) (hr : Room k callerA)
    (F : ∀ base : Heap, K.In base → base.Ns mainGlobals mg → FnG P w K mg base CX0 k fa fd [x] sp) (bd : ∀ (s : Shared) (u : Value), BindsTo s fd ⟨[u], []⟩ [(x, u)])
    (hsp : ∀ H : Hp, Only H → SqL K H a (ns.map V.int) → sp [.ref a] H (fun v _ => v = .bl true) E0) :
    codeAny (model P w) callerA (.call (.ref fa) ⟨[.ref a], []⟩) (fun r s' => r = .ok (.ret (.bool true)) ∧ OldK s.heap s'.heap ∧ s'.os = s.os ∧ AllBare s'.gens) s := by
  have rv := vals_ints hi
  have main : ∀ H : Hp, Only H → SqL K H a (ns.map V.int) → HOk P w H s.heap → (∀ b, H b ≠ none → b = a) → (∀ o, K.lookup a = some o → H a = none) →
      codeAny (model P w) callerA (.call (.ref fa) ⟨[.ref a], []⟩) (fun r s' => r = .ok (.ret (.bool true)) ∧ OldK s.heap s'.heap ∧ s'.os = s.os ∧ AllBare s'.gens) s := by
    intro H only sq hok off kno
    have nod : ∀ {b : Addr} {m : Str → Option Value}, s.heap.Ns b m → (hidT s.heap H).Ns b m := by
      rintro b m ⟨o, es, ep, e, d, r⟩
      refine ⟨o, es, ep, hidT_get e ?_, d, r⟩
      cases q : H b with
      | none => rfl
      | some u =>
        have z := off b (by rw [q]; simp)
        subst z
        rw [ha] at e
        cases e
        cases (show Data.seq vs.toArray _ = Data.dict es ep from d)
    have kin : K.In (hidT s.heap H) := by
      intro b o e
      refine hidT_get (KX b o e) ?_
      cases q : H b with
      | none => rfl
      | some u =>
        have z := off b (by rw [q]; simp)
        subst z
        rw [kno o e] at q
        cases q
    have md : Mod K mg (hidT s.heap H) := ⟨kin, nod hns, ⟨mb, nod hb, hbb⟩, hlim.imp fun mc z => ⟨nod z.1, z.2⟩⟩
    have e0 : Env0 P w K mg (hidT s.heap H) callerA [] s H :=
      { frames := rfl, mod := md, bs := fun b o e => of_hidT e, bsz := Nat.le_of_eq (hidT_size _ _), funs := trivial, frf := fun b z => (List.not_mem_nil z).elim, hok := hok, bare := .of_eq hg }
    refine codeAny_mono ((F _ kin (nod hns)).run callerA [] s H ⟨[.ref a], []⟩ [.ref a] [.ref a] _ _ rfl hr e0 (bd s (.ref a)) (.cons rfl .nil) (hsp H only sq)) ?_
    intro r s' z
    match r, z with
    | .ok (.ret u), ⟨v, H', os, bare, un, hok', r', q⟩ =>
      subst q
      obtain rfl : u = Value.bool true := r'
      refine ⟨rfl, OldK.of_keep fun b o e => ?_, os, bare⟩
      cases hb : H b with
      | none => exact un.keep b o e hb (fun z => (List.not_mem_nil z).elim) (fun z => (List.not_mem_nil z).elim)
      | some u =>
        rcases only b with q | ⟨ob, xs, q⟩
        · rw [hb] at q
          cases q
        · have e1 := (hok b _ q).1
          have e2 := (hok' b _ (un.frzs b ob _ q)).1
          rw [e] at e1
          cases e1
          exact e2
  cases hk : K.lookup a with
  | none =>
    refine main (onlyAt a { cls := .type "list", data := .seq vs.toArray } (.lst (ns.map V.int))) (fun b => ?_) (.inl (.inr ⟨_, if_pos rfl⟩)) (fun b u z => ?_) (fun b z => ?_) fun o z => by rw [hk] at z; cases z
    · by_cases e : b = a
      · exact .inr ⟨_, _, if_pos e⟩
      · exact .inl (if_neg e)
    · by_cases e : b = a
      · rw [show onlyAt a { cls := .type "list", data := .seq vs.toArray } (.lst (ns.map V.int)) b = some _ from if_pos e] at z
        cases z
        subst e
        exact ⟨ha, by rw [List.length_map]; exact hl, vs, _, rv, ha⟩
      · rw [show onlyAt a { cls := .type "list", data := .seq vs.toArray } (.lst (ns.map V.int)) b = none from if_neg e] at z
        cases z
    · by_cases e : b = a
      · exact e
      · exact (z (if_neg e)).elim
  | some o =>
    have e := KX a o hk
    rw [ha] at e
    cases e
    exact main (fun _ => none) (fun _ => .inl rfl) (.inr ⟨_, vs.toArray, _, hk, rfl, rfl, rfl, by rw [List.size_toArray, hi.length]; exact hl, by simpa using rv⟩) (fun b u z => by cases (show (none : Option HO) = some u from z)) (fun b z => (z rfl).elim) fun _ _ => rfl
end
/-- the law, from its def's promise -/
theorem walkG {l : PySem.W.OpenLaw} {n k : Nat} {q : Program} {loose : List Str} {XP : (Str → Option Value) → Heap → Prop} {YP : World → Heap → Prop} {d : DefRec} {x : Str}
    (hn : l.most = some n) (hn2 : n ≤ sizeLine) (hdf : d.params.defaults = []) (hr : Room k callerA)
    (F : ∀ (w : World) (mg : Str → Option Value) (fa : Addr) (h : Heap), YP w h → h.Ns mainGlobals mg → mg d.name = some (.ref fa) →
      ∃ (K : PySem.W.Frag) (fd : FuncData) (sp : Sp), K.In h ∧ (∀ (s : Shared) (u : Value), BindsTo s fd ⟨[u], []⟩ [(x, u)]) ∧
        (∀ (H : Hp) (a : Addr) (ns : List Int), ns.length ≤ n → Only H → SqL K H a (ns.map V.int) → sp [.ref a] H (fun v _ => v = .bl true) E0) ∧
        ∀ base : Heap, K.In base → base.Ns mainGlobals mg → FnG l.prog w K mg base CX0 k fa fd [x] sp) :
    PySem.W.WalkO q loose XP YP l.row.toRowW d [] (fun f vs => PySem.call f vs) := by
  refine Att.attach_call hn hdf fun w s₀ s₁ mg mb fa o pm cd doc a vs ns G Y ho hd hcd hmg hobj hints hlen hg => ?_
  obtain ⟨K, fd, sp, kx, bd, hsp, hF⟩ := F w mg fa _ Y G.T.g hmg
  exact entry kx G.T.g G.T.b G.T.builtins G.T.nolimit hg hobj hints (Nat.le_trans hlen hn2) hr hF bd fun H o sq => hsp H a ns hlen o sq
end Ru

set_option Elab.async false
set_option linter.all false
set_option maxRecDepth 100000
set_option maxHeartbeats 2000000
namespace Ru
open PySem PySem.Spec PyProof.Rows L2
/-! ### a Hook with one more look of one's own -/
abbrev AlX : Type := He.AlD × Bool
def obsX (n : Nat) (fa : List He.Fa) (fn : List He.DefD) (ex : PySem.W.Frag → Bool) (g : Addr → Option Obj) : AlX := (He.obsDG n fa fn g, ex (He.frG g (He.asD g n)))
def hookX (n : Nat) (fa : List He.Fa) (fn : List He.DefD) (ex : PySem.W.Frag → Bool) : PySem.W.Hook where
  α := AlX
  obs := fun s => obsX n fa fn ex s.heap.get?
  val := fun _ => (He.valD fn, true)
  says := fun _ h => ∃ K : PySem.W.Frag, K.In h ∧ He.SaysD fa fn K ∧ ex K = true
  of := fun _ _ e => ⟨_, He.frG_in, congrArg Prod.fst e, congrArg Prod.snd e⟩
  keeps := fun _ _ _ ⟨K, a, b, c⟩ k => ⟨K, PySem.W.Frag.In.keeps a k, b, c⟩
theorem obsX_eq {n : Nat} {fa : List He.Fa} {fn : List He.DefD} {ex : PySem.W.Frag → Bool} {g : Addr → Option Obj} {s : Shared} (h : ∀ a, g a = s.heap.get? a) : obsX n fa fn ex g = (hookX n fa fn ex).obs s := by
  have e : g = s.heap.get? := funext h
  rw [e] <;> rfl

/-! ### own exception classes, as the written part has them -/
def optB (a b : Option Bool) : Bool := decide (a = b)
def exKB (K : PySem.W.Frag) (D : Addr) : Bool :=
  (PySem.W.clsIn K D).isSome && He.eqO (PySem.W.findIn K (.ref D) "__getattribute__") (some (some (.builtin "BaseException.__getattribute__"))) && He.eqO (PySem.W.findIn K (.ref D) "__getattr__") (some none) &&
  optB (PySem.W.subIn K (.ref D) (.type "BaseException")) (some true) && PySem.W.hasDictIn K D && He.eqO (PySem.W.findIn K (.ref D) "__class__") (some (some (.builtin "object.__class__"))) && optB (PySem.W.mroIn K D (.type "object")) (some true)
/-- what is the same for all of them -/
def exAllB (K : PySem.W.Frag) : Bool := He.eqO (PySem.W.specialIn K (.builtin "object.__class__") "__get__") (some (some (.builtin "getset_descriptor.__get__"))) && optB (PySem.W.takesIn K (.builtin "object.__class__")) (some true)
theorem exKB_ok {K : PySem.W.Frag} {D : Addr} (a : exAllB K = true) (h : exKB K D = true) : ExK K D := by
  unfold exKB at h
  unfold exAllB at a
  simp only [Bool.and_eq_true] at h a
  obtain ⟨⟨⟨⟨⟨⟨h1, h2⟩, h3⟩, h4⟩, h5⟩, h6⟩, h7⟩ := h
  exact ⟨h1, He.eqO_ok h2, He.eqO_ok h3, of_decide_eq_true h4, h5, He.eqO_ok h6, He.eqO_ok a.1, of_decide_eq_true a.2, of_decide_eq_true h7⟩
/-- a class with an own __init__ -/
def oexB (K : PySem.W.Frag) (C : Addr) : Bool := (match K.lookup C with
  | some ⟨.type "type", _, .cls cd, sl⟩ => (match cd.mro, sl.toList with
    | .ref C' :: bm, [_, _, _, _, some (.builtin n), _] => C' == C && n == "ValueError.__new__" && !cd.hasDel && cd.hasDict && PySem.HandSPX.refsVE bm
    | _, _ => false)
  | _ => false) && He.eqO (PySem.W.findIn K (.ref C) "__setattr__") (some (some (.builtin "object.__setattr__"))) && optB (PySem.W.subIn K (.ref C) (.type "BaseException")) (some true) &&
  decide (PySem.W.typeIn K (.ref C) = some (.type "type")) && PySem.W.keepIn K (.ref C) && He.eqO (PySem.W.findIn K (.ref C) "__init__") (some (some (.ref (He.ma K C "__init__")))) && decide (PySem.W.typeIn K (.ref (He.ma K C "__init__")) = some (.type "function"))
theorem oexB_ok {K : PySem.W.Frag} {C : Addr} (h : oexB K C = true) :
    OexC K C ∧ PySem.W.findIn K (.ref C) "__init__" = some (some (.ref (He.ma K C "__init__"))) ∧ PySem.W.typeIn K (.ref (He.ma K C "__init__")) = some (.type "function") := by
  unfold oexB at h
  rw [Bool.and_eq_true, Bool.and_eq_true, Bool.and_eq_true, Bool.and_eq_true, Bool.and_eq_true, Bool.and_eq_true] at h
  obtain ⟨⟨⟨⟨⟨⟨h1, h2⟩, h3⟩, h4⟩, h5⟩, h6⟩, h7⟩ := h
  refine ⟨⟨?_, He.eqO_ok h2, of_decide_eq_true h3, of_decide_eq_true h4, h5⟩, He.eqO_ok h6, of_decide_eq_true h7⟩
  split at h1
  · rename_i dd cd sl ho
    split at h1
    · rename_i C' bm k0 k1 k2 k3 n k5 hm hs
      simp only [Bool.and_eq_true, beq_iff_eq, Bool.not_eq_true'] at h1
      obtain ⟨⟨⟨⟨rfl, rfl⟩, hdel⟩, hdc⟩, hb⟩ := h1
      obtain ⟨nm, bs, mro, ns, qn, hd, sn, sub, ab, col, del⟩ := cd
      dsimp only at hm hdel hdc
      subst hm hdel hdc
      obtain ⟨l⟩ := sl
      dsimp only at hs
      subst hs
      exact ⟨nm, qn, ns, bs, bm, sn, sub, ab, col, dd, k0, k1, k2, k3, k5, ho, hb⟩
    · cases h1
  · cases h1
/-- a class right under R, itself right under ValueError -/
def mroB (K : PySem.W.Frag) (R C : Addr) : Bool := decide ((PySem.W.clsIn K C).map (·.mro) = some (.ref C :: .ref R :: He.veBase)) && decide (PySem.W.typeIn K (.ref C) = some (.type "type"))
def mroR (K : PySem.W.Frag) (R : Addr) : Bool := decide ((PySem.W.clsIn K R).map (·.mro) = some (.ref R :: He.veBase)) && decide (PySem.W.typeIn K (.ref R) = some (.type "type"))
theorem kit_at {K : PySem.W.Frag} {C D : Addr} {m md : List Value} (h : (PySem.W.clsIn K C).map (·.mro) = some (.ref C :: m)) (hd : (PySem.W.clsIn K D).map (·.mro) = some md) (ht : PySem.W.typeIn K (.ref D) = some (.type "type")) :
    PySem.W.kitOne K (.ref C) (.ref D) = some ((Value.ref C :: m).contains (.ref D)) := by
  unfold PySem.W.kitOne
  by_cases e : (Value.ref C == Value.ref D) = true
  · rw [if_pos e]
    have e2 := beq_iff_eq.mp e
    rw [← e2]
    simp
  · rw [if_neg e]
    obtain ⟨cd, hc, hm⟩ := Option.map_eq_some_iff.mp h
    obtain ⟨dd, hd1, _⟩ := Option.map_eq_some_iff.mp hd
    unfold PySem.W.kitCls
    dsimp only
    rw [hd1, ht]
    simp only [Option.isSome_some, beq_self_eq_true, Bool.and_self, if_true]
    show PySem.W.mroIn K C (.ref D) = _
    unfold PySem.W.mroIn
    rw [hc, Option.bind_some, hm]
    simp
theorem kit_ve {K : PySem.W.Frag} {C : Addr} {m : List Value} (h : (PySem.W.clsIn K C).map (·.mro) = some (.ref C :: m)) : PySem.W.kitOne K (.ref C) (.type "ValueError") = some ((Value.ref C :: m).contains (.type "ValueError")) := by
  obtain ⟨cd, hc, hm⟩ := Option.map_eq_some_iff.mp h
  have e : (Value.ref C == Value.type "ValueError") = false := by simp
  have k : PySem.W.kitMeta "ValueError" = true := by decide +kernel
  unfold PySem.W.kitOne PySem.W.kitCls
  rw [e]
  simp only [Bool.false_eq_true, if_false, k, if_true]
  show PySem.W.mroIn K C _ = _
  unfold PySem.W.mroIn
  rw [hc, Option.bind_some, hm]
  simp
end Ru

set_option Elab.async false
set_option linter.all false
set_option maxRecDepth 100000
set_option maxHeartbeats 2000000
namespace Ru
open PySem PySem.Spec PyProof.Rows L2
theorem weakenA {X : Cx} {es : List Expr} {t t' : TA} (h : PA X es t) (f : ∀ σ H Q, t' σ H Q → t σ H Q) : PA X es t' := ⟨fun pos pins s σ H Q I q => h.run pos pins s σ H Q I (f σ H Q q)⟩
theorem weakenS {X : Cx} {st : Stmt} {t t' : TS} (h : PS X st t) (f : ∀ D σ H, t' D σ H → t D σ H) : PS X st t' := ⟨fun pins s σ H D I q => h.run pins s σ H D I (f D σ H q)⟩
theorem upd_new {H : Hp} {a : Addr} {o : HO} (h : H a = none) : Same H (upd H a o) := fun b u z => by rw [upd_ne (ne_of_none z h)]; exact z

/-! ### what __init__ of an exception with one, two, three fields does -/
/-- self.f = v for each field, in order -/
def spIni (K : PySem.W.Frag) (C : Addr) (fs : List Str) : Sp := fun vs H Q _ => ∃ (a : Addr) (us : List V), vs = .ref a :: us ∧ us.length = fs.length ∧ OexC K C ∧ (∀ f ∈ fs, PySem.W.findIn K (.ref C) f = some none) ∧ H a = some (exo a C none) ∧
  ∀ H', (∀ b o, H b = some o → b ≠ a → H' b = some o) → ExAt H' a C (fs.zip us).reverse → Q .non H'
theorem exd_lst {d : Addr} {fs : List (Str × V)} {xs : List V} : exd d fs ≠ .lst xs := fun z => by cases (show HO.ext _ = HO.lst xs from z)
/-- one field -/
theorem ini1 {P : Program} {w : World} {K : PySem.W.Frag} {mg : Str → Option Value} {base : Heap} {f C : Addr} {fd : FuncData} {qual g : Str} {pa : Arguments} {sc : Scope} {q1 q2 q3 q4 : Pos}
    (F : FunD K "__init__" qual pa [.Assign [.Attribute (.Name "self" q1) g q2] (.Name g q3) q4] sc [] [] f fd) (S : FnScope ["self", g] ["self", g] sc) (v0 : Vis sc "self") (v1 : Vis sc g)
    (e1 : (g == ("__debug__" : Str)) = false := by decide) (e2 : (g == ("__classdict__" : Str)) = false := by decide) : FnOk P w K mg base CX0 1 f fd ["self", g] (spIni K C [g]) := by
  refine F.ok S (fun vs H Q E h => ?_) (fun cdv A outer s H vs Q E hr h => ?_)
  · obtain ⟨a, us, rfl, hl, _⟩ := h
    simp [hl]
  · obtain ⟨a, us, rfl, hl, T, hno, ha, k⟩ := h
    match us, hl with
    | [v], _ =>
      refine ⟨_, PSs.nox (pss_one (ps_ost (pe_var (i := 0) rfl v0) (pe_var (i := 1) rfl v1 e1 e2))), ?_⟩
      refine ⟨v, rfl, .ref a, rfl, a, C, rfl, T, hno g List.mem_cons_self, .inl ⟨ha, fun dx hn ne => ?_⟩⟩
      refine k _ (fun b o z hb => ?_) (.inr ⟨dx, upd_same, ?_⟩)
      · rw [upd_ne hb, upd_ne (ne_of_none z hn)]
        exact z
      · rw [upd_ne ne, upd_same]
        rfl
/-- two fields -/
theorem ini2 {P : Program} {w : World} {K : PySem.W.Frag} {mg : Str → Option Value} {base : Heap} {f C : Addr} {fd : FuncData} {qual g g' : Str} {pa : Arguments} {sc : Scope} {q1 q2 q3 q4 r1 r2 r3 r4 : Pos}
    (F : FunD K "__init__" qual pa [.Assign [.Attribute (.Name "self" q1) g q2] (.Name g q3) q4, .Assign [.Attribute (.Name "self" r1) g' r2] (.Name g' r3) r4] sc [] [] f fd) (S : FnScope ["self", g, g'] ["self", g, g'] sc)
    (v0 : Vis sc "self") (v1 : Vis sc g) (v2 : Vis sc g')
    (e1 : (g == ("__debug__" : Str)) = false := by decide) (e2 : (g == ("__classdict__" : Str)) = false := by decide) (e3 : (g' == ("__debug__" : Str)) = false := by decide) (e4 : (g' == ("__classdict__" : Str)) = false := by decide) :
    FnOk P w K mg base CX0 1 f fd ["self", g, g'] (spIni K C [g, g']) := by
  refine F.ok S (fun vs H Q E h => ?_) (fun cdv A outer s H vs Q E hr h => ?_)
  · obtain ⟨a, us, rfl, hl, _⟩ := h
    simp [hl]
  · obtain ⟨a, us, rfl, hl, T, hno, ha, k⟩ := h
    match us, hl with
    | [v, u], _ =>
      refine ⟨_, PSs.nox (pss_cons (ps_ost (pe_var (i := 0) rfl v0) (pe_var (i := 1) rfl v1 e1 e2)) (pss_one (ps_ost (pe_var (i := 0) rfl v0) (pe_var (i := 2) rfl v2 e3 e4)))), ?_⟩
      refine ⟨v, rfl, .ref a, rfl, a, C, rfl, T, hno g List.mem_cons_self, .inl ⟨ha, fun dx hn ne => ?_⟩⟩
      refine ⟨u, rfl, .ref a, rfl, a, C, rfl, T, hno g' (List.mem_cons_of_mem _ List.mem_cons_self), .inr ⟨dx, _, upd_same, by rw [upd_ne ne, upd_same], by show 1 ≤ 900; decide, ?_⟩⟩
      refine k _ (fun b o z hb => ?_) (.inr ⟨dx, ?_, upd_same⟩)
      · rw [upd_ne (ne_of_none z hn), upd_ne hb, upd_ne (ne_of_none z hn)]
        exact z
      · rw [upd_ne (Ne.symm ne), upd_same]
/-- three fields -/
theorem ini3 {P : Program} {w : World} {K : PySem.W.Frag} {mg : Str → Option Value} {base : Heap} {f C : Addr} {fd : FuncData} {qual g g' g'' : Str} {pa : Arguments} {sc : Scope} {q1 q2 q3 q4 r1 r2 r3 r4 t1 t2 t3 t4 : Pos}
    (F : FunD K "__init__" qual pa [.Assign [.Attribute (.Name "self" q1) g q2] (.Name g q3) q4, .Assign [.Attribute (.Name "self" r1) g' r2] (.Name g' r3) r4, .Assign [.Attribute (.Name "self" t1) g'' t2] (.Name g'' t3) t4] sc [] [] f fd)
    (S : FnScope ["self", g, g', g''] ["self", g, g', g''] sc) (v0 : Vis sc "self") (v1 : Vis sc g) (v2 : Vis sc g') (v3 : Vis sc g'')
    (e1 : (g == ("__debug__" : Str)) = false := by decide) (e2 : (g == ("__classdict__" : Str)) = false := by decide) (e3 : (g' == ("__debug__" : Str)) = false := by decide) (e4 : (g' == ("__classdict__" : Str)) = false := by decide)
    (e5 : (g'' == ("__debug__" : Str)) = false := by decide) (e6 : (g'' == ("__classdict__" : Str)) = false := by decide) : FnOk P w K mg base CX0 1 f fd ["self", g, g', g''] (spIni K C [g, g', g'']) := by
  refine F.ok S (fun vs H Q E h => ?_) (fun cdv A outer s H vs Q E hr h => ?_)
  · obtain ⟨a, us, rfl, hl, _⟩ := h
    simp [hl]
  · obtain ⟨a, us, rfl, hl, T, hno, ha, k⟩ := h
    match us, hl with
    | [v, u, t], _ =>
      refine ⟨_, PSs.nox (pss_cons (ps_ost (pe_var (i := 0) rfl v0) (pe_var (i := 1) rfl v1 e1 e2)) (pss_cons (ps_ost (pe_var (i := 0) rfl v0) (pe_var (i := 2) rfl v2 e3 e4)) (pss_one (ps_ost (pe_var (i := 0) rfl v0) (pe_var (i := 3) rfl v3 e5 e6))))), ?_⟩
      refine ⟨v, rfl, .ref a, rfl, a, C, rfl, T, hno g List.mem_cons_self, .inl ⟨ha, fun dx hn ne => ?_⟩⟩
      refine ⟨u, rfl, .ref a, rfl, a, C, rfl, T, hno g' (List.mem_cons_of_mem _ List.mem_cons_self), .inr ⟨dx, _, upd_same, by rw [upd_ne ne, upd_same], by show 1 ≤ 900; decide, ?_⟩⟩
      refine ⟨t, rfl, .ref a, rfl, a, C, rfl, T, hno g'' (List.mem_cons_of_mem _ (List.mem_cons_of_mem _ List.mem_cons_self)), .inr ⟨dx, _, by rw [upd_ne (Ne.symm ne), upd_same], upd_same, by show 2 ≤ 900; decide, ?_⟩⟩
      refine k _ (fun b o z hb => ?_) (.inr ⟨dx, ?_, upd_same⟩)
      · rw [upd_ne (ne_of_none z hn), upd_ne (ne_of_none z hn), upd_ne hb, upd_ne (ne_of_none z hn)]
        exact z
      · rw [upd_ne (Ne.symm ne), upd_ne (Ne.symm ne), upd_same]

/-! ### rows of exceptions -/
inductive AllEx (H : Hp) : List V → List (Addr × List (Str × V)) → Prop
  | nil : AllEx H [] []
  | cons {e C : Addr} {fs : List (Str × V)} {es : List V} {ts : List (Addr × List (Str × V))} : ExAt H e C fs → AllEx H es ts → AllEx H (.ref e :: es) ((C, fs) :: ts)
theorem AllEx.same {H H' : Hp} (s : Same H H') : ∀ {es : List V} {ts : List (Addr × List (Str × V))}, AllEx H es ts → AllEx H' es ts
  | _, _, .nil => .nil
  | _, _, .cons a b => .cons (a.same s) (AllEx.same s b)
theorem AllEx.length {H : Hp} : ∀ {es : List V} {ts : List (Addr × List (Str × V))}, AllEx H es ts → es.length = ts.length
  | _, _, .nil => rfl
  | _, _, .cons _ b => congrArg Nat.succ b.length
theorem AllEx.app {H : Hp} {es' : List V} {ts' : List (Addr × List (Str × V))} (b : AllEx H es' ts') : ∀ {es : List V} {ts : List (Addr × List (Str × V))}, AllEx H es ts → AllEx H (es ++ es') (ts ++ ts')
  | _, _, .nil => b
  | _, _, .cons a r => .cons a (AllEx.app b r)
theorem AllEx.at {H : Hp} : ∀ {es : List V} {ts : List (Addr × List (Str × V))} {i : Nat} {C : Addr} {fs : List (Str × V)}, AllEx H es ts → ts[i]? = some (C, fs) → ∃ e, es[i]? = some (.ref e) ∧ ExAt H e C fs
  | _, _, _, _, _, .nil, h => by simp at h
  | _, _, 0, _, _, .cons a _, h => by
    simp only [List.getElem?_cons_zero, Option.some.injEq, Prod.mk.injEq] at h
    obtain ⟨rfl, rfl⟩ := h
    exact ⟨_, rfl, a⟩
  | _, _, i + 1, C, fs, .cons _ b, h => by
    obtain ⟨e, h1, h2⟩ := AllEx.at (i := i) (C := C) (fs := fs) b (by simpa using h)
    exact ⟨e, by simpa using h1, h2⟩
/-- three names hold v1, v2, v3 -/
def C3 (v1 v2 v3 : V) (σ : L2.St) : Prop := σ[0]? = some (some v1) ∧ σ[1]? = some (some v2) ∧ σ[2]? = some (some v3)
def tV (v1 v2 v3 : V) (C : Addr) (fs : List (Str × V)) : TE := fun σ H Q => C3 v1 v2 v3 σ ∧ ∀ e H', Same H H' → ExAt H' e C fs → Q (.ref e) H'
def tVs (v1 v2 v3 : V) (ts : List (Addr × List (Str × V))) : TA := fun σ H Q => C3 v1 v2 v3 σ ∧ ∀ es H', Same H H' → AllEx H' es ts → Q es H'
section
variable {X : Cx} {v1 v2 v3 : V} {C : Addr} {fs : List (Str × V)} {ts : List (Addr × List (Str × V))} {e : Expr} {es : List Expr}
theorem pv_nil : PA X [] (tVs v1 v2 v3 []) := weakenA pa_nil fun σ H Q h => h.2 [] H (Same.refl H) .nil
theorem pv_cons (a : PE X e (tV v1 v2 v3 C fs)) (b : PA X es (tVs v1 v2 v3 ts)) (hs : starEach (e :: es) X.env = (false, eval e X.env) :: starEach es X.env := by rfl) : PA X (e :: es) (tVs v1 v2 v3 ((C, fs) :: ts)) :=
  weakenA (pa_cons a b hs) fun σ H Q h => ⟨h.1, fun x H1 s1 ex => ⟨h.1, fun xs H2 s2 all => h.2 _ H2 (s1.trans s2) (.cons (ex.same s2) all)⟩⟩
theorem v_bare {te : TE} (a : PE X e (tEx0 C te)) (h : ∀ σ H (Q : VK), (∀ v, Q v H) → te σ H Q) : PE X e (tV v1 v2 v3 C []) :=
  weaken a fun σ H Q q => h σ H _ fun v e H2 s1 _ ex => q.2 e H2 s1 ex
theorem v_own {ta : TA} {gs : List Str} {us : List V} (T : OexC X.K C) (hno : ∀ f ∈ gs, PySem.W.findIn X.K (.ref C) f = some none) (hl : us.length = gs.length) (h3 : us.length ≤ 1000) (a : PE X e (tExI C (spIni X.K C gs) ta)) (h : ∀ σ H (Q : List V → Hp → Prop), C3 v1 v2 v3 σ → Q us H → ta σ H Q) :
    PE X e (tV v1 v2 v3 C (gs.zip us).reverse) :=
  weaken a fun σ H Q q => h σ H _ q.1 ⟨h3, fun x hx => ⟨x, us, rfl, hl, T, hno, upd_same, fun H' k ex => ⟨rfl, q.2 x H' (fun b o z => k b o (by rw [upd_ne (ne_of_none z hx)]; exact z) (ne_of_none z hx)) ex⟩⟩⟩
end
end Ru

set_option Elab.async false
set_option linter.all false
set_option maxRecDepth 100000
set_option maxHeartbeats 4000000
namespace Ru
open PySem PySem.Spec PyProof.Rows L2
/-! ### an exception that is kept behind its try -/
/-- a caught exception: its class, its own dict -/
def ExC2 (a : Addr) (cls : Value) (d : Option Addr) : HO := .ext fun h => ∃ (oe : Obj) (vs : Array Value), h.get? a = some oe ∧ Zc cls d oe ∧ oe.data = .fields vs
theorem exC2_ok {P : Program} {w : World} {H : Hp} {h : Heap} {a : Addr} {cls : Value} {d : Option Addr} {oe : Obj} {vs : Array Value} (e : h.get? a = some oe) (z : Zc cls d oe) (hd : oe.data = .fields vs) : ObjOk P w H h a (ExC2 a cls d) :=
  ⟨⟨oe, vs, e, z, hd⟩, ⟨oe, e⟩, fun _ _ ⟨o, v, q, r⟩ k => ⟨o, v, k o q, r⟩⟩
section
variable {X : Cx} {pins : List (Addr × Obj)} {σ : L2.St} {H : Hp} {s : Shared} {a : Addr} {oe : Obj} {o : HO}
/-- what was pinned is tracked from now on -/
theorem promote (I : Inv X ((a, oe) :: pins) σ H s) (n0 : X.s_0.heap.get? a = none) (hp : ∀ p ∈ X.pn ++ pins, p.1 ≠ a) (ob : ObjOk X.prog X.w (upd H a o) s.heap a o) : Inv X pins σ (upd H a o) s := by
  obtain ⟨ha, na, nL, nF, nc⟩ := I.pin (a, oe) (List.mem_append_right _ List.mem_cons_self)
  have ne : ∀ {b : Addr} {u : HO}, H b = some u → b ≠ a := fun {b u} e => ne_of_none e na
  refine ⟨I.ok, I.os, I.bare, ⟨I.base.keep, I.base.slot, fun b u e n hx => ?_, I.base.there, fun b xs e => ?_, fun b u v e => ?_, fun b ps e => ?_⟩, I.loc, I.cell, ?_, fun x c e => ?_, fun p h => ?_, I.hok.laidN (fun _ _ z => z) na ob, I.len⟩
  · rw [upd_ne (fun z => by rw [z, n0] at e; cases e)]
    exact I.base.free b u e n hx
  · have q := I.base.tups b xs e
    rw [upd_ne (ne q)]
    exact q
  · have q := I.base.frzs b u v e
    rw [upd_ne (ne q)]
    exact q
  · obtain ⟨m, q⟩ := I.base.tbls b ps e
    exact ⟨m, by rw [upd_ne (ne q)]; exact q⟩
  · rw [upd_ne (Ne.symm nL)]
    exact I.free
  · obtain ⟨v, oc, hc, hd⟩ := I.cell x c e
    have nca : c ≠ a := fun z => by
      rw [z, ha] at hc
      cases hc
      exact nc v hd
    rw [upd_ne nca]
    exact I.freeC x c e
  · obtain ⟨q1, q2, q3, q4, q5⟩ := I.pin p (by
      rcases List.mem_append.mp h with h | h
      · exact List.mem_append_left _ h
      · exact List.mem_append_right _ (List.mem_cons_of_mem _ h))
    exact ⟨q1, by rw [upd_ne (hp p h)]; exact q2, q3, q4, q5⟩
/-- behind an except suite, its exception still pinned -/
theorem unsuiteP (I : Inv (X.suite a ((a, oe) :: (X.pn ++ pins))) [] σ H s) (ok : X.Ok) : Inv X ((a, oe) :: pins) σ H s :=
  ⟨ok, I.os, I.bare, I.base, I.loc, I.cell, I.free, I.freeC, fun p hp => I.pin p (by
    show p ∈ ((a, oe) :: (X.pn ++ pins)) ++ []
    rw [List.append_nil]
    rcases List.mem_append.mp hp with h | h
    · exact List.mem_cons_of_mem _ (List.mem_append_left _ h)
    · rcases List.mem_cons.mp h with h | h
      · rw [h]
        exact List.mem_cons_self
      · exact List.mem_cons_of_mem _ (List.mem_append_right _ h)), I.hok, I.len⟩
end
/-- what the clause wishes: behind its suite the name (slot i) is gone, the exception is an object like others -/
def wKeep (K : PySem.W.Frag) (c : Value) (i : Nat) (ts : Addr → Value → Option Addr → TS) (Wout : WX) (D : Ends) : WX := fun cls d σ H =>
  ∃ b, PySem.W.exmOne K cls c = some b ∧ (b = true → ∀ a, H a = none → ts a cls d
      { nx := fun σ' H' => D.nx (σ'.set i none) (upd H' a (ExC2 a cls d)), rt := fun v H' => D.rt v (upd H' a (ExC2 a cls d)), bk := fun σ' H' => D.bk (σ'.set i none) (upd H' a (ExC2 a cls d)), ct := fun σ' H' => D.ct (σ'.set i none) (upd H' a (ExC2 a cls d)) }
      (σ.set i (some (.ref a))) H) ∧ (b = false → Wout cls d σ H)
section
variable {X : Cx} {x n : Str} {c : Value} {i : Nat} {body suite : List Stmt} {b₀ : Stmt} {np pos pos' : Pos} {tb : WX → TS} {ts : Addr → Value → Option Addr → TS} {Wout : WX}
theorem ps_try_keep (hs : X.stack = X.env :: X.outer) (hf : X.env.frame = some X.env.locals) (hex : X.ex = []) (hN : X.N.Nodup) (hi : X.N[i]? = some n) (hln : X.env.kindOf n = some .local) (hc : Names X x c) (tk : Takes X Wout)
    (hb : ∀ (W : WX) (pn : List (Addr × Obj)) (xe : Value → Shared → Prop), Takes (X.tr pn xe) W → PassesOwn (model X.prog X.w) X.A X.env xe → PSs (X.tr pn xe) body (tb W))
    (hsu : ∀ (a : Addr) (oe : Obj) (cls : Value) (d : Option Addr) (pn : List (Addr × Obj)), Zc cls d oe → (∃ vs, oe.data = .fields vs) → PSs (X.suite a ((a, oe) :: pn)) (b₀ :: suite) (ts a cls d)) :
    PS X (.Try body [.ExceptHandler (some (.Name x np)) (some n) (b₀ :: suite) pos'] [] [] pos) (fun D σ H => tb (wKeep X.K c i ts Wout D) D σ H) := by
  constructor
  intro pins s σ H D I h
  have ok := I.ok
  have hfr : X.A.frames = some (X.env :: X.outer) := ok.frames.trans (by rw [hs])
  refine wpAny_Try_except ?_
  have bodyRun := hb (wKeep X.K c i ts Wout D) (X.pn ++ pins)
    (fun e s₁ => wpAny (model X.prog X.w) X.A (noteFrame e X.env) (fun _ s₂ => wpAny (model X.prog X.w) X.A (setFlight e none)
      (fun _ s₃ => wpAny (model X.prog X.w) X.A (handleBy e X.env [.ExceptHandler (some (.Name x np)) (some n) (b₀ :: suite) pos']) (SP X pins D) X.xe s₃) X.xe s₂) X.xe s₁)
  refine wpAny_mono ((bodyRun ?cau PassesOwn.looking).run [] s σ H D (I.toTry _) h) ?fine (fun e s1 z => z)
  case fine =>
    intro f s1 z
    match f, z with
    | .next, ⟨σ', H', J, q⟩ => exact wpAny_execs_nil ⟨σ', H', J.ofTry ok, q⟩
    | .brk, ⟨σ', H', J, q⟩ => exact ⟨σ', H', J.ofTry ok, q⟩
    | .cont, ⟨σ', H', J, q⟩ => exact ⟨σ', H', J.ofTry ok, q⟩
    | .ret u, ⟨v, σ', H', J, r, q⟩ => exact ⟨v, σ', H', J.ofTry ok, r, q⟩
  case cau =>
    rintro u s' ⟨a, B, sI, pins', σ', H', cls, d, rfl, J', nb, up, sky, na, os, ag, b, hb1, hyes, hno⟩
    have J : Inv X pins σ' H' sI := J'.ofTry ok
    have sky2 : Sky B (X.env :: X.outer) a (Zc cls d) X.env.locals s'.heap := hs ▸ sky
    have nB : B.get? a = none := by
      rcases sky2 with ⟨_, z, _⟩ | ⟨_, z, _⟩ | ⟨_, z, _⟩
      · exact z
      · exact z
      · exact z
    show wpAny _ X.A (noteFrame (.ref a) X.env) _ _ _
    refine Sky.land Zc.steady hfr hf sky2 ?_
    intro h3 fl3 up3
    have J3 : Inv X pins σ' H' { s' with heap := h3 } := J.landed nb fl3.1 (up.trans up3) os ag
    obtain ⟨oe3, vs3, he3, hz3, hd3⟩ := fl3.there
    have nfr : a ∉ frs (X.env :: X.outer) := by
      intro hm
      obtain ⟨_, o', e', hnf⟩ := fl3.2.2.1.mem hm
      rw [he3] at e'
      cases e'
      exact hnf _ hd3
    have nL : a ≠ X.env.locals := by
      intro z
      exact nfr (List.mem_filterMap.mpr ⟨X.env, List.mem_cons_self, hf.trans (by rw [z])⟩)
    have nF : a ∉ X.fs := by
      intro hm
      obtain ⟨e, he, q⟩ := List.mem_filterMap.mp hm
      exact nfr (List.mem_filterMap.mpr ⟨e, List.mem_cons_of_mem _ he, q⟩)
    have nI : sI.heap.get? a = none := by
      cases q : sI.heap.get? a with
      | none => rfl
      | some u =>
        have z := nb a u q (by
          show a ∉ frs X.stack
          rw [hs]
          exact nfr)
        rw [nB] at z
        cases z
    have n0 : X.s_0.heap.get? a = none := by
      cases q : X.s_0.heap.get? a with
      | none => rfl
      | some u =>
        obtain ⟨o', z⟩ := J.base.there a u q (by rw [hex]; exact List.not_mem_nil)
        rw [nI] at z
        cases z
    have nps : ∀ p ∈ X.pn ++ pins, p.1 ≠ a := by
      intro p hp z
      have q := (J.pin p hp).1
      rw [z, nI] at q
      cases q
    have S3 := J3.suite he3 hd3 na nL nF
    refine wpAny_handleBy_cons (codeAny_handlers_test ?_) (by intro q; cases q)
    have LT : PySem.W.Looks (model X.prog X.w) h3 (typeOf (.ref a)) cls := fun A Q E s k q => wpAny_typeOf_ref (k _ _ he3) (by rw [hz3.1]; exact q)
    have LM := PySem.W.exm_one (M := model X.prog X.w) (J3.kIn) LT hb1
    have test : ∀ {Q : Value → Shared → Prop} {E : Value → Shared → Prop}, Q c { s' with heap := h3 } → wpAny (model X.prog X.w) (X.A.mark (some (.ref a))) (eval (.Name x np) X.env) Q E { s' with heap := h3 } := by
      intro Q E q
      obtain ⟨hg, hdbg, hm⟩ := hc
      rcases hm with hm | ⟨hm, hv, hnn⟩
      · exact ld_glob (X := X.suite a ((a, oe3) :: (X.pn ++ pins))) S3 hg hm q hdbg
      · exact ld_blt (X := X.suite a ((a, oe3) :: (X.pn ++ pins))) S3 hg hm hv q hnn hdbg
    refine test (LM.here ?_)
    cases b with
    | false =>
      show wpAny _ X.A (handleBy (.ref a) X.env []) _ _ _
      refine wpAny_handleBy_nil ?_
      obtain ⟨k1, k2, k3, oe, vs, T, oT, ts', he, hz, hd, h1, hr⟩ := id fl3
      have go : wpAny (model X.prog X.w) X.A (setFlight (.ref a) X.env.frame) (fun _ s4 => wpAny (model X.prog X.w) X.A (throw (.ref a) : Sem Flow) (SP X pins D) X.xe s4) X.xe { s' with heap := h3 } := by
        rw [hf]
        refine HandSPX.setFlight_upZ fl3 ?_
        intro h4 hh4 up4
        exact wpAny_throw (tk _ _ ⟨a, B, sI, pins, σ', H', cls, d, rfl, J, nb, (up.trans up3).trans up4, .inr (.inr (hs.symm ▸ hh4)), na, os, ag, hno rfl⟩)
      unfold PySem.passOn
      refine wpAny_bind (wpAny_field he hd h1 ?_)
      have nT : ¬ ((Value.ref T == Value.none) = true) := by simp
      rw [if_neg nT]
      first
        | exact wpAny_bind go
        | exact wpAny_bind (wpAny_pure (wpAny_bind go))
    | true =>
      refine codeAny_handlers_suite_as ?_
      refine HandSPX.lands_againZ fl3 ?_
      intro h4 fl4 up4
      have J4 : Inv X pins σ' H' { s' with heap := h4 } := J.landed nb fl4.1 ((up.trans up3).trans up4) os ag
      obtain ⟨oe4, vs4, he4, hz4, hd4⟩ := fl4.there
      refine store_ok (X := X.suite a ((a, oe4) :: (X.pn ++ pins))) (v := .ref a) (J4.suite he4 hd4 na nL nF) hN hi (.inl hln) rfl ?_ (.inr hln)
      intro s5 S5
      refine wpAny_mono ((hsu a oe4 cls d (X.pn ++ pins) hz4 ⟨_, hd4⟩).run [] s5 _ H' _ S5 (hyes rfl a na)) ?_ (fun _ _ z => z.elim)
      intro f s6 z
      have leave : ∀ {σ6 : L2.St} {H6 : Hp} {Q : Shared → Prop}, Inv (X.suite a ((a, oe4) :: (X.pn ++ pins))) [] σ6 H6 s6 → (∀ s7, Inv X pins (σ6.set i none) (upd H6 a (ExC2 a cls d)) s7 → Q s7) →
          wpAny (model X.prog X.w) X.A (do bindName X.env n .none; unbindBehindTheSuite X.env n pos') (fun _ s7 => Q s7) X.xe s6 := by
        intro σ6 H6 Q S6 hq
        refine gone_ok (unsuiteP S6 ok) hN hi hln ?_
        intro s7 J7
        refine hq s7 (promote J7 n0 nps ?_)
        obtain ⟨e7, _⟩ := J7.pin (a, oe4) (List.mem_append_right _ List.mem_cons_self)
        exact exC2_ok e7 hz4 hd4
      match f, z with
      | .next, ⟨σ6, H6, S6, q6⟩ => exact leave S6 fun s7 J7 => ⟨_, _, J7, q6⟩
      | .brk, ⟨σ6, H6, S6, q6⟩ => exact leave S6 fun s7 J7 => ⟨_, _, J7, q6⟩
      | .cont, ⟨σ6, H6, S6, q6⟩ => exact leave S6 fun s7 J7 => ⟨_, _, J7, q6⟩
      | .ret u, ⟨v6, σ6, H6, S6, r6, q6⟩ => exact leave S6 fun s7 J7 => ⟨_, _, _, J7, r6, q6⟩
end
end Ru

set_option Elab.async false
set_option linter.all false
set_option maxRecDepth 100000
set_option maxHeartbeats 0
namespace K06
open PySem PySem.Spec PyProof.Rows L2 Ru
def top (i : Nat) : Stmt := PySem.Challenge.pw_risingread_k06_numerals_read.main.body.getD i (.Pass ⟨0, 0, 0, 0⟩)
abbrev sWall : Stmt := top 0
def dWall : He.DefD := ⟨("_wall", none), "_wall", "_wall", defArgs sWall, defBody sWall, defScope sWall, [], []⟩
abbrev sIsWhole : Stmt := top 3
def dIsWhole : He.DefD := ⟨("is_whole", none), "is_whole", "is_whole", defArgs sIsWhole, defBody sIsWhole, defScope sIsWhole, [], []⟩
abbrev sIsSequence : Stmt := top 4
def dIsSequence : He.DefD := ⟨("is_sequence", none), "is_sequence", "is_sequence", defArgs sIsSequence, defBody sIsSequence, defScope sIsSequence, [], []⟩
abbrev sNoNumeral_init : Stmt := inClass (top 7) 0
def dNoNumeral_init : He.DefD := ⟨("NoNumeral", some "__init__"), "__init__", "NoNumeral.__init__", defArgs sNoNumeral_init, defBody sNoNumeral_init, defScope sNoNumeral_init, [], []⟩
abbrev sNoPlace_init : Stmt := inClass (top 8) 0
def dNoPlace_init : He.DefD := ⟨("NoPlace", some "__init__"), "__init__", "NoPlace.__init__", defArgs sNoPlace_init, defBody sNoPlace_init, defScope sNoPlace_init, [], []⟩
abbrev sOverflow_init : Stmt := inClass (top 9) 0
def dOverflow_init : He.DefD := ⟨("Overflow", some "__init__"), "__init__", "Overflow.__init__", defArgs sOverflow_init, defBody sOverflow_init, defScope sOverflow_init, [], []⟩
abbrev sNoText_init : Stmt := inClass (top 12) 0
def dNoText_init : He.DefD := ⟨("NoText", some "__init__"), "__init__", "NoText.__init__", defArgs sNoText_init, defBody sNoText_init, defScope sNoText_init, [], []⟩
abbrev sBadText_init : Stmt := inClass (top 13) 0
def dBadText_init : He.DefD := ⟨("BadText", some "__init__"), "__init__", "BadText.__init__", defArgs sBadText_init, defBody sBadText_init, defScope sBadText_init, [], []⟩
abbrev sIsBases : Stmt := top 18
def dIsBases : He.DefD := ⟨("is_bases", none), "is_bases", "is_bases", defArgs sIsBases, defBody sIsBases, defScope sIsBases, [], []⟩
abbrev sProducts : Stmt := top 19
def dProducts : He.DefD := ⟨("_products", none), "_products", "_products", defArgs sProducts, defBody sProducts, defScope sProducts, [], []⟩
abbrev sWeights : Stmt := top 20
def dWeights : He.DefD := ⟨("weights", none), "weights", "weights", defArgs sWeights, defBody sWeights, defScope sWeights, [], []⟩
abbrev sCountOf : Stmt := top 21
def dCountOf : He.DefD := ⟨("count_of", none), "count_of", "count_of", defArgs sCountOf, defBody sCountOf, defScope sCountOf, [], []⟩
abbrev sNumeral_init : Stmt := inClass (top 24) 2
def dNumeral_init : He.DefD := ⟨("Numeral", some "__init__"), "__init__", "Numeral.__init__", defArgs sNumeral_init, defBody sNumeral_init, defScope sNumeral_init, [], []⟩
abbrev sNumeral_is_numeral : Stmt := inClass (top 24) 3
abbrev sNumeral_of : Stmt := inClass (top 24) 4
abbrev sNumeral_read : Stmt := inClass (top 24) 5
abbrev sNumeral_with_value : Stmt := inClass (top 24) 6
def dNumeral_with_value : He.DefD := ⟨("Numeral", some "_with_value"), "_with_value", "Numeral._with_value", defArgs sNumeral_with_value, defBody sNumeral_with_value, defScope sNumeral_with_value, [], []⟩
abbrev sNumeral_changed : Stmt := inClass (top 24) 7
def dNumeral_changed : He.DefD := ⟨("Numeral", some "changed"), "changed", "Numeral.changed", defArgs sNumeral_changed, defBody sNumeral_changed, defScope sNumeral_changed, [], []⟩
abbrev sNumeral_first_change : Stmt := inClass (top 24) 8
def dNumeral_first_change : He.DefD := ⟨("Numeral", some "first_change"), "first_change", "Numeral.first_change", defArgs sNumeral_first_change, defBody sNumeral_first_change, defScope sNumeral_first_change, [], []⟩
abbrev sNumeral_eq : Stmt := inClass (top 24) 9
def dNumeral_eq : He.DefD := ⟨("Numeral", some "__eq__"), "__eq__", "Numeral.__eq__", defArgs sNumeral_eq, defBody sNumeral_eq, defScope sNumeral_eq, [], []⟩
abbrev sNumeral_lt : Stmt := inClass (top 24) 10
def dNumeral_lt : He.DefD := ⟨("Numeral", some "__lt__"), "__lt__", "Numeral.__lt__", defArgs sNumeral_lt, defBody sNumeral_lt, defScope sNumeral_lt, [], []⟩
abbrev sNumeral_le : Stmt := inClass (top 24) 11
def dNumeral_le : He.DefD := ⟨("Numeral", some "__le__"), "__le__", "Numeral.__le__", defArgs sNumeral_le, defBody sNumeral_le, defScope sNumeral_le, [], []⟩
abbrev sNumeral_gt : Stmt := inClass (top 24) 12
def dNumeral_gt : He.DefD := ⟨("Numeral", some "__gt__"), "__gt__", "Numeral.__gt__", defArgs sNumeral_gt, defBody sNumeral_gt, defScope sNumeral_gt, [], []⟩
abbrev sNumeral_ge : Stmt := inClass (top 24) 13
def dNumeral_ge : He.DefD := ⟨("Numeral", some "__ge__"), "__ge__", "Numeral.__ge__", defArgs sNumeral_ge, defBody sNumeral_ge, defScope sNumeral_ge, [], []⟩
abbrev sNumeral_add : Stmt := inClass (top 24) 14
def dNumeral_add : He.DefD := ⟨("Numeral", some "__add__"), "__add__", "Numeral.__add__", defArgs sNumeral_add, defBody sNumeral_add, defScope sNumeral_add, [], []⟩
abbrev sNumeral_radd : Stmt := inClass (top 24) 15
def dNumeral_radd : He.DefD := ⟨("Numeral", some "__radd__"), "__radd__", "Numeral.__radd__", defArgs sNumeral_radd, defBody sNumeral_radd, defScope sNumeral_radd, [], []⟩
abbrev sNumeral_sub : Stmt := inClass (top 24) 16
def dNumeral_sub : He.DefD := ⟨("Numeral", some "__sub__"), "__sub__", "Numeral.__sub__", defArgs sNumeral_sub, defBody sNumeral_sub, defScope sNumeral_sub, [], []⟩
abbrev sNumeral_rsub : Stmt := inClass (top 24) 17
def dNumeral_rsub : He.DefD := ⟨("Numeral", some "__rsub__"), "__rsub__", "Numeral.__rsub__", defArgs sNumeral_rsub, defBody sNumeral_rsub, defScope sNumeral_rsub, [], []⟩
abbrev sNumeral_mul : Stmt := inClass (top 24) 18
def dNumeral_mul : He.DefD := ⟨("Numeral", some "__mul__"), "__mul__", "Numeral.__mul__", defArgs sNumeral_mul, defBody sNumeral_mul, defScope sNumeral_mul, [], []⟩
abbrev sNumeral_rmul : Stmt := inClass (top 24) 19
def dNumeral_rmul : He.DefD := ⟨("Numeral", some "__rmul__"), "__rmul__", "Numeral.__rmul__", defArgs sNumeral_rmul, defBody sNumeral_rmul, defScope sNumeral_rmul, [], []⟩
abbrev sNumeral_pow : Stmt := inClass (top 24) 20
def dNumeral_pow : He.DefD := ⟨("Numeral", some "__pow__"), "__pow__", "Numeral.__pow__", defArgs sNumeral_pow, defBody sNumeral_pow, defScope sNumeral_pow, [], []⟩
abbrev sNumeral_floordiv : Stmt := inClass (top 24) 21
def dNumeral_floordiv : He.DefD := ⟨("Numeral", some "__floordiv__"), "__floordiv__", "Numeral.__floordiv__", defArgs sNumeral_floordiv, defBody sNumeral_floordiv, defScope sNumeral_floordiv, [], []⟩
abbrev sNumeral_mod : Stmt := inClass (top 24) 22
def dNumeral_mod : He.DefD := ⟨("Numeral", some "__mod__"), "__mod__", "Numeral.__mod__", defArgs sNumeral_mod, defBody sNumeral_mod, defScope sNumeral_mod, [], []⟩
abbrev sNumeral_lshift : Stmt := inClass (top 24) 23
def dNumeral_lshift : He.DefD := ⟨("Numeral", some "__lshift__"), "__lshift__", "Numeral.__lshift__", defArgs sNumeral_lshift, defBody sNumeral_lshift, defScope sNumeral_lshift, [], []⟩
abbrev sNumeral_rshift : Stmt := inClass (top 24) 24
def dNumeral_rshift : He.DefD := ⟨("Numeral", some "__rshift__"), "__rshift__", "Numeral.__rshift__", defArgs sNumeral_rshift, defBody sNumeral_rshift, defScope sNumeral_rshift, [], []⟩
abbrev sNumeral_xor : Stmt := inClass (top 24) 25
def dNumeral_xor : He.DefD := ⟨("Numeral", some "__xor__"), "__xor__", "Numeral.__xor__", defArgs sNumeral_xor, defBody sNumeral_xor, defScope sNumeral_xor, [], []⟩
abbrev sNumeral_neg : Stmt := inClass (top 24) 26
def dNumeral_neg : He.DefD := ⟨("Numeral", some "__neg__"), "__neg__", "Numeral.__neg__", defArgs sNumeral_neg, defBody sNumeral_neg, defScope sNumeral_neg, [], []⟩
abbrev sNumeral_invert : Stmt := inClass (top 24) 27
def dNumeral_invert : He.DefD := ⟨("Numeral", some "__invert__"), "__invert__", "Numeral.__invert__", defArgs sNumeral_invert, defBody sNumeral_invert, defScope sNumeral_invert, [], []⟩
abbrev sNumeral_bool : Stmt := inClass (top 24) 28
def dNumeral_bool : He.DefD := ⟨("Numeral", some "__bool__"), "__bool__", "Numeral.__bool__", defArgs sNumeral_bool, defBody sNumeral_bool, defScope sNumeral_bool, [], []⟩
abbrev sNumeral_len : Stmt := inClass (top 24) 29
def dNumeral_len : He.DefD := ⟨("Numeral", some "__len__"), "__len__", "Numeral.__len__", defArgs sNumeral_len, defBody sNumeral_len, defScope sNumeral_len, [], []⟩
abbrev sNumeral_getitem : Stmt := inClass (top 24) 30
def dNumeral_getitem : He.DefD := ⟨("Numeral", some "__getitem__"), "__getitem__", "Numeral.__getitem__", defArgs sNumeral_getitem, defBody sNumeral_getitem, defScope sNumeral_getitem, [], []⟩
abbrev sNumeral_iter : Stmt := inClass (top 24) 31
def dNumeral_iter : He.DefD := ⟨("Numeral", some "__iter__"), "__iter__", "Numeral.__iter__", defArgs sNumeral_iter, defBody sNumeral_iter, defScope sNumeral_iter, [], []⟩
abbrev sNumeral_contains : Stmt := inClass (top 24) 32
def dNumeral_contains : He.DefD := ⟨("Numeral", some "__contains__"), "__contains__", "Numeral.__contains__", defArgs sNumeral_contains, defBody sNumeral_contains, defScope sNumeral_contains, [], []⟩
abbrev sNumeral_str : Stmt := inClass (top 24) 33
def dNumeral_str : He.DefD := ⟨("Numeral", some "__str__"), "__str__", "Numeral.__str__", defArgs sNumeral_str, defBody sNumeral_str, defScope sNumeral_str, [], []⟩
abbrev sIsAsLong : Stmt := top 25
def dIsAsLong : He.DefD := ⟨("_is_as_long", none), "_is_as_long", "_is_as_long", defArgs sIsAsLong, defBody sIsAsLong, defScope sIsAsLong, [], []⟩
abbrev sFirstWrong : Stmt := top 26
def dFirstWrong : He.DefD := ⟨("_first_wrong", none), "_first_wrong", "_first_wrong", defArgs sFirstWrong, defBody sFirstWrong, defScope sFirstWrong, [], []⟩
abbrev sDigitsOf : Stmt := top 27
def dDigitsOf : He.DefD := ⟨("_digits_of", none), "_digits_of", "_digits_of", defArgs sDigitsOf, defBody sDigitsOf, defScope sDigitsOf, [], []⟩
abbrev sCheckLike : Stmt := top 28
def dCheckLike : He.DefD := ⟨("_check_like", none), "_check_like", "_check_like", defArgs sCheckLike, defBody sCheckLike, defScope sCheckLike, [], []⟩
abbrev sCheckDivisor : Stmt := top 29
def dCheckDivisor : He.DefD := ⟨("_check_divisor", none), "_check_divisor", "_check_divisor", defArgs sCheckDivisor, defBody sCheckDivisor, defScope sCheckDivisor, [], []⟩
abbrev sAmountOf : Stmt := top 30
def dAmountOf : He.DefD := ⟨("_amount_of", none), "_amount_of", "_amount_of", defArgs sAmountOf, defBody sAmountOf, defScope sAmountOf, [], []⟩
abbrev sMovedUp : Stmt := top 31
def dMovedUp : He.DefD := ⟨("_moved_up", none), "_moved_up", "_moved_up", defArgs sMovedUp, defBody sMovedUp, defScope sMovedUp, [], []⟩
abbrev sDotted : Stmt := top 32
def dDotted : He.DefD := ⟨("_dotted", none), "_dotted", "_dotted", defArgs sDotted, defBody sDotted, defScope sDotted, [], []⟩
abbrev sEndOfNumber : Stmt := top 33
def dEndOfNumber : He.DefD := ⟨("_end_of_number", none), "_end_of_number", "_end_of_number", defArgs sEndOfNumber, defBody sEndOfNumber, defScope sEndOfNumber, [], []⟩
abbrev sReadNumbers : Stmt := top 34
def dReadNumbers : He.DefD := ⟨("_read_numbers", none), "_read_numbers", "_read_numbers", defArgs sReadNumbers, defBody sReadNumbers, defScope sReadNumbers, [], []⟩
abbrev sPen : Stmt := top 36
def dPen : He.DefD := ⟨("_law_pen", none), "_law_pen", "_law_pen", defArgs sPen, defBody sPen, defScope sPen, [], []⟩
abbrev sTake : Stmt := top 37
def dTake : He.DefD := ⟨("_law_take", none), "_law_take", "_law_take", defArgs sTake, defBody sTake, defScope sTake, [], []⟩
abbrev sLPick : Stmt := top 38
def dLPick : He.DefD := ⟨("_law_pick", none), "_law_pick", "_law_pick", defArgs sLPick, defBody sLPick, defScope sLPick, [], []⟩
abbrev sLNumeral : Stmt := top 39
def dLNumeral : He.DefD := ⟨("_law_numeral", none), "_law_numeral", "_law_numeral", defArgs sLNumeral, defBody sLNumeral, defScope sLNumeral, [], []⟩
abbrev sLFace : Stmt := top 40
def dLFace : He.DefD := ⟨("_law_face", none), "_law_face", "_law_face", defArgs sLFace, defBody sLFace, defScope sLFace, [], []⟩
abbrev sLSpoilt : Stmt := top 41
def dLSpoilt : He.DefD := ⟨("_law_spoilt", none), "_law_spoilt", "_law_spoilt", defArgs sLSpoilt, defBody sLSpoilt, defScope sLSpoilt, [], []⟩
abbrev sLIsNext : Stmt := top 42
def dLIsNext : He.DefD := ⟨("_law_is_next", none), "_law_is_next", "_law_is_next", defArgs sLIsNext, defBody sLIsNext, defScope sLIsNext, [], []⟩
abbrev sLMovedOn : Stmt := top 43
def dLMovedOn : He.DefD := ⟨("_law_moved_on", none), "_law_moved_on", "_law_moved_on", defArgs sLMovedOn, defBody sLMovedOn, defScope sLMovedOn, [], []⟩
abbrev sLScanned : Stmt := top 44
def dLScanned : He.DefD := ⟨("_law_scanned", none), "_law_scanned", "_law_scanned", defArgs sLScanned, defBody sLScanned, defScope sLScanned, [], []⟩
abbrev sLDue : Stmt := top 45
def dLDue : He.DefD := ⟨("_law_due", none), "_law_due", "_law_due", defArgs sLDue, defBody sLDue, defScope sLDue, [], []⟩
abbrev sLTold : Stmt := top 46
def dLTold : He.DefD := ⟨("_law_told", none), "_law_told", "_law_told", defArgs sLTold, defBody sLTold, defScope sLTold, [], []⟩
abbrev sLaw : Stmt := top 47
def dLaw : He.DefD := ⟨("law", none), "law", "law", defArgs sLaw, defBody sLaw, defScope sLaw, [], []⟩
end K06

set_option Elab.async false
set_option linter.all false
set_option maxRecDepth 100000
set_option maxHeartbeats 2000000
namespace Ru
open PySem PySem.Spec PyProof.Rows L2
/-! ### a Hook over the globals' reach and sys.modules, without the code objects' empty tables, with one more look -/
/-- sys.modules stands in the written part as a dict -/
def smB (K : PySem.W.Frag) : Bool := match K.lookup sysModules with
  | some ⟨_, _, .dict _ _, _⟩ => true
  | _ => false
def SmK (K : PySem.W.Frag) : Prop := ∃ (o : Obj) (es : Array DictEntry) (n : Nat), K.lookup sysModules = some o ∧ o.data = .dict es n
theorem smB_ok {K : PySem.W.Frag} (h : smB K = true) : SmK K := by
  unfold smB at h
  split at h
  · rename_i a b es n sl e
    exact ⟨_, es, n, e, rfl⟩
  · cases h
structure SaysY (fa : List He.Fa) (fn : List He.DefD) (tf : List He.Defn) (ex : PySem.W.Frag → Bool) (h : Heap) (K : PySem.W.Frag) : Prop where
  d : He.SaysD fa fn K
  sm : smB K = true
  more : ex K = true
  hd : ∀ p ∈ tf, PySem.W.codeHdIn K (He.cT K p).1 (He.cT K p).2 = true
  out : ∀ p ∈ tf, K.lookup (He.cT K p).2 = none
  empty : ∀ p ∈ tf, h.get? (He.cT K p).2 = some { cls := .none, data := .fields #[] }
def kY (g : Addr → Option Obj) (n : Nat) : PySem.W.Frag := He.frT g (cStatics :: sysModules :: He.asD g n)
def obsY (n : Nat) (fa : List He.Fa) (fn : List He.DefD) (tf : List He.Defn) (ex : PySem.W.Frag → Bool) (g : Addr → Option Obj) : AlX := (He.obsD fa fn (kY g n), smB (kY g n) && (ex (kY g n) && He.tabsB g tf (kY g n)))
theorem saysY_of {n : Nat} {fa : List He.Fa} {fn : List He.DefD} {tf : List He.Defn} {ex : PySem.W.Frag → Bool} {h : Heap} (e : obsY n fa fn tf ex h.get? = (He.valD fn, true)) : SaysY fa fn tf ex h (kY h.get? n) := by
  have e1 : He.obsD fa fn (kY h.get? n) = He.valD fn := congrArg Prod.fst e
  have e2 : (smB (kY h.get? n) && (ex (kY h.get? n) && He.tabsB h.get? tf (kY h.get? n))) = true := congrArg Prod.snd e
  rw [Bool.and_eq_true, Bool.and_eq_true] at e2
  obtain ⟨h0, h1, h2⟩ := e2
  have key : ∀ p ∈ tf, PySem.W.codeHdIn (kY h.get? n) (He.cT (kY h.get? n) p).1 (He.cT (kY h.get? n) p).2 = true ∧ ∃ o, h.get? (He.cT (kY h.get? n) p).2 = some o ∧ He.emptyTab o = true := fun p hp => by
    have z := List.all_eq_true.mp h2 p hp
    rw [Bool.and_eq_true] at z
    refine ⟨z.1, ?_⟩
    have z2 := z.2
    cases q : h.get? (He.cT (kY h.get? n) p).2 with
    | none =>
      rw [q] at z2
      cases z2
    | some o =>
      rw [q] at z2
      exact ⟨o, rfl, z2⟩
  exact ⟨e1, h0, h1, fun p hp => (key p hp).1, fun p hp => by
    obtain ⟨_, o, q, z⟩ := key p hp
    exact He.frT_none q z, fun p hp => by
    obtain ⟨_, o, q, z⟩ := key p hp
    rw [q, He.emptyTab_eq z]⟩
def hookY (n : Nat) (fa : List He.Fa) (fn : List He.DefD) (tf : List He.Defn) (ex : PySem.W.Frag → Bool) : PySem.W.Hook where
  α := AlX
  obs := fun s => obsY n fa fn tf ex s.heap.get?
  val := fun _ => (He.valD fn, true)
  says := fun _ h => ∃ K : PySem.W.Frag, K.In h ∧ SaysY fa fn tf ex h K
  of := fun _ _ e => ⟨_, He.frT_in, saysY_of e⟩
  keeps := fun _ _ _ ⟨K, a, c⟩ k => ⟨K, PySem.W.Frag.In.keeps a k, ⟨c.d, c.sm, c.more, c.hd, c.out, fun p hp => k _ _ (c.empty p hp)⟩⟩
theorem obsY_eq {n : Nat} {fa : List He.Fa} {fn : List He.DefD} {tf : List He.Defn} {ex : PySem.W.Frag → Bool} {g : Addr → Option Obj} {s : Shared} (h : ∀ a, g a = s.heap.get? a) : obsY n fa fn tf ex g = (hookY n fa fn tf ex).obs s := by
  have e : g = s.heap.get? := funext h
  rw [e] <;> rfl
/-! ### the law's entry with tables, at the caller that has no guards -/
section
variable {P : Program} {w : World} {K : PySem.W.Frag} {mg mb : Str → Option Value} {k : Nat} {fa a : Addr} {fd : FuncData} {x : Str} {sp : Sp} {s : Shared} {vs : List Value} {ns : List Int} {cs : List (Addr × Addr)}
/-- where the tables and, if it is not written, the script are tracked -/
def trk (cs : List (Addr × Addr)) (scr : Option (Addr × HO)) : Hp := fun b => match scr with
  | some (a, u) => if b = a then some u else if b ∈ cs.map (·.2) then some (.tbl #[]) else none
  | none => if b ∈ cs.map (·.2) then some (.tbl #[]) else none
/-- what the start heap must grant -/
structure Head (K : PySem.W.Frag) (mg mb : Str → Option Value) (cs : List (Addr × Addr)) (h : Heap) : Prop where
  kin : K.In h
  ns : h.Ns mainGlobals mg
  b : h.Ns builtinsNs mb
  bb : ∀ x : Str, x ≠ "__name__" → mb x = bootBuiltins x
  lim : h.NoLimit
  hT : ∀ p ∈ cs, h.get? p.2 = some { cls := .none, data := .fields #[] }
  nT : ∀ p ∈ cs, K.lookup p.2 = none
  C : ∀ p ∈ cs, PySem.W.CodeHd h p.1 p.2
  bm : ∃ (bm : Addr) (ob : Obj), mg "__builtins__" = some (.ref bm) ∧ bm ≠ builtinsNs ∧ h.get? bm = some ob ∧ ob.cls = .type "module" ∧ ob.dict = some builtinsNs ∧ ob.data = .plain
/-- a tracked thing of the start: the script or an empty table -/
def StartH (cs : List (Addr × Addr)) (a : Addr) (scr : Obj) (xs : List V) (H : Hp) : Prop := ∀ b u, H b = some u → (b = a ∧ u = .frz scr (.lst xs)) ∨ (b ∈ cs.map (·.2) ∧ u = .tbl #[])
theorem entryT (Z : Head K mg mb cs s.heap) (hg : s.gens = #[]) (ha : s.heap.get? a = some { cls := .type "list", data := .seq vs.toArray }) (hi : IntsAre vs ns) (hl : ns.length ≤ sizeLine) (hr : Room k callerA)
    (F : ∀ base : Heap, K.In base → base.Ns mainGlobals mg → (∀ p ∈ cs, LamX.TabB base mg p.1 p.2) → FnG P w K mg base CX0 k fa fd [x] sp) (bd : ∀ (s : Shared) (u : Value), BindsTo s fd ⟨[u], []⟩ [(x, u)])
    (hsp : ∀ H : Hp, (∀ p ∈ cs, H p.2 = some (.tbl #[])) → SqL K H a (ns.map V.int) → sp [.ref a] H (fun v _ => v = .bl true) E0) :
    codeAny (model P w) callerA (.call (.ref fa) ⟨[.ref a], []⟩) (fun r s' => r = .ok (.ret (.bool true)) ∧ OldK s.heap s'.heap ∧ s'.os = s.os ∧ AllBare s'.gens) s := by
  have rv := vals_ints hi
  have tab : ∀ b : Addr, b ∈ cs.map (·.2) → s.heap.get? b = some { cls := .none, data := .fields #[] } := fun b hb => by
    obtain ⟨p, hp, e⟩ := List.mem_map.mp hb
    rw [← e]
    exact Z.hT p hp
  have tabK : ∀ b : Addr, b ∈ cs.map (·.2) → K.lookup b = none := fun b hb => by
    obtain ⟨p, hp, e⟩ := List.mem_map.mp hb
    rw [← e]
    exact Z.nT p hp
  have aT : a ∉ cs.map (·.2) := fun z => by
    have q := (tab a z).symm.trans ha
    cases q
  have main : ∀ H : Hp, (∀ p ∈ cs, H p.2 = some (.tbl #[])) → SqL K H a (ns.map V.int) → StartH cs a { cls := .type "list", data := .seq vs.toArray } (ns.map V.int) H → (H a ≠ none → K.lookup a = none) →
      codeAny (model P w) callerA (.call (.ref fa) ⟨[.ref a], []⟩) (fun r s' => r = .ok (.ret (.bool true)) ∧ OldK s.heap s'.heap ∧ s'.os = s.os ∧ AllBare s'.gens) s := by
    intro H hH hS st hK
    have hok : HOk P w H s.heap := fun b u e => by
      rcases st b u e with ⟨e1, e2⟩ | ⟨e1, e2⟩
      · subst e1 e2
        exact ⟨ha, by rw [List.length_map]; exact hl, vs, _, rv, ha⟩
      · subst e2
        exact tab b e1
    -- what is neither a plain list nor an empty table of the start is not tracked
    have off : ∀ {b : Addr} {o : Obj}, s.heap.get? b = some o → (∀ us n, o.data ≠ .seq us n) → o.data ≠ .fields #[] → H b = none := fun {b o} e n1 n2 => by
      cases q : H b with
      | none => rfl
      | some u =>
        rcases st b u q with ⟨e1, _⟩ | ⟨e1, _⟩
        · subst e1
          rw [ha] at e
          cases e
          exact (n1 _ _ rfl).elim
        · rw [tab b e1] at e
          cases e
          exact (n2 rfl).elim
    have kept : ∀ {b : Addr} {o : Obj}, s.heap.get? b = some o → (∀ us n, o.data ≠ .seq us n) → o.data ≠ .fields #[] → (hidT s.heap H).get? b = some o := fun e n1 n2 => hidT_get e (off e n1 n2)
    have nod : ∀ {b : Addr} {m : Str → Option Value}, s.heap.Ns b m → (hidT s.heap H).Ns b m := by
      rintro b m ⟨o, es, ep, e, d, r⟩
      refine ⟨o, es, ep, kept e (fun us n z => ?_) (fun z => ?_), d, r⟩
      · rw [d] at z
        cases z
      · rw [d] at z
        cases z
    have kin : K.In (hidT s.heap H) := by
      intro b o e
      refine hidT_get (Z.kin b o e) ?_
      cases q : H b with
      | none => rfl
      | some u =>
        rcases st b u q with ⟨e1, _⟩ | ⟨e1, _⟩
        · subst e1
          rw [hK (by rw [q]; exact Option.some_ne_none _)] at e
          cases e
        · rw [tabK b e1] at e
          cases e
    have md : Mod K mg (hidT s.heap H) := ⟨kin, nod Z.ns, ⟨mb, nod Z.b, Z.bb⟩, Z.lim.imp fun mc z => ⟨nod z.1, z.2⟩⟩
    have tb : ∀ p ∈ cs, LamX.TabB (hidT s.heap H) mg p.1 p.2 := fun p hp => by
      refine ⟨?_, ?_, fun z => ?_⟩
      · obtain ⟨o, us, file, tf, flags, tg, inF, text, tt, e1, r1, r2, r3, r⟩ := Z.C p hp
        refine ⟨o, us, file, tf, flags, tg, inF, text, tt, kept e1 (fun vs n z => ?_) (fun z => ?_), r1, r2, r3, r⟩
        · rw [r2] at z
          cases z
        · rw [r2] at z
          cases z
          simp at r3
      · obtain ⟨bm, ob, b1, b2, b3, b4, b5, b6⟩ := Z.bm
        have e2 := kept b3 (fun us n z => by rw [b6] at z; cases z) (fun z => by rw [b6] at z; cases z)
        refine ⟨bm, ob, b1, b2, fun q => ?_, fun q => ?_, e2, b4, b5, b6⟩
        · obtain ⟨o, es, ep, e, hd, _⟩ := Z.ns
          rw [q, e] at b3
          cases b3
          rw [hd] at b6
          cases b6
        · rw [q, Z.hT p hp] at b3
          cases b3
          cases b6
      · obtain ⟨o, es, ep, e, hd, _⟩ := Z.ns
        rw [z, Z.hT p hp] at e
        cases e
        cases hd
    have e0 : Env0 P w K mg (hidT s.heap H) callerA [] s H :=
      { frames := rfl, mod := md, bs := fun b o e => of_hidT e, bsz := Nat.le_of_eq (hidT_size _ _), funs := trivial, frf := fun b z => (List.not_mem_nil z).elim, hok := hok, bare := .of_eq hg }
    refine codeAny_mono ((F _ kin (nod Z.ns) tb).run callerA [] s H ⟨[.ref a], []⟩ [.ref a] [.ref a] _ _ rfl hr e0 (bd s (.ref a)) (.cons rfl .nil) (hsp H hH hS)) ?_
    intro r s' z
    match r, z with
    | .ok (.ret u), ⟨v, H', os, bare, un, hok', r', q⟩ =>
      subst q
      obtain rfl : u = Value.bool true := r'
      have row : ∀ b ∈ cs.map (·.2), ∃ more : Array Value, s'.heap.get? b = some { cls := .none, data := .fields more } := fun b hb => by
        obtain ⟨p, hp, e⟩ := List.mem_map.mp hb
        obtain ⟨more, z⟩ := un.tbls p.2 #[] (hH p hp)
        rw [← e]
        exact ⟨_, hok' p.2 _ z⟩
      have rest : ∀ b o, b ∉ cs.map (·.2) → s.heap.get? b = some o → s'.heap.get? b = some o := fun b o nb e => by
        cases hb : H b with
        | none => exact un.keep b o e hb (fun z => (List.not_mem_nil z).elim) (fun z => (List.not_mem_nil z).elim)
        | some u =>
          rcases st b u hb with ⟨_, e2⟩ | ⟨e1, _⟩
          · subst e2
            have e1 := (hok b _ hb).1
            have e2 := (hok' b _ (un.frzs b _ _ hb)).1
            rw [e] at e1
            cases e1
            exact e2
          · exact (nb e1).elim
      refine ⟨rfl, ⟨fun b o e => ?_, fun b o e => ?_⟩, os, bare⟩
      · by_cases hb : b ∈ cs.map (·.2)
        · obtain ⟨more, z⟩ := row b hb
          obtain ⟨p, hp, ep⟩ := List.mem_map.mp hb
          rw [tab b hb] at e
          cases e
          refine .inr (.inl ⟨?_, rfl, #[], more, rfl, by rw [Array.empty_append]; exact z⟩)
          rw [← ep]
          exact ((Z.C p hp).tab (Z.hT p hp)).isCodeTable
        · exact .inl (rest b o hb e)
      · by_cases hb : b ∈ cs.map (·.2)
        · obtain ⟨more, z⟩ := row b hb
          exact ⟨_, z⟩
        · exact ⟨o, rest b o hb e⟩
  have tin : ∀ (scr : Option (Addr × HO)) (b : Addr), b ∈ cs.map (·.2) → (∀ u, scr ≠ some (b, u)) → trk cs scr b = some (.tbl #[]) := fun scr b hb hn => by
    unfold trk
    cases scr with
    | none => exact if_pos hb
    | some q =>
      obtain ⟨c, u⟩ := q
      show (if b = c then some u else if b ∈ cs.map (·.2) then some (HO.tbl #[]) else none) = _
      rw [if_neg (fun e => hn u (by rw [e])), if_pos hb]
  cases hk : K.lookup a with
  | some o =>
    have e := Z.kin a o hk
    rw [ha] at e
    cases e
    refine main (trk cs none) (fun p hp => tin none _ (List.mem_map.mpr ⟨p, hp, rfl⟩) (fun u z => nomatch z)) (.inr ⟨_, vs.toArray, _, hk, rfl, rfl, rfl, by rw [List.size_toArray, hi.length]; exact hl, by simpa using rv⟩) (fun b u q => ?_) (fun z => ?_)
    · by_cases hb : b ∈ cs.map (·.2)
      · rw [tin none b hb (fun u z => nomatch z)] at q
        cases q
        exact .inr ⟨hb, rfl⟩
      · cases (if_neg hb).symm.trans (show (if b ∈ cs.map (·.2) then some (HO.tbl #[]) else none) = some u from q)
    · exact (z (if_neg aT)).elim
  | none =>
    have nA : ∀ b ∈ cs.map (·.2), b ≠ a := fun b hb e => aT (by rw [← e]; exact hb)
    refine main (trk cs (some (a, .frz { cls := .type "list", data := .seq vs.toArray } (.lst (ns.map V.int))))) (fun p hp => ?_) (.inl (.inr ⟨_, if_pos rfl⟩)) (fun b u q => ?_) (fun _ => hk)
    · have hb : p.2 ∈ cs.map (·.2) := List.mem_map.mpr ⟨p, hp, rfl⟩
      exact tin _ _ hb fun u z => nA _ hb (by cases z; rfl)
    · have q' : (if b = a then some (HO.frz { cls := .type "list", data := .seq vs.toArray } (.lst (ns.map V.int))) else if b ∈ cs.map (·.2) then some (HO.tbl #[]) else none) = some u := q
      by_cases hb : b = a
      · rw [if_pos hb] at q'
        cases q'
        exact .inl ⟨hb, rfl⟩
      · rw [if_neg hb] at q'
        by_cases hc : b ∈ cs.map (·.2)
        · rw [if_pos hc] at q'
          cases q'
          exact .inr ⟨hc, rfl⟩
        · rw [if_neg hc] at q'
          cases q'
end
/-- the law, from its def's promise, with tables -/
theorem walkT {l : PySem.W.OpenLaw} {n k : Nat} {q : Program} {loose : List Str} {XP : (Str → Option Value) → Heap → Prop} {YP : World → Heap → Prop} {d : DefRec} {x : Str}
    (hn : l.most = some n) (hn2 : n ≤ sizeLine) (hdf : d.params.defaults = []) (hr : Room k callerA)
    (F : ∀ (w : World) (mg : Str → Option Value) (fa : Addr) (h : Heap), YP w h → h.Ns mainGlobals mg → mg d.name = some (.ref fa) →
      ∃ (K : PySem.W.Frag) (cs : List (Addr × Addr)) (fd : FuncData) (sp : Sp), K.In h ∧ (∀ p ∈ cs, h.get? p.2 = some { cls := .none, data := .fields #[] }) ∧ (∀ p ∈ cs, K.lookup p.2 = none) ∧ (∀ p ∈ cs, PySem.W.CodeHd h p.1 p.2) ∧
        (∀ (s : Shared) (u : Value), BindsTo s fd ⟨[u], []⟩ [(x, u)]) ∧
        (∀ (H : Hp) (a : Addr) (ns : List Int), ns.length ≤ n → (∀ p ∈ cs, H p.2 = some (.tbl #[])) → SqL K H a (ns.map V.int) → sp [.ref a] H (fun v _ => v = .bl true) E0) ∧
        ∀ base : Heap, K.In base → base.Ns mainGlobals mg → (∀ p ∈ cs, LamX.TabB base mg p.1 p.2) → FnG l.prog w K mg base CX0 k fa fd [x] sp) :
    PySem.W.WalkO q loose XP YP l.row.toRowW d [] (fun f vs => PySem.call f vs) := by
  refine Att.attach_call hn hdf fun w s₀ s₁ mg mb fa o pm cd doc a vs ns G Y ho hd hcd hmg hobj hints hlen hg => ?_
  obtain ⟨K, cs, fd, sp, kx, hT, nT, C, bd, hsp, hF⟩ := F w mg fa _ Y G.T.g hmg
  exact entryT ⟨kx, G.T.g, G.T.b, G.T.builtins, G.T.nolimit, hT, nT, C, G.T.bmain⟩ hg hobj hints (Nat.le_trans hlen hn2) hr hF bd fun H hH sq => hsp H a ns hlen hH sq
end Ru

set_option Elab.async false
set_option linter.all false
set_option maxRecDepth 100000
set_option maxHeartbeats 2000000
namespace Ru
open PySem PySem.Spec PyProof.Rows L2
/-! ### .. and with defs that stand behind a record (classmethods) -/
def obsW (fw : List He5.DefA) (K : PySem.W.Frag) : He.AlD := (fw.all fun d => d.ok K, fw.map fun d => He5.fnA K (d.at_ K))
def valW (fw : List He5.DefA) : He.AlD := (true, fw.map He5.DefA.val)
theorem saysW_def {fw : List He5.DefA} {K : PySem.W.Frag} (c : obsW fw K = valW fw) (i : Nat) {d : He5.DefA} (h : fw[i]? = some d := by rfl) : ∃ fd, FunD K d.name d.qual d.params d.body d.scope (d.dvs K) (d.kws K) (d.at_ K) fd := by
  have c2 : (fw.all fun d => d.ok K) = true := congrArg (fun z : He.AlD => z.1) c
  have e : fw.map (fun d => He5.fnA K (d.at_ K)) = fw.map He5.DefA.val := congrArg (fun z : He.AlD => z.2) c
  have e2 : (fw.map fun d => He5.fnA K (d.at_ K))[i]? = (fw.map He5.DefA.val)[i]? := by rw [e]
  rw [List.getElem?_map, List.getElem?_map, h] at e2
  exact He5.DefA.funD (Option.some.inj e2) (List.all_eq_true.mp c2 d (List.mem_of_getElem? h))
abbrev AlZ : Type := AlX × He.AlD
def obsZ (n : Nat) (fa : List He.Fa) (fn : List He.DefD) (fw : List He5.DefA) (tf : List He.Defn) (ex : PySem.W.Frag → Bool) (g : Addr → Option Obj) : AlZ := (obsY n fa fn tf ex g, obsW fw (kY g n))
def hookZ (n : Nat) (fa : List He.Fa) (fn : List He.DefD) (fw : List He5.DefA) (tf : List He.Defn) (ex : PySem.W.Frag → Bool) : PySem.W.Hook where
  α := AlZ
  obs := fun s => obsZ n fa fn fw tf ex s.heap.get?
  val := fun _ => ((He.valD fn, true), valW fw)
  says := fun _ h => ∃ K : PySem.W.Frag, K.In h ∧ SaysY fa fn tf ex h K ∧ obsW fw K = valW fw
  of := fun _ _ e => ⟨_, He.frT_in, saysY_of (congrArg Prod.fst e), congrArg Prod.snd e⟩
  keeps := fun _ _ _ ⟨K, a, c, d⟩ k => ⟨K, PySem.W.Frag.In.keeps a k, ⟨c.d, c.sm, c.more, c.hd, c.out, fun p hp => k _ _ (c.empty p hp)⟩, d⟩
theorem obsZ_eq {n : Nat} {fa : List He.Fa} {fn : List He.DefD} {fw : List He5.DefA} {tf : List He.Defn} {ex : PySem.W.Frag → Bool} {g : Addr → Option Obj} {s : Shared} (h : ∀ a, g a = s.heap.get? a) : obsZ n fa fn fw tf ex g = (hookZ n fa fn fw tf ex).obs s := by
  have e : g = s.heap.get? := funext h
  rw [e] <;> rfl
end Ru

set_option Elab.async false
set_option linter.all false
set_option maxRecDepth 100000
set_option maxHeartbeats 0
namespace K06
open PySem PySem.Spec PyProof.Rows L2 Ru
def fa0 : List He.Fa := [.glo "is_whole", .glo "is_sequence", .glo "is_bases", .glo "_products", .glo "weights", .glo "_is_as_long", .glo "_first_wrong", .glo "_dotted", .glo "_end_of_number", .glo "_read_numbers", .glo "_law_pen", .glo "_law_take"]
def fa1 : List He.Fa := [.glo "_law_pick", .glo "_law_numeral", .glo "_law_face", .glo "_law_spoilt", .glo "_law_is_next", .glo "_law_moved_on", .glo "_law_scanned", .glo "_law_due", .glo "_law_told", .glo "law", .glo "RisingError", .glo "NoNumeral"]
def fa2 : List He.Fa := [.glo "NoText", .glo "BadText", .glo "Overflow", .glo "Unlike", .glo "Numeral", .free "isinstance", .free "int", .free "bool", .free "tuple", .free "list", .free "len", .free "all"]
def fa3 : List He.Fa := [.free "abs", .free "repr", .free "range", .free "zip", .free "enumerate", .free "sum", .free "str", .free "max", .free "min", .int "LEAST_BASE" 2, .int "GREATEST_BASE" 100, .int "MOST_PLACES" 4]
def fa4 : List He.Fa := [.int "MOST_FIGURES" 3, .str "FIGURES" "0123456789", .exm "NoNumeral" "RisingError" true, .exm "NoText" "RisingError" true, .cls "Numeral", .mkr "Numeral", .noat "Numeral" "digits", .noat "Numeral" "bases", .noat "Numeral" "value", .meth "Numeral" "__eq__", .meth "Numeral" "__str__"]
def fa : List He.Fa := fa0 ++ fa1 ++ fa2 ++ fa3 ++ fa4
def fn0 : List He.DefD := [dIsWhole, dIsSequence, dIsBases, dProducts, dWeights, dIsAsLong, dFirstWrong, dDotted, dEndOfNumber, dReadNumbers, dPen, dTake]
def fn1 : List He.DefD := [dLPick, dLNumeral, dLFace, dLSpoilt, dLIsNext, dLMovedOn, dLScanned, dLDue, dLTold, dLaw, dNoNumeral_init, dNoText_init]
def fn2 : List He.DefD := [dNumeral_init, dNumeral_eq, dNumeral_str]
def fn : List He.DefD := fn0 ++ fn1 ++ fn2
def dRead : He5.DefA := { at_ := fun K => He5.wf K (He.ga K "Numeral") "classmethod" "read", name := "read", qual := "Numeral.read", params := defArgs sNumeral_read, body := defBody sNumeral_read, scope := defScope sNumeral_read }
def fw : List He5.DefA := [dRead]
def cvB (K : PySem.W.Frag) (f : Str) (i : Int) : Bool := match PySem.W.findCls K (.ref (He.ga K "Numeral")) (.type "type") f with
  | some (.val (.int j _)) => decide (j = i)
  | _ => false
theorem cv_ok {K : PySem.W.Frag} {f : Str} {i : Int} (h : cvB K f i = true) : ∃ u, ClX.CVal K (He.ga K "Numeral") (.type "type") f (.int i) u := by
  unfold cvB at h
  split at h
  · rename_i j t e
    have := of_decide_eq_true h
    subst this
    exact ⟨_, ⟨e, ⟨t, rfl⟩⟩⟩
  · cases h

def tf : List He.Defn := []
def ex (K : PySem.W.Frag) : Bool := exAllB K && exKB K (He.ga K "NoNumeral") && exKB K (He.ga K "NoText") && oexB K (He.ga K "NoNumeral") && He.eqO (PySem.W.findIn K (.ref (He.ga K "NoNumeral")) "at") (some none) && oexB K (He.ga K "NoText") && He.eqO (PySem.W.findIn K (.ref (He.ga K "NoText")) "at") (some none) && optB (PySem.W.kitOne K (.ref (He.ga K "NoText")) (.ref (He.ga K "NoText"))) (some true) && optB (PySem.W.kitOne K (.ref (He.ga K "NoText")) (.ref (He.ga K "NoNumeral"))) (some false) && optB (PySem.W.kitOne K (.ref (He.ga K "NoText")) (.ref (He.ga K "BadText"))) (some false) && optB (PySem.W.kitOne K (.ref (He.ga K "NoText")) (.ref (He.ga K "Overflow"))) (some false) && optB (PySem.W.kitOne K (.ref (He.ga K "NoText")) (.ref (He.ga K "Unlike"))) (some false) && optB (PySem.W.kitOne K (.ref (He.ga K "NoNumeral")) (.ref (He.ga K "NoText"))) (some false) && optB (PySem.W.kitOne K (.ref (He.ga K "NoNumeral")) (.ref (He.ga K "NoNumeral"))) (some true) && optB (PySem.W.kitOne K (.ref (He.ga K "NoNumeral")) (.ref (He.ga K "BadText"))) (some false) && optB (PySem.W.kitOne K (.ref (He.ga K "NoNumeral")) (.ref (He.ga K "Overflow"))) (some false) && optB (PySem.W.kitOne K (.ref (He.ga K "NoNumeral")) (.ref (He.ga K "Unlike"))) (some false) && He.eqO (PySem.W.findIn K (.ref (He.ga K "Numeral")) "__class__") (some (some (.builtin "object.__class__"))) && optB (PySem.W.mroIn K (He.ga K "Numeral") (.type "object")) (some true) && optB (PySem.W.kitOne K (.ref (He.ga K "Numeral")) (.ref (He.ga K "Numeral"))) (some true) && He.eqO (PySem.W.findIn K (.ref (He.ga K "Numeral")) "__ne__") (some (some (.builtin "object.__ne__"))) && PySem.W.readsIn K (He.ga K "Numeral") (.type "type") && He.eqO (PySem.W.specialIn K (.ref (He.ga K "Numeral")) "__getattribute__") (some (some (.builtin "type.__getattribute__"))) && He5.wrapB K (He.ga K "Numeral") "classmethod" "classmethod.__get__" "read" && PySem.W.fnIn K (He5.wf K (He.ga K "Numeral") "classmethod" "read") && cvB K "PLACES" 4
abbrev R : PySem.W.OpenRow := PySem.W.OpenLaw.row PySem.Challenge.rw_risingread_k06_numerals_read
abbrev hk : PySem.W.Hook := hookZ 6 fa fn fw tf ex
def ob (s : PySem.W.SharedT) : AlZ := obsZ 6 fa fn fw tf ex (HandSHeadRun.getT s)
theorem ob_eq (s : PySem.W.SharedT) : ob s = hk.obs s.abs := obsZ_eq (HandSHeadRun.getT_eq s)
def loose0 : List Str := ["_wall", "FIGURES", "is_whole", "is_sequence", "RisingError", "NoNumeral", "NoPlace", "Overflow", "Unlike", "NoDivisor", "NoText", "BadText"]
def loose1 : List Str := ["LEAST_BASE", "GREATEST_BASE", "MOST_PLACES", "is_bases", "_products", "weights", "count_of", "MOST_FIGURES", "Numeral", "_is_as_long", "_first_wrong", "_digits_of"]
def loose2 : List Str := ["_check_like", "_check_divisor", "_amount_of", "_moved_up", "_dotted", "_end_of_number", "_read_numbers", "_law_pen", "_law_take", "_law_pick", "_law_numeral", "_law_face"]
def loose3 : List Str := ["_law_spoilt", "_law_is_next", "_law_moved_on", "_law_scanned", "_law_due", "_law_told"]
def loose : List Str := loose0 ++ loose1 ++ loose2 ++ loose3
end K06

set_option Elab.async false
set_option linter.all false
set_option maxRecDepth 100000
set_option maxHeartbeats 0
namespace K06
open PySem PySem.Spec PyProof.Rows L2 Ru
theorem headRun (w : World) : HandSHeadRun.RunEq R (PySem.W.view R.prog [47]) hk ob 20000 loose w := by
  intro os
  kernel_rfl
end K06

set_option Elab.async false
set_option linter.all false
set_option maxRecDepth 100000
set_option maxHeartbeats 2000000
namespace Ru
open PySem PySem.Spec PyProof.Rows L2
theorem ifC {c A B : Prop} [Decidable c] (h1 : c → A) (h2 : ¬ c → B) : if decide c = true then A else B := by
  by_cases h : c
  · rw [if_pos (decide_eq_true h)]
    exact h1 h
  · rw [if_neg (by rw [decide_eq_false h]; exact Bool.false_ne_true)]
    exact h2 h
/-- the state of the draws as a list: the script's numbers, the next one's place, what is left of a great one -/
structure PenL (H : Hp) (d l : Addr) (cells : List Int) (a r : Int) : Prop where
  dk : H d = some (.lst [.ref l, .int a, .int r])
  cl : H l = some (.lst (cells.map V.int))
  len : cells.length ≤ 63
  a0 : 0 ≤ a
  r0 : 0 ≤ r
section
variable {H H' : Hp} {d l : Addr} {cells : List Int} {a r z : Int}
theorem PenL.ne (P : PenL H d l cells a r) : l ≠ d := fun e => by
  have h1 := P.dk
  rw [← e, P.cl] at h1
  have h2 : cells.map V.int = [.ref l, .int a, .int r] := by injection (Option.some.inj h1)
  cases cells with
  | nil => cases h2
  | cons x xs => cases h2
theorem PenL.same (s : Same H H') (P : PenL H d l cells a r) : PenL H' d l cells a r := ⟨s _ _ P.dk, s _ _ P.cl, P.len, P.a0, P.r0⟩
theorem PenL.but (P : PenL H d l cells a r) {a' r' : Int} (h1 : 0 ≤ a') (h2 : 0 ≤ r') : PenL (upd H d (.lst [.ref l, .int a', .int r'])) d l cells a' r' :=
  ⟨upd_same, by rw [upd_ne P.ne]; exact P.cl, P.len, h1, h2⟩
end
/-- all but what stands at d stays -/
def Bt (d : Addr) (H H' : Hp) : Prop := ∀ b o, H b = some o → b ≠ d → H' b = some o
theorem Bt.refl {d : Addr} {H : Hp} : Bt d H H := fun _ _ e _ => e
theorem Bt.trans {d : Addr} {H H1 H2 : Hp} (x : Bt d H H1) (y : Bt d H1 H2) : Bt d H H2 := fun b o e n => y b o (x b o e n) n
theorem Bt.of {d : Addr} {H H' : Hp} (s : Same H H') : Bt d H H' := fun b o e _ => s b o e
theorem Bt.put {d : Addr} {H : Hp} {u : HO} : Bt d H (upd H d u) := fun b o e n => by rw [upd_ne n]; exact e
/-- a number from 0 to m - 1 is drawn; nothing but the pen's list changes -/
def spTakeL : Sp := fun vs H Q _ => ∃ (d l : Addr) (cells : List Int) (a r m : Int), vs = [.ref d, .int m] ∧ PenL H d l cells a r ∧ a ≤ 100000 ∧ 0 < m ∧ m < 1073741824 ∧
  ∀ (z a' r' : Int) (H' : Hp), 0 ≤ z → z < m → a' ≤ a + 1 → Bt d H H' → PenL H' d l cells a' r' → Q (.int z) H'
/-- a pen over the script -/
def spPenL (K : PySem.W.Frag) : Sp := fun vs H Q _ => ∃ (a : Addr) (ns : List Int), vs = [.ref a] ∧ SqL K H a (ns.map V.int) ∧ ns.length ≤ 63 ∧ ∀ (d l : Addr) (H' : Hp), Same H H' → PenL H' d l ns 0 0 → Q (.ref d) H'
theorem sq_leL {c : Int} {a : Int} (h0 : 0 ≤ a) (h1 : a ≤ 100000) (hc : c = 61051) : 0 ≤ c * a * a ∧ c * a * a ≤ 610510000000000 := by
  subst hc
  have h2 : 0 ≤ a * a := Int.mul_nonneg h0 h0
  have h3 : a * a ≤ 100000 * 100000 := Int.mul_le_mul h1 h1 h0 (by omega)
  have e : 61051 * a * a = 61051 * (a * a) := Int.mul_assoc _ _ _
  omega
/-- a product within two bounds -/
theorem mul_leL {x a : Int} {k : Int} (h0 : 0 ≤ x) (h1 : x < 2147483587) (h2 : 0 ≤ a) (h3 : a ≤ 100000) (k0 : 0 ≤ k) (k1 : k ≤ 1000) : 0 ≤ x * (2 * a + k) ∧ x * (2 * a + k) ≤ 2147483587 * 201000 := by
  refine ⟨Int.mul_nonneg h0 (by omega), Int.mul_le_mul (by omega) (by omega) (by omega) (by omega)⟩
theorem cutL63 {xs : List V} (h : xs.length ≤ 63) : cutV xs none (some 63) = xs := by
  show (xs.drop 0).take (min 63 xs.length - 0) = xs
  rw [Nat.min_eq_right h]
  simp
/-- an item of the numbers -/
theorem cellAt {cells : List Int} {k : Int} (h0 : 0 ≤ k) (h1 : k < cells.length) : ∃ c : Int, atI (cells.map V.int) k = some (.int c) := by
  obtain ⟨n, hn⟩ := Int.eq_ofNat_of_zero_le h0
  have hlt : n < cells.length := by omega
  exact ⟨cells[n], at_of hn (by rw [List.getElem?_map, List.getElem?_eq_getElem hlt]; rfl)⟩
def intsD (cells : List Int) : List PyData := cells.map PyData.int
theorem dp_ints {K : PySem.W.Frag} {H : Hp} : ∀ {cells : List Int}, DpAll K H (cells.map V.int) (intsD cells)
  | [] => .nil
  | _ :: _ => .cons (.int _) dp_ints
theorem lay_ints : ∀ {cells : List Int}, PyData.canLayAll0 (intsD cells) = true
  | [] => by simp [intsD, PyData.canLayAll0]
  | z :: zs => by
    have h := lay_ints (cells := zs)
    simp only [intsD, List.map_cons, PyData.canLayAll0, PyData.canLay0, Bool.true_and] at h ⊢
    exact h
theorem deep_ints : ∀ {cells : List Int}, PyData.depthAll (intsD cells) ≤ 1
  | [] => by simp [intsD, PyData.depthAll]
  | z :: zs => by
    have h := deep_ints (cells := zs)
    simp only [intsD, List.map_cons, PyData.depthAll, PyData.depth] at h ⊢
    omega
theorem shaped_ints {cells : List Int} : SeqAt.shaped (.list (intsD cells)) = true := by
  have h1 := deep_ints (cells := cells)
  unfold SeqAt.shaped
  rw [Bool.and_eq_true]
  refine ⟨by rw [PyData.canLay0]; exact lay_ints, decide_eq_true ?_⟩
  rw [PyData.depth]
  omega
theorem shaped_nil : SeqAt.shaped (.list []) = true := shaped_ints (cells := [])
theorem eqv_nil {cells : List Int} : (!PyData.eqv (.list (intsD cells)) (.list [])) = !cells.isEmpty := by
  cases cells with
  | nil => simp [intsD, PyData.eqv, PyData.eqvAll]
  | cons z zs => simp [intsD, PyData.eqv, PyData.eqvAll]
end Ru

set_option Elab.async false
set_option linter.all false
set_option maxRecDepth 100000
set_option maxHeartbeats 4000000
namespace K06
open PySem PySem.Spec PyProof.Rows L2 Ru
theorem sc_take : FnScope ["_law_pen_here", "_law_limit", "_law_digit", "_law_at", "_law_cell", "_law_great", "_law_mixed"] ["_law_pen_here", "_law_limit"] (defScope sTake) := ⟨rfl, rfl, rfl, by decide +kernel, rfl, by decide +kernel, by decide +kernel⟩
theorem qo1 : (0 : Int) < 2147483629 := by decide
theorem qo2 : (0 : Int) < 2147483587 := by decide
theorem qo3 : (0 : Int) < 2147483563 := by decide
section
variable {P : Program} {w : World} {K : PySem.W.Frag} {mg : Str → Option Value} {base : Heap}
theorem ok_take {f : Addr} {fd : FuncData} (F : FunD K "_law_take" "_law_take" (defArgs sTake) (defBody sTake) (defScope sTake) [] [] f fd) (g_int : mg "int" = none) (g_len : mg "len" = none) (g_abs : mg "abs" = none) :
    FnOk P w K mg base CX0 1 f fd ["_law_pen_here", "_law_limit"] spTakeL := by
  refine F.ok sc_take (fun vs H Q E h => ?_) (fun cdv A outer s H vs Q E hr h => ?_)
  · obtain ⟨d, l, cells, a, r, m, rfl, _⟩ := h
    rfl
  · obtain ⟨d, l, cells, a, r, m, rfl, PA, ha, hm0, hm1, k⟩ := h
    have hu := hu_of hr
    have hu64 := hr.units
    have sc := sc_take
    refine ⟨_, PSs.nox (pss_cons (ps_if (pt_cmpR op_gt (pe_ix ix_list (pv 0) pe_int (fun _ _ => rfl)) pe_int (nomark _))
        (pss_cons (ps_set (i := 2) sc.nd rfl (Or.inl rfl) (pe_op op_mod (pe_callTy call_int1 (by rfl) g_int boot_int (pa_cons (pe_ix ix_list (pv 0) pe_int (fun _ _ => rfl)) pa_nil)) (pv 1)))
        (pss_cons (ps_asg (pe_op op_fdiv (pe_ix ix_list (pv 0) pe_int (fun _ _ => rfl)) (pv 1)) (pg_sub (pv 0) pe_int set_list))
        (pss_one (ps_ret (pv 2)))))
        pss_nil)
      (pss_cons (ps_set (i := 3) sc.nd rfl (Or.inl rfl) (pe_ix ix_list (pv 0) pe_int (fun _ _ => rfl)))
      (pss_cons (ps_asg (pe_op op_add (pv 3) pe_int) (pg_sub (pv 0) pe_int set_list))
      (pss_cons (ps_set (i := 4) sc.nd rfl (Or.inl rfl) (pe_op op_add (pe_op op_mul pe_int (pv 3)) pe_int))
      (pss_cons (ps_if (pt_cmpR (op_neD hu64) (pe_ix ix_list (pv 0) pe_int (fun _ _ => rfl)) (pe_lst pa_nil) (nomark _))
        (pss_one (ps_set (i := 4) sc.nd rfl (Or.inl rfl) (pe_ix ix_list (pe_ix ix_list (pv 0) pe_int (fun _ _ => rfl)) (pe_op op_mod (pe_callTy call_int1 (by rfl) g_int boot_int (pa_cons (pv 3) pa_nil)) (pe_callB call_len_seq (by rfl) g_len PySem.boot_len (pa_cons (pe_ix ix_list (pv 0) pe_int (fun _ _ => rfl)) pa_nil))) (fun _ _ => rfl))))
        pss_nil)
      (pss_cons (ps_if (PW.pt (pw_and (pt_cmpR op_lt (pv 3) (pe_callB call_len_seq (by rfl) g_len PySem.boot_len (pa_cons (pe_ix ix_list (pv 0) pe_int (fun _ _ => rfl)) pa_nil)) (nomark _)) (pw_and1 (pt_cmpR op_ge (pe_callB call_abs (by rfl) g_abs boot_abs (pa_cons (pv 4) pa_nil)) (pe_op op_pow pe_int pe_int) (nomark _)))))
        (pss_cons (ps_set (i := 5) sc.nd rfl (Or.inl rfl) (pe_op op_add (pe_op op_mul pe_int (pe_callB call_abs (by rfl) g_abs boot_abs (pa_cons (pv 4) pa_nil))) (pe_callTy call_int1 (by rfl) g_int boot_int (pa_cons (pe_cmpR op_lt (pv 4) pe_int (nomark _)) pa_nil))))
        (pss_cons (ps_asg (pe_op op_fdiv (pv 5) (pv 1)) (pg_sub (pv 0) pe_int set_list))
        (pss_one (ps_ret (pe_op op_mod (pe_callTy call_int1 (by rfl) g_int boot_int (pa_cons (pv 5) pa_nil)) (pv 1))))))
        pss_nil)
      (pss_cons (ps_set (i := 6) sc.nd rfl (Or.inl rfl) (pe_op op_mod (pe_callTy call_int1 (by rfl) g_int boot_int (pa_cons (pe_op op_pow (pe_op op_add (pe_op op_add (pe_op op_mod (pe_callTy call_int1 (by rfl) g_int boot_int (pa_cons (pv 4) pa_nil)) pe_int) (pe_op op_mul pe_int (pv 3))) pe_int) pe_int) pa_nil)) pe_int))
      (pss_cons (ps_set (i := 6) sc.nd rfl (Or.inl rfl) (pe_op op_mod (pe_callTy call_int1 (by rfl) g_int boot_int (pa_cons (pe_op op_pow (pe_op op_add (pe_op op_add (pe_op op_mul (pv 6) (pe_op op_add (pe_op op_mul pe_int (pv 3)) pe_int)) (pe_op op_mul (pe_op op_mul pe_int (pv 3)) (pv 3))) pe_int) pe_int) pa_nil)) pe_int))
      (pss_one (ps_ret (pe_op op_mod (pe_callTy call_int1 (by rfl) g_int boot_int (pa_cons (pe_op op_fdiv (pv 6) pe_int) pa_nil)) (pv 1)))))))))))), ?_⟩
    have a0 := PA.a0
    have sq := sq_leL a0 ha rfl
    refine ⟨_, rfl, d, _, _, _, rfl, rfl, SqL.of PA.dk, rfl, _, _, rfl, rfl, _, rfl, ?_⟩
    refine ifC (fun h0 => ?_) (fun h0 => ?_)
    · refine ⟨_, rfl, d, _, _, _, rfl, rfl, SqL.of PA.dk, rfl, .inl ⟨_, rfl, _, rfl, _, _, rfl, rfl, hm0, ?_⟩⟩
      refine ⟨_, rfl, d, _, _, _, rfl, rfl, SqL.of PA.dk, rfl, _, rfl, _, _, rfl, rfl, ⟨hm0, hm1⟩, _, rfl, d, _, _, _, rfl, rfl, PA.dk, rfl, ?_⟩
      exact ⟨_, rfl, k _ a _ _ (Int.emod_nonneg _ (by omega)) (Int.emod_lt_of_pos _ hm0) (by omega) .put (PA.but PA.a0 (Int.ediv_nonneg PA.r0 (by omega)))⟩
    · refine ⟨_, rfl, d, _, _, _, rfl, rfl, SqL.of PA.dk, rfl, ?_⟩
      refine ⟨_, rfl, _, _, rfl, rfl, _, rfl, d, _, _, _, rfl, rfl, PA.dk, rfl, ?_⟩
      have P1 : PenL (upd H d (.lst [.ref l, .int (a + 1), .int r])) d l cells (a + 1) r := PA.but (by omega) PA.r0
      have k1 : Bt d H (upd H d (.lst [.ref l, .int (a + 1), .int r])) := .put
      refine ⟨_, rfl, _, _, rfl, rfl, .inl ⟨by decide, by decide⟩, _, _, rfl, rfl, ?_⟩
      refine ⟨_, rfl, d, _, _, _, rfl, rfl, SqL.of P1.dk, rfl, by show 0 ≤ sizeLine; decide, fun q hq => ?_⟩
      have P2 := P1.same (upd_new (o := .lst []) hq)
      have k2 := k1.trans (.of (upd_new (o := .lst []) hq))
      refine ⟨.list (intsD cells), .list [], .lst (SqL.of P2.cl) dp_ints, .lst (SqL.of upd_same) .nil, ?_, ?_, _, rfl, ?_⟩
      · exact shaped_ints
      · exact shaped_nil
      rw [eqv_nil]
      cases he : cells.isEmpty with
      | true =>
        refine iteF ?_
        refine ⟨_, rfl, _, rfl, d, _, _, _, rfl, rfl, SqL.of P2.dk, rfl, l, _, rfl, .inl (SqL.of P2.cl), _, _, rfl, rfl, _, rfl, ?_⟩
        refine ifC (fun h1 => ?_) (fun h1 => ?_)
        · refine ⟨_, rfl, _, rfl, _, _, rfl, rfl, ⟨by decide, by decide, by decide⟩, _, _, rfl, rfl, _, rfl, ?_⟩
          refine ifC (fun h2 => ?_) (fun h2 => ?_)
          · have g0 : 0 ≤ 2 * (if (50053 * a + 347) < 0 then -(50053 * a + 347) else (50053 * a + 347)) + (if decide ((50053 * a + 347) < 0) = true then 1 else 0) := by
              by_cases h : (50053 * a + 347) < 0
              · rw [if_pos h, if_pos (decide_eq_true h)]
                omega
              · rw [if_neg h, if_neg (by rw [decide_eq_false h]; exact Bool.false_ne_true)]
                omega
            refine ⟨_, rfl, _, rfl, _, _, rfl, rfl, .inl ⟨by decide, by decide⟩, _, rfl, _, _, rfl, rfl, .inr ⟨_, rfl, _, _, rfl, rfl, ?_⟩⟩
            refine ⟨_, rfl, _, rfl, _, _, rfl, rfl, ⟨hm0, hm1⟩, _, rfl, d, _, _, _, rfl, rfl, P2.dk, rfl, ?_⟩
            refine ⟨_, rfl, .inl ⟨_, rfl, _, rfl, _, _, rfl, rfl, hm0, ?_⟩⟩
            refine k _ (a + 1) _ _ (Int.emod_nonneg _ (by omega)) (Int.emod_lt_of_pos _ hm0) (Int.le_refl _) (k2.trans .put) (P2.but (by omega) (Int.ediv_nonneg g0 (by omega)))
          · have c0 := Int.emod_nonneg (50053 * a + 347) (show (2147483629 : Int) ≠ 0 by decide)
            have c1 := Int.emod_lt_of_pos (50053 * a + 347) (show (0 : Int) < 2147483629 by decide)
            refine ⟨_, rfl, .inl ⟨_, rfl, _, _, rfl, rfl, qo1, _, rfl, _, _, rfl, rfl, .inl ⟨by decide, by decide⟩, _, _, rfl, rfl, _, _, rfl, rfl, ?_⟩⟩
            refine ⟨_, _, rfl, rfl, ⟨by decide, by decide, by omega⟩, .inl ⟨_, rfl, _, _, rfl, rfl, qo2, ?_⟩⟩
            obtain ⟨y0, y1⟩ := mul_leL (x := (((50053 * a + 347) % 2147483629 + 40063 * a + 761) ^ Int.toNat 5) % 2147483587) (k := 13) (Int.emod_nonneg _ (by decide)) (Int.emod_lt_of_pos _ (by decide)) a0 ha (by decide) (by decide)
            refine ⟨_, rfl, _, rfl, _, _, rfl, rfl, .inl ⟨by decide, by decide⟩, _, _, rfl, rfl, _, _, rfl, rfl, .inl ⟨by omega, by omega⟩, ?_⟩
            refine ⟨_, rfl, _, _, rfl, rfl, .inl ⟨by decide, by decide⟩, _, rfl, _, _, rfl, rfl, .inl ⟨by omega, by omega⟩, _, _, rfl, rfl, _, _, rfl, rfl, ?_⟩
            refine ⟨_, _, rfl, rfl, ⟨by decide, by decide, by omega⟩, .inl ⟨_, rfl, _, _, rfl, rfl, qo3, ?_⟩⟩
            refine ⟨_, rfl, _, _, rfl, rfl, ⟨by decide, by decide⟩, .inl ⟨_, rfl, _, rfl, _, _, rfl, rfl, hm0, ?_⟩⟩
            exact k _ (a + 1) r _ (Int.emod_nonneg _ (by omega)) (Int.emod_lt_of_pos _ hm0) (Int.le_refl _) k2 P2
        · have c0 := Int.emod_nonneg (50053 * a + 347) (show (2147483629 : Int) ≠ 0 by decide)
          have c1 := Int.emod_lt_of_pos (50053 * a + 347) (show (0 : Int) < 2147483629 by decide)
          refine ⟨_, rfl, .inl ⟨_, rfl, _, _, rfl, rfl, qo1, _, rfl, _, _, rfl, rfl, .inl ⟨by decide, by decide⟩, _, _, rfl, rfl, _, _, rfl, rfl, ?_⟩⟩
          refine ⟨_, _, rfl, rfl, ⟨by decide, by decide, by omega⟩, .inl ⟨_, rfl, _, _, rfl, rfl, qo2, ?_⟩⟩
          obtain ⟨y0, y1⟩ := mul_leL (x := (((50053 * a + 347) % 2147483629 + 40063 * a + 761) ^ Int.toNat 5) % 2147483587) (k := 13) (Int.emod_nonneg _ (by decide)) (Int.emod_lt_of_pos _ (by decide)) a0 ha (by decide) (by decide)
          refine ⟨_, rfl, _, rfl, _, _, rfl, rfl, .inl ⟨by decide, by decide⟩, _, _, rfl, rfl, _, _, rfl, rfl, .inl ⟨by omega, by omega⟩, ?_⟩
          refine ⟨_, rfl, _, _, rfl, rfl, .inl ⟨by decide, by decide⟩, _, rfl, _, _, rfl, rfl, .inl ⟨by omega, by omega⟩, _, _, rfl, rfl, _, _, rfl, rfl, ?_⟩
          refine ⟨_, _, rfl, rfl, ⟨by decide, by decide, by omega⟩, .inl ⟨_, rfl, _, _, rfl, rfl, qo3, ?_⟩⟩
          refine ⟨_, rfl, _, _, rfl, rfl, ⟨by decide, by decide⟩, .inl ⟨_, rfl, _, rfl, _, _, rfl, rfl, hm0, ?_⟩⟩
          exact k _ (a + 1) r _ (Int.emod_nonneg _ (by omega)) (Int.emod_lt_of_pos _ hm0) (Int.le_refl _) k2 P2
      | false =>
        have hpos : 0 < cells.length := by
          cases cells with
          | nil => cases he
          | cons z zs => exact Nat.succ_pos _
        have m0 := Int.emod_nonneg a (show (cells.length : Int) ≠ 0 by omega)
        have m1 := Int.emod_lt_of_pos a (show (0 : Int) < cells.length by omega)
        obtain ⟨c, hc⟩ := cellAt m0 m1
        refine iteT ?_
        refine ⟨_, rfl, d, _, _, _, rfl, rfl, SqL.of P2.dk, rfl, _, rfl, .inl ⟨_, rfl, _, rfl, d, _, _, _, rfl, rfl, SqL.of P2.dk, rfl, l, _, rfl, .inl (SqL.of P2.cl), _, _, rfl, rfl, by rw [List.length_map]; omega, l, _, _, .int c, rfl, rfl, SqL.of P2.cl, by rw [List.length_map]; exact hc, ?_⟩⟩
        refine ⟨_, rfl, _, rfl, d, _, _, _, rfl, rfl, SqL.of P2.dk, rfl, l, _, rfl, .inl (SqL.of P2.cl), _, _, rfl, rfl, _, rfl, ?_⟩
        refine ifC (fun h1 => ?_) (fun h1 => ?_)
        · refine ⟨_, rfl, _, rfl, _, _, rfl, rfl, ⟨by decide, by decide, by decide⟩, _, _, rfl, rfl, _, rfl, ?_⟩
          refine ifC (fun h2 => ?_) (fun h2 => ?_)
          · have g0 : 0 ≤ 2 * (if c < 0 then -c else c) + (if decide (c < 0) = true then 1 else 0) := by
              by_cases h : c < 0
              · rw [if_pos h, if_pos (decide_eq_true h)]
                omega
              · rw [if_neg h, if_neg (by rw [decide_eq_false h]; exact Bool.false_ne_true)]
                omega
            refine ⟨_, rfl, _, rfl, _, _, rfl, rfl, .inl ⟨by decide, by decide⟩, _, rfl, _, _, rfl, rfl, .inr ⟨_, rfl, _, _, rfl, rfl, ?_⟩⟩
            refine ⟨_, rfl, _, rfl, _, _, rfl, rfl, ⟨hm0, hm1⟩, _, rfl, d, _, _, _, rfl, rfl, P2.dk, rfl, ?_⟩
            refine ⟨_, rfl, .inl ⟨_, rfl, _, rfl, _, _, rfl, rfl, hm0, ?_⟩⟩
            refine k _ (a + 1) _ _ (Int.emod_nonneg _ (by omega)) (Int.emod_lt_of_pos _ hm0) (Int.le_refl _) (k2.trans .put) (P2.but (by omega) (Int.ediv_nonneg g0 (by omega)))
          · have c0 := Int.emod_nonneg c (show (2147483629 : Int) ≠ 0 by decide)
            have c1 := Int.emod_lt_of_pos c (show (0 : Int) < 2147483629 by decide)
            refine ⟨_, rfl, .inl ⟨_, rfl, _, _, rfl, rfl, qo1, _, rfl, _, _, rfl, rfl, .inl ⟨by decide, by decide⟩, _, _, rfl, rfl, _, _, rfl, rfl, ?_⟩⟩
            refine ⟨_, _, rfl, rfl, ⟨by decide, by decide, by omega⟩, .inl ⟨_, rfl, _, _, rfl, rfl, qo2, ?_⟩⟩
            obtain ⟨y0, y1⟩ := mul_leL (x := ((c % 2147483629 + 40063 * a + 761) ^ Int.toNat 5) % 2147483587) (k := 13) (Int.emod_nonneg _ (by decide)) (Int.emod_lt_of_pos _ (by decide)) a0 ha (by decide) (by decide)
            refine ⟨_, rfl, _, rfl, _, _, rfl, rfl, .inl ⟨by decide, by decide⟩, _, _, rfl, rfl, _, _, rfl, rfl, .inl ⟨by omega, by omega⟩, ?_⟩
            refine ⟨_, rfl, _, _, rfl, rfl, .inl ⟨by decide, by decide⟩, _, rfl, _, _, rfl, rfl, .inl ⟨by omega, by omega⟩, _, _, rfl, rfl, _, _, rfl, rfl, ?_⟩
            refine ⟨_, _, rfl, rfl, ⟨by decide, by decide, by omega⟩, .inl ⟨_, rfl, _, _, rfl, rfl, qo3, ?_⟩⟩
            refine ⟨_, rfl, _, _, rfl, rfl, ⟨by decide, by decide⟩, .inl ⟨_, rfl, _, rfl, _, _, rfl, rfl, hm0, ?_⟩⟩
            exact k _ (a + 1) r _ (Int.emod_nonneg _ (by omega)) (Int.emod_lt_of_pos _ hm0) (Int.le_refl _) k2 P2
        · have c0 := Int.emod_nonneg c (show (2147483629 : Int) ≠ 0 by decide)
          have c1 := Int.emod_lt_of_pos c (show (0 : Int) < 2147483629 by decide)
          refine ⟨_, rfl, .inl ⟨_, rfl, _, _, rfl, rfl, qo1, _, rfl, _, _, rfl, rfl, .inl ⟨by decide, by decide⟩, _, _, rfl, rfl, _, _, rfl, rfl, ?_⟩⟩
          refine ⟨_, _, rfl, rfl, ⟨by decide, by decide, by omega⟩, .inl ⟨_, rfl, _, _, rfl, rfl, qo2, ?_⟩⟩
          obtain ⟨y0, y1⟩ := mul_leL (x := ((c % 2147483629 + 40063 * a + 761) ^ Int.toNat 5) % 2147483587) (k := 13) (Int.emod_nonneg _ (by decide)) (Int.emod_lt_of_pos _ (by decide)) a0 ha (by decide) (by decide)
          refine ⟨_, rfl, _, rfl, _, _, rfl, rfl, .inl ⟨by decide, by decide⟩, _, _, rfl, rfl, _, _, rfl, rfl, .inl ⟨by omega, by omega⟩, ?_⟩
          refine ⟨_, rfl, _, _, rfl, rfl, .inl ⟨by decide, by decide⟩, _, rfl, _, _, rfl, rfl, .inl ⟨by omega, by omega⟩, _, _, rfl, rfl, _, _, rfl, rfl, ?_⟩
          refine ⟨_, _, rfl, rfl, ⟨by decide, by decide, by omega⟩, .inl ⟨_, rfl, _, _, rfl, rfl, qo3, ?_⟩⟩
          refine ⟨_, rfl, _, _, rfl, rfl, ⟨by decide, by decide⟩, .inl ⟨_, rfl, _, rfl, _, _, rfl, rfl, hm0, ?_⟩⟩
          exact k _ (a + 1) r _ (Int.emod_nonneg _ (by omega)) (Int.emod_lt_of_pos _ hm0) (Int.le_refl _) k2 P2
/-- list(script[:63]), 0, 0 -/
theorem sc_pen : FnScope ["_law_script"] ["_law_script"] (defScope sPen) := ⟨rfl, rfl, rfl, by decide +kernel, rfl, by decide +kernel, by decide +kernel⟩
theorem ok_pen {f : Addr} {fd : FuncData} (F : FunD K "_law_pen" "_law_pen" (defArgs sPen) (defBody sPen) (defScope sPen) [] [] f fd) (g_list : mg "list" = none) :
    FnOk P w K mg base CX0 1 f fd ["_law_script"] (spPenL K) := by
  refine F.ok sc_pen (fun vs H Q E h => ?_) (fun cdv A outer s H vs Q E hr h => ?_)
  · obtain ⟨a, ns, rfl, _⟩ := h
    rfl
  · obtain ⟨a, ns, rfl, hS, hlen, k⟩ := h
    have sc := sc_pen
    have hl2 : (ns.map V.int).length ≤ 63 := by rw [List.length_map]; exact hlen
    refine ⟨_, PSs.nox (pss_one (ps_ret (pe_lst (pa_cons (pe_callTy call_list_of (by rfl) g_list boot_list (pa_cons (pe_slice sl_list (pv 0) po_none (po_some pe_int)) pa_nil)) (pa_cons pe_int (pa_cons pe_int pa_nil)))))), ?_⟩
    refine ⟨_, rfl, _, rfl, a, _, rfl, hS, fun p hp => ⟨p, _, rfl, .inl (SqL.of upd_same), fun l hl => ?_⟩⟩
    rw [cutL63 hl2] at hl ⊢
    refine ⟨by show 3 ≤ sizeLine; decide, fun d hd => ?_⟩
    have n2 : l ≠ d := ne_of_none upd_same hd
    refine k d l _ (fun b o e => ?_) ⟨upd_same, by rw [upd_ne n2]; exact upd_same, hlen, by decide, by decide⟩
    have n3 := ne_of_none e hp
    rw [upd_ne (ne_of_none (H := upd (upd H p (.lst (ns.map V.int))) l (.lst (ns.map V.int))) (by rw [upd_ne (ne_of_none (H := upd H p (.lst (ns.map V.int))) (by rw [upd_ne n3]; exact e) hl), upd_ne n3]; exact e) hd), upd_ne (ne_of_none (H := upd H p (.lst (ns.map V.int))) (by rw [upd_ne n3]; exact e) hl), upd_ne n3]
    exact e
end
end K06

set_option Elab.async false
set_option linter.all false
set_option maxRecDepth 100000
set_option maxHeartbeats 2000000
namespace Ru
open PySem PySem.Spec PyProof.Rows L2
/-! ### data with small dicts of ints in it -/
mutual
inductive Dq (K : PySem.W.Frag) (d : Addr) (H : Hp) : V → PyData → Prop
  | non : Dq K d H .non .none
  | bl (b : Bool) : Dq K d H (.bl b) (.bool b)
  | int (i : Int) : Dq K d H (.int i) (.int i)
  | str (x : Str) : Dq K d H (.str x) (.str x)
  | lst {a : Addr} {xs : List V} {ds : List PyData} : SqL K H a xs → a ≠ d → DqA K d H xs ds → Dq K d H (.ref a) (.list ds)
  | tup {a : Addr} {xs : List V} {ds : List PyData} : Rd H a (.tup xs) → a ≠ d → DqA K d H xs ds → Dq K d H (.ref a) (.tuple ds)
  | d0 {a : Addr} : H a = some (.dK []) → a ≠ d → Dq K d H (.ref a) (.dict [])
  | d1 {a : Addr} {i j : Int} : H a = some (.dK [(Sum.inl i, .int j)]) → a ≠ d → Dq K d H (.ref a) (.dict [(.int i, .int j)])
inductive DqA (K : PySem.W.Frag) (d : Addr) (H : Hp) : List V → List PyData → Prop
  | nil : DqA K d H [] []
  | cons {v : V} {vs : List V} {x : PyData} {ds : List PyData} : Dq K d H v x → DqA K d H vs ds → DqA K d H (v :: vs) (x :: ds)
end
theorem Bt.rd {d a : Addr} {H H' : Hp} {u : HO} (s : Bt d H H') (n : a ≠ d) (h : Rd H a u) : Rd H' a u := by
  rcases h with h | ⟨o, h⟩
  · exact .inl (s _ _ h n)
  · exact .inr ⟨o, s _ _ h n⟩
theorem Bt.seq {d a : Addr} {K : PySem.W.Frag} {H H' : Hp} {xs : List V} (s : Bt d H H') (n : a ≠ d) (h : SqL K H a xs) : SqL K H' a xs := h.imp (s.rd n) id
theorem Bt.seqT {d a : Addr} {K : PySem.W.Frag} {H H' : Hp} {xs : List V} (s : Bt d H H') (n : a ≠ d) (h : SqT K H a xs) : SqT K H' a xs := h.imp (s.rd n) id
mutual
theorem Dq.bt {K : PySem.W.Frag} {d : Addr} {H H' : Hp} (s : Bt d H H') : ∀ {v : V} {x : PyData}, Dq K d H v x → Dq K d H' v x
  | _, _, .non => .non
  | _, _, .bl b => .bl b
  | _, _, .int i => .int i
  | _, _, .str x => .str x
  | _, _, .lst h n a => .lst (s.seq n h) n (DqA.bt s a)
  | _, _, .tup h n a => .tup (s.rd n h) n (DqA.bt s a)
  | _, _, .d0 h n => .d0 (s _ _ h n) n
  | _, _, .d1 h n => .d1 (s _ _ h n) n
theorem DqA.bt {K : PySem.W.Frag} {d : Addr} {H H' : Hp} (s : Bt d H H') : ∀ {vs : List V} {ds : List PyData}, DqA K d H vs ds → DqA K d H' vs ds
  | _, _, .nil => .nil
  | _, _, .cons a b => .cons (Dq.bt s a) (DqA.bt s b)
end
theorem Dq.same {K : PySem.W.Frag} {d : Addr} {H H' : Hp} (s : Same H H') {v : V} {x : PyData} (h : Dq K d H v x) : Dq K d H' v x := Dq.bt (.of s) h
theorem DqA.same {K : PySem.W.Frag} {d : Addr} {H H' : Hp} (s : Same H H') {v : List V} {x : List PyData} (h : DqA K d H v x) : DqA K d H' v x := DqA.bt (.of s) h
theorem DqA.app {K : PySem.W.Frag} {d : Addr} {H : Hp} : ∀ {vs : List V} {ds : List PyData} {us : List V} {es : List PyData}, DqA K d H vs ds → DqA K d H us es → DqA K d H (vs ++ us) (ds ++ es)
  | _, _, _, _, .nil, b => b
  | _, _, _, _, .cons a r, b => .cons a (r.app b)
theorem dq_ints {K : PySem.W.Frag} {d : Addr} {H : Hp} : ∀ {zs : List Int}, DqA K d H (zs.map V.int) (intsD zs)
  | [] => .nil
  | _ :: _ => .cons (.int _) dq_ints
section
variable {X : Cx} {pins : List (Addr × Obj)} {σ : L2.St} {H : Hp} {s : Shared} {dp : Addr}
theorem SmK.off (M : SmK X.K) (I : Inv X pins σ H s) {a : Addr} {o : Obj} (h : s.heap.get? a = some o) (hn : ∀ es n, o.data ≠ .dict es n) : sysModules ≠ a := fun e => by
  obtain ⟨o', es, n, h1, h2⟩ := M
  have h3 := I.kIn _ _ h1
  rw [e, h] at h3
  cases h3
  exact hn _ _ h2
theorem kv_nil {vs : List (Key × Value)} (r : KV ([] : List (Key × V)) vs) : vs = [] := by
  cases vs with
  | nil => rfl
  | cons z zs => cases r
theorem kv_one {k : Key} {v : V} {vs : List (Key × Value)} (r : KV [(k, v)] vs) : ∃ u, vs = [(k, u)] ∧ RelV v u := by
  cases r with
  | cons h t =>
    cases t
    rename_i y
    obtain ⟨a, b⟩ := y
    obtain ⟨h1, h2⟩ := h
    exact ⟨b, by rw [show a = k from by first | exact h1.symm | exact h1], by first | exact h2 | exact h2.2⟩
theorem pairs_one {P : Program} {w : World} {es : List DictEntry} {k : Int} {u : Value} (h : Pairs (mixKind P w) es [(Sum.inl k, u)]) : ∃ e, es = [e] ∧ e.key.isInt k = true ∧ e.val = u := by
  cases h with
  | cons h1 h2 t =>
    cases t
    exact ⟨_, rfl, h1, h2⟩
mutual
theorem Dq.reads (I : Inv X pins σ H s) (M : SmK X.K) : ∀ (d : PyData) (v : V) (u : Value), Dq X.K dp H v d → RelV v u → ∃ as, Reads s.heap u d as ∧ sysModules ∉ as
  | .none, _, _, h, r => by
    cases h
    cases r
    exact ⟨_, Reads.none, List.not_mem_nil⟩
  | .bool b, _, _, h, r => by
    cases h
    cases r
    exact ⟨_, Reads.bool b, List.not_mem_nil⟩
  | .int i, _, _, h, r => by
    cases h
    obtain ⟨t, rfl⟩ := r
    exact ⟨_, Reads.int i t, List.not_mem_nil⟩
  | .str x, _, _, h, r => by
    cases h
    obtain ⟨t, rfl⟩ := r
    exact ⟨_, Reads.str x t, List.not_mem_nil⟩
  | .list ds, _, _, h, r => by
    cases h with
    | lst hs _ ha =>
      cases r
      obtain ⟨its, rv, ⟨o, n, ho, hc, _, hd⟩, _⟩ := I.list hs
      obtain ⟨as, hr, hn⟩ := Dq.readsA I M ds _ its ha rv
      refine ⟨_, Reads.list ho hc hd hr, fun z => ?_⟩
      rcases List.mem_cons.mp z with z | z
      · exact M.off I ho (fun es n q => by rw [hd] at q; cases q) z
      · exact hn z
  | .tuple ds, _, _, h, r => by
    cases h with
    | tup hs _ ha =>
      cases r
      obtain ⟨its, rv, ⟨o, ho, hc, n, hd⟩, _⟩ := I.tuple (Or.inl hs)
      obtain ⟨as, hr, hn⟩ := Dq.readsA I M ds _ its ha rv
      exact ⟨_, Reads.tuple ho hc hd hr, hn⟩
  | .dict kvs, _, _, h, r => by
    cases h with
    | d0 h _ =>
      cases r
      obtain ⟨_, hsm, vs, kv, o, es, ep, ho, hx, hd, _, hp, _⟩ := dk_of I.hok h
      have e := kv_nil kv
      subst e
      have e2 : es.toList = [] := by
        have z := hp.length
        exact List.eq_nil_of_length_eq_zero z
      refine ⟨_, Reads.dict (as := []) (bs := []) ho hx.1 hd (by rw [e2]; exact ReadsAll.nil) (by rw [e2]; exact ReadsAll.nil), fun z => ?_⟩
      rcases List.mem_cons.mp z with z | z
      · rw [← z] at hsm
        simp at hsm
      · exact List.not_mem_nil z
    | d1 h _ =>
      cases r
      obtain ⟨_, hsm, vs, kv, o, es, ep, ho, hx, hd, _, hp, _⟩ := dk_of I.hok h
      obtain ⟨u, e, ru⟩ := kv_one kv
      subst e
      obtain ⟨en, e2, k1, k2⟩ := pairs_one hp
      obtain ⟨t, ek⟩ := Value.isInt_shape k1
      obtain ⟨t2, ev⟩ := ru
      refine ⟨_, Reads.dict (as := []) (bs := []) ho hx.1 hd ?_ ?_, fun z => ?_⟩
      · rw [e2]
        show ReadsAll s.heap [en.key] [PyData.int _] []
        rw [ek]
        exact ReadsAll.cons (as := []) (bs := []) (Reads.int _ _) .nil
      · rw [e2]
        show ReadsAll s.heap [en.val] [PyData.int _] []
        rw [k2, ev]
        exact ReadsAll.cons (as := []) (bs := []) (Reads.int _ _) .nil
      · rcases List.mem_cons.mp z with z | z
        · rw [← z] at hsm
          simp at hsm
        · exact List.not_mem_nil z
theorem Dq.readsA (I : Inv X pins σ H s) (M : SmK X.K) : ∀ (ds : List PyData) (vs : List V) (us : List Value), DqA X.K dp H vs ds → Vals vs us → ∃ as, ReadsAll s.heap us ds as ∧ sysModules ∉ as
  | [], _, _, h, r => by
    cases h
    cases r
    exact ⟨_, ReadsAll.nil, List.not_mem_nil⟩
  | d :: ds, _, _, h, r => by
    cases h with
    | cons h1 h2 =>
      cases r with
      | cons r1 r2 =>
        obtain ⟨as, q1, n1⟩ := Dq.reads I M d _ _ h1 r1
        obtain ⟨bs, q2, n2⟩ := Dq.readsA I M ds _ _ h2 r2
        exact ⟨_, ReadsAll.cons q1 q2, fun z => (List.mem_append.mp z).elim n1 n2⟩
end
end
/-- a datum that can be shown -/
structure Sh (d : PyData) : Prop where
  s : d.showable = true
  dp : d.depth ≤ 40
  l : d.shown.length ≤ sizeLine
/-- repr of such data -/
def rReprQ (K : PySem.W.Frag) : List V → Hp → VK → Prop := fun xs H Q => ∃ (v : V) (dp : Addr) (d : PyData), xs = [v] ∧ Dq K dp H v d ∧ Sh d ∧ Q (.str d.shown) H
theorem call_reprQ {X : Cx} (M : SmK X.K) (hg : X.A.guards = some []) (hu : X.A.units + 64 < cLine) : CallR X (.builtin "repr") (rReprQ X.K) := by
  intro pins s σ H xs us Q I r h
  obtain ⟨v, dp, d, rfl, hd, ⟨hs, hdp, hsz⟩, q⟩ := h
  obtain ⟨u, rfl, ru⟩ := vals1 r
  have obj : ∀ a : Addr, v = .ref a → wpAny (model X.prog X.w) X.A (call (.builtin "repr") [u]) (fun u s' => ∃ v H', Inv X pins σ H' s' ∧ RelV v u ∧ Q v H') X.xe s := fun a e => by
    subst e
    cases ru
    obtain ⟨as, r1, n1⟩ := Dq.reads I M d _ _ hd rfl
    exact repr_of_reads' r1 hs (fun _ => n1) hg (by omega) (fun _ _ e => e) (fun h' u tk hk => ⟨.str d.shown, H, I.kept (t' := tk) hk, ⟨u, rfl⟩, q⟩) hsz
  cases hd with
  | non =>
    cases ru
    exact PySem.P.repr_of_none ⟨.str "None", H, I.tok _, ⟨s.toks, rfl⟩, by simpa only [PyData.shown] using q⟩
  | bl b =>
    cases ru
    have e : (PyData.bool b).shown = if b = true then Str.ofString "True" else Str.ofString "False" := by cases b <;> rfl
    rw [e] at q
    exact PySem.P.repr_of_bool ⟨.str (if b = true then Str.ofString "True" else Str.ofString "False"), H, I.tok _, ⟨s.toks, rfl⟩, q⟩
  | int i =>
    obtain ⟨t, rfl⟩ := ru
    refine PySem.P.repr_of_int (by simpa only [PyData.showable, decide_eq_true_eq] using hs) ⟨.str (toString i), H, I.tok _, ⟨s.toks, rfl⟩, by simpa only [PyData.shown] using q⟩
  | str x =>
    obtain ⟨t, rfl⟩ := ru
    refine PySem.P.repr_of_str ⟨.str (reprText x), H, I.tok _, ⟨s.toks, rfl⟩, by simpa only [PyData.shown] using q⟩ (by simpa only [PyData.shown] using hsz)
  | lst _ _ _ => exact obj _ rfl
  | tup _ _ _ => exact obj _ rfl
  | d0 _ _ => exact obj _ rfl
  | d1 _ _ => exact obj _ rfl
end Ru

set_option Elab.async false
set_option linter.all false
set_option maxRecDepth 100000
set_option maxHeartbeats 2000000
namespace Ru
open PySem PySem.Spec PyProof.Rows L2
/-! ### t[::-1] of a tuple -/
theorem fm_congr {α β : Type} {f g : α → Option β} : ∀ {l : List α}, (∀ x ∈ l, f x = g x) → l.filterMap f = l.filterMap g
  | [], _ => rfl
  | x :: l, h => by
    rw [List.filterMap_cons, List.filterMap_cons, h x List.mem_cons_self, fm_congr fun y hy => h y (List.mem_cons_of_mem _ hy)]
theorem pick_rev (xs : Array Value) : ((List.range xs.size).filterMap fun (m : Nat) => xs[(((xs.size : Int) - 1) + (m : Int) * (-1)).toNat]?).toArray = xs.toList.reverse.toArray := by
  have e : ((List.range xs.size).map fun k => xs.size - 1 - k).filterMap (xs[·]?) = xs.toList.reverse := by
    rw [PySem.W.krv_range, List.filterMap_reverse, PySem.W.krv_all]
  rw [← e, List.filterMap_map]
  congr 1
  refine fm_congr fun m hm => ?_
  have := List.mem_range.mp hm
  show xs[(((xs.size : Int) - 1) + (m : Int) * (-1)).toNat]? = xs[xs.size - 1 - m]?
  congr 1
  omega
theorem places_rev (n : Nat) (h : 0 < n) : Builtin.Slice.slicePlaces ((n : Int) - 1) (-1) (-1) = n := by
  unfold Builtin.Slice.slicePlaces
  rw [if_neg (by decide), if_pos (by omega), show (- -1 : Int) = 1 by decide, Int.ediv_one]
  omega
section
variable {prog : Program} {w : World} {A : Around} {E : Value → Shared → Prop} {s : Shared}
/-- the three parts of [::-1] -/
theorem fields_rev {sl : Addr} {tk : Tok} {Q : Value × Value × Value → Shared → Prop} (hs : s.heap.IsSliceOf sl .none .none (.int (-1) tk)) (q : Q (.none, .none, .int (-1) tk) s) : wpAny (model prog w) A (Builtin.Slice.sliceFields (.ref sl)) Q E s := by
  obtain ⟨o, ho, _, hd⟩ := hs
  unfold Builtin.Slice.sliceFields
  refine wpAny_bind (wpAny_field (x := Value.none) ho hd rfl ?_)
  refine wpAny_bind (wpAny_field (x := Value.none) ho hd rfl ?_)
  refine wpAny_bind (wpAny_field (x := Value.int (-1) tk) ho hd rfl ?_)
  exact wpAny_pure q
/-- how [::-1] is applied to n items -/
theorem applied_rev {sl : Addr} {tk : Tok} {n : Nat} {Q : Int × Int × Nat → Shared → Prop} (hs : s.heap.IsSliceOf sl .none .none (.int (-1) tk)) (hn : 0 < n) (q : Q ((n : Int) - 1, -1, n) s) :
    wpAny (model prog w) A (Builtin.Slice.sliceApplied (.ref sl) (pure (n : Int))) Q E s := by
  have fin : wpAny (model prog w) A (pure ((n : Int) - 1, (-1 : Int), Builtin.Slice.slicePlaces ((n : Int) - 1) (-1) (-1))) Q E s := by
    rw [places_rev n hn]
    exact wpAny_pure q
  unfold Builtin.Slice.sliceApplied
  refine wpAny_bind (fields_rev hs ?_)
  refine wpAny_bind (HT.slicePart_ (.int (-1) tk) ?_)
  show wpAny _ _ (if ((-1 : Int) == 0) = true then _ else _) _ _ s
  rw [if_neg (by decide)]
  exact wpAny_bind (HT.slicePart_ .none (wpAny_bind (HT.slicePart_ .none (wpAny_bind (wpAny_pure fin)))))
end
/-- t[::-1], what the built-in does -/
theorem meets_rev {t sl : Addr} {its : Array Value} {tk : Tok} : Meets (Builtin.«tuple.__getitem__» ⟨[.ref t, .ref sl], []⟩) fun _ R s =>
    IsTup s.heap t its ∧ s.heap.IsSliceOf sl .none .none (.int (-1) tk) ∧ 0 < its.size ∧ its.size ≤ sizeLine ∧ R (.ok (.ret (.ref s.heap.objs.size))) { s with heap := s.heap.push { cls := .type "tuple", data := .seq its.toList.reverse.toArray } } := by
  intro prog w A R s ⟨ht, hs, h0, h1, q⟩
  have fits : sizeOk (.seq its.toList.reverse.toArray) := by
    show its.toList.reverse.toArray.size ≤ sizeLine
    simpa using h1
  have kind : s.TypeIs (.ref sl) "slice" := hs.elim fun o h => ⟨o, h.1, h.2.1⟩
  have other : ¬ ((((its.size : Int) - 1) == 0 && (-1 : Int) == 1 && its.size == its.size) = true) := fun e => by simp at e
  have last : wpAny (model prog w) A.in1 (Builtin.Tuple.tupleExact its.toList.reverse.toArray >>= fun x => ret x)
      (fun fin s' => match fin with | .done f => R (.ok f) s' | .again c' => c'.quiet = true ∧ codeAny (model prog w) A c' R s') (fun e s' => R (.error e) s') s :=
    wpAny_bind (wpAny_newObj_type (wpAny_pure q) fits)
  have cut : wpAny (model prog w) A.in1 (Builtin.Slice.sliceApplied (.ref sl) (pure ((its.size : Nat) : Int))) (fun r s' => r = ((its.size : Int) - 1, -1, its.size) ∧ s' = s) (fun e s' => R (.error e) s') s := applied_rev hs h0 ⟨rfl, rfl⟩
  show wpAny _ _ (Builtin.Tuple.tupleItemsOf (.ref t) >>= fun xs => _) _ _ s
  refine wpAny_bind (tupleItemsOf_ ht (wpAny_bind (wpAny_typeOf kind ?_)))
  rw [if_pos (beq_self_eq_true _)]
  refine wpAny_bind (wpAny_mono cut ?_ fun _ _ e => e)
  rintro r s' ⟨rfl, rfl⟩
  show wpAny _ _ (if (((its.size : Int) - 1) == 0 && (-1 : Int) == 1 && its.size == its.size) = true then _ else _) _ _ _
  rw [if_neg other, pick_rev]
  exact last
/-- t[sl] -/
theorem item_rev {prog : Program} {w : World} {A : Around} {E : Value → Shared → Prop} {s : Shared} {t sl : Addr} {its : Array Value} {tk : Tok} {Q : Value → Shared → Prop} (ht : IsTup s.heap t its) (hs : s.heap.IsSliceOf sl .none .none (.int (-1) tk)) (h0 : 0 < its.size) (h1 : its.size ≤ sizeLine)
    (q : Q (.ref s.heap.objs.size) { s with heap := s.heap.push { cls := .type "tuple", data := .seq its.toList.reverse.toArray } }) : wpAny (model prog w) A (getItem (.ref t) (.ref sl)) Q E s :=
  getItem_meets ht.typeIs (by decide) PySem.F.slot_tuple_getitem PySem.F.entry_tuple_getitem (PySem.F.args_tuple_getitem_2 _ _) meets_rev ⟨ht, hs, h0, h1, q⟩
/-- x[::-1] of a tuple that is not empty -/
def tRevT (K : PySem.W.Frag) (te : TE) : TE := fun σ H Q => te σ H fun x H1 => ∃ a xs, x = .ref a ∧ SqT K H1 a xs ∧ xs ≠ [] ∧ ∀ p, H1 p = none → Q (.ref p) (upd H1 p (.tup xs.reverse))
/-- the slice [::-1] is laid -/
theorem laid_rev {X : Cx} {pins : List (Addr × Obj)} {σ : L2.St} {H : Hp} {s : Shared} {k : Nat} {p1 p2 p3 : Pos} {R : Value → Shared → Prop} (I : Inv X pins σ H s)
    (h : ∀ (tk : Tok) (s' : Shared), Inv X pins σ H { s' with heap := s'.heap.push { cls := .type "slice", data := .fields #[.none, .none, .int (-1) tk] } } → R (.ref s'.heap.objs.size) { s' with heap := s'.heap.push { cls := .type "slice", data := .fields #[.none, .none, .int (-1) tk] } }) :
    wpAny (model X.prog X.w) X.A (eval (.Slice none none (some (.UnaryOp .USub (.Constant (.int 1) k p1) p2)) p3) X.env) R X.xe s := by
  have none_ : ∀ {s : Shared} {R : Value → Shared → Prop}, Inv X pins σ H s → (∀ s', Inv X pins σ H s' → R .none s') → wpAny (model X.prog X.w) X.A (evalPart none X.env) R X.xe s := fun {s R} J r =>
    wpAny_mono ((po_none (X := X)).run pins s σ H (fun o H2 => o = none ∧ H2 = H) J ⟨rfl, rfl⟩) (fun u s' ⟨o, H2, J2, pt, e1, e2⟩ => by
      subst e1 e2
      cases pt
      exact r s' J2) fun _ _ e => e
  refine wpAny_Slice (none_ I fun s1 I1 => none_ I1 fun s2 I2 => ?_)
  have neg : PO X (some (.UnaryOp .USub (.Constant (.int 1) k p1) p2)) _ := po_some (pe_un un_neg pe_int)
  refine wpAny_mono (neg.run pins s2 σ H (fun o H2 => o = some (-1) ∧ H2 = H) I2 ⟨1, rfl, -1, rfl, rfl, rfl⟩) (fun u s3 z => ?_) fun _ _ e => e
  obtain ⟨o, H3, I3, pt, e1, e2⟩ := z
  subst e1 e2
  cases pt
  exact h _ s3 (I3.kept (t' := s3.toks) fun _ _ q => Heap.get?_push_of_some _ q)
theorem pe_revT {X : Cx} {e : Expr} {te : TE} {k : Nat} {p1 p2 p3 pos : Pos} (he : PE X e te) : PE X (.Subscript e (.Slice none none (some (.UnaryOp .USub (.Constant (.int 1) k p1) p2)) p3) pos) (tRevT X.K te) := by
  constructor
  intro pins s σ H Q I h
  refine Subscript_ (wpAny_mono (he.run pins s σ H _ I h) ?_ fun _ _ e => e)
  rintro v s1 ⟨x, H1, I1, r1, a, xs, rfl, hx, hne, q⟩
  cases r1
  refine laid_rev I1 fun tk s2 I2 => ?_
  obtain ⟨its, rv, ht, hz⟩ := I2.tuple hx
  have size : its.toArray.size = xs.length := List.size_toArray.trans rv.length.symm
  have pos_ : 0 < xs.length := List.length_pos_iff.mpr hne
  refine tail_any (ops := [.ref a, .ref s2.heap.objs.size]) ht.typeIs PyProof.Rows.slot_tuple_getitem.lookup (item_rev ht (Heap.IsSliceOf.new _ _ _ _) (by omega) (by omega) ?_) (by with_unfolding_all rfl)
  refine ⟨.ref _, upd H1 _ (.tup xs.reverse), I2.laid (t' := s2.toks) (fun _ _ z => Heap.get?_push_of_some _ z) (Nat.le_refl _) ⟨by rw [List.length_reverse]; omega, _, rv.reverse, IsTup.new _ _⟩, rfl, q _ (I2.hok.fresh (Nat.le_refl _))⟩
end Ru

set_option Elab.async false
set_option linter.all false
set_option maxRecDepth 100000
set_option maxHeartbeats 2000000
namespace Ru
open PySem PySem.Spec PyProof.Rows L2
/-! ### a caught exception as a value -/
/-- at e a caught exception of the class at C, with these fields of its own -/
def CxAt (H : Hp) (e C : Addr) (fs : List (Str × V)) : Prop := (fs = [] ∧ H e = some (ExC2 e (.ref C) none)) ∨ ∃ d, H e = some (ExC2 e (.ref C) (some d)) ∧ H d = some (.xd fs)
theorem CxAt.same {H H' : Hp} {e C : Addr} {fs : List (Str × V)} (s : Same H H') (h : CxAt H e C fs) : CxAt H' e C fs := by
  rcases h with ⟨h1, h2⟩ | ⟨d, h1, h2⟩
  · exact .inl ⟨h1, s _ _ h2⟩
  · exact .inr ⟨d, s _ _ h1, s _ _ h2⟩
theorem CxAt.inst {X : Cx} {pins : List (Addr × Obj)} {σ : L2.St} {H : Hp} {s : Shared} (I : Inv X pins σ H s) {e C : Addr} {fs : List (Str × V)} (h : CxAt H e C fs) :
    ∃ (ox : Obj) (od : Option Obj), PySem.W.InstAt s.heap e ox C od ∧ ∀ f v, fs.lookup f = some v → ∃ o u, od = some o ∧ PySem.W.lookIn f o = some (some u) ∧ RelV v u := by
  rcases h with ⟨h1, h2⟩ | ⟨d, h1, h2⟩
  · subst h1
    obtain ⟨⟨oe, vs, ho, hz, hd⟩, _, _⟩ := I.hok e _ h2
    obtain ⟨oc, odi, oda, osl⟩ := oe
    obtain ⟨z1, z2⟩ := hz
    dsimp only at z1 z2 hd
    subst z1 z2 hd
    exact ⟨_, none, ⟨ho, rfl, rfl, trivial⟩, fun f v q => nomatch q⟩
  · obtain ⟨⟨oe, vs, ho, hz, hd⟩, _, _⟩ := I.hok e _ h1
    obtain ⟨oc, odi, oda, osl⟩ := oe
    obtain ⟨z1, z2⟩ := hz
    dsimp only at z1 z2 hd
    subst z1 z2 hd
    have hx : ObjOk X.prog X.w H s.heap d (.xd fs) := I.hok d _ h2
    obtain ⟨mA, hns, hr⟩ := hx
    obtain ⟨od, hod, hl⟩ := lookIn_ns hns
    refine ⟨_, some od, ⟨ho, rfl, rfl, hod⟩, fun f v q => ?_⟩
    obtain ⟨u, hu, ru⟩ := RelO.some_of (v := v) (o := mA f) (by rw [← q]; exact hr f)
    exact ⟨od, u, rfl, by rw [hl, hu], ru⟩
/-- isinstance(e, c) -/
def rIsC (K : PySem.W.Frag) : List V → Hp → VK → Prop := fun xs H Q =>
  ∃ (e D : Addr) (fs : List (Str × V)) (c : V) (cv : Value) (b : Bool), xs = [.ref e, c] ∧ CxAt H e D fs ∧ ExK K D ∧ ClsV c cv ∧ PySem.W.kitOne K (.ref D) cv = some b ∧ Q (.bl b) H
theorem call_isCx {X : Cx} : CallR X (.builtin "isinstance") (rIsC X.K) := by
  intro pins s σ H xs us Q I r h
  obtain ⟨e, D, fs, c, cv, b, rfl, he, C, hcv, ek, q⟩ := h
  cases r with
  | cons rx rr =>
    cases rr with
    | cons rt rr =>
      cases rr
      cases rx
      have ec := hcv.eq rt
      subst ec
      obtain ⟨ox, od, J, _⟩ := he.inst I
      exact PySem.W.kia_one (PySem.W.kitx_exc C.hcl C.hga C.hgt C.hsub C.ha C.hn C.htk C.hm) I.kIn J ek (fun z => nomatch z) fun tk => ⟨.bl b, H, I.kept (t' := tk) fun _ _ z => z, rfl, q⟩
/-- isinstance(e, (c1, c2, ..)) -/
def rIsCT (K : PySem.W.Frag) : List V → Hp → VK → Prop := fun xs H Q =>
  ∃ (e D : Addr) (fs : List (Str × V)) (tp : Addr) (cs : List V) (us : List Value) (b : Bool), xs = [.ref e, .ref tp] ∧ CxAt H e D fs ∧ ExK K D ∧ H tp = some (.tup cs) ∧ Paired ClsV cs us ∧ PySem.W.kitAny K (.ref D) us = some b ∧ Q (.bl b) H
theorem call_isCxT {X : Cx} : CallR X (.builtin "isinstance") (rIsCT X.K) := by
  intro pins s σ H xs us Q I r h
  obtain ⟨e, D, fs, tp, cs, ws, b, rfl, he, C, hT, k, ek, q⟩ := h
  obtain ⟨u1, u2, rfl, r1, r2⟩ := vals2 r
  cases r1
  cases (show u2 = Value.ref tp from r2)
  obtain ⟨ox, od, J, _⟩ := he.inst I
  obtain ⟨_, its, rv, o, h1, h2, n, h3⟩ := (show ObjOk X.prog X.w H s.heap tp (.tup cs) from I.hok tp _ hT)
  have e3 := ClsV.all k rv
  subst e3
  obtain ⟨oc, od2, dt, sl⟩ := o
  simp only at h2 h3
  subst h2 h3
  exact PySem.W.kia_tup (PySem.W.kitx_exc C.hcl C.hga C.hgt C.hsub C.ha C.hn C.htk C.hm) I.kIn J h1 ek (fun z => nomatch z) fun tk => ⟨.bl b, H, I.tok tk, rfl, q⟩
/-- e.f -/
def tCxF (K : PySem.W.Frag) (f : Str) (te : TE) : TE := fun σ H Q => te σ H fun x H1 =>
  ∃ (e D : Addr) (fs : List (Str × V)) (v : V), x = .ref e ∧ CxAt H1 e D fs ∧ ExK K D ∧ PySem.W.findIn K (.ref D) f = some none ∧ fs.lookup f = some v ∧ Q v H1
theorem pe_cxf {X : Cx} {e : Expr} {te : TE} {pos : Pos} {n : Str} (he : PE X e te) (hb : attributeBase e n X.env (eval e X.env) = eval e X.env := by rfl) : PE X (.Attribute e n pos) (tCxF X.K n te) := by
  refine ⟨fun pins s σ H Q I h => ?_⟩
  refine attr_of hb (thn (he.run pins s σ H _ I h) fun u s1 hh => ?_)
  obtain ⟨x, H1, I1, rx, a, D, fs, v, ex, hx, T, hno, hl, q⟩ := hh
  subst ex
  obtain rfl : u = Value.ref a := rx
  obtain ⟨ox, od, J, hf⟩ := hx.inst I1
  obtain ⟨o, u, rfl, hlk, ru⟩ := hf n v hl
  exact HandSPX.exc_get I1.kIn J T.hga T.hgt T.hsub (PySem.W.findObj_own T.hdc hno rfl hlk) (handed_of ru) ⟨v, H1, I1.tok _, ru, q⟩
end Ru

set_option Elab.async false
set_option linter.all false
set_option maxRecDepth 100000
set_option maxHeartbeats 2000000
namespace Ru
open PySem PySem.Spec PyProof.Rows L2
/-! ### what the first looks at a value say of a datum -/
def tyD : PyData → String
  | .none => "NoneType"
  | .bool _ => "bool"
  | .int _ => "int"
  | .str _ => "str"
  | .list _ => "list"
  | .tuple _ => "tuple"
  | .dict _ => "dict"
theorem tyX_lst {K : PySem.W.Frag} {H : Hp} {a : Addr} {xs : List V} (h : SqL K H a xs) : TyX K H (.ref a) (.type "list") := by
  rcases h with (h | ⟨o, h⟩) | ⟨o, its, n, h, c, _⟩
  · exact .base (.lst h)
  · exact .base (.frz h)
  · exact .kList h c
theorem tyX_tup {K : PySem.W.Frag} {H : Hp} {a : Addr} {xs : List V} (h : SqT K H a xs) : TyX K H (.ref a) (.type "tuple") := by
  rcases h with (h | ⟨o, h⟩) | ⟨o, its, n, h, c, _⟩
  · exact .base (.tup h)
  · exact .fTuple h
  · exact .kTuple h c
theorem Dq.ty {K : PySem.W.Frag} {d : Addr} {H : Hp} {v : V} {x : PyData} (h : Dq K d H v x) : TyX K H v (.type (tyD x)) := by
  cases h with
  | non => exact .base .non
  | bl b => exact .base (.bl b)
  | int i => exact .base (.int i)
  | str x => exact .base (.str x)
  | lst h _ _ => exact tyX_lst h
  | tup h _ _ => exact tyX_tup (K := K) (.inl h)
  | d0 h _ => exact .base (.dK h)
  | d1 h _ => exact .base (.dK h)
def wholeD : PyData → Bool
  | .int _ => true
  | _ => false
def seqD : PyData → Bool
  | .list _ => true
  | .tuple _ => true
  | _ => false
def baseD : PyData → Bool
  | .int i => decide (2 ≤ i) && decide (i ≤ 100)
  | _ => false
def basesD : PyData → Bool
  | .list ds => decide (1 ≤ ds.length) && decide (ds.length ≤ 4) && ds.all baseD
  | .tuple ds => decide (1 ≤ ds.length) && decide (ds.length ≤ 4) && ds.all baseD
  | _ => false
theorem kit_int : ∀ x : PyData, kitB (tyD x) "int" = some (wholeD x || decide (tyD x = "bool"))
  | .none => by decide +kernel
  | .bool _ => by show kitB "bool" "int" = some true; decide +kernel
  | .int _ => by show kitB "int" "int" = some true; decide +kernel
  | .str _ => by show kitB "str" "int" = some false; decide +kernel
  | .list _ => by show kitB "list" "int" = some false; decide +kernel
  | .tuple _ => by show kitB "tuple" "int" = some false; decide +kernel
  | .dict _ => by show kitB "dict" "int" = some false; decide +kernel
theorem kit_bool : ∀ x : PyData, kitB (tyD x) "bool" = some (decide (tyD x = "bool"))
  | .none => by decide +kernel
  | .bool _ => by show kitB "bool" "bool" = some true; decide +kernel
  | .int _ => by show kitB "int" "bool" = some false; decide +kernel
  | .str _ => by show kitB "str" "bool" = some false; decide +kernel
  | .list _ => by show kitB "list" "bool" = some false; decide +kernel
  | .tuple _ => by show kitB "tuple" "bool" = some false; decide +kernel
  | .dict _ => by show kitB "dict" "bool" = some false; decide +kernel
theorem kit_seq {K : PySem.W.Frag} : ∀ x : PyData, PySem.W.kitAny K (.type (tyD x)) [.type "tuple", .type "list"] = some (seqD x)
  | .none => kitAny_cons (kit_ty (show kitB "NoneType" "tuple" = some false by decide +kernel)) (fun _ => kitAny_cons (kit_ty (show kitB "NoneType" "list" = some false by decide +kernel)) (fun _ => kitAny_nil) nofun) nofun
  | .bool _ => kitAny_cons (kit_ty (show kitB "bool" "tuple" = some false by decide +kernel)) (fun _ => kitAny_cons (kit_ty (show kitB "bool" "list" = some false by decide +kernel)) (fun _ => kitAny_nil) nofun) nofun
  | .int _ => kitAny_cons (kit_ty (show kitB "int" "tuple" = some false by decide +kernel)) (fun _ => kitAny_cons (kit_ty (show kitB "int" "list" = some false by decide +kernel)) (fun _ => kitAny_nil) nofun) nofun
  | .str _ => kitAny_cons (kit_ty (show kitB "str" "tuple" = some false by decide +kernel)) (fun _ => kitAny_cons (kit_ty (show kitB "str" "list" = some false by decide +kernel)) (fun _ => kitAny_nil) nofun) nofun
  | .dict _ => kitAny_cons (kit_ty (show kitB "dict" "tuple" = some false by decide +kernel)) (fun _ => kitAny_cons (kit_ty (show kitB "dict" "list" = some false by decide +kernel)) (fun _ => kitAny_nil) nofun) nofun
  | .tuple _ => kitAny_cons (b := true) (kit_ty (show kitB "tuple" "tuple" = some true by decide +kernel)) nofun (fun _ => rfl)
  | .list _ => kitAny_cons (b := false) (kit_ty (show kitB "list" "tuple" = some false by decide +kernel)) (fun _ => kitAny_cons (b := true) (kit_ty (show kitB "list" "list" = some true by decide +kernel)) nofun (fun _ => rfl)) nofun
/-- is it a whole number -/
def spWhole (K : PySem.W.Frag) : Sp := fun vs H Q _ => ∃ (v : V) (d : Addr) (x : PyData), vs = [v] ∧ Dq K d H v x ∧ Q (.bl (wholeD x)) H
/-- is it a tuple or a list -/
def spSeq (K : PySem.W.Frag) : Sp := fun vs H Q _ => ∃ (v : V) (d : Addr) (x : PyData), vs = [v] ∧ Dq K d H v x ∧ ∀ H', Same H H' → Q (.bl (seqD x)) H'
/-- is it bases -/
def spIsB (K : PySem.W.Frag) : Sp := fun vs H Q _ => ∃ (v : V) (d : Addr) (x : PyData), vs = [v] ∧ Dq K d H v x ∧ ∀ H', Same H H' → Q (.bl (basesD x)) H'
theorem DqA.length {K : PySem.W.Frag} {d : Addr} {H : Hp} : ∀ {vs : List V} {ds : List PyData}, DqA K d H vs ds → vs.length = ds.length
  | _, _, .nil => rfl
  | _, _, .cons _ r => congrArg (· + 1) r.length
theorem DqA.get {K : PySem.W.Frag} {d : Addr} {H : Hp} : ∀ {vs : List V} {ds : List PyData} {i : Nat} {v : V}, DqA K d H vs ds → vs[i]? = some v → ∃ x, ds[i]? = some x ∧ Dq K d H v x
  | _, _, _, _, .nil, e => by cases e
  | _, _, 0, _, .cons a _, e => by
    cases e
    exact ⟨_, rfl, a⟩
  | _, _, i + 1, _, .cons _ r, e => by
    obtain ⟨x, h1, h2⟩ := r.get (i := i) e
    exact ⟨x, h1, h2⟩
/-! ### a def that can be called by its name -/
structure Cd (P : Program) (w : World) (K : PySem.W.Frag) (mg : Str → Option Value) (base : Heap) (CX : CXT) (k : Nat) (x : Str) (ps : List Str) (sp : Sp) : Prop where
  ex : ∃ (f : Addr) (fd : FuncData), FnOk P w K mg base CX k f fd ps sp ∧ mg x = some (.ref f) ∧ PySem.W.keepIn K (.ref f) = true ∧ Binds K fd ps []
structure CdG (P : Program) (w : World) (K : PySem.W.Frag) (mg : Str → Option Value) (base : Heap) (CX : CXT) (k : Nat) (x : Str) (ps : List Str) (sp : Sp) : Prop where
  ex : ∃ (f : Addr) (fd : FuncData), FnG P w K mg base CX k f fd ps sp ∧ mg x = some (.ref f) ∧ PySem.W.keepIn K (.ref f) = true ∧ Binds K fd ps []
section
variable {X : Cx} {CX : CXT} {k : Nat} {ps : List Str} {sp : Sp} {E : XK} {x : Str} {p pos : Pos} {e : Expr} {es : List Expr} {t : TA}
theorem pe_cd (C : Cd X.prog X.w X.K X.mg X.base CX k x ps sp) (hr : Room k X.A) (hg : Gl X x) (hx : Passes CX X E) (ha : PA X (e :: es) t) (hdb : (x == ("__debug__" : Str)) = false := by decide)
    (he : starEach (e :: es) X.env = (false, eval e X.env) :: starEach es X.env := by rfl) (hpl : (backTo pos (starEach es X.env)).any (·.1) = false := by rfl) : PE X (.Call (.Name x p) (e :: es) [] pos) (tCall sp [] E t) := by
  obtain ⟨f, fd, G, m, kp, b⟩ := C.ex
  exact pe_call G hr hg m kp b .nil hx ha hdb he hpl
theorem pe_cdG (hG : X.A.guards = some []) (C : CdG X.prog X.w X.K X.mg X.base CX k x ps sp) (hr : Room k X.A) (hg : Gl X x) (hx : Passes CX X E) (ha : PA X (e :: es) t) (hdb : (x == ("__debug__" : Str)) = false := by decide)
    (he : starEach (e :: es) X.env = (false, eval e X.env) :: starEach es X.env := by rfl) (hpl : (backTo pos (starEach es X.env)).any (·.1) = false := by rfl) : PE X (.Call (.Name x p) (e :: es) [] pos) (tCall sp [] E t) := by
  obtain ⟨f, fd, G, m, kp, b⟩ := C.ex
  exact pe_callG hG G hr hg m kp b .nil hx ha hdb he hpl
end
end Ru

set_option Elab.async false
set_option linter.all false
set_option maxRecDepth 100000
set_option maxHeartbeats 4000000
namespace K06
open PySem PySem.Spec PyProof.Rows L2 Ru
theorem sc_whole : FnScope ["thing"] ["thing"] (defScope sIsWhole) := ⟨rfl, rfl, rfl, by decide +kernel, rfl, by decide +kernel, by decide +kernel⟩
theorem sc_seq : FnScope ["thing"] ["thing"] (defScope sIsSequence) := ⟨rfl, rfl, rfl, by decide +kernel, rfl, by decide +kernel, by decide +kernel⟩
theorem sc_isb : FnScope ["thing", "base"] ["thing"] (defScope sIsBases) := ⟨rfl, rfl, rfl, by decide +kernel, rfl, by decide +kernel, by decide +kernel⟩
theorem wb_and (x : PyData) : (if (wholeD x || decide (tyD x = "bool")) = true then !decide (tyD x = "bool") else false) = wholeD x := by
  cases x <;> simp [wholeD, tyD]
section
variable {P : Program} {w : World} {K : PySem.W.Frag} {mg : Str → Option Value} {base : Heap}
theorem ok_whole {f : Addr} {fd : FuncData} (F : FunD K "is_whole" "is_whole" (defArgs sIsWhole) (defBody sIsWhole) (defScope sIsWhole) [] [] f fd) (g_isi : mg "isinstance" = none) (g_int : mg "int" = none) (g_bool : mg "bool" = none) :
    FnOk P w K mg base CX0 1 f fd ["thing"] (spWhole K) := by
  refine F.ok sc_whole (fun vs H Q E h => ?_) (fun cdv A outer s H vs Q E hr h => ?_)
  · obtain ⟨v, d, x, rfl, _⟩ := h
    rfl
  · obtain ⟨v, d, x, rfl, hx, q⟩ := h
    have sc := sc_whole
    refine ⟨_, PSs.nox (pss_one (ps_ret (pe_and (pe_callB call_isi (by rfl) g_isi boot_isinstance (pa_cons (pv 0) (pa_cons (pe_bltn (v := V.ty "int") (by rfl) g_int boot_int rfl) pa_nil)))
      (pe_one (pe_not (pe_callB call_isi (by rfl) g_isi boot_isinstance (pa_cons (pv 0) (pa_cons (pe_bltn (v := V.ty "bool") (by rfl) g_bool boot_bool rfl) pa_nil)))))))), ?_⟩
    refine ⟨_, rfl, _, _, _, _, _, rfl, .ty "int", hx.ty, kit_ty (kit_int x), _, rfl, ?_⟩
    have e := wb_and x
    cases hb : (wholeD x || decide (tyD x = "bool")) with
    | true =>
      rw [hb] at e
      refine iteT ⟨_, rfl, _, _, _, _, _, rfl, .ty "bool", hx.ty, kit_ty (kit_bool x), _, rfl, ?_⟩
      rw [show (!decide (tyD x = "bool")) = wholeD x from e]
      exact q
    | false =>
      rw [hb] at e
      refine iteF ?_
      rw [show false = wholeD x from e]
      exact q
theorem ok_seq {f : Addr} {fd : FuncData} (F : FunD K "is_sequence" "is_sequence" (defArgs sIsSequence) (defBody sIsSequence) (defScope sIsSequence) [] [] f fd) (g_isi : mg "isinstance" = none) (g_tuple : mg "tuple" = none) (g_list : mg "list" = none) :
    FnOk P w K mg base CX0 1 f fd ["thing"] (spSeq K) := by
  refine F.ok sc_seq (fun vs H Q E h => ?_) (fun cdv A outer s H vs Q E hr h => ?_)
  · obtain ⟨v, d, x, rfl, _⟩ := h
    rfl
  · obtain ⟨v, d, x, rfl, hx, q⟩ := h
    have sc := sc_seq
    refine ⟨_, PSs.nox (pss_one (ps_ret (pe_callB call_isiT (by rfl) g_isi boot_isinstance (pa_cons (pv 0) (pa_cons (pe_tup (pa_cons (pe_bltn (v := V.ty "tuple") (by rfl) g_tuple boot_tuple rfl) (pa_cons (pe_bltn (v := V.ty "list") (by rfl) g_list boot_list rfl) pa_nil))) pa_nil))))), ?_⟩
    refine ⟨_, rfl, by show 2 ≤ sizeLine; decide, fun t ht => ⟨_, t, _, _, _, _, rfl, upd_same, .cons (.ty "tuple") (.cons (.ty "list") .nil), (hx.same (upd_new ht)).ty, kit_seq x, q _ (upd_new ht)⟩⟩
/-- each item's answer, in order -/
theorem all_map (ds : List PyData) : (ds.map baseD).all id = ds.all baseD := by
  induction ds with
  | nil => rfl
  | cons d ds ih =>
    rw [List.map_cons, List.all_cons, List.all_cons, ih]
    rfl
structure Cst (mg : Str → Option Value) : Prop where
  lo : ∃ t, mg "LEAST_BASE" = some (.int 2 t)
  hi : ∃ t, mg "GREATEST_BASE" = some (.int 100 t)
  mp : ∃ t, mg "MOST_PLACES" = some (.int 4 t)
theorem yes_ {A B : Prop} (h : A) : if true = true then A else B := by
  rw [if_pos rfl]
  exact h
theorem yesT {σ : L2.St} {H : Hp} {k : Bool → Hp → Prop} (h : k true H) : tYes σ H k := h
theorem take_snoc {ds : List PyData} {i : Nat} {x : PyData} (h : ds[i]? = some x) : (ds.take i).map (fun x => V.bl (baseD x)) ++ [V.bl (baseD x)] = (ds.take (i + 1)).map fun x => V.bl (baseD x) := by
  obtain ⟨hi, e⟩ := List.getElem?_eq_some_iff.mp h
  rw [List.take_succ, h, List.map_append]
  rfl
theorem ok_isb {f : Addr} {fd : FuncData} (F : FunD K "is_bases" "is_bases" (defArgs sIsBases) (defBody sIsBases) (defScope sIsBases) [] [] f fd) (CS : Cd P w K mg base CX0 1 "is_sequence" ["thing"] (spSeq K)) (CW : Cd P w K mg base CX0 1 "is_whole" ["thing"] (spWhole K)) (C : Cst mg)
    (g_len : mg "len" = none) (g_all : mg "all" = none) :
    FnOk P w K mg base CX0 2 f fd ["thing"] (spIsB K) := by
  obtain ⟨t1, mlo⟩ := C.lo
  obtain ⟨t2, mhi⟩ := C.hi
  obtain ⟨t3, mmp⟩ := C.mp
  refine F.ok sc_isb (fun vs H Q E h => ?_) (fun cdv A outer s H vs Q E hr h => ?_)
  · obtain ⟨v, d, x, rfl, _⟩ := h
    rfl
  · obtain ⟨v, d, x, rfl, hx, q⟩ := h
    have sc := sc_isb
    have turn : ∀ {D : Addr} {xs : List V} {ds : List PyData}, ds.length ≤ 4 → DqA K d H xs ds → ∀ (i : Nat) (y : V) (H' : Hp), xs[i]? = some y → (Same H H' ∧ H' D = some (.lst ((ds.take i).map fun x => V.bl (baseD x))) ∧ H D = none) →
        tAndV (tCall (spWhole K) [] E0 (tCons (tVar 1) tNil)) (tChain (rI0 fun i j => .bl (decide (i ≤ j))) (rI0 fun i j => .bl (decide (i ≤ j))) (tC (.int 2)) (tVar 1) (tC (.int 100))) [some v, some y] H' fun z H4 => ∃ acc, H4 D = some (.lst acc) ∧ acc.length < sizeLine ∧
          (Same H (upd H4 D (.lst (acc ++ [z]))) ∧ (upd H4 D (.lst (acc ++ [z]))) D = some (.lst ((ds.take (i + 1)).map fun x => V.bl (baseD x))) ∧ H D = none) := by
      intro D xs ds hl ha i y H' hy ⟨s1, h1, n1⟩
      obtain ⟨x, hi, hd⟩ := ha.get hy
      have fin : ∀ z, z = V.bl (baseD x) → ∃ acc, H' D = some (.lst acc) ∧ acc.length < sizeLine ∧
          (Same H (upd H' D (.lst (acc ++ [z]))) ∧ (upd H' D (.lst (acc ++ [z]))) D = some (.lst ((ds.take (i + 1)).map fun x => V.bl (baseD x))) ∧ H D = none) := by
        rintro z rfl
        refine ⟨_, h1, ?_, fun b o e => ?_, by rw [upd_same, take_snoc hi], n1⟩
        · rw [List.length_map, List.length_take, sizeLine_eq]
          omega
        · rw [upd_ne (ne_of_none e n1)]
          exact s1 b o e
      refine ⟨_, rfl, y, d, x, rfl, hd.same s1, _, rfl, ?_⟩
      cases hw : wholeD x with
      | false =>
        refine iteF (fin _ ?_)
        cases x <;> first | rfl | cases hw
      | true =>
        refine iteT ?_
        cases hd with
        | int z =>
          refine ⟨_, rfl, _, _, rfl, rfl, _, rfl, ?_⟩
          by_cases h2 : (2 : Int) ≤ z
          · rw [decide_eq_true h2]
            refine iteT ⟨_, _, rfl, rfl, fin _ ?_⟩
            show V.bl (decide (z ≤ 100)) = V.bl (decide (2 ≤ z) && decide (z ≤ 100))
            rw [decide_eq_true h2, Bool.true_and]
          · rw [decide_eq_false h2]
            refine iteF (fin _ ?_)
            show V.bl false = V.bl (decide (2 ≤ z) && decide (z ≤ 100))
            rw [decide_eq_false h2, Bool.false_and]
        | _ => cases hw
    have done : ∀ {ds : List PyData} {D : Addr} {H' : Hp}, (Same H H' ∧ H' D = some (.lst ((ds.take ds.length).map fun x => V.bl (baseD x))) ∧ H D = none) →
        ∃ (a : Addr) (bs : List Bool), [V.ref D] = [V.ref a] ∧ SqL K H' a (bs.map V.bl) ∧ bs.all id = ds.all baseD := by
      intro ds D H' ⟨s1, h1, _⟩
      refine ⟨D, ds.map baseD, rfl, SqL.of ?_, all_map ds⟩
      rw [h1, List.take_length, List.map_map]
      rfl
    have small : ∀ {n : Nat}, n ≤ 4 → n < sizeLine := fun h => Nat.lt_of_le_of_lt h (by decide)
    have hx0 := hx
    cases hx with
    | lst hs hn ha =>
      rename_i a xs ds
      refine ⟨_, PSs.nox (pss_cons (ps_if (PW.pt (pw_or (pt_not (pt_val (pe_cd CS (hr.mono (by decide)) (by rfl) pass0 (pa_cons (pv 0) pa_nil)))) (pw_or1 (pt_not (pt_chain op_le op_le pe_int (pe_callB call_len_seq (by rfl) g_len PySem.boot_len (pa_cons (pv 0) pa_nil)) (pe_glob (v := V.int 4) (by rfl) mmp ⟨_, rfl⟩))))))
          (pss_one (ps_ret pe_bl))
          pss_nil)
        (pss_one (ps_ret (pe_callB (cr_all rfl) (by rfl) g_all boot_all (pa_cons (pe_lc (own := [("base", 1)]) (g := gName 1) (tt := tYes) rfl sc.nd (pi_list (pv 0)) (blkOk_by (N := ["thing", "base"]) (sc := defScope sIsBases) (by decide +kernel))
          (fun _ _ _ _ _ => pg_name (i := 1) sc.nd rfl (Or.inl rfl)) (fun _ _ _ _ _ => pts_nil)
          (fun _ _ _ _ _ => pe_and (pe_cd CW (hr.mono (by decide)) (by rfl) pass0 (pa_cons (pv 1) pa_nil)) (pe_one (pe_chain op_le op_le (pe_glob (v := V.int 2) (by rfl) mlo ⟨_, rfl⟩) (pv 1) (pe_glob (v := V.int 100) (by rfl) mhi ⟨_, rfl⟩))))) pa_nil))))), ?_⟩
      refine ⟨_, rfl, _, d, _, rfl, hx0, fun H1 s1 => ⟨_, rfl, ?_⟩⟩
      refine iteF ?_
      refine ⟨_, rfl, a, _, rfl, .inl (s1.seq hs), _, _, rfl, rfl, _, rfl, ?_⟩
      have hl := ha.length
      rw [hl]
      have eb : basesD (.list ds) = (decide (1 ≤ ds.length) && decide (ds.length ≤ 4) && ds.all baseD) := rfl
      have out : (1 ≤ ds.length ∧ ds.length ≤ 4) ∨ basesD (.list ds) = false := by
        by_cases h1 : 1 ≤ ds.length
        · by_cases h2 : ds.length ≤ 4
          · exact .inl ⟨h1, h2⟩
          · rw [eb, decide_eq_false h2, Bool.and_false, Bool.false_and]
            exact .inr rfl
        · rw [eb, decide_eq_false h1, Bool.false_and, Bool.false_and]
          exact .inr rfl
      have bad : basesD (.list ds) = false → Q (.bl false) H1 := fun e => by
        have z := q H1 s1
        rw [e] at z
        exact z
      rcases out with ⟨h1, h2⟩ | e
      · rw [decide_eq_true (show (1 : Int) ≤ (ds.length : Nat) by omega)]
        refine iteT ?_
        refine ⟨_, _, rfl, rfl, _, rfl, ?_⟩
        rw [decide_eq_true (show ((ds.length : Nat) : Int) ≤ 4 by omega)]
        refine iteF ?_
        refine ⟨_, rfl, a, rfl, ⟨_, s1.seq hs⟩, fun D hD => lc_list (xs := xs) (fun i H' => Same H H' ∧ H' D = some (.lst ((ds.take i).map fun x => V.bl (baseD x))) ∧ H D = none) ?_ ?_ ?_ ?_⟩
        · have n1 : H D = none := Same.free s1 hD
          exact ⟨s1.trans (upd_new hD), upd_same, n1⟩
        · exact fun i H' _ p => p.1.seq hs
        · exact fun i y H' hy p => (by refine ⟨rfl, yesT ?_⟩; refine yes_ ?_; exact turn h2 ha i y H' hy p)
        · intro H' p
          rw [hl] at p
          obtain ⟨a', bs, e1, e2, e3⟩ := done p
          refine ⟨a', bs, e1, e2, ?_⟩
          rw [e3]
          have z := q H' p.1
          rw [eb, decide_eq_true h1, decide_eq_true h2, Bool.true_and, Bool.true_and] at z
          exact z
      · have z := bad e
        by_cases h1 : 1 ≤ ds.length
        · rw [decide_eq_true (show (1 : Int) ≤ (ds.length : Nat) by omega)]
          refine iteT ?_
          refine ⟨_, _, rfl, rfl, _, rfl, ?_⟩
          by_cases h2 : ds.length ≤ 4
          · rw [decide_eq_true (show ((ds.length : Nat) : Int) ≤ 4 by omega)]
            refine iteF ?_
            refine ⟨_, rfl, a, rfl, ⟨_, s1.seq hs⟩, fun D hD => lc_list (xs := xs) (fun i H' => Same H H' ∧ H' D = some (.lst ((ds.take i).map fun x => V.bl (baseD x))) ∧ H D = none) ?_ ?_ ?_ ?_⟩
            · have n1 : H D = none := Same.free s1 hD
              exact ⟨s1.trans (upd_new hD), upd_same, n1⟩
            · exact fun i H' _ p => p.1.seq hs
            · exact fun i y H' hy p => (by refine ⟨rfl, yesT ?_⟩; refine yes_ ?_; exact turn h2 ha i y H' hy p)
            · intro H' p
              rw [hl] at p
              obtain ⟨a', bs, e1, e2, e3⟩ := done p
              refine ⟨a', bs, e1, e2, ?_⟩
              rw [e3]
              have z := q H' p.1
              rw [eb, decide_eq_true h1, decide_eq_true h2, Bool.true_and, Bool.true_and] at z
              exact z
          · rw [decide_eq_false (show ¬ ((ds.length : Nat) : Int) ≤ 4 by omega)]
            exact iteT z
        · rw [decide_eq_false (show ¬ (1 : Int) ≤ (ds.length : Nat) by omega)]
          refine iteF ⟨_, rfl, ?_⟩
          exact iteT z
    | tup hs hn ha =>
      rename_i a xs ds
      refine ⟨_, PSs.nox (pss_cons (ps_if (PW.pt (pw_or (pt_not (pt_val (pe_cd CS (hr.mono (by decide)) (by rfl) pass0 (pa_cons (pv 0) pa_nil)))) (pw_or1 (pt_not (pt_chain op_le op_le pe_int (pe_callB call_len_seq (by rfl) g_len PySem.boot_len (pa_cons (pv 0) pa_nil)) (pe_glob (v := V.int 4) (by rfl) mmp ⟨_, rfl⟩))))))
          (pss_one (ps_ret pe_bl))
          pss_nil)
        (pss_one (ps_ret (pe_callB (cr_all rfl) (by rfl) g_all boot_all (pa_cons (pe_lc (own := [("base", 1)]) (g := gName 1) (tt := tYes) rfl sc.nd (pi_tup (pv 0)) (blkOk_by (N := ["thing", "base"]) (sc := defScope sIsBases) (by decide +kernel))
          (fun _ _ _ _ _ => pg_name (i := 1) sc.nd rfl (Or.inl rfl)) (fun _ _ _ _ _ => pts_nil)
          (fun _ _ _ _ _ => pe_and (pe_cd CW (hr.mono (by decide)) (by rfl) pass0 (pa_cons (pv 1) pa_nil)) (pe_one (pe_chain op_le op_le (pe_glob (v := V.int 2) (by rfl) mlo ⟨_, rfl⟩) (pv 1) (pe_glob (v := V.int 100) (by rfl) mhi ⟨_, rfl⟩))))) pa_nil))))), ?_⟩
      refine ⟨_, rfl, _, d, _, rfl, hx0, fun H1 s1 => ⟨_, rfl, ?_⟩⟩
      refine iteF ?_
      refine ⟨_, rfl, a, _, rfl, .inr (.inl ((Bt.of s1 (d := d)).rd hn hs)), _, _, rfl, rfl, _, rfl, ?_⟩
      have hl := ha.length
      rw [hl]
      have eb : basesD (.tuple ds) = (decide (1 ≤ ds.length) && decide (ds.length ≤ 4) && ds.all baseD) := rfl
      have out : (1 ≤ ds.length ∧ ds.length ≤ 4) ∨ basesD (.tuple ds) = false := by
        by_cases h1 : 1 ≤ ds.length
        · by_cases h2 : ds.length ≤ 4
          · exact .inl ⟨h1, h2⟩
          · rw [eb, decide_eq_false h2, Bool.and_false, Bool.false_and]
            exact .inr rfl
        · rw [eb, decide_eq_false h1, Bool.false_and, Bool.false_and]
          exact .inr rfl
      have bad : basesD (.tuple ds) = false → Q (.bl false) H1 := fun e => by
        have z := q H1 s1
        rw [e] at z
        exact z
      rcases out with ⟨h1, h2⟩ | e
      · rw [decide_eq_true (show (1 : Int) ≤ (ds.length : Nat) by omega)]
        refine iteT ?_
        refine ⟨_, _, rfl, rfl, _, rfl, ?_⟩
        rw [decide_eq_true (show ((ds.length : Nat) : Int) ≤ 4 by omega)]
        refine iteF ?_
        refine ⟨_, rfl, a, rfl, ⟨_, (Or.inl ((Bt.of s1 (d := d)).rd hn hs))⟩, fun D hD => lc_tup (xs := xs) (fun i H' => Same H H' ∧ H' D = some (.lst ((ds.take i).map fun x => V.bl (baseD x))) ∧ H D = none) ?_ ?_ ?_ ?_⟩
        · have n1 : H D = none := Same.free s1 hD
          exact ⟨s1.trans (upd_new hD), upd_same, n1⟩
        · exact fun i H' _ p => Or.inl ((Bt.of p.1 (d := d)).rd hn hs)
        · exact fun i y H' hy p => (by refine ⟨rfl, yesT ?_⟩; refine yes_ ?_; exact turn h2 ha i y H' hy p)
        · intro H' p
          rw [hl] at p
          obtain ⟨a', bs, e1, e2, e3⟩ := done p
          refine ⟨a', bs, e1, e2, ?_⟩
          rw [e3]
          have z := q H' p.1
          rw [eb, decide_eq_true h1, decide_eq_true h2, Bool.true_and, Bool.true_and] at z
          exact z
      · have z := bad e
        by_cases h1 : 1 ≤ ds.length
        · rw [decide_eq_true (show (1 : Int) ≤ (ds.length : Nat) by omega)]
          refine iteT ?_
          refine ⟨_, _, rfl, rfl, _, rfl, ?_⟩
          by_cases h2 : ds.length ≤ 4
          · rw [decide_eq_true (show ((ds.length : Nat) : Int) ≤ 4 by omega)]
            refine iteF ?_
            refine ⟨_, rfl, a, rfl, ⟨_, (Or.inl ((Bt.of s1 (d := d)).rd hn hs))⟩, fun D hD => lc_tup (xs := xs) (fun i H' => Same H H' ∧ H' D = some (.lst ((ds.take i).map fun x => V.bl (baseD x))) ∧ H D = none) ?_ ?_ ?_ ?_⟩
            · have n1 : H D = none := Same.free s1 hD
              exact ⟨s1.trans (upd_new hD), upd_same, n1⟩
            · exact fun i H' _ p => Or.inl ((Bt.of p.1 (d := d)).rd hn hs)
            · exact fun i y H' hy p => (by refine ⟨rfl, yesT ?_⟩; refine yes_ ?_; exact turn h2 ha i y H' hy p)
            · intro H' p
              rw [hl] at p
              obtain ⟨a', bs, e1, e2, e3⟩ := done p
              refine ⟨a', bs, e1, e2, ?_⟩
              rw [e3]
              have z := q H' p.1
              rw [eb, decide_eq_true h1, decide_eq_true h2, Bool.true_and, Bool.true_and] at z
              exact z
          · rw [decide_eq_false (show ¬ ((ds.length : Nat) : Int) ≤ 4 by omega)]
            exact iteT z
        · rw [decide_eq_false (show ¬ (1 : Int) ≤ (ds.length : Nat) by omega)]
          refine iteF ⟨_, rfl, ?_⟩
          exact iteT z
    | non =>
      refine ⟨_, PSs.nox (pss_cons (ps_if (PW.pt (pw_or (pt_not (pt_val (pe_cd CS (hr.mono (by decide)) (by rfl) pass0 (pa_cons (pv 0) pa_nil)))) (pw_or1 (pt_not (pt_chain op_le op_le pe_int (pe_callB call_len_seq (by rfl) g_len PySem.boot_len (pa_cons (pv 0) pa_nil)) (pe_glob (v := V.int 4) (by rfl) mmp ⟨_, rfl⟩))))))
          (pss_one (ps_ret pe_bl))
          pss_nil)
        (pss_one (ps_ret (pe_callB (cr_all rfl) (by rfl) g_all boot_all (pa_cons (pe_lc (own := [("base", 1)]) (g := gName 1) (tt := tYes) rfl sc.nd (pi_list (pv 0)) (blkOk_by (N := ["thing", "base"]) (sc := defScope sIsBases) (by decide +kernel))
          (fun _ _ _ _ _ => pg_name (i := 1) sc.nd rfl (Or.inl rfl)) (fun _ _ _ _ _ => pts_nil)
          (fun _ _ _ _ _ => pe_and (pe_cd CW (hr.mono (by decide)) (by rfl) pass0 (pa_cons (pv 1) pa_nil)) (pe_one (pe_chain op_le op_le (pe_glob (v := V.int 2) (by rfl) mlo ⟨_, rfl⟩) (pv 1) (pe_glob (v := V.int 100) (by rfl) mhi ⟨_, rfl⟩))))) pa_nil))))), ?_⟩
      refine ⟨_, rfl, _, d, _, rfl, hx0, fun H1 s1 => ⟨_, rfl, ?_⟩⟩
      exact iteT (q H1 s1)
    | bl _ =>
      refine ⟨_, PSs.nox (pss_cons (ps_if (PW.pt (pw_or (pt_not (pt_val (pe_cd CS (hr.mono (by decide)) (by rfl) pass0 (pa_cons (pv 0) pa_nil)))) (pw_or1 (pt_not (pt_chain op_le op_le pe_int (pe_callB call_len_seq (by rfl) g_len PySem.boot_len (pa_cons (pv 0) pa_nil)) (pe_glob (v := V.int 4) (by rfl) mmp ⟨_, rfl⟩))))))
          (pss_one (ps_ret pe_bl))
          pss_nil)
        (pss_one (ps_ret (pe_callB (cr_all rfl) (by rfl) g_all boot_all (pa_cons (pe_lc (own := [("base", 1)]) (g := gName 1) (tt := tYes) rfl sc.nd (pi_list (pv 0)) (blkOk_by (N := ["thing", "base"]) (sc := defScope sIsBases) (by decide +kernel))
          (fun _ _ _ _ _ => pg_name (i := 1) sc.nd rfl (Or.inl rfl)) (fun _ _ _ _ _ => pts_nil)
          (fun _ _ _ _ _ => pe_and (pe_cd CW (hr.mono (by decide)) (by rfl) pass0 (pa_cons (pv 1) pa_nil)) (pe_one (pe_chain op_le op_le (pe_glob (v := V.int 2) (by rfl) mlo ⟨_, rfl⟩) (pv 1) (pe_glob (v := V.int 100) (by rfl) mhi ⟨_, rfl⟩))))) pa_nil))))), ?_⟩
      refine ⟨_, rfl, _, d, _, rfl, hx0, fun H1 s1 => ⟨_, rfl, ?_⟩⟩
      exact iteT (q H1 s1)
    | int _ =>
      refine ⟨_, PSs.nox (pss_cons (ps_if (PW.pt (pw_or (pt_not (pt_val (pe_cd CS (hr.mono (by decide)) (by rfl) pass0 (pa_cons (pv 0) pa_nil)))) (pw_or1 (pt_not (pt_chain op_le op_le pe_int (pe_callB call_len_seq (by rfl) g_len PySem.boot_len (pa_cons (pv 0) pa_nil)) (pe_glob (v := V.int 4) (by rfl) mmp ⟨_, rfl⟩))))))
          (pss_one (ps_ret pe_bl))
          pss_nil)
        (pss_one (ps_ret (pe_callB (cr_all rfl) (by rfl) g_all boot_all (pa_cons (pe_lc (own := [("base", 1)]) (g := gName 1) (tt := tYes) rfl sc.nd (pi_list (pv 0)) (blkOk_by (N := ["thing", "base"]) (sc := defScope sIsBases) (by decide +kernel))
          (fun _ _ _ _ _ => pg_name (i := 1) sc.nd rfl (Or.inl rfl)) (fun _ _ _ _ _ => pts_nil)
          (fun _ _ _ _ _ => pe_and (pe_cd CW (hr.mono (by decide)) (by rfl) pass0 (pa_cons (pv 1) pa_nil)) (pe_one (pe_chain op_le op_le (pe_glob (v := V.int 2) (by rfl) mlo ⟨_, rfl⟩) (pv 1) (pe_glob (v := V.int 100) (by rfl) mhi ⟨_, rfl⟩))))) pa_nil))))), ?_⟩
      refine ⟨_, rfl, _, d, _, rfl, hx0, fun H1 s1 => ⟨_, rfl, ?_⟩⟩
      exact iteT (q H1 s1)
    | str _ =>
      refine ⟨_, PSs.nox (pss_cons (ps_if (PW.pt (pw_or (pt_not (pt_val (pe_cd CS (hr.mono (by decide)) (by rfl) pass0 (pa_cons (pv 0) pa_nil)))) (pw_or1 (pt_not (pt_chain op_le op_le pe_int (pe_callB call_len_seq (by rfl) g_len PySem.boot_len (pa_cons (pv 0) pa_nil)) (pe_glob (v := V.int 4) (by rfl) mmp ⟨_, rfl⟩))))))
          (pss_one (ps_ret pe_bl))
          pss_nil)
        (pss_one (ps_ret (pe_callB (cr_all rfl) (by rfl) g_all boot_all (pa_cons (pe_lc (own := [("base", 1)]) (g := gName 1) (tt := tYes) rfl sc.nd (pi_list (pv 0)) (blkOk_by (N := ["thing", "base"]) (sc := defScope sIsBases) (by decide +kernel))
          (fun _ _ _ _ _ => pg_name (i := 1) sc.nd rfl (Or.inl rfl)) (fun _ _ _ _ _ => pts_nil)
          (fun _ _ _ _ _ => pe_and (pe_cd CW (hr.mono (by decide)) (by rfl) pass0 (pa_cons (pv 1) pa_nil)) (pe_one (pe_chain op_le op_le (pe_glob (v := V.int 2) (by rfl) mlo ⟨_, rfl⟩) (pv 1) (pe_glob (v := V.int 100) (by rfl) mhi ⟨_, rfl⟩))))) pa_nil))))), ?_⟩
      refine ⟨_, rfl, _, d, _, rfl, hx0, fun H1 s1 => ⟨_, rfl, ?_⟩⟩
      exact iteT (q H1 s1)
    | d0 _ _ =>
      refine ⟨_, PSs.nox (pss_cons (ps_if (PW.pt (pw_or (pt_not (pt_val (pe_cd CS (hr.mono (by decide)) (by rfl) pass0 (pa_cons (pv 0) pa_nil)))) (pw_or1 (pt_not (pt_chain op_le op_le pe_int (pe_callB call_len_seq (by rfl) g_len PySem.boot_len (pa_cons (pv 0) pa_nil)) (pe_glob (v := V.int 4) (by rfl) mmp ⟨_, rfl⟩))))))
          (pss_one (ps_ret pe_bl))
          pss_nil)
        (pss_one (ps_ret (pe_callB (cr_all rfl) (by rfl) g_all boot_all (pa_cons (pe_lc (own := [("base", 1)]) (g := gName 1) (tt := tYes) rfl sc.nd (pi_list (pv 0)) (blkOk_by (N := ["thing", "base"]) (sc := defScope sIsBases) (by decide +kernel))
          (fun _ _ _ _ _ => pg_name (i := 1) sc.nd rfl (Or.inl rfl)) (fun _ _ _ _ _ => pts_nil)
          (fun _ _ _ _ _ => pe_and (pe_cd CW (hr.mono (by decide)) (by rfl) pass0 (pa_cons (pv 1) pa_nil)) (pe_one (pe_chain op_le op_le (pe_glob (v := V.int 2) (by rfl) mlo ⟨_, rfl⟩) (pv 1) (pe_glob (v := V.int 100) (by rfl) mhi ⟨_, rfl⟩))))) pa_nil))))), ?_⟩
      refine ⟨_, rfl, _, d, _, rfl, hx0, fun H1 s1 => ⟨_, rfl, ?_⟩⟩
      exact iteT (q H1 s1)
    | d1 _ _ =>
      refine ⟨_, PSs.nox (pss_cons (ps_if (PW.pt (pw_or (pt_not (pt_val (pe_cd CS (hr.mono (by decide)) (by rfl) pass0 (pa_cons (pv 0) pa_nil)))) (pw_or1 (pt_not (pt_chain op_le op_le pe_int (pe_callB call_len_seq (by rfl) g_len PySem.boot_len (pa_cons (pv 0) pa_nil)) (pe_glob (v := V.int 4) (by rfl) mmp ⟨_, rfl⟩))))))
          (pss_one (ps_ret pe_bl))
          pss_nil)
        (pss_one (ps_ret (pe_callB (cr_all rfl) (by rfl) g_all boot_all (pa_cons (pe_lc (own := [("base", 1)]) (g := gName 1) (tt := tYes) rfl sc.nd (pi_list (pv 0)) (blkOk_by (N := ["thing", "base"]) (sc := defScope sIsBases) (by decide +kernel))
          (fun _ _ _ _ _ => pg_name (i := 1) sc.nd rfl (Or.inl rfl)) (fun _ _ _ _ _ => pts_nil)
          (fun _ _ _ _ _ => pe_and (pe_cd CW (hr.mono (by decide)) (by rfl) pass0 (pa_cons (pv 1) pa_nil)) (pe_one (pe_chain op_le op_le (pe_glob (v := V.int 2) (by rfl) mlo ⟨_, rfl⟩) (pv 1) (pe_glob (v := V.int 100) (by rfl) mhi ⟨_, rfl⟩))))) pa_nil))))), ?_⟩
      refine ⟨_, rfl, _, d, _, rfl, hx0, fun H1 s1 => ⟨_, rfl, ?_⟩⟩
      exact iteT (q H1 s1)
end
end K06

set_option Elab.async false
set_option linter.all false
set_option maxRecDepth 100000
set_option maxHeartbeats 2000000
namespace Ru
open PySem PySem.Spec PyProof.Rows L2
/-! ### an own exception with one field, raised -/
def spIniF (K : PySem.W.Frag) (C : Addr) (g : Str) : Sp := fun vs H Q _ => ∃ (a : Addr) (u : V), vs = [.ref a, u] ∧ OexC K C ∧ PySem.W.findIn K (.ref C) g = some none ∧ H a = some (exo a C none) ∧
  ∀ dx, H dx = none → dx ≠ a → Q .non (upd (upd H dx (exd dx [(g, u)])) a (exo a C (some dx)))
theorem iniF {P : Program} {w : World} {K : PySem.W.Frag} {mg : Str → Option Value} {base : Heap} {f C : Addr} {fd : FuncData} {qual g : Str} {pa : Arguments} {sc : Scope} {q1 q2 q3 q4 : Pos}
    (F : FunD K "__init__" qual pa [.Assign [.Attribute (.Name "self" q1) g q2] (.Name g q3) q4] sc [] [] f fd) (S : FnScope ["self", g] ["self", g] sc) (v0 : Vis sc "self") (v1 : Vis sc g)
    (e1 : (g == ("__debug__" : Str)) = false := by decide) (e2 : (g == ("__classdict__" : Str)) = false := by decide) : FnOk P w K mg base CX0 1 f fd ["self", g] (spIniF K C g) := by
  refine F.ok S (fun vs H Q E h => ?_) (fun cdv A outer s H vs Q E hr h => ?_)
  · obtain ⟨a, u, rfl, _⟩ := h
    rfl
  · obtain ⟨a, u, rfl, T, hno, ha, k⟩ := h
    refine ⟨_, PSs.nox (pss_one (ps_ost (pe_var (i := 0) rfl v0) (pe_var (i := 1) rfl v1 e1 e2))), ?_⟩
    exact ⟨u, rfl, .ref a, rfl, a, C, rfl, T, hno, .inl ⟨ha, fun dx hn ne => k dx hn ne⟩⟩
/-- what raising such an own exception leans on -/
structure RsX (P : Program) (w : World) (K : PySem.W.Frag) (mg : Str → Option Value) (base : Heap) (n g : Str) : Prop where
  T : OexC K (He.ga K n)
  iC : PySem.W.findIn K (.ref (He.ga K n)) "__init__" = some (some (.ref (He.ma K (He.ga K n) "__init__")))
  tI : PySem.W.typeIn K (.ref (He.ma K (He.ga K n) "__init__")) = some (.type "function")
  hno : PySem.W.findIn K (.ref (He.ga K n)) g = some none
  gm : mg n = some (.ref (He.ga K n))
  fn : ∃ fd, FnOk P w K mg base CX0 1 (He.ma K (He.ga K n) "__init__") fd ["self", g] (spIniF K (He.ga K n) g) ∧ Binds K fd ["self", g] []
/-- n(e) is made to be raised: its one field is e's value -/
def tRs (C : Addr) (g : Str) (te : TE) : L2.St → Hp → XK → Prop := fun σ H Q => te σ H fun v H1 => ∀ dd H2, Same H1 H2 → H1 dd = none → H2 dd = some (.xd [(g, v)]) → Q (.ref C) (some dd) H2
theorem pmk_rs {X : Cx} {n g : Str} {e : Expr} {te : TE} {p pos : Pos} (R : RsX X.prog X.w X.K X.mg X.base n g) (hr : Room 2 X.A) (hg : Gl X n) (he : PE X e te) (hm : ∀ σ H (Q Q' : VK), (∀ v H', Q v H' → Q' v H') → te σ H Q → te σ H Q')
    (hdb : (n == ("__debug__" : Str)) = false := by decide) (hs : starEach [e] X.env = (false, eval e X.env) :: starEach [] X.env := by rfl) :
    PMk X (.Call (.Name n p) [e] [] pos) (tRs (He.ga X.K n) g te) := by
  obtain ⟨fd, G, b⟩ := R.fn
  intro pins s σ H Q I h
  refine pmk_oex R.T R.iC R.tI G hr b .nil pass0 hg R.gm (pa_cons he pa_nil hs) hdb hs (by rfl) pins s σ H Q I ?_
  refine hm σ H _ _ (fun v H1 q => ?_) h
  refine ⟨by show 1 ≤ 1000; decide, fun a ha => ⟨a, v, rfl, R.T, R.hno, upd_same, fun dx hn ne => ⟨rfl, dx, [(g, v)], upd_same, by rw [upd_ne ne, upd_same], ?_, ?_⟩⟩⟩
  · have z := hn
    rwa [upd_ne ne] at z
  · have hd1 : H1 dx = none := by
      have z := hn
      rwa [upd_ne ne] at z
    refine q dx _ (fun b o e => ?_) hd1 upd_same
    have n1 : b ≠ a := ne_of_none e ha
    have n2 : b ≠ dx := ne_of_none e hd1
    rw [upd_ne n2, del_ne n1, upd_ne n1, upd_ne n2, upd_ne n1]
    exact e
end Ru

set_option Elab.async false
set_option linter.all false
set_option maxRecDepth 100000
set_option maxHeartbeats 2000000
namespace Ru
open PySem PySem.Spec PyProof.Rows L2
/-! ### products of the lower ends of a row -/
def prodL : List Int → Int
  | [] => 1
  | z :: zs => prodL zs * z
theorem prodL_foldl : ∀ (zs : List Int) (c : Int), zs.foldl (· * ·) c = c * prodL zs
  | [], c => by
    show c = c * 1
    rw [Int.mul_one]
  | z :: zs, c => by
    show zs.foldl (· * ·) (c * z) = c * (prodL zs * z)
    rw [prodL_foldl zs (c * z), Int.mul_assoc, Int.mul_comm z]
/-- a row of bases -/
def Bss (zs : List Int) : Prop := 1 ≤ zs.length ∧ zs.length ≤ 4 ∧ ∀ z ∈ zs, 2 ≤ z ∧ z ≤ 100
theorem prodL_le : ∀ {zs : List Int} {n : Nat}, (∀ z ∈ zs, 2 ≤ z ∧ z ≤ 100) → zs.length ≤ n → 1 ≤ prodL zs ∧ prodL zs ≤ 100 ^ n
  | [], n, _, _ => by
    refine ⟨Int.le_refl _, ?_⟩
    show (1 : Int) ≤ 100 ^ n
    have h : (0 : Int) < 100 ^ n := Int.pow_pos (by decide)
    omega
  | z :: zs, 0, _, h => by cases h
  | z :: zs, n + 1, h, hl => by
    obtain ⟨h1, h2⟩ := prodL_le (zs := zs) (n := n) (fun y hy => h y (List.mem_cons_of_mem _ hy)) (Nat.le_of_succ_le_succ hl)
    obtain ⟨h3, h4⟩ := h z List.mem_cons_self
    show 1 ≤ prodL zs * z ∧ prodL zs * z ≤ 100 ^ n * 100
    refine ⟨?_, Int.mul_le_mul h2 h4 (by omega) (by omega)⟩
    have := Int.mul_le_mul h1 (show (1 : Int) ≤ z by omega) (by decide) (by omega)
    omega
/-- 1, the lowest base, the two lowest multiplied, .. -/
def prods (zs : List Int) (k : Nat) : List Int := (List.range k).map fun i => prodL (zs.drop (zs.length - i))
theorem prods_succ (zs : List Int) (k : Nat) : prods zs (k + 1) = prods zs k ++ [prodL (zs.drop (zs.length - k))] := by
  unfold prods
  rw [List.range_succ, List.map_append]
  rfl
theorem rev_at {zs : List Int} {i : Nat} {z : Int} (h : zs.reverse[i]? = some z) : prodL (zs.drop (zs.length - (i + 1))) = prodL (zs.drop (zs.length - i)) * z := by
  obtain ⟨hi, e⟩ := List.getElem?_eq_some_iff.mp h
  have hi' : i < zs.length := by rw [List.length_reverse] at hi; exact hi
  have hlt : zs.length - (i + 1) < zs.length := by omega
  rw [List.drop_eq_getElem_cons hlt, show zs.length - (i + 1) + 1 = zs.length - i by omega]
  rw [List.getElem_reverse] at e
  show prodL _ * zs[zs.length - (i + 1)] = _
  congr 1
  rw [← e]
  congr 1
  omega
theorem prods_len (zs : List Int) (k : Nat) : (prods zs k).length = k := by
  unfold prods
  rw [List.length_map, List.length_range]
/-- the weights: for each place the product of the lower bases -/
def wts (zs : List Int) : List Int := (List.range zs.length).map fun i => prodL (zs.drop (i + 1))
theorem wts_eq (zs : List Int) : (prods zs zs.length).reverse = wts zs := by
  apply List.ext_getElem
  · rw [List.length_reverse, prods_len]
    unfold wts
    rw [List.length_map, List.length_range]
  · intro i h1 h2
    rw [List.length_reverse, prods_len] at h1
    have e : zs.length - (zs.length - 1 - i) = i + 1 := by omega
    simp only [prods, wts, List.getElem_reverse, List.getElem_map, List.getElem_range, List.length_map, List.length_range, e]
/-- a datum that is bases -/
theorem basesD_ints : ∀ {x : PyData}, basesD x = true → ∃ zs, Bss zs ∧ (x = .list (intsD zs) ∨ x = .tuple (intsD zs)) := by
  have rowI : ∀ ds : List PyData, ds.all baseD = true → ∃ zs : List Int, ds = intsD zs ∧ ∀ z ∈ zs, 2 ≤ z ∧ z ≤ 100 := by
    intro ds
    induction ds with
    | nil => exact fun _ => ⟨[], rfl, fun z hz => (List.not_mem_nil hz).elim⟩
    | cons d ds ih =>
      intro h
      rw [List.all_cons, Bool.and_eq_true] at h
      obtain ⟨zs, e, hz⟩ := ih h.2
      match d, h.1 with
      | .int z, hb =>
        have hb' : (decide (2 ≤ z) && decide (z ≤ 100)) = true := hb
        rw [Bool.and_eq_true, decide_eq_true_eq, decide_eq_true_eq] at hb'
        refine ⟨z :: zs, by rw [e]; rfl, fun y hy => ?_⟩
        rcases List.mem_cons.mp hy with hy | hy
        · rw [hy]
          exact hb'
        · exact hz y hy
  have go : ∀ ds : List PyData, (decide (1 ≤ ds.length) && decide (ds.length ≤ 4) && ds.all baseD) = true → ∃ zs, Bss zs ∧ ds = intsD zs := by
    intro ds h
    rw [Bool.and_eq_true, Bool.and_eq_true, decide_eq_true_eq, decide_eq_true_eq] at h
    obtain ⟨zs, e, hz⟩ := rowI ds h.2
    have hl : ds.length = zs.length := by rw [e]; exact List.length_map _
    exact ⟨zs, ⟨by omega, by omega, hz⟩, e⟩
  intro x h
  match x, h with
  | .list ds, h =>
    obtain ⟨zs, b, e⟩ := go ds h
    exact ⟨zs, b, .inl (by rw [e])⟩
  | .tuple ds, h =>
    obtain ⟨zs, b, e⟩ := go ds h
    exact ⟨zs, b, .inr (by rw [e])⟩
theorem basesD_of {zs : List Int} (b : Bss zs) : basesD (.list (intsD zs)) = true ∧ basesD (.tuple (intsD zs)) = true := by
  have h1 : (intsD zs).length = zs.length := List.length_map _
  have h2 : (intsD zs).all baseD = true := by
    rw [List.all_eq_true]
    intro d hd
    obtain ⟨z, hz, e⟩ := List.mem_map.mp hd
    rw [← e]
    obtain ⟨h3, h4⟩ := b.2.2 z hz
    show (decide (2 ≤ z) && decide (z ≤ 100)) = true
    rw [decide_eq_true h3, decide_eq_true h4]
    rfl
  have h : (decide (1 ≤ (intsD zs).length) && decide ((intsD zs).length ≤ 4) && (intsD zs).all baseD) = true := by
    rw [h1, h2, decide_eq_true b.1, decide_eq_true b.2.1]
    rfl
  exact ⟨h, h⟩
theorem DqA.toInts {K : PySem.W.Frag} {d : Addr} {H : Hp} : ∀ {zs : List Int} {vs : List V}, DqA K d H vs (intsD zs) → vs = zs.map V.int
  | [], _, h => by cases h; rfl
  | z :: zs, _, h => by
    cases h with
    | cons a r =>
      cases a
      rw [DqA.toInts r]
      rfl
/-- the products, or what is raised of what is no bases -/
def spProds (K : PySem.W.Frag) (n : Str) : Sp := fun vs H Q E => ∃ (v : V) (d : Addr) (x : PyData), vs = [v] ∧ Dq K d H v x ∧
  (∀ zs, Bss zs → (x = .list (intsD zs) ∨ x = .tuple (intsD zs)) → ∀ p H', Same H H' → H p = none → H' p = some (.lst ((prods zs (zs.length + 1)).map V.int)) → Q (.ref p) H') ∧
  (basesD x = false → ∀ dd H', Same H H' → H dd = none → H' dd = some (.xd [("at", .non)]) → E (.ref (He.ga K n)) (some dd) H')
/-- the weights -/
def spWts (K : PySem.W.Frag) (n : Str) : Sp := fun vs H Q E => ∃ (v : V) (d : Addr) (x : PyData), vs = [v] ∧ Dq K d H v x ∧
  (∀ zs, Bss zs → (x = .list (intsD zs) ∨ x = .tuple (intsD zs)) → ∀ p H', Same H H' → H p = none → H' p = some (.tup ((wts zs).map V.int)) → Q (.ref p) H') ∧
  (basesD x = false → ∀ dd H', Same H H' → H dd = none → H' dd = some (.xd [("at", .non)]) → E (.ref (He.ga K n)) (some dd) H')
/-- how many there are -/
def spCnt (K : PySem.W.Frag) (n : Str) : Sp := fun vs H Q E => ∃ (v : V) (d : Addr) (x : PyData), vs = [v] ∧ Dq K d H v x ∧
  (∀ zs, Bss zs → (x = .list (intsD zs) ∨ x = .tuple (intsD zs)) → ∀ H', Same H H' → Q (.int (prodL zs)) H') ∧
  (basesD x = false → ∀ dd H', Same H H' → H dd = none → H' dd = some (.xd [("at", .non)]) → E (.ref (He.ga K n)) (some dd) H')
end Ru

set_option Elab.async false
set_option linter.all false
set_option maxRecDepth 100000
set_option maxHeartbeats 4000000
namespace K06
open PySem PySem.Spec PyProof.Rows L2 Ru
theorem sc_prods : FnScope ["bases", "found", "base"] ["bases"] (defScope sProducts) := ⟨rfl, rfl, rfl, by decide +kernel, rfl, by decide +kernel, by decide +kernel⟩
theorem sc_wts : FnScope ["bases"] ["bases"] (defScope sWeights) := ⟨rfl, rfl, rfl, by decide +kernel, rfl, by decide +kernel, by decide +kernel⟩
theorem sc_cnt : FnScope ["bases"] ["bases"] (defScope sCountOf) := ⟨rfl, rfl, rfl, by decide +kernel, rfl, by decide +kernel, by decide +kernel⟩
section
variable {P : Program} {w : World} {K : PySem.W.Frag} {mg : Str → Option Value} {base : Heap}
theorem ok_prods {f : Addr} {fd : FuncData} (F : FunD K "_products" "_products" (defArgs sProducts) (defBody sProducts) (defScope sProducts) [] [] f fd) (CB : Cd P w K mg base CX0 2 "is_bases" ["thing"] (spIsB K)) (R : RsX P w K mg base "NoNumeral" "at") :
    FnOk P w K mg base (L2.CX P w) 3 f fd ["bases"] (spProds K "NoNumeral") := by
  refine F.ok sc_prods (fun vs H Q E h => ?_) (fun cdv A outer s H vs Q E hr h => ?_)
  · obtain ⟨v, d, x, rfl, _⟩ := h
    rfl
  · obtain ⟨v, d, x, rfl, hx, q1, q2⟩ := h
    have sc := sc_prods
    cases hb : basesD x with
    | false =>
      refine ⟨_, pss_cons (ps_if (pt_not (pt_val (pe_cd CB hr (by rfl) pass0 (pa_cons (pv 0) pa_nil))))
        (pss_one (ps_raise rfl (takes_of rfl rfl rfl rfl) (pmk_rs R (hr.mono (by decide)) (by rfl) pe_non (fun _ _ _ _ f q => f _ _ q))))
        pss_nil)
      (pss_cons (ps_set (i := 1) sc.nd rfl (Or.inl rfl) (pe_lst (pa_cons pe_int pa_nil)))
      (pss_cons (ps_for (passes_of rfl) rfl (pi_list (pe_revL (pv 0))) (pg_name (i := 2) sc.nd rfl (Or.inl rfl))
        (pss_one (ps_expr (pe_bm PySem.F.plainAttrs_list PySem.F.slot_list_append PySem.F.type_list_append mt_append (pv 1) (pa_cons (pe_op op_mul (pe_ix ix_list (pv 1) (pe_un un_neg pe_int) (fun _ _ => rfl)) (pv 2)) pa_nil)))))
      (pss_one (ps_ret (pv 1))))), ?_⟩
      refine ⟨_, rfl, _, d, _, rfl, hx, fun H1 s1 => ⟨_, rfl, ?_⟩⟩
      rw [hb]
      refine iteT ?_
      exact fun dd H2 s2 n2 e2 => q2 hb dd H2 (s1.trans s2) (Same.free s1 n2) e2
    | true =>
      obtain ⟨zs, hB, e | e⟩ := basesD_ints hb
      · subst e
        cases hx with
        | lst hs hn ha =>
        rename_i a xs
        have ex := ha.toInts
        subst ex
        have hx := Dq.lst (K := K) hs hn ha
        refine ⟨_, pss_cons (ps_if (pt_not (pt_val (pe_cd CB hr (by rfl) pass0 (pa_cons (pv 0) pa_nil))))
        (pss_one (ps_raise rfl (takes_of rfl rfl rfl rfl) (pmk_rs R (hr.mono (by decide)) (by rfl) pe_non (fun _ _ _ _ f q => f _ _ q))))
        pss_nil)
      (pss_cons (ps_set (i := 1) sc.nd rfl (Or.inl rfl) (pe_lst (pa_cons pe_int pa_nil)))
      (pss_cons (ps_for (passes_of rfl) rfl (pi_list (pe_revL (pv 0))) (pg_name (i := 2) sc.nd rfl (Or.inl rfl))
        (pss_one (ps_expr (pe_bm PySem.F.plainAttrs_list PySem.F.slot_list_append PySem.F.type_list_append mt_append (pv 1) (pa_cons (pe_op op_mul (pe_ix ix_list (pv 1) (pe_un un_neg pe_int) (fun _ _ => rfl)) (pv 2)) pa_nil)))))
      (pss_one (ps_ret (pv 1))))), ?_⟩
        refine ⟨_, rfl, _, d, _, rfl, hx, fun H1 s1 => ⟨_, rfl, ?_⟩⟩
        rw [hb]
        refine iteF ?_
        refine ⟨by show 1 ≤ sizeLine; decide, fun p hp => ?_⟩
        have n0 : H p = none := Same.free s1 hp
        have s2 : Same H (upd H1 p (.lst [.int 1])) := s1.trans (upd_new hp)
        refine ⟨_, rfl, a, _, rfl, s2.seq hs, ?_⟩
        intro r hnr
        have npr : p ≠ r := ne_of_none upd_same hnr
        refine ⟨r, rfl, ⟨_, SqL.of upd_same⟩, for_list (K := K) (a := r) (xs := (zs.map V.int).reverse) (fun i σ H3 => ∃ u : Option V, σ = [some (.ref a), some (.ref p), u] ∧ Same H H3 ∧ H3 p = some (.lst ((prods zs (i + 1)).map V.int)) ∧ H3 r = some (.lst (zs.map V.int).reverse)) ?_ (fun i σ H3 _ ⟨_, _, _, _, q⟩ => SqL.of q) ?_ ?_⟩
        · refine ⟨_, rfl, s2.trans (upd_new hnr), ?_, upd_same⟩
          rw [upd_ne npr, upd_same]
          show some (HO.lst [V.int 1]) = some (HO.lst [V.int (prodL (zs.drop (zs.length - 0)))])
          rw [Nat.sub_zero, List.drop_length]
          rfl
        · rintro i y σ H3 hi ⟨u, rfl, s3, h3, h4⟩
          rw [← List.map_reverse, List.getElem?_map] at hi
          cases ez : zs.reverse[i]? with
          | none => rw [ez] at hi; cases hi
          | some z =>
            rw [ez] at hi
            cases hi
            have hz : 2 ≤ z ∧ z ≤ 100 := hB.2.2 z (List.mem_reverse.mp (List.mem_of_getElem? ez))
            have hil : i < zs.length := by
              have := (List.getElem?_eq_some_iff.mp ez).1
              rwa [List.length_reverse] at this
            obtain ⟨b1, b2⟩ := prodL_le (zs := zs.drop (zs.length - i)) (n := 4) (fun y hy => hB.2.2 y (List.mem_of_mem_drop hy)) (by rw [List.length_drop]; have := hB.2.1; omega)
            have hat : atI ((prods zs (i + 1)).map V.int) (-1) = some (.int (prodL (zs.drop (zs.length - i)))) := by
              rw [prods_succ, List.map_append]
              exact atI_last _ _
            refine ⟨_, rfl, .inl ⟨rfl, _, .inl (.inl h3)⟩, _, rfl, _, rfl, p, _, _, _, rfl, rfl, SqL.of h3, hat, _, rfl, _, _, rfl, rfl, .inl ⟨by omega, by omega⟩, ?_⟩
            refine ⟨p, _, _, rfl, rfl, h3, ?_, ?_⟩
            · rw [List.length_map, prods_len, sizeLine_eq]
              have := hB.2.1
              omega
            · refine ⟨_, rfl, fun b o e => ?_, ?_, by rw [upd_ne (Ne.symm npr)]; exact h4⟩
              · rw [upd_ne (ne_of_none e n0)]
                exact s3 b o e
              · rw [upd_same, prods_succ zs (i + 1), List.map_append, rev_at ez]
                rfl
        · rintro σ H3 ⟨u, rfl, s3, h3, _⟩
          rw [List.length_reverse, List.length_map] at h3
          exact ⟨_, rfl, q1 zs hB (.inl rfl) p H3 s3 n0 h3⟩
      · subst e
        cases hx with
        | tup hs hn ha =>
        rename_i a xs
        have ex := ha.toInts
        subst ex
        have hx := Dq.tup (K := K) hs hn ha
        have ne0 : zs.map V.int ≠ [] := fun e => by
          have h := hB.1
          rw [List.map_eq_nil_iff] at e
          rw [e] at h
          cases h
        refine ⟨_, pss_cons (ps_if (pt_not (pt_val (pe_cd CB hr (by rfl) pass0 (pa_cons (pv 0) pa_nil))))
        (pss_one (ps_raise rfl (takes_of rfl rfl rfl rfl) (pmk_rs R (hr.mono (by decide)) (by rfl) pe_non (fun _ _ _ _ f q => f _ _ q))))
        pss_nil)
      (pss_cons (ps_set (i := 1) sc.nd rfl (Or.inl rfl) (pe_lst (pa_cons pe_int pa_nil)))
      (pss_cons (ps_for (passes_of rfl) rfl (pi_tup (pe_revT (pv 0))) (pg_name (i := 2) sc.nd rfl (Or.inl rfl))
        (pss_one (ps_expr (pe_bm PySem.F.plainAttrs_list PySem.F.slot_list_append PySem.F.type_list_append mt_append (pv 1) (pa_cons (pe_op op_mul (pe_ix ix_list (pv 1) (pe_un un_neg pe_int) (fun _ _ => rfl)) (pv 2)) pa_nil)))))
      (pss_one (ps_ret (pv 1))))), ?_⟩
        refine ⟨_, rfl, _, d, _, rfl, hx, fun H1 s1 => ⟨_, rfl, ?_⟩⟩
        rw [hb]
        refine iteF ?_
        refine ⟨by show 1 ≤ sizeLine; decide, fun p hp => ?_⟩
        have n0 : H p = none := Same.free s1 hp
        have s2 : Same H (upd H1 p (.lst [.int 1])) := s1.trans (upd_new hp)
        refine ⟨_, rfl, a, _, rfl, Or.inl ((Bt.of s2 (d := d)).rd hn hs), ne0, ?_⟩
        intro r hnr
        have npr : p ≠ r := ne_of_none upd_same hnr
        refine ⟨r, rfl, ⟨_, Or.inl (Or.inl upd_same)⟩, for_tup (K := K) (a := r) (xs := (zs.map V.int).reverse) (fun i σ H3 => ∃ u : Option V, σ = [some (.ref a), some (.ref p), u] ∧ Same H H3 ∧ H3 p = some (.lst ((prods zs (i + 1)).map V.int)) ∧ H3 r = some (.tup (zs.map V.int).reverse)) ?_ (fun i σ H3 _ ⟨_, _, _, _, q⟩ => Or.inl (Or.inl q)) ?_ ?_⟩
        · refine ⟨_, rfl, s2.trans (upd_new hnr), ?_, upd_same⟩
          rw [upd_ne npr, upd_same]
          show some (HO.lst [V.int 1]) = some (HO.lst [V.int (prodL (zs.drop (zs.length - 0)))])
          rw [Nat.sub_zero, List.drop_length]
          rfl
        · rintro i y σ H3 hi ⟨u, rfl, s3, h3, h4⟩
          rw [← List.map_reverse, List.getElem?_map] at hi
          cases ez : zs.reverse[i]? with
          | none => rw [ez] at hi; cases hi
          | some z =>
            rw [ez] at hi
            cases hi
            have hz : 2 ≤ z ∧ z ≤ 100 := hB.2.2 z (List.mem_reverse.mp (List.mem_of_getElem? ez))
            have hil : i < zs.length := by
              have := (List.getElem?_eq_some_iff.mp ez).1
              rwa [List.length_reverse] at this
            obtain ⟨b1, b2⟩ := prodL_le (zs := zs.drop (zs.length - i)) (n := 4) (fun y hy => hB.2.2 y (List.mem_of_mem_drop hy)) (by rw [List.length_drop]; have := hB.2.1; omega)
            have hat : atI ((prods zs (i + 1)).map V.int) (-1) = some (.int (prodL (zs.drop (zs.length - i)))) := by
              rw [prods_succ, List.map_append]
              exact atI_last _ _
            refine ⟨_, rfl, .inl ⟨rfl, _, .inl (.inl h3)⟩, _, rfl, _, rfl, p, _, _, _, rfl, rfl, SqL.of h3, hat, _, rfl, _, _, rfl, rfl, .inl ⟨by omega, by omega⟩, ?_⟩
            refine ⟨p, _, _, rfl, rfl, h3, ?_, ?_⟩
            · rw [List.length_map, prods_len, sizeLine_eq]
              have := hB.2.1
              omega
            · refine ⟨_, rfl, fun b o e => ?_, ?_, by rw [upd_ne (Ne.symm npr)]; exact h4⟩
              · rw [upd_ne (ne_of_none e n0)]
                exact s3 b o e
              · rw [upd_same, prods_succ zs (i + 1), List.map_append, rev_at ez]
                rfl
        · rintro σ H3 ⟨u, rfl, s3, h3, _⟩
          rw [List.length_reverse, List.length_map] at h3
          exact ⟨_, rfl, q1 zs hB (.inr rfl) p H3 s3 n0 h3⟩
theorem cut_last {zs : List Int} {n : Nat} : cutV ((prods zs (n + 1)).map V.int) none (some (-1)) = (prods zs n).map V.int := by
  have e : ((prods zs (n + 1)).map V.int).length = n + 1 := by rw [List.length_map, prods_len]
  have h1 : HT.sIx (n + 1) 0 none = 0 := rfl
  have h2 : HT.sIx (n + 1) (n + 1) (some (-1)) = n := by
    show (if (-1 : Int) < 0 then ((-1 : Int) + ((n + 1 : Nat) : Int)).toNat else min (-1 : Int).toNat (n + 1)) = n
    rw [if_pos (by decide)]
    omega
  unfold cutV
  rw [e, h1, h2, List.drop_zero, Nat.sub_zero, prods_succ, List.map_append, List.take_append_of_le_length (by rw [List.length_map, prods_len]; exact Nat.le_refl _), List.take_of_length_le (by rw [List.length_map, prods_len]; exact Nat.le_refl _)]
theorem ok_wts {f : Addr} {fd : FuncData} (F : FunD K "weights" "weights" (defArgs sWeights) (defBody sWeights) (defScope sWeights) [] [] f fd) (CP : Cd P w K mg base (L2.CX P w) 3 "_products" ["bases"] (spProds K "NoNumeral")) (g_tuple : mg "tuple" = none) :
    FnOk P w K mg base (L2.CX P w) 4 f fd ["bases"] (spWts K "NoNumeral") := by
  refine F.ok sc_wts (fun vs H Q E h => ?_) (fun cdv A outer s H vs Q E hr h => ?_)
  · obtain ⟨v, d, x, rfl, _⟩ := h
    rfl
  · obtain ⟨v, d, x, rfl, hx, q1, q2⟩ := h
    have sc := sc_wts
    refine ⟨_, pss_one (ps_ret (pe_callTy call_tuple_of (by rfl) g_tuple boot_tuple (pa_cons (pe_revL (pe_slice sl_list (pe_cd CP hr (by rfl) (passes_call (takes_of rfl rfl rfl rfl) (fun _ _ _ _ h => h)) (pa_cons (pv 0) pa_nil)) po_none (po_some (pe_un un_neg pe_int)))) pa_nil))), ?_⟩
    refine ⟨_, rfl, _, d, _, rfl, hx, fun zs hB hz p H1 s1 n1 h1 => ?_, q2⟩
    refine ⟨_, rfl, _, rfl, p, _, rfl, SqL.of h1, fun t ht => ?_⟩
    rw [cut_last]
    refine ⟨t, _, rfl, SqL.of upd_same, fun u hu => ⟨u, _, rfl, .inl ⟨SqL.of upd_same, fun l hl => ?_⟩⟩⟩
    have s2 : Same H (upd (upd (upd H1 t (.lst ((prods zs zs.length).map V.int))) u (.lst ((prods zs zs.length).map V.int).reverse)) l (.tup ((prods zs zs.length).map V.int).reverse)) := s1.trans ((upd_new ht).trans ((upd_new hu).trans (upd_new hl)))
    refine q1 zs hB hz l _ s2 (Same.free (s1.trans ((upd_new ht).trans (upd_new hu))) hl) ?_
    rw [upd_same, ← List.map_reverse, wts_eq]
theorem ok_cnt {f : Addr} {fd : FuncData} (F : FunD K "count_of" "count_of" (defArgs sCountOf) (defBody sCountOf) (defScope sCountOf) [] [] f fd) (CP : Cd P w K mg base (L2.CX P w) 3 "_products" ["bases"] (spProds K "NoNumeral")) :
    FnOk P w K mg base (L2.CX P w) 4 f fd ["bases"] (spCnt K "NoNumeral") := by
  refine F.ok sc_cnt (fun vs H Q E h => ?_) (fun cdv A outer s H vs Q E hr h => ?_)
  · obtain ⟨v, d, x, rfl, _⟩ := h
    rfl
  · obtain ⟨v, d, x, rfl, hx, q1, q2⟩ := h
    have sc := sc_cnt
    refine ⟨_, pss_one (ps_ret (pe_ix ix_list (pe_cd CP hr (by rfl) (passes_call (takes_of rfl rfl rfl rfl) (fun _ _ _ _ h => h)) (pa_cons (pv 0) pa_nil)) (pe_un un_neg pe_int) (fun _ _ => rfl))), ?_⟩
    refine ⟨_, rfl, _, d, _, rfl, hx, fun zs hB hz p H1 s1 n1 h1 => ?_, q2⟩
    refine ⟨_, rfl, p, _, _, .int (prodL zs), rfl, rfl, SqL.of h1, ?_, q1 zs hB hz H1 s1⟩
    rw [prods_succ, List.map_append, Nat.sub_self, List.drop_zero]
    exact atI_last _ _
end
end K06

set_option Elab.async false
set_option linter.all false
set_option maxRecDepth 100000
set_option maxHeartbeats 2000000
namespace Ru
open PySem PySem.Spec PyProof.Rows L2
/-! ### how long a list's text is -/
theorem len_app (a b : Str) : (a ++ b).length = a.length + b.length := by
  show (a.cps ++ b.cps).size = _
  rw [Array.size_append]
  rfl
theorem textFrom_le : ∀ (ts : List Str) (k : Nat) (acc : Str) (n : Nat), (∀ t ∈ ts, t.length ≤ n) → (textFrom k acc ts).length ≤ acc.length + ts.length * (n + 2)
  | [], k, acc, n, _ => by
    show acc.length ≤ _
    exact Nat.le_add_right _ _
  | t :: ts, k, acc, n, h => by
    have ih := textFrom_le ts (k + 1) (acc ++ (if k > 0 then ", " else "" : String) ++ t) n fun x hx => h x (List.mem_cons_of_mem _ hx)
    have h1 := h t List.mem_cons_self
    have h2 : ((if k > 0 then ", " else "" : String) : Str).length ≤ 2 := by
      by_cases c : k > 0
      · rw [if_pos c]
        decide
      · rw [if_neg c]
        decide
    rw [len_app, len_app] at ih
    show (textFrom (k + 1) (acc ++ (if k > 0 then ", " else "" : String) ++ t) ts).length ≤ _
    have e : (t :: ts).length * (n + 2) = ts.length * (n + 2) + (n + 2) := by rw [List.length_cons, Nat.succ_mul]
    omega
theorem listText_le {ts : List Str} {n : Nat} (h : ∀ t ∈ ts, t.length ≤ n) : (listText ts).length ≤ 2 + ts.length * (n + 2) := by
  have h1 := textFrom_le ts 0 ("[" : String) n h
  have h2 : (("[" : String) : Str).length = 1 := by decide
  have h3 : (("]" : String) : Str).length = 1 := by decide
  show (textFrom 0 ("[" : String) ts ++ ("]" : String)).length ≤ _
  rw [len_app]
  omega
theorem join_le {n : Nat} : ∀ {ts : List Str}, (∀ t ∈ ts, t.length ≤ n) → (Str.join ", " ts).length ≤ ts.length * (n + 2)
  | [], _ => by
    show (0 : Nat) ≤ _
    exact Nat.zero_le _
  | [x], h => by
    have h1 := h x List.mem_cons_self
    show x.length ≤ 1 * (n + 2)
    omega
  | x :: y :: r, h => by
    have ih := join_le (n := n) (ts := y :: r) fun t ht => h t (List.mem_cons_of_mem _ ht)
    have h1 := h x List.mem_cons_self
    have h2 : ((", " : String) : Str).length = 2 := by decide
    show (x ++ ", " ++ Str.join ", " (y :: r)).length ≤ _
    rw [len_app, len_app, h2]
    have e : (x :: y :: r).length * (n + 2) = (y :: r).length * (n + 2) + (n + 2) := by rw [List.length_cons, Nat.succ_mul]
    omega
theorem tupleText_le {ts : List Str} {n : Nat} (h : ∀ t ∈ ts, t.length ≤ n) : (tupleText ts).length ≤ 3 + ts.length * (n + 2) := by
  have h1 := join_le h
  have h2 : (("(" : String) : Str).length = 1 := by decide
  have h3 : ((if ts.length == 1 then ",)" else ")" : String) : Str).length ≤ 2 := by
    by_cases c : (ts.length == 1) = true
    · rw [if_pos c]
      decide
    · rw [if_neg c]
      decide
  unfold tupleText
  rw [len_app, len_app, h2]
  omega
/-- a datum that is shown in at most L signs -/
structure Md (D L : Nat) (d : PyData) : Prop where
  s : d.showable = true
  dp : d.depth ≤ D
  l : d.shown.length ≤ L
theorem Md.mono {D D' L L' : Nat} {d : PyData} (h : Md D L d) (h1 : D ≤ D') (h2 : L ≤ L') : Md D' L' d := ⟨h.s, Nat.le_trans h.dp h1, Nat.le_trans h.l h2⟩
theorem Md.sh {D L : Nat} {d : PyData} (h : Md D L d) (h1 : D ≤ 40) (h2 : L ≤ 100000) : Sh d := ⟨h.s, Nat.le_trans h.dp h1, Nat.le_trans h.l (Nat.le_trans h2 (by decide))⟩
theorem Md.all {D L : Nat} : ∀ {ds : List PyData}, (∀ d ∈ ds, Md D L d) → PyData.showableAll ds = true ∧ PyData.depthAll ds ≤ D ∧ (∀ t ∈ PyData.shownAll ds, t.length ≤ L) ∧ (PyData.shownAll ds).length = ds.length
  | [], _ => ⟨by simp [PyData.showableAll], by simp [PyData.depthAll], by simp [PyData.shownAll], by simp [PyData.shownAll]⟩
  | d :: ds, h => by
    obtain ⟨i1, i2, i3, i4⟩ := Md.all fun x hx => h x (List.mem_cons_of_mem _ hx)
    have hd := h d List.mem_cons_self
    refine ⟨by rw [PyData.showableAll, hd.s, i1]; rfl, by rw [PyData.depthAll]; exact Nat.max_le.mpr ⟨hd.dp, i2⟩, ?_, by rw [PyData.shownAll, List.length_cons, List.length_cons, i4]⟩
    intro t ht
    rw [PyData.shownAll] at ht
    rcases List.mem_cons.mp ht with e | ht
    · rw [e]
      exact hd.l
    · exact i3 t ht
theorem Md.list {D L : Nat} {ds : List PyData} (h : ∀ d ∈ ds, Md D L d) : Md (D + 1) (3 + ds.length * (L + 2)) (.list ds) := by
  obtain ⟨i1, i2, i3, i4⟩ := Md.all h
  refine ⟨by rw [PyData.showable]; exact i1, by rw [PyData.depth]; omega, ?_⟩
  rw [PyData.shown]
  have z := listText_le i3
  rw [i4] at z
  omega
theorem Md.tuple {D L : Nat} {ds : List PyData} (h : ∀ d ∈ ds, Md D L d) : Md (D + 1) (3 + ds.length * (L + 2)) (.tuple ds) := by
  obtain ⟨i1, i2, i3, i4⟩ := Md.all h
  refine ⟨by rw [PyData.showable]; exact i1, by rw [PyData.depth]; omega, ?_⟩
  rw [PyData.shown]
  have z := tupleText_le i3
  rw [i4] at z
  omega
theorem Md.int {z : Int} (h : z.natAbs.log2 < 140) : Md 1 141 (.int z) := by
  refine ⟨by rw [PyData.showable]; exact decide_eq_true (by omega), by rw [PyData.depth]; omega, ?_⟩
  rw [PyData.shown]
  show (Str.ofString (toString z)).length ≤ 141
  rw [PySem.ofString_length]
  exact int_text_length_le (k := 140) (by decide) h
theorem log2_small {z : Int} (h0 : 0 ≤ z) (h1 : z ≤ 100 ^ 4) : z.natAbs.log2 < 140 := by
  have h : z.natAbs < 2 ^ 140 := by omega
  by_cases hz : z.natAbs = 0
  · rw [hz]
    decide
  · exact (Nat.log2_lt hz).mpr h
end Ru

set_option Elab.async false
set_option linter.all false
set_option maxRecDepth 100000
set_option maxHeartbeats 2000000
namespace Ru
open PySem PySem.Spec PyProof.Rows L2
/-! ### what a call with a table behind it keeps -/
/-- all but what stands at d and the tables of code objects stays -/
def Ki (d : Addr) (H H' : Hp) : Prop := ∀ b o, H b = some o → b ≠ d → (∀ ps, o ≠ .tbl ps) → H' b = some o
theorem Ki.of {d : Addr} {H H' : Hp} (s : Bt d H H') : Ki d H H' := fun b o e n _ => s b o e n
theorem Ki.same {d : Addr} {H H' : Hp} (s : Same H H') : Ki d H H' := fun b o e _ _ => s b o e
theorem Ki.ext {d : Addr} {H H' : Hp} (s : LamX.ExtN H H') : Ki d H H' := fun b o e _ t => s b o e t
theorem Ki.refl {d : Addr} {H : Hp} : Ki d H H := fun _ _ e _ _ => e
theorem Ki.trans {d : Addr} {H H1 H2 : Hp} (x : Ki d H H1) (y : Ki d H1 H2) : Ki d H H2 := fun b o e n t => y b o (x b o e n t) n t
theorem Ki.rd {d a : Addr} {H H' : Hp} {u : HO} (s : Ki d H H') (n : a ≠ d) (hu : ∀ ps, u ≠ .tbl ps) (h : Rd H a u) : Rd H' a u := by
  rcases h with h | ⟨o, h⟩
  · exact .inl (s _ _ h n hu)
  · exact .inr ⟨o, s _ _ h n fun _ z => by cases z⟩
theorem Ki.seq {d a : Addr} {K : PySem.W.Frag} {H H' : Hp} {xs : List V} (s : Ki d H H') (n : a ≠ d) (h : SqL K H a xs) : SqL K H' a xs := h.imp (s.rd n fun _ z => by cases z) id
mutual
theorem Dq.ki {K : PySem.W.Frag} {d : Addr} {H H' : Hp} (s : Ki d H H') : ∀ {v : V} {x : PyData}, Dq K d H v x → Dq K d H' v x
  | _, _, .non => .non
  | _, _, .bl b => .bl b
  | _, _, .int i => .int i
  | _, _, .str x => .str x
  | _, _, .lst h n a => .lst (s.seq n h) n (DqA.ki s a)
  | _, _, .tup h n a => .tup (s.rd n (fun _ z => by cases z) h) n (DqA.ki s a)
  | _, _, .d0 h n => .d0 (s _ _ h n fun _ z => by cases z) n
  | _, _, .d1 h n => .d1 (s _ _ h n fun _ z => by cases z) n
theorem DqA.ki {K : PySem.W.Frag} {d : Addr} {H H' : Hp} (s : Ki d H H') : ∀ {vs : List V} {ds : List PyData}, DqA K d H vs ds → DqA K d H' vs ds
  | _, _, .nil => .nil
  | _, _, .cons a b => .cons (Dq.ki s a) (DqA.ki s b)
end
/-- a datum is read whatever address is set apart, if it doesn't meet it: here, one that holds no datum -/
theorem takes_len {X : Cx} {W : WX} (t : Takes X W) : Takes X fun cls d σ H => σ.length = X.N.length → W cls d σ H := fun u s' ⟨a, B, sI, pins, σ, H, cls, d, e, I, nb, up, sky, na, os, ag, w⟩ =>
  t u s' ⟨a, B, sI, pins, σ, H, cls, d, e, I, nb, up, sky, na, os, ag, w I.len⟩
/-- the classes that a law of refusals looks at -/
structure RfK (K : PySem.W.Frag) (mg : Str → Option Value) : Prop where
  gR : mg "RisingError" = some (.ref (He.ga K "RisingError"))
  gN : mg "NoNumeral" = some (.ref (He.ga K "NoNumeral"))
  gO : mg "Overflow" = some (.ref (He.ga K "Overflow"))
  gU : mg "Unlike" = some (.ref (He.ga K "Unlike"))
  g_isi : mg "isinstance" = none
  g_VE : mg "ValueError" = none
  ex : PySem.W.exmOne K (.ref (He.ga K "NoNumeral")) (.ref (He.ga K "RisingError")) = some true
  xk : ExK K (He.ga K "NoNumeral")
  kN : PySem.W.kitOne K (.ref (He.ga K "NoNumeral")) (.ref (He.ga K "NoNumeral")) = some true
  kO : PySem.W.kitOne K (.ref (He.ga K "NoNumeral")) (.ref (He.ga K "Overflow")) = some false
  kU : PySem.W.kitOne K (.ref (He.ga K "NoNumeral")) (.ref (He.ga K "Unlike")) = some false
  kV : PySem.W.kitOne K (.ref (He.ga K "NoNumeral")) (.type "ValueError") = some true
  no : PySem.W.findIn K (.ref (He.ga K "NoNumeral")) "at" = some none
/-- asked: it raises NoNumeral(None) -/
def TTref (K : PySem.W.Frag) : (XK → Hp → VK → Prop) → Hp → VK → Prop := fun tl H Q =>
  ∀ Qn : VK, tl (fun cls d H' => cls = .ref (He.ga K "NoNumeral") ∧ ∃ dd, d = some dd ∧ H' dd = some (.xd [("at", .non)]) ∧ ∀ H'', Same H' H'' → Q (.bl true) H'') H Qn
/-- okG, for a def that makes lambdas: which code object it has -/
theorem okGT {P : Program} {w : World} {K : PySem.W.Frag} {mg : Str → Option Value} {base : Heap} {CX : CXT} {x qual : Str} {params : Arguments} {body : List Stmt} {scope : Scope} {dvs : List V} {kws : List (Str × V)} {f : Addr} {fd : FuncData} {N ps : List Str} {k : Nat} {sp : Sp}
    (F : FunD K x qual params body scope dvs kws f fd) (S : FnScope N ps scope) (len : ∀ vs H Q E, sp vs H Q E → vs.length = ps.length)
    (hb : ∀ (c : Addr) (A : Around) (outer : List Env) (s : Shared) (H : Hp) (vs : List V) (Q : VK) (E : XK), (∀ p : Str × Option Str, He.fAd K p = f → He.codeOf K p = c) → A.guards = some [] → Room k (A.deeper (envOfC qual scope s.heap.objs.size f (.ref c))) → sp vs H Q E →
      ∃ t, PSs (cxOf CX P w K mg base N qual scope f (.ref c) A outer s H E) body t ∧ t { nx := fun _ H' => Q .non H', rt := Q } (start N vs) H) : FnG P w K mg base CX (k + 1) f fd ps sp := by
  obtain ⟨_, _, _, _, _, _, _, code, _, _, e, lk, hcd, _⟩ := F.ex
  subst e
  obtain ⟨c, e⟩ := He.codeIn_ref hcd
  subst e
  exact ⟨len, fun A outer s H args us vs Q E g r e0 b v h => LamX.run_ofS lk hcd S r e0 b v (len vs H Q E h) fun r' => hb c A outer s H vs Q E (fun p e => He.codeOf_eq (by rw [e]; exact lk) rfl) g r' h⟩
end Ru

set_option Elab.async false
set_option linter.all false
set_option maxRecDepth 100000
set_option maxHeartbeats 2000000
namespace Ru
open PySem PySem.Spec PyProof.Rows L2
/-! ### a menu of values beside a pen and a row of numbers -/
structure Bag (K : PySem.W.Frag) (d l p : Addr) (cells zs : List Int) (a r : Int) (H0 H : Hp) (vs : List V) (ds : List PyData) : Prop where
  bt : Bt d H0 H
  pen : PenL H d l cells a r
  row : H p = some (.lst (zs.map V.int))
  ne : p ≠ d
  all : DqA K d H vs ds
section
variable {K : PySem.W.Frag} {d l p : Addr} {cells zs : List Int} {a r : Int} {H0 H H' : Hp} {vs : List V} {ds : List PyData}
theorem Bag.same (s : Same H H') (b : Bag K d l p cells zs a r H0 H vs ds) : Bag K d l p cells zs a r H0 H' vs ds := ⟨b.bt.trans (.of s), b.pen.same s, s _ _ b.row, b.ne, b.all.same s⟩
theorem Bag.add (b : Bag K d l p cells zs a r H0 H vs ds) (s : Same H H') {v : V} {x : PyData} (h : Dq K d H' v x) : Bag K d l p cells zs a r H0 H' (vs ++ [v]) (ds ++ [x]) :=
  ⟨b.bt.trans (.of s), b.pen.same s, s _ _ b.row, b.ne, (b.all.same s).app (.cons h .nil)⟩
theorem Bag.put (b : Bag K d l p cells zs a r H0 H vs ds) {v : V} {x : PyData} (h : Dq K d H v x) : Bag K d l p cells zs a r H0 H (vs ++ [v]) (ds ++ [x]) := b.add (Same.refl _) h
theorem Bag.off (b : Bag K d l p cells zs a r H0 H vs ds) {q : Addr} (h : H q = none) : q ≠ d := (ne_of_none b.pen.dk h).symm
theorem Bag.rowD (b : Bag K d l p cells zs a r H0 H vs ds) : Dq K d H (.ref p) (.list (intsD zs)) := .lst (SqL.of b.row) b.ne dq_ints
/-- one of the menu is picked -/
theorem Bag.pick (b : Bag K d l p cells zs a r H0 H vs ds) (s : Bt d H H') {j : Nat} {v : V} (hj : vs[j]? = some v) : ∃ x, x ∈ ds ∧ Dq K d H' v x := by
  obtain ⟨x, h1, h2⟩ := b.all.get hj
  exact ⟨x, List.mem_of_getElem? h1, h2.bt s⟩
end
theorem cutTo {xs : List V} {n : Nat} (h : n ≤ xs.length) : cutV xs none (some (n : Int)) = xs.take n := by
  unfold cutV
  rw [show HT.sIx xs.length 0 none = 0 from rfl, HT.sIx_nat, Nat.min_eq_left h, List.drop_zero, Nat.sub_zero]
theorem cutFrom {xs : List V} {n : Nat} (h : n ≤ xs.length) : cutV xs (some (n : Int)) none = xs.drop n := by
  unfold cutV
  rw [HT.sIx_nat, Nat.min_eq_left h, show HT.sIx xs.length xs.length none = xs.length from rfl, List.take_of_length_le (by rw [List.length_drop]; exact Nat.le_refl _)]
theorem cutTop {xs : List V} {n : Nat} (h : xs.length ≤ n) : cutV xs none (some (n : Int)) = xs := by
  unfold cutV
  rw [show HT.sIx xs.length 0 none = 0 from rfl, HT.sIx_nat, Nat.min_eq_right h, List.drop_zero, Nat.sub_zero, List.take_length]
theorem basesD_long {ds : List PyData} (h : 4 < ds.length) : basesD (.list ds) = false ∧ basesD (.tuple ds) = false := by
  have e : (decide (1 ≤ ds.length) && decide (ds.length ≤ 4) && ds.all baseD) = false := by
    rw [decide_eq_false (by omega : ¬ ds.length ≤ 4), Bool.and_false, Bool.false_and]
  exact ⟨e, e⟩
theorem basesD_odd {ds : List PyData} {x : PyData} (hm : x ∈ ds) (h : baseD x = false) : basesD (.list ds) = false ∧ basesD (.tuple ds) = false := by
  have e0 : ds.all baseD = false := by
    cases q : ds.all baseD with
    | false => rfl
    | true =>
      have z := List.all_eq_true.mp q x hm
      rw [h] at z
      cases z
  have e : (decide (1 ≤ ds.length) && decide (ds.length ≤ 4) && ds.all baseD) = false := by rw [e0, Bool.and_false]
  exact ⟨e, e⟩
end Ru

set_option Elab.async false
set_option linter.all false
set_option maxRecDepth 100000
set_option maxHeartbeats 2000000
namespace Ru
open PySem PySem.Spec PyProof.Rows L2
/-! ### digits beside bases -/
def lenD : PyData → Nat
  | .list ds => ds.length
  | .tuple ds => ds.length
  | _ => 0
/-- as many digits as bases, in a tuple or a list -/
def longD (x y : PyData) : Bool := basesD y && (seqD x && decide (lenD x = lenD y))
def spLong (K : PySem.W.Frag) : Sp := fun vs H Q _ => ∃ (v u : V) (d e : Addr) (x y : PyData), vs = [v, u] ∧ Dq K d H v x ∧ Dq K e H u y ∧ ∀ H', Same H H' → Q (.bl (longD x y)) H'
/-- what len asks of a list or a tuple, as call_len_seq takes it -/
theorem Dq.len {K : PySem.W.Frag} {d : Addr} {H : Hp} {v : V} {x : PyData} (h : Dq K d H v x) (hs : seqD x = true) : ∃ a xs, v = .ref a ∧ (SqL K H a xs ∨ Rd H a (.tup xs)) ∧ xs.length = lenD x := by
  cases h with
  | lst h _ r => exact ⟨_, _, rfl, .inl h, r.length⟩
  | tup h _ r => exact ⟨_, _, rfl, .inr h, r.length⟩
  | _ => cases hs
theorem basesD_seq {y : PyData} (h : basesD y = true) : seqD y = true := by
  cases y <;> first | rfl | cases h
end Ru

set_option Elab.async false
set_option linter.all false
set_option maxRecDepth 100000
set_option maxHeartbeats 4000000
namespace K06
open PySem PySem.Spec PyProof.Rows L2 Ru
theorem sc_long : FnScope ["digits", "bases"] ["digits", "bases"] (defScope sIsAsLong) := ⟨rfl, rfl, rfl, by decide +kernel, rfl, by decide +kernel, by decide +kernel⟩
section
variable {P : Program} {w : World} {K : PySem.W.Frag} {mg : Str → Option Value} {base : Heap}
theorem ok_long {f : Addr} {fd : FuncData} (F : FunD K "_is_as_long" "_is_as_long" (defArgs sIsAsLong) (defBody sIsAsLong) (defScope sIsAsLong) [] [] f fd) (CB : Cd P w K mg base CX0 2 "is_bases" ["thing"] (spIsB K)) (CS : Cd P w K mg base CX0 1 "is_sequence" ["thing"] (spSeq K)) (g_len : mg "len" = none) :
    FnOk P w K mg base CX0 3 f fd ["digits", "bases"] (spLong K) := by
  refine F.ok sc_long (fun vs H Q E h => ?_) (fun cdv A outer s H vs Q E hr h => ?_)
  · obtain ⟨v, u, d, e, x, y, rfl, _⟩ := h
    rfl
  · obtain ⟨v, u, d, e, x, y, rfl, hx, hy, q⟩ := h
    refine ⟨_, PSs.nox (pss_one (ps_ret (pe_and (pe_cd CB hr (by rfl) pass0 (pa_cons (pv 1) pa_nil)) (pe_and (pe_cd CS (hr.mono (by decide)) (by rfl) pass0 (pa_cons (pv 0) pa_nil))
      (pe_one (pe_cmpR op_eq (pe_callB call_len_seq (by rfl) g_len PySem.boot_len (pa_cons (pv 0) pa_nil)) (pe_callB call_len_seq (by rfl) g_len PySem.boot_len (pa_cons (pv 1) pa_nil)) (nomark _))))))), ?_⟩
    refine ⟨_, rfl, u, e, y, rfl, hy, fun H1 s1 => ⟨_, rfl, ?_⟩⟩
    cases hb : basesD y with
    | false =>
      have z := q H1 s1
      rw [longD, hb, Bool.false_and] at z
      exact iteF z
    | true =>
      refine iteT ⟨_, rfl, v, d, x, rfl, hx.same s1, fun H2 s2 => ⟨_, rfl, ?_⟩⟩
      have z := q H2 (s1.trans s2)
      rw [longD, hb, Bool.true_and] at z
      cases hs : seqD x with
      | false =>
        rw [hs, Bool.false_and] at z
        exact iteF z
      | true =>
        rw [hs, Bool.true_and] at z
        obtain ⟨a, xs, rfl, h1, l1⟩ := ((hx.same s1).same s2).len hs
        obtain ⟨b, ys, rfl, h2, l2⟩ := ((hy.same s1).same s2).len (basesD_seq hb)
        refine iteT ⟨_, rfl, a, xs, rfl, h1.imp id .inl, _, rfl, b, ys, rfl, h2.imp id .inl, rfl, ?_⟩
        have e : decide (V.int (xs.length : Int) = V.int (ys.length : Int)) = decide (lenD x = lenD y) := by
          rw [l1, l2]
          by_cases c : lenD x = lenD y
          · rw [c, decide_eq_true rfl, decide_eq_true rfl]
          · rw [decide_eq_false c, decide_eq_false (fun z => c (by injection z with z; omega))]
        show Q (V.bl (decide (V.int (xs.length : Int) = V.int (ys.length : Int)))) H2
        rw [e]
        exact z
end
end K06

set_option Elab.async false
set_option linter.all false
set_option maxRecDepth 100000
set_option maxHeartbeats 4000000
namespace Ru
open PySem PySem.Spec PyProof.Rows L2
/-! ### zip and enumerate over lists and tuples alike -/
/-- a tuple (true), a list (false), as the promises speak of it -/
def SqA (K : PySem.W.Frag) (b : Bool) (H : Hp) (a : Addr) (xs : List V) : Prop := match b with
  | true => SqT K H a xs
  | false => SqL K H a xs
/-- .. and as the heap holds it -/
def RawA (b : Bool) (h : Heap) (a : Addr) (us : Array Value) : Prop := match b with
  | true => h.IsTuple a us
  | false => h.IsList a us
/-- its iterator has given i items -/
def AtA (b : Bool) (h : Heap) (it a : Addr) (i : Nat) : Prop := match b with
  | true => h.IsTupleIter it a i
  | false => h.IsListIter it a i
theorem SqA.raw {X : Cx} {pins : List (Addr × Obj)} {σ : L2.St} {H : Hp} {s : Shared} {b : Bool} {a : Addr} {xs : List V} (I : Inv X pins σ H s) (h : SqA X.K b H a xs) : ∃ us, Vals xs us ∧ RawA b s.heap a us.toArray := by
  cases b with
  | true =>
    obtain ⟨us, r, p, _⟩ := I.tuple h
    exact ⟨us, r, p⟩
  | false =>
    obtain ⟨us, r, p, _⟩ := I.list h
    exact ⟨us, r, p.isList⟩
theorem SqA.same {K : PySem.W.Frag} {H H' : Hp} {b : Bool} {a : Addr} {xs : List V} (s : Same H H') (h : SqA K b H a xs) : SqA K b H' a xs := by
  cases b with
  | true => exact h.imp (fun q => q.elim (fun q => .inl (s _ _ q)) fun ⟨o, q⟩ => .inr ⟨o, s _ _ q⟩) id
  | false => exact s.seq h
theorem drawsA {prog : Program} {w : World} {A : Around} (b : Bool) (hh : A.handled = none) (it a : Addr) (ne : a ≠ it) (us : Array Value) :
    Draws prog w A it [it, a] us.size (fun i v => us[i]? = some v) (fun i h => AtA b h it a i ∧ RawA b h a us) := by
  cases b with
  | true => exact Draws.tuple hh it a ne us
  | false => exact Draws.list hh it a ne us
theorem RawA.live {b : Bool} {h : Heap} {a : Addr} {us : Array Value} (r : RawA b h a us) : ∃ o, h.get? a = some o := by
  cases b with
  | true =>
    obtain ⟨o, e, _⟩ := (show h.IsTuple a us from r)
    exact ⟨o, e⟩
  | false =>
    obtain ⟨o, e, _⟩ := (show h.IsList a us from r)
    exact ⟨o, e⟩
theorem AtA.cell {b : Bool} {h : Heap} {it a : Addr} {i : Nat} (r : AtA b h it a i) : ∃ o, h.get? it = some o ∧ ∀ v, o.data ≠ .cell v := by
  cases b with
  | true =>
    obtain ⟨o, e, _, d⟩ := (show h.IsTupleIter it a i from r)
    exact ⟨o, e, fun v q => by rw [d] at q; cases q⟩
  | false =>
    obtain ⟨o, e, _, d⟩ := (show h.IsListIter it a i from r)
    exact ⟨o, e, fun v q => by rw [d] at q; cases q⟩
theorem AtA.keep {b : Bool} {h h' : Heap} {it a : Addr} {i : Nat} (r : AtA b h it a i) (k : ∀ o, h.get? it = some o → h'.get? it = some o) : AtA b h' it a i := by
  cases b with
  | true => exact Heap.IsTupleIter.at r k
  | false => exact Heap.IsListIter.at r k
/-- iter(..) of it: the new object -/
def newA (b : Bool) (a : Addr) : Obj := match b with
  | true => { cls := .type "tuple_iterator", data := .fields #[.ref a, .int 0 0] }
  | false => { cls := .type "list_iterator", data := .fields #[.ref a, .int 0 0] }
theorem beginsA (b : Bool) (a : Addr) (us : Array Value) : Begins (.ref a) (newA b a) fun h => RawA b h a us := by
  cases b with
  | true => exact begins_tuple a us
  | false => exact begins_list a us
theorem newA_at {b : Bool} {h : Heap} {it a : Addr} (e : h.get? it = some (newA b a)) : AtA b h it a 0 := by
  cases b with
  | true => exact ⟨_, e, rfl, rfl⟩
  | false => exact ⟨_, e, rfl, rfl⟩
/-- pairs of what stands at the same place in two rows -/
def ItZA (K : PySem.W.Frag) (b1 b2 : Bool) (a c : Addr) (xs ys : List V) : It :=
  ⟨fun i H => i < min xs.length ys.length ∧ SqA K b1 H a xs ∧ SqA K b2 H c ys, YPair (fun i => xs[i]?) (fun i => ys[i]?), fun i H => i = min xs.length ys.length ∧ SqA K b1 H a xs ∧ SqA K b2 H c ys⟩
theorem walk_zipA {K : PySem.W.Frag} {b1 b2 : Bool} {a c : Addr} {xs ys : List V} : Walk (ItZA K b1 b2 a c xs ys) (min xs.length ys.length) (fun H => SqA K b1 H a xs ∧ SqA K b2 H c ys) (YPair (fun i => xs[i]?) (fun i => ys[i]?)) :=
  ⟨fun _ _ h g => ⟨h, g⟩, fun _ g => ⟨rfl, g⟩, fun _ _ _ _ _ _ y => y⟩
/-- each item with its number -/
def ItEA (K : PySem.W.Frag) (b : Bool) (a : Addr) (xs : List V) : It :=
  ⟨fun i H => i < xs.length ∧ SqA K b H a xs, YPair (fun i => some (.int (i : Nat))) (fun i => xs[i]?), fun i H => i = xs.length ∧ SqA K b H a xs⟩
theorem walk_enumA {K : PySem.W.Frag} {b : Bool} {a : Addr} {xs : List V} : Walk (ItEA K b a xs) xs.length (fun H => SqA K b H a xs) (YPair (fun i => some (.int (i : Nat))) (fun i => xs[i]?)) :=
  ⟨fun _ _ h g => ⟨h, g⟩, fun _ g => ⟨rfl, g⟩, fun _ _ _ _ _ _ y => y⟩
section
variable {P : Program} {w : World} {K : PySem.W.Frag} {elts : List Expr} {kk : Nat} {tpos : Pos}
/-- the new pair is tracked -/
theorem pair_in {X : Cx} {pins : List (Addr × Obj)} {σ : L2.St} {H : Hp} {s : Shared} {h' : Heap} {tk : Nat} {ch : List Addr} {T : Addr} {x y : V} {u v : Value} (I : Inv X pins σ H s) (k : ∀ b o, b ∉ ch → s.heap.get? b = some o → h'.get? b = some o)
    (hf : ∀ b ∈ ch, FpOk X pins H b) (hT : s.heap.objs.size ≤ T) (rx : RelV x u) (ry : RelV y v) (p : h'.IsTuple T #[u, v]) : Inv X pins σ (upd H T (.tup [x, y])) { s with heap := h', toks := tk } :=
  I.turnedNew (ch := ch) k hf hT ⟨by show 2 ≤ sizeLine; decide, [u, v], .cons rx (.cons ry .nil), p⟩
theorem turn_zipA {b1 b2 : Bool} {a c z TI TO i1 i2 : Addr} {xs ys : List V} (S : ZipSep2 z TI TO i1 i2 [i1, a] [i2, c]) (n1 : a ≠ i1) (n2 : c ≠ i2) :
    Turn P w K (.Tuple elts kk tpos) (ItZA K b1 b2 a c xs ys) [z, TI, TO, i1, i2] z
      (fun i h => IsZip h z TI TO .none ∧ IsTupOf2 h TI (.ref i1) (.ref i2) ∧ (∃ p q, IsTupOf2 h TO p q) ∧ AtA b1 h i1 a i ∧ AtA b2 h i2 c i) where
  mem := List.mem_cons_self
  obj := fun i h st b hb => by
    obtain ⟨hz, hI, ⟨p, q, hO⟩, h1, h2⟩ := st
    rcases List.mem_cons.mp hb with e | hb
    · exact e ▸ ⟨_, hz, fun v q => nomatch q⟩
    rcases List.mem_cons.mp hb with e | hb
    · exact e ▸ ⟨_, hI, fun v q => nomatch q⟩
    rcases List.mem_cons.mp hb with e | hb
    · exact e ▸ ⟨_, hO, fun v q => nomatch q⟩
    rcases List.mem_cons.mp hb with e | hb
    · exact e ▸ h1.cell
    · exact List.mem_singleton.mp hb ▸ h2.cell
  keep := fun i h h' st k => by
    obtain ⟨hz, hI, ⟨p, q, hO⟩, h1, h2⟩ := st
    exact ⟨k z (by simp) _ hz, k TI (by simp) _ hI, ⟨p, q, k TO (by simp) _ hO⟩, h1.keep (k i1 (by simp)), h2.keep (k i2 (by simp))⟩
  item := by
    intro X eP ew eK hc i pins s σ H E I hf st hg
    subst eP ew eK
    obtain ⟨hz, hI, hO, h1, h2⟩ := st
    obtain ⟨hi, q1, q2⟩ := hg
    obtain ⟨us, r1, p1⟩ := q1.raw I
    obtain ⟨vs, r2, p2⟩ := q2.raw I
    have hh : X.A.in1.handled = none := I.ok.hd hc
    have l1 := r1.length
    have l2 := r2.length
    refine (GoesN.zip2 (elts := elts) (x1 := kk) (pos := tpos) (A := X.A) S (drawsA b1 hh i1 a n1 us.toArray) (drawsA b2 hh i2 c n2 vs.toArray)).goes i s (fun u s2 => ∃ x H', Inv X pins σ H' s2 ∧ RelV x u ∧ YPair (fun i => xs[i]?) (fun i => ys[i]?) i H x H' ∧
      (IsZip s2.heap z TI TO .none ∧ IsTupOf2 s2.heap TI (.ref i1) (.ref i2) ∧ (∃ p q, IsTupOf2 s2.heap TO p q) ∧ AtA b1 s2.heap i1 a (i + 1) ∧ AtA b2 s2.heap i2 c (i + 1)) ∧ ∀ b ∈ [z, TI, TO, i1, i2], H' b = none) E
      (by simp only [List.size_toArray]; omega) ⟨hz, hI, hO, ⟨h1, p1⟩, ⟨h2, p2⟩⟩ fun v h' tk hY st' hk _ => ?_
    obtain ⟨T, u, v', rfl, hT, hu, hv, pT⟩ := hY
    obtain ⟨z', I', O', ⟨h1', _⟩, ⟨h2', _⟩⟩ := st'
    have j1 : i < xs.length := by omega
    have j2 : i < ys.length := by omega
    obtain ⟨u0, e1, ru⟩ := r1.get (List.getElem?_eq_getElem j1)
    obtain ⟨v0, e2, rv⟩ := r2.get (List.getElem?_eq_getElem j2)
    have f1 : us[i]? = some u := by simpa using hu
    have f2 : vs[i]? = some v' := by simpa using hv
    rw [e1] at f1
    rw [e2] at f2
    cases f1
    cases f2
    refine ⟨.ref T, _, pair_in I (ch := [z, TI, TO, i1, i2]) (fun b o nb e => hk b o (fun m => nb ?_) e) hf hT ru rv pT, rfl, ⟨T, _, _, rfl, I.hok.fresh hT, rfl, List.getElem?_eq_getElem j1, List.getElem?_eq_getElem j2⟩, ⟨z', I', O', h1', h2'⟩, fun b hb => ?_⟩
    · simp only [List.mem_cons, List.not_mem_nil, or_false] at m ⊢
      rcases m with m | m | m | m <;> simp [m]
    · have lt : b < s.heap.objs.size := by
        obtain ⟨p, q, hO⟩ := hO
        obtain ⟨o1, e1, _⟩ := h1.cell
        obtain ⟨o2, e2, _⟩ := h2.cell
        simp only [List.mem_cons, List.not_mem_nil, or_false] at hb
        rcases hb with m | m | m | m | m
        · exact m ▸ Heap.lt_size hz
        · exact m ▸ Heap.lt_size hI
        · exact m ▸ Heap.lt_size hO
        · exact m ▸ Heap.lt_size e1
        · exact m ▸ Heap.lt_size e2
      rw [upd_ne (Nat.ne_of_lt (Nat.lt_of_lt_of_le lt hT))]
      exact (hf b hb).1
  done := by
    intro X eP ew eK hc i pins s σ H E I hf st hg
    subst eP ew eK
    obtain ⟨hz, hI, hO, h1, h2⟩ := st
    obtain ⟨hi, q1, q2⟩ := hg
    obtain ⟨us, r1, p1⟩ := q1.raw I
    obtain ⟨vs, r2, p2⟩ := q2.raw I
    have hh : X.A.in1.handled = none := I.ok.hd hc
    have l1 := r1.length
    have l2 := r2.length
    have en : i = min us.toArray.size vs.toArray.size := by
      simp only [List.size_toArray]
      omega
    subst en
    refine (GoesN.zip2 (elts := elts) (x1 := kk) (pos := tpos) (A := X.A) S (drawsA b1 hh i1 a n1 us.toArray) (drawsA b2 hh i2 c n2 vs.toArray)).stops s (fun s2 => Inv X pins σ H s2) E ⟨hz, hI, hO, ⟨h1, p1⟩, ⟨h2, p2⟩⟩ fun h' tk hk _ => ?_
    refine I.turnedL (ch := [z, TI, TO, i1, i2]) (fun b o nb e => hk b o (fun m => nb ?_) e) hf
    simp only [List.mem_cons, List.not_mem_nil, or_false] at m ⊢
    rcases m with m | m | m | m <;> simp [m]
  self := fun A i s Q E st h => wpAny_pyIter_zip st.1 h
theorem turn_enumA {b : Bool} {a e it : Addr} {xs : List V} (ne : e ≠ it) (n1 : a ≠ it) (n2 : e ≠ a) :
    Turn P w K (.Tuple elts kk tpos) (ItEA K b a xs) [e, it] e (fun i h => (∃ old, IsEnum h e it (0 + (i : Int)) old) ∧ AtA b h it a i) where
  mem := List.mem_cons_self
  obj := fun i h st c hb => by
    obtain ⟨⟨old, he⟩, h1⟩ := st
    rcases List.mem_cons.mp hb with q | hb
    · exact q ▸ ⟨_, he, fun v q => nomatch q⟩
    · exact List.mem_singleton.mp hb ▸ h1.cell
  keep := fun i h h' st k => by
    obtain ⟨⟨old, he⟩, h1⟩ := st
    exact ⟨⟨old, k e (by simp) _ he⟩, h1.keep (k it (by simp))⟩
  item := by
    intro X eP ew eK hc i pins s σ H E I hf st hg
    subst eP ew eK
    obtain ⟨he, h1⟩ := st
    obtain ⟨hi, q1⟩ := hg
    obtain ⟨us, r1, p1⟩ := q1.raw I
    have hh : X.A.in1.handled = none := I.ok.hd hc
    have l1 := r1.length
    refine (GoesN.enumFrom (elts := elts) (x1 := kk) (pos := tpos) (A := X.A) 0 (drawsA b hh it a n1 us.toArray) e ne (by simp [ne, n2]) (by simp)).goes i s (fun u s2 => ∃ x H', Inv X pins σ H' s2 ∧ RelV x u ∧ YPair (fun i => some (.int (i : Nat))) (fun i => xs[i]?) i H x H' ∧
      ((∃ old, IsEnum s2.heap e it (0 + ((i + 1 : Nat) : Int)) old) ∧ AtA b s2.heap it a (i + 1)) ∧ ∀ c ∈ [e, it], H' c = none) E
      (by simp only [List.size_toArray]; omega) ⟨he, h1, p1⟩ fun v h' tk hY st' hk _ => ?_
    obtain ⟨T, t, u, rfl, hT, hu, pT⟩ := hY
    obtain ⟨e', h1', _⟩ := st'
    have j1 : i < xs.length := by omega
    obtain ⟨u0, e1, ru⟩ := r1.get (List.getElem?_eq_getElem j1)
    have f1 : us[i]? = some u := by simpa using hu
    rw [e1] at f1
    cases f1
    rw [show (0 : Int) + (i : Int) = ((i : Nat) : Int) by omega] at pT
    refine ⟨.ref T, _, pair_in I (ch := [e, it]) hk hf hT (x := .int (i : Nat)) ⟨t, rfl⟩ ru pT, rfl, ⟨T, _, _, rfl, I.hok.fresh hT, rfl, rfl, List.getElem?_eq_getElem j1⟩, ⟨e', h1'⟩, fun c hb => ?_⟩
    have lt : c < s.heap.objs.size := by
      obtain ⟨old, he⟩ := he
      obtain ⟨o1, e1, _⟩ := h1.cell
      simp only [List.mem_cons, List.not_mem_nil, or_false] at hb
      rcases hb with m | m
      · exact m ▸ Heap.lt_size he
      · exact m ▸ Heap.lt_size e1
    rw [upd_ne (Nat.ne_of_lt (Nat.lt_of_lt_of_le lt hT))]
    exact (hf c hb).1
  done := by
    intro X eP ew eK hc i pins s σ H E I hf st hg
    subst eP ew eK
    obtain ⟨he, h1⟩ := st
    obtain ⟨hi, q1⟩ := hg
    obtain ⟨us, r1, p1⟩ := q1.raw I
    have hh : X.A.in1.handled = none := I.ok.hd hc
    have l1 := r1.length
    have en : i = us.toArray.size := by
      simp only [List.size_toArray]
      omega
    subst en
    exact (GoesN.enumFrom (elts := elts) (x1 := kk) (pos := tpos) (A := X.A) 0 (drawsA b hh it a n1 us.toArray) e ne (by simp [ne, n2]) (by simp)).stops s (fun s2 => Inv X pins σ H s2) E ⟨he, h1, p1⟩ fun h' tk hk _ => I.turnedL (ch := [e, it]) hk hf
  self := fun A i s Q E st h => let ⟨⟨_, he⟩, _⟩ := st; wpAny_pyIter_enum he h
end
/-- enumerate(v) of one argument begins -/
theorem meets_enumA {v : Value} {o : Obj} {G : Heap → Prop} (B : Begins v o G) :
    Meets (Builtin.«enumerate.__new__» ⟨[.type "enumerate", v], []⟩) (fun _ R s => G s.heap ∧
      R (.ok (.ret (.ref (s.heap.push o).objs.size))) { s with heap := (s.heap.push o).push { cls := .type "enumerate", data := .fields #[.none, .bool false, .ref s.heap.objs.size, rawInt 0, .none, .none] } }) :=
  .of_wp fun prog w A R s h => by
    obtain ⟨hp, g, d, tk, os⟩ := s
    obtain ⟨h1, h⟩ := h
    have hsub := sub_enumerate
    have q1 : ∀ {A' : Around} {E : Value → Shared → Prop} {Q : Value → Shared → Prop}, Q (.ref hp.objs.size) ⟨hp.push o, g, d, tk, os⟩ → wpAny (model prog w) A' (pyIter v) Q E ⟨hp, g, d, tk, os⟩ := fun q => B.iter prog w _ _ _ _ h1 q
    wp_walk using q1
    first
      | exact ⟨_, rfl, h⟩
      | (refine wpAny_stack_any fun st => wpAny_pure ?_
         split
         · rename_i c _ _ _ _ _
           cases (c == Value.type "enumerate")
           · wp_walk using q1
             exact ⟨_, rfl, h⟩
           · wp_walk using q1
             exact ⟨_, rfl, h⟩
         · wp_walk using q1
           exact ⟨_, rfl, h⟩)
end Ru

set_option Elab.async false
set_option linter.all false
set_option maxRecDepth 100000
set_option maxHeartbeats 4000000
namespace Ru
open PySem PySem.Spec PyProof.Rows L2
section
variable {prog : Program} {w : World} {A : Around} {E : Value → Shared → Prop} {s : Shared}
theorem enum_beginsA {v : Value} {o : Obj} {G : Heap → Prop} {Q : Value → Shared → Prop} (B : Begins v o G) (h1 : G s.heap)
    (h : ∀ h', IsEnum h' (s.heap.objs.size + 1) s.heap.objs.size 0 .none → h'.get? s.heap.objs.size = some o → (∀ b o, s.heap.get? b = some o → h'.get? b = some o) → Q (.ref (s.heap.objs.size + 1)) { s with heap := h' }) :
    wpAny (model prog w) A (call (.type "enumerate") [v]) Q E s := by
  refine callType_new F.called_enumerate (by decide) (F.typeCall_enumerate_1 _) (F.newCall_enumerate_1 _) (fun obj => F.args_object_init_2 obj _) F.entry_enumerate_new (meets_enumA B) ⟨h1, ?_⟩
  have z1 : (s.heap.push o).objs.size = s.heap.objs.size + 1 := Heap.size_push ..
  have g := Heap.get?_push_size (s.heap.push o) (o := { cls := .type "enumerate", data := .fields #[.none, .bool false, .ref s.heap.objs.size, rawInt 0, .none, .none] }) rfl
  rw [z1] at g
  show _ ∧ _
  rw [z1]
  exact ⟨⟨_, g, rfl⟩, h _ g (Heap.get?_push_of_some _ (Heap.get?_push_size _ B.free)) fun b o x => Heap.get?_push_of_some _ (Heap.get?_push_of_some _ x)⟩
end
section
variable {X : Cx} {e e2 : Expr} {ta : TA} {p pos tpos : Pos} {elts : List Expr} {kk : Nat}
theorem fresh_at {pins : List (Addr × Obj)} {σ : L2.St} {H H' : Hp} {s : Shared} (I : Inv X pins σ H s) (k : Nat) : FpOk X pins H (s.heap.objs.size + k) := I.fpOk (Nat.le_add_right _ _) (I.hok.fresh (Nat.le_add_right _ _))
/-- zip(v, w), each a list or a tuple -/
def iZipX (K : PySem.W.Frag) (ta : TA) : TI := fun σ H R => ta σ H fun vs H1 => ∃ (b1 b2 : Bool) (a c : Addr) (xs ys : List V), vs = [.ref a, .ref c] ∧ SqA K b1 H1 a xs ∧ SqA K b2 H1 c ys ∧ R (ItZA K b1 b2 a c xs ys) H1
theorem pi_zipX (hg : Gl X "zip") (hm : X.mg "zip" = none) (ha : PA X [e, e2] ta) (hs : starEach [e, e2] X.env = (false, eval e X.env) :: starEach [e2] X.env := by rfl) (hpl : (backTo pos (starEach [e2] X.env)).any (·.1) = false := by rfl) :
    PI X (.Tuple elts kk tpos) (.Call (.Name "zip" p) [e, e2] [] pos) (iZipX X.K ta) := by
  refine ⟨fun pins s σ H R I h => Call_ (ld_blt I hg hm PyProof.Rows.boot_zip (PyProof.Rows.callWith_type1 (thn (ha.run pos pins s σ H _ I h) fun us s1 hh => ?_) hs hpl))⟩
  obtain ⟨vs, H1, I1, r, b1, b2, a, c, xs, ys, ev, q1, q2, q⟩ := hh
  subst ev
  obtain ⟨u, v, rfl, ra, rc⟩ := vals2 r
  cases ra
  cases (show v = Value.ref c from rc)
  obtain ⟨ws, r1, p1⟩ := q1.raw I1
  obtain ⟨zs, r2, p2⟩ := q2.raw I1
  obtain ⟨oa, ea⟩ := p1.live
  obtain ⟨oc, ec⟩ := p2.live
  have la : a < s1.heap.objs.size := Heap.lt_size ea
  have lc : c < s1.heap.objs.size := Heap.lt_size ec
  refine zip_begins2 (beginsA b1 a ws.toArray) (beginsA b2 c zs.toArray) p1 p2 fun h' hz hI hO g1 g2 _ hk => wpAny_pyIter_zip hz ?_
  have I2 : Inv X pins σ H1 { s1 with heap := h' } := I1.kept (t' := s1.toks) hk
  have S := zip_sep2 (N := s1.heap.objs.size) (fp1 := [a]) (fp2 := [c]) (fun b m => List.mem_singleton.mp m ▸ la) (fun b m => List.mem_singleton.mp m ▸ lc)
  have n1 : a ≠ s1.heap.objs.size := Nat.ne_of_lt la
  have n2 : c ≠ s1.heap.objs.size + 1 := Nat.ne_of_lt (Nat.lt_succ_of_lt lc)
  refine ⟨s1.heap.objs.size + 4, [s1.heap.objs.size + 4, s1.heap.objs.size + 2, s1.heap.objs.size + 3, s1.heap.objs.size, s1.heap.objs.size + 1], _, _, H1, rfl, I2, turn_zipA S n1 n2, ⟨hz, hI, ⟨_, _, hO⟩, newA_at g1, newA_at g2⟩, fun b hb => ?_, q⟩
  have f0 := fresh_at (H' := H1) I1 0
  simp only [List.mem_cons, List.not_mem_nil, or_false] at hb
  rcases hb with m | m | m | m | m
  · exact m ▸ fresh_at (H' := H1) I1 4
  · exact m ▸ fresh_at (H' := H1) I1 2
  · exact m ▸ fresh_at (H' := H1) I1 3
  · exact m ▸ f0
  · exact m ▸ fresh_at (H' := H1) I1 1
/-- enumerate(v), a list or a tuple -/
def iEnumX (K : PySem.W.Frag) (ta : TA) : TI := fun σ H R => ta σ H fun vs H1 => ∃ (b : Bool) (a : Addr) (xs : List V), vs = [.ref a] ∧ SqA K b H1 a xs ∧ R (ItEA K b a xs) H1
theorem pi_enumX (hg : Gl X "enumerate") (hm : X.mg "enumerate" = none) (ha : PA X [e] ta) (hs : starEach [e] X.env = [(false, eval e X.env)] := by rfl) : PI X (.Tuple elts kk tpos) (.Call (.Name "enumerate" p) [e] [] pos) (iEnumX X.K ta) := by
  refine ⟨fun pins s σ H R I h => Call_ (ld_blt I hg hm boot_enumerate (PyProof.Rows.callWith_type1 (thn (ha.run pos pins s σ H _ I h) fun us s1 hh => ?_) hs rfl))⟩
  obtain ⟨vs, H1, I1, r, b, a, xs, ev, q1, q⟩ := hh
  subst ev
  obtain ⟨u, rfl, ra⟩ := r.one
  cases ra
  obtain ⟨ws, r1, p1⟩ := q1.raw I1
  obtain ⟨oa, ea⟩ := p1.live
  have la : a < s1.heap.objs.size := Heap.lt_size ea
  refine enum_beginsA (beginsA b a ws.toArray) p1 fun h' he g1 hk => wpAny_pyIter_enum he ?_
  have I2 : Inv X pins σ H1 { s1 with heap := h' } := I1.kept (t' := s1.toks) hk
  refine ⟨s1.heap.objs.size + 1, [s1.heap.objs.size + 1, s1.heap.objs.size], _, _, H1, rfl, I2, turn_enumA (Nat.succ_ne_self _) (Nat.ne_of_lt la) (Nat.ne_of_gt (Nat.lt_succ_of_lt la)), ⟨⟨_, he⟩, newA_at g1⟩, fun c hb => ?_, q⟩
  have f0 := fresh_at (H' := H1) I1 0
  simp only [List.mem_cons, List.not_mem_nil, or_false] at hb
  rcases hb with m | m
  · exact m ▸ fresh_at (H' := H1) I1 1
  · exact m ▸ f0
end
end Ru

set_option Elab.async false
set_option linter.all false
set_option maxRecDepth 100000
set_option maxHeartbeats 4000000
namespace Ru
open PySem PySem.Spec PyProof.Rows L2
/-! ### the order of tuples, also of tuples that hold tuples -/
def cmpI (a b : Int) : Ordering := if a < b then .lt else if a = b then .eq else .gt
def cmpN (a b : Nat) : Ordering := if a < b then .lt else if a = b then .eq else .gt
def lexG {α : Type} (c : α → α → Ordering) : List α → List α → Ordering
  | [], [] => .eq
  | [], _ :: _ => .lt
  | _ :: _, [] => .gt
  | a :: xs, b :: ys => match c a b with
    | .eq => lexG c xs ys
    | .lt => .lt
    | .gt => .gt
inductive Ko | lt | le | gt | ge
def Ko.op : Ko → CmpOp
  | .lt => .Lt
  | .le => .LtE
  | .gt => .Gt
  | .ge => .GtE
def Ko.ans : Ko → Ordering → Bool
  | .lt, .lt => true
  | .le, .lt => true
  | .le, .eq => true
  | .gt, .gt => true
  | .ge, .gt => true
  | .ge, .eq => true
  | _, _ => false
theorem rc_int (k : Ko) {A : Around} {s : Shared} (a b : Int) (t u : Tok) : Ob.RcOp k.op A s (.int a t) (.int b u) (k.ans (cmpI a b)) := by
  have h : a < b ∨ a = b ∨ b < a := by omega
  cases k with
  | lt =>
    have e : Ko.lt.ans (cmpI a b) = decide (a < b) := by
      unfold cmpI
      rcases h with h | h | h
      · rw [if_pos h, decide_eq_true h]; rfl
      · rw [if_neg (by omega), if_pos h, decide_eq_false (by omega)]; rfl
      · rw [if_neg (by omega), if_neg (by omega), decide_eq_false (by omega)]; rfl
    rw [e]
    exact Ob.RcOp.lt_int a b t u
  | gt =>
    have e : Ko.gt.ans (cmpI a b) = decide (b < a) := by
      unfold cmpI
      rcases h with h | h | h
      · rw [if_pos h, decide_eq_false (by omega)]; rfl
      · rw [if_neg (by omega), if_pos h, decide_eq_false (by omega)]; rfl
      · rw [if_neg (by omega), if_neg (by omega), decide_eq_true h]; rfl
    rw [e]
    exact Ob.RcOp.gt_int a b t u
  | le =>
    have e : Ko.le.ans (cmpI a b) = decide (a ≤ b) := by
      unfold cmpI
      rcases h with h | h | h
      · rw [if_pos h, decide_eq_true (by omega)]; rfl
      · rw [if_neg (by omega), if_pos h, decide_eq_true (by omega)]; rfl
      · rw [if_neg (by omega), if_neg (by omega), decide_eq_false (by omega)]; rfl
    rw [e]
    exact Ob.RcOp.le_int a b t u
  | ge =>
    have e : Ko.ge.ans (cmpI a b) = decide (b ≤ a) := by
      unfold cmpI
      rcases h with h | h | h
      · rw [if_pos h, decide_eq_false (by omega)]; rfl
      · rw [if_neg (by omega), if_pos h, decide_eq_true (by omega)]; rfl
      · rw [if_neg (by omega), if_neg (by omega), decide_eq_true (by omega)]; rfl
    rw [e]
    exact Ob.RcOp.ge_int a b t u
section
variable {α : Type} {c : α → α → Ordering}
/-- whether the two at place i are alike -/
def eAt (c : α → α → Ordering) (xs ys : List α) (i : Nat) : Bool := match xs[i]?, ys[i]? with
  | some x, some y => decide (c x y = .eq)
  | _, _ => true
def rAt (k : Ko) (c : α → α → Ordering) (xs ys : List α) (i : Nat) : Bool := match xs[i]?, ys[i]? with
  | some x, some y => k.ans (c x y)
  | _, _ => true
theorem lexAt_lex (k : Ko) (xs ys : List α) : ∀ (n i : Nat), i + n = min xs.length ys.length →
    Ob.lexAt (eAt c xs ys) (rAt k c xs ys) (k.ans (cmpN xs.length ys.length)) i n = k.ans (lexG c (xs.drop i) (ys.drop i))
  | 0, i, h => by
    rw [Ob.lexAt_zero]
    have e : cmpN xs.length ys.length = lexG c (xs.drop i) (ys.drop i) := by
      unfold cmpN
      by_cases h1 : xs.length < ys.length
      · rw [if_pos h1, List.drop_of_length_le (by omega : xs.length ≤ i), List.drop_eq_getElem_cons (by omega : i < ys.length)]
        rfl
      · by_cases h2 : xs.length = ys.length
        · rw [if_neg h1, if_pos h2, List.drop_of_length_le (by omega : xs.length ≤ i), List.drop_of_length_le (by omega : ys.length ≤ i)]
          rfl
        · rw [if_neg h1, if_neg h2, List.drop_of_length_le (by omega : ys.length ≤ i), List.drop_eq_getElem_cons (by omega : i < xs.length)]
          rfl
    rw [e]
  | n + 1, i, h => by
    have h1 : i < xs.length := by omega
    have h2 : i < ys.length := by omega
    rw [Ob.lexAt_succ, List.drop_eq_getElem_cons h1, List.drop_eq_getElem_cons h2]
    have ee : eAt c xs ys i = decide (c xs[i] ys[i] = .eq) := by
      unfold eAt
      rw [List.getElem?_eq_getElem h1, List.getElem?_eq_getElem h2]
    have er : rAt k c xs ys i = k.ans (c xs[i] ys[i]) := by
      unfold rAt
      rw [List.getElem?_eq_getElem h1, List.getElem?_eq_getElem h2]
    have ih := lexAt_lex k xs ys n (i + 1) (by omega)
    rw [ee, er]
    cases q : c xs[i] ys[i] with
    | eq =>
      rw [if_pos (by decide), ih]
      show _ = k.ans (match c xs[i] ys[i] with | .eq => lexG c (xs.drop (i + 1)) (ys.drop (i + 1)) | .lt => .lt | .gt => .gt)
      rw [q]
    | lt =>
      rw [if_neg (by decide)]
      show _ = k.ans (match c xs[i] ys[i] with | .eq => lexG c (xs.drop (i + 1)) (ys.drop (i + 1)) | .lt => .lt | .gt => .gt)
      rw [q]
    | gt =>
      rw [if_neg (by decide)]
      show _ = k.ans (match c xs[i] ys[i] with | .eq => lexG c (xs.drop (i + 1)) (ys.drop (i + 1)) | .lt => .lt | .gt => .gt)
      rw [q]
theorem rc_lex (k : Ko) {A : Around} {s : Shared} {l b : Addr} {us vs : Array Value} {xs ys : List α} (hl : s.heap.IsTuple l us) (hb : s.heap.IsTuple b vs) (hu : A.units < cLine) (n1 : us.size = xs.length) (n2 : vs.size = ys.length)
    (he : ∀ j (h1 : j < us.size) (h2 : j < vs.size) x y, xs[j]? = some x → ys[j]? = some y → SeqAt.EqAt A.in1 s us[j] vs[j] (decide (c x y = .eq)))
    (hr : ∀ j (h1 : j < us.size) (h2 : j < vs.size) x y, xs[j]? = some x → ys[j]? = some y → Ob.RcOp k.op A.in1 s us[j] vs[j] (k.ans (c x y))) :
    Ob.RcOp k.op A s (.ref l) (.ref b) (k.ans (lexG c xs ys)) := by
  have e0 : ∀ j (h1 : j < us.size) (h2 : j < vs.size), SeqAt.EqAt A.in1 s us[j] vs[j] (eAt c xs ys j) := fun j h1 h2 => by
    have g1 : xs[j]? = some xs[j] := List.getElem?_eq_getElem (by omega)
    have g2 : ys[j]? = some ys[j] := List.getElem?_eq_getElem (by omega)
    have z := he j h1 h2 _ _ g1 g2
    unfold eAt
    rw [g1, g2]
    exact z
  have r0 : ∀ j (h1 : j < us.size) (h2 : j < vs.size), eAt c xs ys j = false → Ob.RcOp k.op A.in1 s us[j] vs[j] (rAt k c xs ys j) := fun j h1 h2 _ => by
    have g1 : xs[j]? = some xs[j] := List.getElem?_eq_getElem (by omega)
    have g2 : ys[j]? = some ys[j] := List.getElem?_eq_getElem (by omega)
    have z := hr j h1 h2 _ _ g1 g2
    unfold rAt
    rw [g1, g2]
    exact z
  have ez := lexAt_lex (c := c) k xs ys (min us.size vs.size) 0 (by omega)
  rw [List.drop_zero, List.drop_zero] at ez
  rw [← ez, ← n1, ← n2]
  have tri : us.size < vs.size ∨ us.size = vs.size ∨ vs.size < us.size := by omega
  cases k with
  | lt =>
    have q : Ko.lt.ans (cmpN us.size vs.size) = decide (us.size < vs.size) := by
      unfold cmpN
      rcases tri with h | h | h
      · rw [if_pos h, decide_eq_true h]; rfl
      · rw [if_neg (by omega), if_pos h, decide_eq_false (by omega)]; rfl
      · rw [if_neg (by omega), if_neg (by omega), decide_eq_false (by omega)]; rfl
    rw [q]
    exact Ob.RcOp.tuples_lt hl hb hu e0 r0
  | le =>
    have q : Ko.le.ans (cmpN us.size vs.size) = decide (us.size ≤ vs.size) := by
      unfold cmpN
      rcases tri with h | h | h
      · rw [if_pos h, decide_eq_true (by omega)]; rfl
      · rw [if_neg (by omega), if_pos h, decide_eq_true (by omega)]; rfl
      · rw [if_neg (by omega), if_neg (by omega), decide_eq_false (by omega)]; rfl
    rw [q]
    exact Ob.RcOp.tuples_le hl hb hu e0 r0
  | gt =>
    have q : Ko.gt.ans (cmpN us.size vs.size) = decide (us.size > vs.size) := by
      unfold cmpN
      rcases tri with h | h | h
      · rw [if_pos h, decide_eq_false (by omega)]; rfl
      · rw [if_neg (by omega), if_pos h, decide_eq_false (by omega)]; rfl
      · rw [if_neg (by omega), if_neg (by omega), decide_eq_true (by omega)]; rfl
    rw [q]
    exact Ob.RcOp.tuples_gt hl hb hu e0 r0
  | ge =>
    have q : Ko.ge.ans (cmpN us.size vs.size) = decide (us.size ≥ vs.size) := by
      unfold cmpN
      rcases tri with h | h | h
      · rw [if_pos h, decide_eq_false (by omega)]; rfl
      · rw [if_neg (by omega), if_pos h, decide_eq_true (by omega)]; rfl
      · rw [if_neg (by omega), if_neg (by omega), decide_eq_true (by omega)]; rfl
    rw [q]
    exact Ob.RcOp.tuples_ge hl hb hu e0 r0
end
end Ru

set_option Elab.async false
set_option linter.all false
set_option maxRecDepth 100000
set_option maxHeartbeats 4000000
namespace Ru
open PySem PySem.Spec PyProof.Rows L2
/-! ### rows of ints and pairs of such -/
theorem cmpI_eq {a b : Int} : decide (cmpI a b = .eq) = (a == b) := by
  unfold cmpI
  by_cases h : a = b
  · rw [if_neg (by omega), if_pos h, h]
    simp
  · by_cases h2 : a < b
    · rw [if_pos h2, decide_eq_false (by decide)]
      simp [h]
    · rw [if_neg h2, if_neg h, decide_eq_false (by decide)]
      simp [h]
theorem lexG_eq : ∀ {xs ys : List Int}, lexG cmpI xs ys = .eq ↔ xs = ys
  | [], [] => by simp [lexG]
  | [], _ :: _ => by simp [lexG]
  | _ :: _, [] => by simp [lexG]
  | a :: xs, b :: ys => by
    have ih := lexG_eq (xs := xs) (ys := ys)
    have h : a < b ∨ a = b ∨ b < a := by omega
    unfold lexG cmpI
    rcases h with h | h | h
    · rw [if_pos h]
      simp only [reduceCtorEq, List.cons.injEq, false_iff, not_and]
      omega
    · rw [if_neg (by omega), if_pos h]
      simp only [List.cons.injEq, h, true_and]
      exact ih
    · rw [if_neg (by omega), if_neg (by omega)]
      simp only [reduceCtorEq, List.cons.injEq, false_iff, not_and]
      omega
theorem eqv_ints : ∀ {xs ys : List Int}, PyData.eqvAll (intsD xs) (intsD ys) = decide (xs = ys)
  | [], [] => by simp [intsD, PyData.eqvAll]
  | [], _ :: _ => by simp [intsD, PyData.eqvAll]
  | _ :: _, [] => by simp [intsD, PyData.eqvAll]
  | a :: xs, b :: ys => by
    have ih := eqv_ints (xs := xs) (ys := ys)
    unfold intsD at ih
    simp only [intsD, List.map_cons, PyData.eqvAll, PyData.eqv, ih, List.cons.injEq]
    by_cases h : a = b <;> simp [h]
theorem intsAre_of : ∀ {ns : List Int} {us : List Value}, Vals (ns.map V.int) us → ∀ (j : Nat) (h : j < us.toArray.size) (n : Int), ns[j]? = some n → ∃ t, us.toArray[j] = .int n t := fun {ns us} r j h n e => by
  have e1 : (ns.map V.int)[j]? = some (.int n) := by rw [List.getElem?_map, e]; rfl
  obtain ⟨u, hu, ru⟩ := r.get e1
  obtain ⟨t, q⟩ := (show ∃ t, u = Value.int n t from ru)
  refine ⟨t, ?_⟩
  have h' : j < us.length := by simpa using h
  rw [List.getElem?_eq_getElem h'] at hu
  rw [List.getElem_toArray, Option.some.inj hu, q]
section
variable {X : Cx} {pins : List (Addr × Obj)} {σ : L2.St} {H : Hp} {s : Shared}
theorem rc_ints (k : Ko) {A : Around} (I : Inv X pins σ H s) {a b : Addr} {ns ms : List Int} (ha : SqT X.K H a (ns.map V.int)) (hb : SqT X.K H b (ms.map V.int)) (hu : A.units < cLine) : Ob.RcOp k.op A s (.ref a) (.ref b) (k.ans (lexG cmpI ns ms)) := by
  obtain ⟨us, r1, p1, _⟩ := I.tuple ha
  obtain ⟨vs, r2, p2, _⟩ := I.tuple hb
  have l1 := r1.length
  have l2 := r2.length
  rw [List.length_map] at l1 l2
  refine rc_lex k p1 p2 hu (by rw [List.size_toArray]; exact l1.symm) (by rw [List.size_toArray]; exact l2.symm) (fun j h1 h2 x y e1 e2 => ?_) (fun j h1 h2 x y e1 e2 => ?_)
  · obtain ⟨t, q1⟩ := intsAre_of r1 j h1 x e1
    obtain ⟨u, q2⟩ := intsAre_of r2 j h2 y e2
    rw [q1, q2, cmpI_eq]
    exact SeqAt.EqAt.int_int x t y u
  · obtain ⟨t, q1⟩ := intsAre_of r1 j h1 x e1
    obtain ⟨u, q2⟩ := intsAre_of r2 j h2 y e2
    rw [q1, q2]
    exact rc_int k x y t u
theorem eq_ints {A : Around} (I : Inv X pins σ H s) {a b : Addr} {ns ms : List Int} (ha : SqT X.K H a (ns.map V.int)) (hb : SqT X.K H b (ms.map V.int)) (hu : A.units + 64 < cLine) : SeqAt.EqAt A s (.ref a) (.ref b) (decide (lexG cmpI ns ms = .eq)) := by
  obtain ⟨as, r1⟩ := Dp.reads I (.tuple (intsD ns)) (.ref a) (.ref a) (.tup ha dp_ints) rfl
  obtain ⟨bs, r2⟩ := Dp.reads I (.tuple (intsD ms)) (.ref b) (.ref b) (.tup hb dp_ints) rfl
  have z := SeqAt.eqAt_reads _ _ A s _ _ as bs r1 r2 (by rw [PyData.canLay0]; exact lay_ints) (by rw [PyData.canLay0]; exact lay_ints) (by
    have d1 := deep_ints (cells := ns)
    rw [PyData.depth, PyData.depth]
    omega)
  have e : PyData.eqv (.tuple (intsD ns)) (.tuple (intsD ms)) = decide (lexG cmpI ns ms = .eq) := by
    rw [PyData.eqv, eqv_ints]
    exact decide_eq_decide.mpr lexG_eq.symm
  rw [← e]
  exact z
end
end Ru

set_option Elab.async false
set_option linter.all false
set_option maxRecDepth 100000
set_option maxHeartbeats 4000000
namespace Ru
open PySem PySem.Spec PyProof.Rows L2
/-- what stands in such a pair -/
inductive Kx | i (n : Int) | t (ns : List Int)
def cK : Kx → Kx → Ordering
  | .i a, .i b => cmpI a b
  | .t xs, .t ys => lexG cmpI xs ys
  | .i _, .t _ => .lt
  | .t _, .i _ => .gt
def likeK : Kx → Kx → Bool
  | .i _, .i _ => true
  | .t _, .t _ => true
  | _, _ => false
def KxV (K : PySem.W.Frag) (H : Hp) : V → Kx → Prop
  | .int n, .i m => n = m
  | .ref a, .t ns => SqT K H a (ns.map V.int)
  | _, _ => False
theorem KxV_i {K : PySem.W.Frag} {H : Hp} {v : V} {n : Int} (h : KxV K H v (.i n)) : v = .int n := by
  cases v with
  | int m => exact congrArg V.int h
  | _ => exact h.elim
theorem KxV_t {K : PySem.W.Frag} {H : Hp} {v : V} {ns : List Int} (h : KxV K H v (.t ns)) : ∃ a, v = .ref a ∧ SqT K H a (ns.map V.int) := by
  cases v with
  | ref a => exact ⟨a, rfl, h⟩
  | _ => exact h.elim
def likeAll : List Kx → List Kx → Bool
  | k :: ks, l :: ls => likeK k l && likeAll ks ls
  | _, _ => true
theorem likeAll_at : ∀ {ks ls : List Kx} {j : Nat} {p q : Kx}, likeAll ks ls = true → ks[j]? = some p → ls[j]? = some q → likeK p q = true
  | [], _, _, _, _, _, e, _ => by cases e
  | _ :: _, [], _, _, _, _, _, e => by cases e
  | k :: ks, l :: ls, 0, _, _, h, e1, e2 => by
    cases e1
    cases e2
    exact (Bool.and_eq_true_iff.mp h).1
  | k :: ks, l :: ls, j + 1, _, _, h, e1, e2 => likeAll_at (j := j) (Bool.and_eq_true_iff.mp h).2 e1 e2
inductive KxAll (K : PySem.W.Frag) (H : Hp) : List V → List Kx → Prop
  | nil : KxAll K H [] []
  | cons {v : V} {vs : List V} {k : Kx} {ks : List Kx} : KxV K H v k → KxAll K H vs ks → KxAll K H (v :: vs) (k :: ks)
theorem KxAll.length {K : PySem.W.Frag} {H : Hp} : ∀ {vs : List V} {ks : List Kx}, KxAll K H vs ks → vs.length = ks.length
  | _, _, .nil => rfl
  | _, _, .cons _ r => congrArg Nat.succ r.length
theorem KxAll.at {K : PySem.W.Frag} {H : Hp} : ∀ {vs : List V} {ks : List Kx} {j : Nat} {k : Kx}, KxAll K H vs ks → ks[j]? = some k → ∃ v, vs[j]? = some v ∧ KxV K H v k
  | _, _, _, _, .nil, e => by cases e
  | _, _, 0, _, .cons a _, e => by
    cases e
    exact ⟨_, rfl, a⟩
  | _, _, j + 1, _, .cons _ r, e => r.at (j := j) e
/-- t op u of two tuples of ints and tuples of ints -/
def rOrd (k : Ko) (K : PySem.W.Frag) : R2 := fun x y H Q => ∃ (a b : Addr) (xs ys : List V) (ks ls : List Kx), x = .ref a ∧ y = .ref b ∧ SqT K H a xs ∧ SqT K H b ys ∧ KxAll K H xs ks ∧ KxAll K H ys ls ∧ likeAll ks ls = true ∧ Q (.bl (k.ans (lexG cK ks ls))) H
theorem op_ord (k : Ko) {X : Cx} (hu : X.A.units + 66 < cLine) : OpR X (compareOp k.op) (rOrd k X.K) := by
  intro pins s σ H x y v u Q I rx ry h
  obtain ⟨a, b, xs, ys, ks, ls, rfl, rfl, ha, hb, q1, q2, lk, q⟩ := h
  cases rx
  cases ry
  obtain ⟨us, r1, p1, _⟩ := I.tuple ha
  obtain ⟨vs, r2, p2, _⟩ := I.tuple hb
  have l1 := r1.length
  have l2 := r2.length
  have m1 := q1.length
  have m2 := q2.length
  have hu1 : X.A.in1.units + 64 < cLine := by
    show X.A.units + 1 + 64 < cLine
    omega
  have it : ∀ j (h1 : j < us.toArray.size) (h2 : j < vs.toArray.size) p q, ks[j]? = some p → ls[j]? = some q → (∃ n m t u, p = .i n ∧ q = .i m ∧ us.toArray[j] = .int n t ∧ vs.toArray[j] = .int m u) ∨
      (∃ c d ns ms, p = .t ns ∧ q = .t ms ∧ us.toArray[j] = .ref c ∧ vs.toArray[j] = .ref d ∧ SqT X.K H c (ns.map V.int) ∧ SqT X.K H d (ms.map V.int)) := fun j h1 h2 p q e1 e2 => by
    have z := likeAll_at lk e1 e2
    obtain ⟨v1, g1, k1⟩ := q1.at e1
    obtain ⟨v2, g2, k2⟩ := q2.at e2
    obtain ⟨w1, f1, t1⟩ := r1.get g1
    obtain ⟨w2, f2, t2⟩ := r2.get g2
    have h1' : j < us.length := by simpa using h1
    have h2' : j < vs.length := by simpa using h2
    rw [List.getElem?_eq_getElem h1'] at f1
    rw [List.getElem?_eq_getElem h2'] at f2
    have f1 := Option.some.inj f1
    have f2 := Option.some.inj f2
    cases p with
    | i n =>
      cases q with
      | t ms => cases z
      | i m =>
        have ea := KxV_i k1
        have eb := KxV_i k2
        subst ea eb
        obtain ⟨t, e3⟩ := (show ∃ t, w1 = Value.int n t from t1)
        obtain ⟨u, e4⟩ := (show ∃ t, w2 = Value.int m t from t2)
        exact .inl ⟨_, _, t, u, rfl, rfl, by rw [List.getElem_toArray, f1, e3], by rw [List.getElem_toArray, f2, e4]⟩
    | t ns =>
      cases q with
      | i m => cases z
      | t ms =>
        obtain ⟨c, ec, k1⟩ := KxV_t k1
        obtain ⟨d, ed, k2⟩ := KxV_t k2
        subst ec ed
        have e3 : w1 = Value.ref c := t1
        have e4 : w2 = Value.ref d := t2
        exact .inr ⟨c, d, ns, ms, rfl, rfl, by rw [List.getElem_toArray, f1, e3], by rw [List.getElem_toArray, f2, e4], k1, k2⟩
  have hop : compareOp k.op (.ref a) (.ref b) = richCompare k.op (.ref a) (.ref b) := by cases k <;> rfl
  rw [hop]
  refine rc_lex (c := cK) (xs := ks) (ys := ls) k p1 p2 (by omega) (by rw [List.size_toArray]; omega) (by rw [List.size_toArray]; omega) (fun j h1 h2 p q e1 e2 => ?_) (fun j h1 h2 p q e1 e2 => ?_) X.prog X.w X.xe _ ⟨.bl _, H, I, rfl, q⟩
  · rcases it j h1 h2 p q e1 e2 with ⟨n, m, t, u, rfl, rfl, f1, f2⟩ | ⟨c, d, ns, ms, rfl, rfl, f1, f2, s1, s2⟩
    · rw [f1, f2]
      show SeqAt.EqAt _ _ _ _ (decide (cmpI n m = .eq))
      rw [cmpI_eq]
      exact SeqAt.EqAt.int_int n t m u
    · rw [f1, f2]
      exact eq_ints I s1 s2 hu1
  · rcases it j h1 h2 p q e1 e2 with ⟨n, m, t, u, rfl, rfl, f1, f2⟩ | ⟨c, d, ns, ms, rfl, rfl, f1, f2, s1, s2⟩
    · rw [f1, f2]
      exact rc_int k n m t u
    · rw [f1, f2]
      exact rc_ints k I s1 s2 (by omega)
end Ru

set_option Elab.async false
set_option linter.all false
set_option maxRecDepth 100000
set_option maxHeartbeats 4000000
namespace Ru
open PySem PySem.Spec PyProof.Rows L2
/-! ### operators that an own class defines, on its plain instances -/
section
variable {X : Cx} {CX : CXT} {C g : Addr} {fd : FuncData} {ps : List Str} {n : Nat} {sp : Sp} {E : XK}
def rOwnI (C : Addr) (sp : Sp) (E : XK) : R2 := fun x y H Q => ∃ (a b dx dy : Addr) (fs gs : List (Str × V)), x = .ref a ∧ y = .ref b ∧ H a = some (.ins C dx fs) ∧ H b = some (.ins C dy gs) ∧ sp [.ref a, .ref b] H Q E
theorem op_ownI {op : CmpOp} (hop : ∀ a b, compareOp op a b = richCompare op a b) (hs : PySem.W.findIn X.K (.ref C) (cmpInfo op).2.1 = some (some (.ref g))) (hf : PySem.W.isFn X.K (.ref g) = true)
    (F : FnOk X.prog X.w X.K X.mg X.base CX n g fd ps sp) (hr : Room n X.A) (hb : Binds X.K fd ps []) (hx : Passes CX X E) : OpR X (compareOp op) (rOwnI C sp E) := by
  intro pins s σ H x y v u Q I rx ry h
  obtain ⟨a, b, dx, dy, fs, gs, rfl, rfl, ha, hb', q⟩ := h
  cases rx
  cases ry
  obtain ⟨_, J1, _⟩ := ins_get I.hok ha
  obtain ⟨_, J2, _⟩ := ins_get I.hok hb'
  obtain ⟨_, J1, _⟩ := J1.look
  obtain ⟨_, J2, _⟩ := J2.look
  obtain ⟨m, fr⟩ := I.fr
  rw [hop]
  refine PySem.W.cmp_K (op := op) (tb := .ref C) hr.units0 fr I.ok.mod.kin J1 J2.type (by simp [PySem.W.notFirst]) hs hf ?_
  refine wpAny_mono (run_fn (us := [.ref a, .ref b]) (vs := [.ref a, .ref b]) F hr hb .nil hx I (.cons rfl (.cons rfl .nil)) q) (fun z s' e => ?_) fun _ _ e => e
  obtain ⟨t, H', I', rt, qt⟩ := e
  exact SlX.cmpback rt ⟨t, H', I', rt, qt⟩
/-- ~x -/
def rInvI (C : Addr) (sp : Sp) (E : XK) : V → Hp → VK → Prop := fun x H Q => ∃ (a dx : Addr) (fs : List (Str × V)), x = .ref a ∧ H a = some (.ins C dx fs) ∧ sp [.ref a] H Q E
theorem un_invI (hs : PySem.W.findIn X.K (.ref C) "__invert__" = some (some (.ref g))) (hf : PySem.W.isFn X.K (.ref g) = true) (F : FnOk X.prog X.w X.K X.mg X.base CX n g fd ps sp) (hr : Room n X.A) (hb : Binds X.K fd ps []) (hx : Passes CX X E) :
    UnR X (unaryOp .Invert) (rInvI C sp E) := by
  intro pins s σ H x v Q I rx h
  obtain ⟨a, dx, fs, rfl, ha, q⟩ := h
  cases rx
  obtain ⟨_, J1, _⟩ := ins_get I.hok ha
  obtain ⟨_, J1, _⟩ := J1.look
  obtain ⟨m, fr⟩ := I.fr
  exact PySem.W.ksp_inv fr I.ok.mod.kin J1 hs hf (run_fn (us := [.ref a]) (vs := [.ref a]) F hr hb .nil hx I (.cons rfl .nil) q)
end
section
variable {prog : Program} {w : World} {A : Around} {E : Value → Shared → Prop} {s : Shared} {K : PySem.W.Frag} {x C f : Addr} {ox : Obj} {od : Option Obj} {b : Value}
/-- object's != asks the own == -/
theorem ne_entry {Q : Fin → Shared → Prop} (hu : A.units < cLine) (X : K.In s.heap) (I : PySem.W.InstAt s.heap x ox C od) (hs : PySem.W.findIn K (.ref C) "__eq__" = some (some (.ref f))) (hf : PySem.W.isFn K (.ref f) = true)
    (h : wpAny (model prog w) A (call (.ref f) [.ref x, b]) (fun v s' => ∃ k, v = .bool k ∧ Q (.done (.ret (.bool (!k)))) s') E s) : wpAny (model prog w) A (Builtin.«object.__ne__» ⟨[.ref x, b], []⟩) Q E s := by
  unfold Builtin.«object.__ne__»
  repeat (first
    | with_reducible refine wpAny_cRoomFor hu ?_
    | (refine wpAny_bind (m := callSpecialIfBound? (.ref x) (Str.ofString "__eq__") [b]) (PySem.W.ifBound_K X I hs hf (wpAny_mono h (fun r s' e => ?_) fun _ _ e => e))
       obtain ⟨k, rfl, q⟩ := e
       repeat (first | exact q | exact wpAny_pure q | exact wpAny_truthy_bool q | (refine wpAny_bind (m := truthy (.bool _)) (wpAny_truthy_bool ?_)) | wp_step))
    | wp_step)
theorem ne_call {Q : Value → Shared → Prop} (hu : A.units + 1 < cLine) (X : K.In s.heap) (I : PySem.W.InstAt s.heap x ox C od) (hm : PySem.W.mroIn K C (.type "object") = some true) (hs : PySem.W.findIn K (.ref C) "__eq__" = some (some (.ref f)))
    (hf : PySem.W.isFn K (.ref f) = true) (h : wpAny (model prog w) A.in1 (call (.ref f) [.ref x, b]) (fun v s' => ∃ k, v = .bool k ∧ Q (.bool (!k)) s') E s) : wpAny (model prog w) A (call (.builtin "object.__ne__") [.ref x, b]) Q E s :=
  wpAny_call (codeAny_call_builtin F.cmp_object.ne.plain F.cmpEntry_ne (PySem.W.check_slot F.cmpKind_ne F.cmpSplit_ne (I.type.andThen (PySem.W.looks_mroIn X hm)) (F.cmpArgs_ne _ _)
    (ne_entry (A := A.in1) hu X I hs hf h)))
theorem ne_bound {M : Model} {args : List Value} {Q : Option Value → Shared → Prop} (X : K.In s.heap) (I : PySem.W.InstAt s.heap x ox C od) (hs : PySem.W.findIn K (.ref C) "__ne__" = some (some (.builtin "object.__ne__")))
    (h : wpAny M A (call (.builtin "object.__ne__") (.ref x :: args)) (fun v => Q (some v)) E s) : wpAny M A (callSpecialIfBound? (.ref x) "__ne__" args) Q E s := by
  have go : wpAny M A (call (.builtin "object.__ne__") ([.ref x] ++ args) >>= fun v => pure (some v)) Q E s := wpAny_bind (wpAny_mono h (fun _ _ q => wpAny_pure q) fun _ _ q => q)
  simp only [callSpecialIfBound?, bindSpecialIfBound?]
  refine wpAny_holding (wpAny_bind (wpAny_bind (wpAny_bind (I.type.here ((PySem.W.looks_findIn X hs).here ?_)))))
  refine wpAny_bind (wpAny_askSetting (wpAny_ite ?_))
  split
  · exact wpAny_bind (wpAny_of_eq (F.cmp_object.ne.bind _) (wpAny_pure go))
  · exact wpAny_tryCatch (wpAny_bind (wpAny_of_eq (F.cmp_object.ne.bind _) (wpAny_pure go)))
end
section
variable {X : Cx} {CX : CXT} {C g : Addr} {fd : FuncData} {ps : List Str} {n : Nat} {sp : Sp} {E : XK}
/-- x != y where the class has an own == alone: its answer, turned -/
def rNeI (C : Addr) (sp : Sp) (E : XK) : R2 := fun x y H Q => ∃ (a b dx dy : Addr) (fs gs : List (Str × V)), x = .ref a ∧ y = .ref b ∧ H a = some (.ins C dx fs) ∧ H b = some (.ins C dy gs) ∧ sp [.ref a, .ref b] H (fun z H' => ∃ k, z = .bl k ∧ Q (.bl (!k)) H') E
theorem op_neI (hs : PySem.W.findIn X.K (.ref C) "__eq__" = some (some (.ref g))) (hn : PySem.W.findIn X.K (.ref C) "__ne__" = some (some (.builtin "object.__ne__"))) (hm : PySem.W.mroIn X.K C (.type "object") = some true) (hf : PySem.W.isFn X.K (.ref g) = true)
    (F : FnOk X.prog X.w X.K X.mg X.base CX n g fd ps sp) (hr : Room (n + 1) X.A) (hb : Binds X.K fd ps []) (hx : Passes CX X E) : OpR X (compareOp .NotEq) (rNeI C sp E) := by
  intro pins s σ H x y v u Q I rx ry h
  obtain ⟨a, b, dx, dy, fs, gs, rfl, rfl, ha, hb', q⟩ := h
  cases rx
  cases ry
  obtain ⟨_, J1, _⟩ := ins_get I.hok ha
  obtain ⟨_, J2, _⟩ := ins_get I.hok hb'
  obtain ⟨_, J1, _⟩ := J1.look
  obtain ⟨_, J2, _⟩ := J2.look
  have r2 : Vals [V.ref a, V.ref b] [Value.ref a, Value.ref b] := .cons rfl (.cons rfl .nil)
  have hl := F.len _ _ _ _ q
  have run : codeAny (model X.prog X.w) X.A.in1 (.call (.ref g) ⟨[.ref a, .ref b], []⟩) (fun r s' => match r with | .ok (.ret v) => ∃ k, v = .bool k ∧ EP X pins σ Q (.bool (!k)) s' | .ok _ => False | .error e => X.xe e s') s := by
    have bd := hb s [.ref a, .ref b] I.kIn (by rw [List.append_nil]; exact hl)
    rw [List.append_nil] at bd
    refine codeAny_mono (F.run X.A.in1 X.stack s H ⟨[.ref a, .ref b], []⟩ [.ref a, .ref b] [.ref a, .ref b] _ E hr.in1 I.env0.in1 bd r2 q) fun r s' z => ?_
    cases r with
    | error e => exact hx pins σ H s e s' I z
    | ok fl =>
      cases fl with
      | ret w' =>
        obtain ⟨t, H', I', rt, k, ek, qk⟩ := I.after z
        subst ek
        cases (show w' = Value.bool k from rt)
        exact ⟨k, rfl, .bl (!k), H', I', rfl, qk⟩
      | next => exact False.elim z
      | brk => exact False.elim z
      | cont => exact False.elim z
  have u1 : X.A.units + 1 < cLine := by
    have z := hr.units0
    have z2 := hr.in1.units0
    exact z2
  have one : wpAny (model X.prog X.w) X.A (tryCompare (.ref a) "__ne__" (.ref b)) (fun r s' => ∃ t, r = some t ∧ EP X pins σ Q t s') X.xe s := by
    unfold tryCompare
    refine wpAny_bind (ne_bound I.kIn J1 hn (ne_call u1 I.kIn J1 hm hs hf (wpAny_call (codeAny_mono run fun r s' z => ?_))))
    cases r with
    | error e => exact z
    | ok fl =>
      cases fl with
      | ret t =>
        obtain ⟨k, ek, qk⟩ := z
        subst ek
        exact ⟨k, rfl, wpAny_pure ⟨_, rfl, qk⟩⟩
      | next => exact False.elim z
      | brk => exact False.elim z
      | cont => exact False.elim z
  show wpAny _ _ (richCompare .NotEq (.ref a) (.ref b)) _ _ _
  unfold richCompare
  simp only [oneThing_ref]
  refine wpAny_holding (wpAny_bind (wpAny_cRoomFor hr.units0 (wpAny_bind (J1.type.here (wpAny_bind (J2.type.here ?_))))))
  rw [if_neg (show ¬ (Value.ref C != Value.ref C) = true by simp)]
  refine wpAny_bind (wpAny_pure ?_)
  simp only [Bool.false_eq_true, if_false]
  refine wpAny_bind (wpAny_mono one (fun r s' z => ?_) fun _ _ e => e)
  obtain ⟨t, et, qt⟩ := z
  subst et
  exact wpAny_pure qt
end
end Ru

set_option Elab.async false
set_option linter.all false
set_option maxRecDepth 100000
set_option maxHeartbeats 4000000
namespace Ru
open PySem PySem.Spec PyProof.Rows L2
/-! ### two-sided operators that an own class defines, on its plain instances -/
/-- what the text must say so that an instance of C stands left of an int -/
structure BinI (K : PySem.W.Frag) (C : Addr) (nm : String) (g : Addr) : Prop where
  c : PySem.W.selfFirst K C = true
  s : PySem.W.findIn K (.ref C) (PySem.dunder nm) = some (some (.ref g))
  f : PySem.W.isFn K (.ref g) = true
  r : PySem.W.findIn K (.ref C) (dunderR nm) = some none
  h1 : ∃ fo, PySem.W.findIn K (.type "int") (PySem.dunder nm) = some fo
  h2 : ∃ ro, PySem.W.findIn K (.type "int") (dunderR nm) = some ro
  u : PySem.W.subIn K (.type "int") (.ref C) = some false
section
variable {prog : Program} {w : World} {A : Around} {E : Value → Shared → Prop} {s : Shared} {K : PySem.W.Frag} {x y C f : Addr} {ox oy : Obj} {od oe : Option Obj}
theorem binS_core {op : Operator} {Q : Value → Shared → Prop} (X : K.In s.heap) (I : PySem.W.InstAt s.heap x ox C od) (J : PySem.W.InstAt s.heap y oy C oe) (hc : PySem.W.selfFirst K C = true)
    (hs : PySem.W.findIn K (.ref C) (PySem.dunder op.info.2) = some (some (.ref f))) (hf : PySem.W.isFn K (.ref f) = true) (h : wpAny (model prog w) A (call (.ref f) [.ref x, .ref y]) (PySem.W.CmpBack Q) E s) : wpAny (model prog w) A (binaryOp op (.ref x) (.ref y)) Q E s := by
  obtain ⟨cd, rest, hcd, hm⟩ := PySem.W.ksp_first hc
  rcases hi : op.info with ⟨sym, nm'⟩
  rw [hi] at hs
  dsimp only at hs
  have one := PySem.W.ksp_try X I hs hf h
  obtain ⟨hh, g, d, tt, os⟩ := s
  have L1 : PySem.W.Looks (model prog w) hh (typeOf (.ref x)) (.ref C) := I.type
  have L2 : PySem.W.Looks (model prog w) hh (typeOf (.ref y)) (.ref C) := J.type
  have L3 : PySem.W.Looks (model prog w) hh (fillsNumberSlot (.ref C) nm') true := PySem.W.fills_K X hcd hm hs
  have he : (Value.ref C == Value.ref C) = true := by simp
  simp only [binaryOp, hi]
  refine wpAny_holding (wpAny_bind ?_)
  unfold binaryOp1
  refine wpAny_bind (L1.at (wpAny_bind (L2.at (wpAny_bind (L3.at ?_)))))
  simp only [he, if_true]
  ksp_lk
  refine wpAny_mono one (fun r s' hr' => ?_) fun _ _ e => e
  obtain ⟨v, rfl, hq⟩ := hr'
  ksp_lk
  exact hq
end
section
variable {X : Cx} {CX : CXT} {C g : Addr} {fd : FuncData} {ps : List Str} {n : Nat} {sp : Sp} {E : XK}
def rBinI (C : Addr) (sp : Sp) (E : XK) : R2 := fun x y H Q => ∃ (a dx : Addr) (fs : List (Str × V)) (i : Int), x = .ref a ∧ y = .int i ∧ H a = some (.ins C dx fs) ∧ sp [.ref a, .int i] H Q E
theorem op_binI {op : Operator} (B : BinI X.K C op.info.2 g) (F : FnOk X.prog X.w X.K X.mg X.base CX n g fd ps sp) (hr : Room n X.A) (hb : Binds X.K fd ps []) (hx : Passes CX X E) : OpR X (binaryOp op) (rBinI C sp E) := by
  intro pins s σ H x y v u Q I rx ry h
  obtain ⟨a, dx, fs, i, rfl, rfl, ha, q⟩ := h
  cases rx
  obtain ⟨t, rfl⟩ := ry
  obtain ⟨_, J1, _⟩ := ins_get I.hok ha
  obtain ⟨_, J1, _⟩ := J1.look
  obtain ⟨m, fr⟩ := I.fr
  obtain ⟨fo, h1⟩ := B.h1
  obtain ⟨ro, h2⟩ := B.h2
  refine PySem.W.ksp_binT (op := op) (T := "int") fr I.ok.mod.kin J1 rfl B.c B.s B.f B.r (Or.inl rfl) h1 h2 B.u ?_
  refine wpAny_mono (run_fn (us := [.ref a, .int i t]) (vs := [.ref a, .int i]) F hr hb .nil hx I (.cons rfl (.cons ⟨t, rfl⟩ .nil)) q) (fun z s' e => ?_) fun _ _ e => e
  obtain ⟨t, H', I', rt, qt⟩ := e
  exact SlX.cmpback rt ⟨t, H', I', rt, qt⟩
theorem op_binS {op : Operator} (hc : PySem.W.selfFirst X.K C = true) (hs : PySem.W.findIn X.K (.ref C) (PySem.dunder op.info.2) = some (some (.ref g))) (hf : PySem.W.isFn X.K (.ref g) = true) (F : FnOk X.prog X.w X.K X.mg X.base CX n g fd ps sp) (hr : Room n X.A)
    (hb : Binds X.K fd ps []) (hx : Passes CX X E) : OpR X (binaryOp op) (rOwnI C sp E) := by
  intro pins s σ H x y v u Q I rx ry h
  obtain ⟨a, b, dx, dy, fs, gs, rfl, rfl, ha, hb', q⟩ := h
  cases rx
  cases ry
  obtain ⟨_, J1, _⟩ := ins_get I.hok ha
  obtain ⟨_, J2, _⟩ := ins_get I.hok hb'
  obtain ⟨_, J1, _⟩ := J1.look
  obtain ⟨_, J2, _⟩ := J2.look
  exact binS_core I.kIn J1 J2 hc hs hf (wpAny_mono (run_fn (us := [.ref a, .ref b]) (vs := [.ref a, .ref b]) F hr hb .nil hx I (.cons rfl (.cons rfl .nil)) q) (fun z s' e => by
    obtain ⟨t, H', I', rt, qt⟩ := e
    exact SlX.cmpback rt ⟨t, H', I', rt, qt⟩) fun _ _ e => e)
theorem un_negI (hs : PySem.W.findIn X.K (.ref C) "__neg__" = some (some (.ref g))) (hf : PySem.W.isFn X.K (.ref g) = true) (F : FnOk X.prog X.w X.K X.mg X.base CX n g fd ps sp) (hr : Room n X.A) (hb : Binds X.K fd ps []) (hx : Passes CX X E) :
    UnR X (unaryOp .USub) (rInvI C sp E) := by
  intro pins s σ H x v Q I rx h
  obtain ⟨a, dx, fs, rfl, ha, q⟩ := h
  cases rx
  obtain ⟨_, J1, _⟩ := ins_get I.hok ha
  obtain ⟨_, J1, _⟩ := J1.look
  obtain ⟨m, fr⟩ := I.fr
  exact PySem.W.ksp_neg fr I.ok.mod.kin J1 hs hf (run_fn (us := [.ref a]) (vs := [.ref a]) F hr hb .nil hx I (.cons rfl .nil) q)
end
/-! ### bool(x) where the class has an own __bool__ -/
section
variable {prog : Program} {w : World} {A : Around} {E : Value → Shared → Prop} {s : Shared}
theorem bool_own {x : Value} {Q : Value → Shared → Prop} (h : wpAny (model prog w) A.in1.in1 (truthy x) (fun b s' => Q (.bool b) s') E s) : wpAny (model prog w) A (call (.type "bool") [x]) Q E s :=
  callType_newIn (S := fun B R t => wpAny (model prog w) B.in1 (truthy x) (fun b s' => R (.ok (.ret (.bool b))) s') (fun e s' => R (.error e) s') t) F.called_bool F.newNe_bool (F.typeCall_bool_1 x) (F.newCall_bool_1 x) (fun obj => F.args_object_init_2 obj x) F.entry_bool_new
    (.of_wp fun B R t ht => by
      obtain ⟨hp, g, d, tk, os⟩ := t
      have f1 := F.conv_sub_bool
      repeat (any_goals (first | assumption | (with_reducible refine wpAny_mono ht (fun b s' q => ?_) fun _ _ e => e) | wp_step))
      all_goals first | exact ⟨_, rfl, q⟩ | exact q | skip)
    (wpAny_mono h (fun b s' q => ⟨rfl, q⟩) fun _ _ e => e)
end
section
variable {X : Cx} {CX : CXT} {C g : Addr} {fd : FuncData} {ps : List Str} {n : Nat} {sp : Sp} {E : XK}
def rBoolI (C : Addr) (sp : Sp) (E : XK) : List V → Hp → VK → Prop := fun xs H Q => ∃ (a dx : Addr) (fs : List (Str × V)), xs = [.ref a] ∧ H a = some (.ins C dx fs) ∧ sp [.ref a] H (fun z H' => ∃ k, z = .bl k ∧ Q (.bl k) H') E
theorem call_boolI (hs : PySem.W.findIn X.K (.ref C) "__bool__" = some (some (.ref g))) (hf : PySem.W.isFn X.K (.ref g) = true) (F : FnOk X.prog X.w X.K X.mg X.base CX n g fd ps sp) (hr : Room (n + 2) X.A) (hb : Binds X.K fd ps []) (hx : Passes CX X E) : CallR X (.type "bool") (rBoolI C sp E) := by
  intro pins s σ H xs us Q I r h
  obtain ⟨a, dx, fs, rfl, ha, q⟩ := h
  obtain rfl := Vals.ref1 r
  obtain ⟨_, J1, _⟩ := ins_get I.hok ha
  obtain ⟨_, J1, _⟩ := J1.look
  obtain ⟨m, fr⟩ := I.fr
  have r2 : Vals [V.ref a] [Value.ref a] := .cons rfl .nil
  have hl := F.len _ _ _ _ q
  have run : codeAny (model X.prog X.w) X.A.in1.in1 (.call (.ref g) ⟨[.ref a], []⟩) (fun r s' => match r with | .ok (.ret v) => ∃ k, v = .bool k ∧ EP X pins σ Q (.bool k) s' | .ok _ => False | .error e => X.xe e s') s := by
    have bd := hb s [.ref a] I.kIn (by rw [List.append_nil]; exact hl)
    rw [List.append_nil] at bd
    refine codeAny_mono (F.run X.A.in1.in1 X.stack s H ⟨[.ref a], []⟩ [.ref a] [.ref a] _ E hr.in1.in1 I.env0.in1.in1 bd r2 q) fun r s' z => ?_
    cases r with
    | error e => exact hx pins σ H s e s' I z
    | ok fl =>
      cases fl with
      | ret w' =>
        obtain ⟨t, H', I', rt, k, ek, qk⟩ := I.after z
        subst ek
        cases (show w' = Value.bool k from rt)
        exact ⟨k, rfl, .bl k, H', I', rfl, qk⟩
      | next => exact False.elim z
      | brk => exact False.elim z
      | cont => exact False.elim z
  refine bool_own (PySem.W.truthy_K fr I.ok.mod.kin J1 hs hf (wpAny_call (codeAny_mono run fun r s' z => ?_)))
  cases r with
  | error e => exact z
  | ok fl =>
    cases fl with
    | ret t =>
      obtain ⟨k, ek, qk⟩ := z
      subst ek
      exact qk
    | next => exact False.elim z
    | brk => exact False.elim z
    | cont => exact False.elim z
end
/-! ### cls(e, ..), a local that holds a class -/
def tMakeL (i : Nat) (C : Addr) (sp : Sp) (E : XK) (t : TA) : TE := fun σ H Q => σ[i]? = some (some (.ref C)) ∧ t σ H fun vs H1 => ∀ x dx, H1 x = none → H1 dx = none → dx ≠ x →
  sp (.ref x :: (vs ++ [])) (upd (upd H1 dx (.own x)) x (.ins C dx [])) (fun v H2 => v = .non ∧ Q (.ref x) H2) E
theorem pe_makeL {X : Cx} {CX : CXT} {k i : Nat} {C f : Addr} {fd : FuncData} {ps : List Str} {sp : Sp} {E : XK} {x : Str} {p pos : Pos} {e : Expr} {es : List Expr} {t : TA} (M : Mk X.K C f) (F : FnOk X.prog X.w X.K X.mg X.base CX k f fd ps sp) (hr : Room (k + 1) X.A)
    (hN : X.N[i]? = some x) (hv : Vis X.env.scope x) (hb : Binds X.K fd ps []) (hx : Passes CX X E) (ha : PA X (e :: es) t) (hdb : (x == ("__debug__" : Str)) = false := by decide) (hcd : (x == ("__classdict__" : Str)) = false := by decide)
    (he : starEach (e :: es) X.env = (false, eval e X.env) :: starEach es X.env := by rfl) (hpl : (backTo pos (starEach es X.env)).any (·.1) = false := by rfl) : PE X (.Call (.Name x p) (e :: es) [] pos) (tMakeL i C sp E t) := by
  refine ⟨fun pins s σ H Q I h => ?_⟩
  obtain ⟨hs, ht⟩ := h
  refine wpAny_Call_Name_kw (thn ((pe_var (pos := p) hN hv hdb hcd).run pins s σ H (fun v H1 => v = .ref C ∧ H1 = H) I ⟨.ref C, hs, rfl, rfl⟩) fun u s1 ⟨v, H1, I1, r1, q1⟩ => ?_)
  obtain ⟨rfl, rfl⟩ := q1
  cases r1
  refine PySem.W.callWith_K (h₀ := X.base) I.ok.mod.kin M.kp (thn (ha.run pos pins s1 σ _ _ I1 ht) fun us s2 ⟨vs, H2, I2, r, q⟩ => ⟨I2.kIn, ?_⟩) he hpl
  exact run_make M F hr hb .nil hx I2 r q
end Ru

set_option Elab.async false
set_option linter.all false
set_option maxRecDepth 100000
set_option maxHeartbeats 4000000
namespace Ru
open PySem PySem.Spec PyProof.Rows L2
/-! ### digits, values and their order -/
/-- digits of these bases -/
def Dgs : List Int → List Int → Prop
  | [], [] => True
  | d :: ds, b :: bs => (0 ≤ d ∧ d < b) ∧ Dgs ds bs
  | _, _ => False
/-- the value of digits -/
def valD : List Int → List Int → Int
  | d :: ds, _ :: bs => d * prodL bs + valD ds bs
  | _, _ => 0
theorem Dgs.len : ∀ {ds bs : List Int}, Dgs ds bs → ds.length = bs.length
  | [], [], _ => rfl
  | _ :: _, _ :: _, h => congrArg Nat.succ h.2.len
  | [], _ :: _, h => h.elim
  | _ :: _, [], h => h.elim
theorem Dgs.at : ∀ {ds bs : List Int} {i : Nat} {d b : Int}, Dgs ds bs → ds[i]? = some d → bs[i]? = some b → 0 ≤ d ∧ d < b
  | [], [], _, _, _, _, e, _ => by cases e
  | _ :: _, _ :: _, 0, _, _, h, e1, e2 => by
    cases e1
    cases e2
    exact h.1
  | _ :: _, _ :: _, i + 1, _, _, h, e1, e2 => h.2.at (i := i) e1 e2
  | [], _ :: _, _, _, _, h, _, _ => h.elim
  | _ :: _, [], _, _, _, h, _, _ => h.elim
theorem dgs_of : ∀ {ds bs : List Int}, ds.length = bs.length → (∀ (i : Nat) (d b : Int), ds[i]? = some d → bs[i]? = some b → 0 ≤ d ∧ d < b) → Dgs ds bs
  | [], [], _, _ => trivial
  | _ :: _, _ :: _, h, k => ⟨k 0 _ _ rfl rfl, dgs_of (Nat.succ.inj h) fun i d b e1 e2 => k (i + 1) d b e1 e2⟩
  | [], _ :: _, h, _ => by cases h
  | _ :: _, [], h, _ => by cases h
theorem valD_range : ∀ {ds bs : List Int}, Dgs ds bs → 0 ≤ valD ds bs ∧ valD ds bs < prodL bs
  | [], [], _ => by decide
  | d :: ds, b :: bs, h => by
    obtain ⟨⟨h1, h2⟩, h3⟩ := h
    obtain ⟨h4, h5⟩ := valD_range h3
    show 0 ≤ d * prodL bs + valD ds bs ∧ d * prodL bs + valD ds bs < prodL bs * b
    have p : 0 < prodL bs := by omega
    have z1 : 0 ≤ d * prodL bs := Int.mul_nonneg h1 (Int.le_of_lt p)
    have z2 : d * prodL bs ≤ (b - 1) * prodL bs := Int.mul_le_mul_of_nonneg_right (by omega) (Int.le_of_lt p)
    have z3 : (b - 1) * prodL bs = prodL bs * b - prodL bs := by rw [Int.sub_mul, Int.one_mul, Int.mul_comm]
    omega
  | [], _ :: _, h => h.elim
  | _ :: _, [], h => h.elim
theorem cmpI_refl {a : Int} : cmpI a a = .eq := by
  unfold cmpI
  rw [if_neg (by omega), if_pos rfl]
theorem cmpI_lt {a b : Int} (h : a < b) : cmpI a b = .lt := by
  unfold cmpI
  rw [if_pos h]
theorem cmpI_gt {a b : Int} (h : b < a) : cmpI a b = .gt := by
  unfold cmpI
  rw [if_neg (by omega), if_neg (by omega)]
theorem cmpI_add {a b c : Int} : cmpI (c + a) (c + b) = cmpI a b := by
  rcases (by omega : a < b ∨ a = b ∨ b < a) with h | h | h
  · rw [cmpI_lt h, cmpI_lt (by omega)]
  · rw [h, cmpI_refl, cmpI_refl]
  · rw [cmpI_gt h, cmpI_gt (by omega)]
/-- the values lie as the digits do -/
theorem cmp_val : ∀ {ds es bs : List Int}, Dgs ds bs → Dgs es bs → cmpI (valD ds bs) (valD es bs) = lexG cmpI ds es
  | [], [], [], _, _ => cmpI_refl
  | d :: ds, e :: es, b :: bs, h, k => by
    obtain ⟨_, h3⟩ := h
    obtain ⟨_, k3⟩ := k
    obtain ⟨r1, r2⟩ := valD_range h3
    obtain ⟨r3, r4⟩ := valD_range k3
    have ih := cmp_val h3 k3
    show cmpI (d * prodL bs + valD ds bs) (e * prodL bs + valD es bs) = match cmpI d e with | .eq => lexG cmpI ds es | .lt => .lt | .gt => .gt
    have p : 0 < prodL bs := by omega
    rcases (by omega : d < e ∨ d = e ∨ e < d) with c | c | c
    · have z := Int.mul_le_mul_of_nonneg_right (show d + 1 ≤ e by omega) (Int.le_of_lt p)
      rw [Int.add_mul, Int.one_mul] at z
      rw [cmpI_lt c, cmpI_lt (by omega)]
    · rw [c, cmpI_refl, cmpI_add, ih]
    · have z := Int.mul_le_mul_of_nonneg_right (show e + 1 ≤ d by omega) (Int.le_of_lt p)
      rw [Int.add_mul, Int.one_mul] at z
      rw [cmpI_gt c, cmpI_gt (by omega)]
  | [], _ :: _, [], _, k => k.elim
  | _ :: _, _, [], h, _ => h.elim
  | [], _, _ :: _, h, _ => h.elim
  | _ :: _, [], _ :: _, _, k => k.elim
/-- each digit taken from the base less 1 -/
def invD : List Int → List Int → List Int
  | d :: ds, b :: bs => (b - 1 - d) :: invD ds bs
  | _, _ => []
theorem invD_dgs : ∀ {ds bs : List Int}, Dgs ds bs → Dgs (invD ds bs) bs
  | [], [], _ => trivial
  | d :: ds, b :: bs, h => ⟨by have := h.1; omega, invD_dgs h.2⟩
  | [], _ :: _, h => h.elim
  | _ :: _, [], h => h.elim
theorem invD_at : ∀ {ds bs : List Int} {i : Nat} {d b : Int}, ds[i]? = some d → bs[i]? = some b → (invD ds bs)[i]? = some (b - 1 - d)
  | d :: ds, b :: bs, 0, _, _, e1, e2 => by
    cases e1
    cases e2
    rfl
  | d :: ds, b :: bs, i + 1, _, _, e1, e2 => invD_at (ds := ds) (bs := bs) (i := i) e1 e2
  | [], _, _, _, _, e1, _ => by cases e1
  | _ :: _, [], _, _, _, _, e2 => by cases e2
/-- .. turns the order -/
theorem lex_inv : ∀ {ds es bs : List Int}, Dgs ds bs → Dgs es bs → lexG cmpI (invD es bs) (invD ds bs) = lexG cmpI ds es
  | [], [], [], _, _ => rfl
  | d :: ds, e :: es, b :: bs, h, k => by
    have ih := lex_inv h.2 k.2
    show (match cmpI (b - 1 - e) (b - 1 - d) with | .eq => lexG cmpI (invD es bs) (invD ds bs) | .lt => .lt | .gt => .gt) = match cmpI d e with | .eq => lexG cmpI ds es | .lt => .lt | .gt => .gt
    rcases (by omega : d < e ∨ d = e ∨ e < d) with c | c | c
    · rw [cmpI_lt c, cmpI_lt (by omega)]
    · rw [c, cmpI_refl, cmpI_refl, ih]
    · rw [cmpI_gt c, cmpI_gt (by omega)]
  | [], _ :: _, [], _, k => k.elim
  | _ :: _, _, [], h, _ => h.elim
  | [], _, _ :: _, h, _ => h.elim
  | _ :: _, [], _ :: _, _, k => k.elim
/-- how two numerals lie -/
def ordN (bs ds cs es : List Int) : Ordering := lexG cK [.t bs, .t ds] [.t cs, .t es]
theorem ord_val {bs ds cs es : List Int} (h : Dgs ds bs) (k : Dgs es cs) : lexG cK [.t bs, .i (valD ds bs)] [.t cs, .i (valD es cs)] = ordN bs ds cs es := by
  show (match lexG cmpI bs cs with | .eq => (match cmpI (valD ds bs) (valD es cs) with | .eq => Ordering.eq | .lt => .lt | .gt => .gt) | .lt => .lt | .gt => .gt) =
    (match lexG cmpI bs cs with | .eq => (match lexG cmpI ds es with | .eq => Ordering.eq | .lt => .lt | .gt => .gt) | .lt => .lt | .gt => .gt)
  cases e : lexG cmpI bs cs with
  | eq =>
    have q := lexG_eq.mp e
    subst q
    rw [cmp_val h k]
  | lt => rfl
  | gt => rfl
theorem val_inj {bs ds es : List Int} (h : Dgs ds bs) (k : Dgs es bs) (e : valD ds bs = valD es bs) : ds = es := by
  have z := cmp_val h k
  rw [e, cmpI_refl] at z
  exact lexG_eq.mp z.symm
/-- the value as the program sums it up -/
theorem valD_sum : ∀ {ds bs : List Int}, ds.length = bs.length → (List.zipWith (· * ·) ds (wts bs)).sum = valD ds bs
  | [], [], _ => by simp [valD]
  | d :: ds, b :: bs, h => by
    have e : wts (b :: bs) = prodL bs :: wts bs := by
      unfold wts
      rw [List.length_cons, List.range_succ_eq_map, List.map_cons, List.map_map]
      rfl
    rw [e, List.zipWith_cons_cons, List.sum_cons, valD_sum (Nat.succ.inj h)]
    rfl
  | [], _ :: _, h => by cases h
  | _ :: _, [], h => by cases h
theorem wts_len {bs : List Int} : (wts bs).length = bs.length := by
  unfold wts
  rw [List.length_map, List.length_range]
end Ru

set_option Elab.async false
set_option linter.all false
set_option maxRecDepth 100000
set_option maxHeartbeats 4000000
namespace Ru
open PySem PySem.Spec PyProof.Rows L2
/-! ### instances that hold digits, bases and their value -/
def flds (da ba : Addr) (z : Int) : List (Str × V) := [("digits", .ref da), ("bases", .ref ba), ("value", .int z)]
def NumAt (C : Addr) (H : Hp) (a : Addr) (ds bs : List Int) : Prop :=
  ∃ dx da ba, H a = some (.ins C dx (flds da ba (valD ds bs))) ∧ Rd H da (.tup (ds.map V.int)) ∧ Rd H ba (.tup (bs.map V.int))
theorem Same.rd {H H' : Hp} {a : Addr} {u : HO} (s : Same H H') (h : Rd H a u) : Rd H' a u := h.elim (fun q => .inl (s _ _ q)) fun ⟨o, q⟩ => .inr ⟨o, s _ _ q⟩
theorem NumAt.same {C : Addr} {H H' : Hp} {a : Addr} {ds bs : List Int} (s : Same H H') (h : NumAt C H a ds bs) : NumAt C H' a ds bs := by
  obtain ⟨dx, da, ba, h1, h2, h3⟩ := h
  exact ⟨dx, da, ba, s _ _ h1, Same.rd s h2, Same.rd s h3⟩
theorem NumAt.ki {C d : Addr} {H H' : Hp} {a : Addr} {ds bs : List Int} {xs : List V} (s : Ki d H H') (hd : H d = some (.lst xs)) (h : NumAt C H a ds bs) : NumAt C H' a ds bs := by
  obtain ⟨dx, da, ba, h1, h2, h3⟩ := h
  have off : ∀ {b : Addr} {ys : List V}, Rd H b (.tup ys) → b ≠ d := fun {b ys} q e => by
    subst e
    rcases q with q | ⟨o, q⟩ <;> rw [hd] at q <;> cases q
  refine ⟨dx, da, ba, s _ _ h1 (fun e => ?_) (fun _ z => by cases z), s.rd (off h2) (fun _ z => by cases z) h2, s.rd (off h3) (fun _ z => by cases z) h3⟩
  rw [e, hd] at h1
  cases h1
/-- what the text says of the class -/
structure NumK (K : PySem.W.Frag) (mg : Str → Option Value) (C : Addr) : Prop where
  gN : mg "Numeral" = some (.ref C)
  cl : Cls K C
  nD : NoAttr K C "digits"
  nB : NoAttr K C "bases"
  nV : NoAttr K C "value"
  ha : PySem.W.findIn K (.ref C) "__class__" = some (some (.builtin "object.__class__"))
  hn : PySem.W.specialIn K (.builtin "object.__class__") "__get__" = some (some (.builtin "getset_descriptor.__get__"))
  htk : PySem.W.takesIn K (.builtin "object.__class__") = some true
  hm : PySem.W.mroIn K C (.type "object") = some true
  kN : PySem.W.kitOne K (.ref C) (.ref C) = some true
section
variable {K : PySem.W.Frag} {mg : Str → Option Value} {C a : Addr} {H : Hp} {ds bs : List Int}
theorem NumK.ty (N : NumK K mg C) (h : NumAt C H a ds bs) : TyX K H (.ref a) (.ref C) := by
  obtain ⟨dx, da, ba, h1, _⟩ := h
  exact .base (.ins h1 N.cl N.ha N.hn N.htk N.hm)
end
/-! ### reading a row -/
theorem SqA.ix {X : Cx} {b : Bool} {H : Hp} {p : Addr} {xs : List V} {i : Int} {v : V} {Q : VK} (h : SqA X.K b H p xs) (e : atI xs i = some v) (q : Q v H) : rIx X.K (.ref p) (.int i) H Q := by
  cases b with
  | true => exact .inr (.inl ⟨p, xs, i, v, rfl, rfl, h, e, q⟩)
  | false => exact .inl ⟨p, xs, i, v, rfl, rfl, h, e, q⟩
/-- no digit is wrong -/
def spWrong (K : PySem.W.Frag) : Sp := fun vs H Q _ => ∃ (b1 b2 : Bool) (d b : Addr) (ds bs : List Int), vs = [.ref d, .ref b] ∧ SqA K b1 H d (ds.map V.int) ∧ SqA K b2 H b (bs.map V.int) ∧ Dgs ds bs ∧ ∀ H', Same H H' → Q .non H'
/-- a tracked row -/
def RdA (b : Bool) (H : Hp) (a : Addr) (xs : List V) : Prop := Rd H a (if b = true then .tup xs else .lst xs)
/-- a numeral is made at x -/
def spInit (K : PySem.W.Frag) (C : Addr) : Sp := fun vs H Q _ => ∃ (x dx d b : Addr) (b1 b2 : Bool) (ds bs : List Int), vs = [.ref x, .ref d, .ref b] ∧ H x = some (.ins C dx []) ∧ RdA b1 H d (ds.map V.int) ∧ RdA b2 H b (bs.map V.int) ∧ Bss bs ∧ Dgs ds bs ∧
  ∀ H', (∀ c o, H c = some o → c ≠ x → H' c = some o) → NumAt C H' x ds bs → Q .non H'
end Ru

set_option Elab.async false
set_option linter.all false
set_option maxRecDepth 100000
set_option maxHeartbeats 4000000
namespace Ru
open PySem PySem.Spec PyProof.Rows L2
theorem intsD_inj : ∀ {xs ys : List Int}, intsD xs = intsD ys → xs = ys
  | [], [], _ => rfl
  | [], _ :: _, h => by cases h
  | _ :: _, [], h => by cases h
  | x :: xs, y :: ys, h => by
    unfold intsD at h
    rw [List.map_cons, List.map_cons] at h
    injection h with h1 h2
    injection h1 with h1
    rw [h1, intsD_inj (xs := xs) (ys := ys) h2]
theorem passN {X : Cx} : Passes (L2.CX X.prog X.w) X E0 := fun _ _ _ _ _ _ _ ⟨_, _, _, _, _, _, _, _, _, _, _, _, e⟩ => e.elim
/-- the datum of a row of ints -/
def rowD : Bool → List Int → PyData
  | true, zs => .tuple (intsD zs)
  | false, zs => .list (intsD zs)
theorem rowD_seq {b : Bool} {zs : List Int} : seqD (rowD b zs) = true := by cases b <;> rfl
theorem rowD_len {b : Bool} {zs : List Int} : lenD (rowD b zs) = zs.length := by cases b <;> exact List.length_map _
theorem rowD_bss {b : Bool} {zs : List Int} (B : Bss zs) : basesD (rowD b zs) = true := by
  cases b with
  | true => exact (basesD_of B).2
  | false => exact (basesD_of B).1
theorem rowD_or {b : Bool} {zs : List Int} : rowD b zs = .list (intsD zs) ∨ rowD b zs = .tuple (intsD zs) := by
  cases b with
  | true => exact .inr rfl
  | false => exact .inl rfl
theorem rowD_long {b c : Bool} {ds bs : List Int} (B : Bss bs) (h : Dgs ds bs) : longD (rowD b ds) (rowD c bs) = true := by
  unfold longD
  rw [rowD_bss B, rowD_seq, rowD_len, rowD_len, decide_eq_true h.len]
  rfl
section
variable {K : PySem.W.Frag} {b : Bool} {H H' : Hp} {a d : Addr} {zs : List Int} {xs : List V}
theorem RdA.sq (h : RdA b H a xs) : SqA K b H a xs := by
  cases b with
  | true => exact Or.inl h
  | false => exact Or.inl h
theorem RdA.dq (h : RdA b H a (zs.map V.int)) (n : a ≠ d) : Dq K d H (.ref a) (rowD b zs) := by
  cases b with
  | true => exact .tup h n dq_ints
  | false => exact .lst (Or.inl h) n dq_ints
theorem RdA.same (s : Same H H') (h : RdA b H a xs) : RdA b H' a xs := Same.rd s h
theorem RdA.bt (s : Bt d H H') (n : a ≠ d) (h : RdA b H a xs) : RdA b H' a xs := s.rd n h
theorem RdA.ne_ins {C dx x : Addr} {fs : List (Str × V)} (hx : H x = some (.ins C dx fs)) (h : RdA b H a xs) : a ≠ x := fun e => by
  subst e
  rcases h with q | ⟨o, q⟩
  · rw [hx] at q
    cases b <;> cases q
  · rw [hx] at q
    cases q
theorem RdA.ne_new {x : Addr} (hx : H x = none) (h : RdA b H a xs) : a ≠ x := fun e => by
  subst e
  rcases h with q | ⟨o, q⟩ <;> rw [hx] at q <;> cases q
end
/-- tuple(e) of a row -/
def tTupA (te : TE) : TE := fun σ H Q => te σ H fun x H1 => ∃ (b : Bool) (a : Addr) (xs : List V), x = .ref a ∧ RdA b H1 a xs ∧ ∀ l H', Same H1 H' → Rd H' l (.tup xs) → Q (.ref l) H'
theorem pe_tupA {X : Cx} {e : Expr} {te : TE} {p pos : Pos} (g : Gl X "tuple") (m : X.mg "tuple" = none) (he : PE X e te) (hm : ∀ σ H (Q Q' : VK), (∀ v H', Q v H' → Q' v H') → te σ H Q → te σ H Q' := by intro _ _ _ _ f h; obtain ⟨v, e, q⟩ := h; exact ⟨v, e, f _ _ q⟩)
    (hs : starEach [e] X.env = (false, eval e X.env) :: starEach [] X.env := by rfl) : PE X (.Call (.Name "tuple" p) [e] [] pos) (tTupA te) :=
  weaken (pe_callTy call_tuple_of g m boot_tuple (pa_cons he pa_nil hs) (by decide) (by decide) hs (by rfl)) fun σ H Q h => hm σ H _ _ (fun v H1 q => by
    obtain ⟨b, a, xs, rfl, r, k⟩ := q
    cases b with
    | true => exact ⟨a, xs, rfl, .inr ⟨Or.inl r, k a H1 (Same.refl H1) r⟩⟩
    | false => exact ⟨a, xs, rfl, .inl ⟨Or.inl r, fun l hl => k l _ (upd_new hl) (.inl upd_same)⟩⟩) h
theorem Bt.same {d : Addr} {H H' H2 : Hp} (x : Bt d H H') (s : Same H' H2) : Bt d H H2 := x.trans (.of s)
/-- the next item of a list that a comprehension fills -/
theorem fill_next {H0 H : Hp} {D : Addr} {xs : List V} {y : V} (n : H0 D = none) (s : Same H0 H) : Same H0 (upd H D (.lst (xs ++ [y]))) := fun b o e => by
  rw [upd_ne (ne_of_none e n)]
  exact s b o e
theorem take_next {α β : Type} {f : α → β} {zs : List α} {i : Nat} {z : α} (h : zs[i]? = some z) : (zs.take i).map f ++ [f z] = (zs.take (i + 1)).map f := by
  rw [List.take_succ, h, List.map_append]
  rfl
end Ru

set_option Elab.async false
set_option linter.all false
set_option maxRecDepth 100000
set_option maxHeartbeats 4000000
namespace Ru
open PySem PySem.Spec PyProof.Rows L2
/-! ### what the operators of such instances promise -/
def spEqN (C : Addr) : Sp := fun vs H Q _ => ∃ (a b : Addr) (ds bs es cs : List Int), vs = [.ref a, .ref b] ∧ NumAt C H a ds bs ∧ NumAt C H b es cs ∧ Dgs ds bs ∧ Dgs es cs ∧ Bss bs ∧ Bss cs ∧ ∀ H', Same H H' → Q (.bl (decide (bs = cs) && decide (ds = es))) H'
def spOrdN (k : Ko) (C : Addr) : Sp := fun vs H Q _ => ∃ (a b : Addr) (ds bs es cs : List Int), vs = [.ref a, .ref b] ∧ NumAt C H a ds bs ∧ NumAt C H b es cs ∧ Dgs ds bs ∧ Dgs es cs ∧ ∀ H', Same H H' → Q (.bl (k.ans (ordN bs ds cs es))) H'
def spInvN (C : Addr) : Sp := fun vs H Q _ => ∃ (a : Addr) (ds bs : List Int), vs = [.ref a] ∧ NumAt C H a ds bs ∧ Dgs ds bs ∧ Bss bs ∧ ∀ r H', Same H H' → NumAt C H' r (invD ds bs) bs → Q (.ref r) H'
/-- Unlike, of U -/
def spLike (C U : Addr) : Sp := fun vs H Q E => ∃ (a b : Addr) (ds bs es cs : List Int), vs = [.ref a, .ref b] ∧ NumAt C H a ds bs ∧ NumAt C H b es cs ∧ Bss bs ∧ Bss cs ∧ (bs = cs → Q .non H) ∧ (bs ≠ cs → E (.ref U) none H)
/-- at which of the first n places two rows differ -/
def chgN (ds es : List Int) (n : Nat) : List Int := ((List.range n).filter fun j => !decide (ds[j]? = es[j]?)).map fun (j : Nat) => (j : Int)
theorem chg_same {ds es : List Int} {n : Nat} (h : ds[n]? = es[n]?) : chgN ds es (n + 1) = chgN ds es n := by
  unfold chgN
  rw [List.range_succ, List.filter_append, List.map_append, List.filter_cons_of_neg (by rw [decide_eq_true h]; decide), List.filter_nil]
  simp
theorem chg_other {ds es : List Int} {n : Nat} (h : ds[n]? ≠ es[n]?) : chgN ds es (n + 1) = chgN ds es n ++ [(n : Int)] := by
  unfold chgN
  rw [List.range_succ, List.filter_append, List.map_append, List.filter_cons_of_pos (by rw [decide_eq_false h]; decide), List.filter_nil]
  rfl
theorem chg_len {ds es : List Int} {n : Nat} : (chgN ds es n).length ≤ n := by
  unfold chgN
  rw [List.length_map]
  have h := List.length_filter_le (fun j => !decide (ds[j]? = es[j]?)) (List.range n)
  rw [List.length_range] at h
  exact h
def fstV : List Int → V
  | [] => .non
  | z :: _ => .int z
def spChg (C U : Addr) : Sp := fun vs H Q E => ∃ (a b : Addr) (ds bs es cs : List Int), vs = [.ref a, .ref b] ∧ NumAt C H a ds bs ∧ NumAt C H b es cs ∧ Bss bs ∧ Bss cs ∧ Dgs ds bs ∧ Dgs es cs ∧
  (bs = cs → ∀ l H', Same H H' → H l = none → H' l = some (.lst ((chgN ds es ds.length).map V.int)) → Q (.ref l) H') ∧ (bs ≠ cs → E (.ref U) none H)
def spFst (C U : Addr) : Sp := fun vs H Q E => ∃ (a b : Addr) (ds bs es cs : List Int), vs = [.ref a, .ref b] ∧ NumAt C H a ds bs ∧ NumAt C H b es cs ∧ Bss bs ∧ Bss cs ∧ Dgs ds bs ∧ Dgs es cs ∧
  (bs = cs → ∀ H', Same H H' → Q (fstV (chgN ds es ds.length)) H') ∧ (bs ≠ cs → E (.ref U) none H)
/-! ### pairs as data -/
def pairD (bs : List Int) (z : Int) : PyData := .tuple [.tuple (intsD bs), .int z]
theorem shaped_row {cells : List Int} : SeqAt.shaped (.tuple (intsD cells)) = true := by
  have h1 := deep_ints (cells := cells)
  unfold SeqAt.shaped
  rw [Bool.and_eq_true]
  refine ⟨by rw [PyData.canLay0]; exact lay_ints, decide_eq_true ?_⟩
  rw [PyData.depth]
  omega
theorem shaped_pair {bs : List Int} {z : Int} : SeqAt.shaped (pairD bs z) = true := by
  have h1 := deep_ints (cells := bs)
  have h2 := lay_ints (cells := bs)
  unfold SeqAt.shaped pairD
  rw [Bool.and_eq_true]
  refine ⟨?_, decide_eq_true ?_⟩
  · simp only [PyData.canLay0, PyData.canLayAll0, h2, Bool.and_self]
  · simp only [PyData.depth, PyData.depthAll]
    omega
theorem eqv_pair {bs cs : List Int} {y z : Int} : PyData.eqv (pairD bs y) (pairD cs z) = (decide (bs = cs) && decide (y = z)) := by
  unfold pairD
  simp only [PyData.eqv, PyData.eqvAll, eqv_ints, Bool.and_true]
  congr 1
theorem eqv_row {xs ys : List Int} : PyData.eqv (.tuple (intsD xs)) (.tuple (intsD ys)) = decide (xs = ys) := by
  rw [PyData.eqv, eqv_ints]
theorem eqv_lst {xs ys : List Int} : PyData.eqv (.list (intsD xs)) (.list (intsD ys)) = decide (xs = ys) := by
  rw [PyData.eqv, eqv_ints]
/-! ### methods of an own class -/
structure CdM (P : Program) (w : World) (K : PySem.W.Frag) (mg : Str → Option Value) (base : Heap) (CX : CXT) (k : Nat) (C : Addr) (m : Str) (ps : List Str) (sp : Sp) : Prop where
  ex : ∃ (f : Addr) (fd : FuncData), FnOk P w K mg base CX k f fd ps sp ∧ PySem.W.findIn K (.ref C) m = some (some (.ref f)) ∧ PySem.W.isFn K (.ref f) = true ∧ PySem.W.keepIn K (.ref f) = true ∧ Binds K fd ps []
section
variable {X : Cx} {CX : CXT} {k : Nat} {C : Addr} {m : Str} {ps : List Str} {sp : Sp} {E : XK} {apos pos : Pos} {o e : Expr} {es : List Expr} {ta : TE} {t : TA}
/-- o.m(e, ..) -/
theorem pe_cm {pl : Sem Bool} (M : CdM X.prog X.w X.K X.mg X.base CX k C m ps sp) (c : Cls X.K C) (he : PE X o ta) (hr : Room k X.A) (hx : Passes CX X E) (ha : PA X (e :: es) t)
    (hst : starEach (e :: es) X.env = (false, eval e X.env) :: starEach es X.env := by rfl) (hpl : (backTo pos (starEach es X.env)).any (·.1) = false := by rfl)
    (ht : eval (.Call (.Attribute o m apos) (e :: es) [] pos) X.env = (do
      let ov ← eval o X.env
      standAt apos.atName
      let (f, first) ← holding [ov] (getMethod ov m pl)
      callWith pos f first (backTo pos (starEach (e :: es) X.env)) (backToKw pos (keywordEach [] X.env))) := by rfl) :
    PE X (.Call (.Attribute o m apos) (e :: es) [] pos) (tMeth C m sp [] E ta t) := by
  obtain ⟨f, fd, F, a, b, kp, bd⟩ := M.ex
  exact pe_meth (pl := pl) he c ⟨a, b, kp⟩ F hr bd .nil hx ha hst hpl ht
theorem op_cm {op : CmpOp} (hop : ∀ a b, compareOp op a b = richCompare op a b) (M : CdM X.prog X.w X.K X.mg X.base CX k C (cmpInfo op).2.1 ps sp) (hr : Room k X.A) (hx : Passes CX X E) : OpR X (compareOp op) (rOwnI C sp E) := by
  obtain ⟨f, fd, F, a, b, _, bd⟩ := M.ex
  exact op_ownI hop a b F hr bd hx
theorem op_cmNe (M : CdM X.prog X.w X.K X.mg X.base CX k C "__eq__" ps sp) (hn : PySem.W.findIn X.K (.ref C) "__ne__" = some (some (.builtin "object.__ne__"))) (hm : PySem.W.mroIn X.K C (.type "object") = some true) (hr : Room (k + 1) X.A) (hx : Passes CX X E) :
    OpR X (compareOp .NotEq) (rNeI C sp E) := by
  obtain ⟨f, fd, F, a, b, _, bd⟩ := M.ex
  exact op_neI a hn hm b F hr bd hx
theorem un_cm (M : CdM X.prog X.w X.K X.mg X.base CX k C "__invert__" ps sp) (hr : Room k X.A) (hx : Passes CX X E) : UnR X (unaryOp .Invert) (rInvI C sp E) := by
  obtain ⟨f, fd, F, a, b, _, bd⟩ := M.ex
  exact un_invI a b F hr bd hx
end
/-! ### a class that is made -/
structure CdC (P : Program) (w : World) (K : PySem.W.Frag) (mg : Str → Option Value) (base : Heap) (CX : CXT) (k : Nat) (x : Str) (C : Addr) (ps : List Str) (sp : Sp) : Prop where
  ex : ∃ (f : Addr) (fd : FuncData), FnOk P w K mg base CX k f fd ps sp ∧ Mk K C f ∧ mg x = some (.ref C) ∧ Binds K fd ps []
theorem pe_cc {X : Cx} {CX : CXT} {k : Nat} {C : Addr} {x : Str} {ps : List Str} {sp : Sp} {E : XK} {p pos : Pos} {e : Expr} {es : List Expr} {t : TA} (M : CdC X.prog X.w X.K X.mg X.base CX k x C ps sp) (hr : Room (k + 1) X.A) (hg : Gl X x) (hx : Passes CX X E) (ha : PA X (e :: es) t)
    (hdb : (x == ("__debug__" : Str)) = false := by decide) (he : starEach (e :: es) X.env = (false, eval e X.env) :: starEach es X.env := by rfl) (hpl : (backTo pos (starEach es X.env)).any (·.1) = false := by rfl) : PE X (.Call (.Name x p) (e :: es) [] pos) (tMake C sp [] E t) := by
  obtain ⟨f, fd, F, m, g, b⟩ := M.ex
  exact pe_make m F hr hg g b .nil hx ha hdb he hpl
end Ru
namespace Ru
open PySem PySem.Spec PyProof.Rows L2
/-- a numeral comes to be -/
theorem make_num {K : PySem.W.Frag} {C : Addr} {H : Hp} {d b : Addr} {b1 b2 : Bool} {ds bs : List Int} {Q : VK} {E : XK} (hd : RdA b1 H d (ds.map V.int)) (hb : RdA b2 H b (bs.map V.int)) (B : Bss bs) (D : Dgs ds bs)
    (k : ∀ r H', Same H H' → H r = none → NumAt C H' r ds bs → Q (.ref r) H') (x dx : Addr) (nx : H x = none) (nd : H dx = none) (ne : dx ≠ x) :
    spInit K C (.ref x :: ([.ref d, .ref b] ++ [])) (upd (upd H dx (.own x)) x (.ins C dx [])) (fun v H2 => v = .non ∧ Q (.ref x) H2) E := by
  have s : Same H (upd (upd H dx (.own x)) x (.ins C dx [])) := fun c o e => by
    rw [upd_ne (ne_of_none e nx), upd_ne (ne_of_none e nd)]
    exact e
  exact ⟨x, dx, d, b, b1, b2, ds, bs, rfl, upd_same, hd.same s, hb.same s, B, D, fun H' kp num => ⟨rfl, k x H' (fun c o e => kp c o (s c o e) (ne_of_none e nx)) nx num⟩⟩
end Ru
namespace Ru
open PySem PySem.Spec PyProof.Rows L2
/-- a reading asks no more of a weaker wish -/
def Mono (te : TE) : Prop := ∀ (σ : L2.St) (H : Hp) (Q Q' : VK), (∀ v H', Q v H' → Q' v H') → te σ H Q → te σ H Q'
theorem mono_var {i : Nat} : Mono (tVar i) := fun _ _ _ _ f ⟨v, e, q⟩ => ⟨v, e, f _ _ q⟩
theorem mono_c {v : V} : Mono (tC v) := fun _ _ _ _ f q => f _ _ q
theorem mono_op {r : R2} {ta tb : TE} (hr : ∀ x y H (Q Q' : VK), (∀ v H', Q v H' → Q' v H') → r x y H Q → r x y H Q') (a : Mono ta) (b : Mono tb) : Mono (tOp r ta tb) := fun σ H Q Q' f h => a σ H _ _ (fun x H1 h1 => b σ H1 _ _ (fun y H2 h2 => hr x y H2 Q Q' f h2) h1) h
theorem mono_ixT {K : PySem.W.Frag} {ta tb : TE} (a : Mono ta) (b : Mono tb) : Mono (tOp (rIxT K) ta tb) := mono_op (fun _ _ _ _ _ f ⟨p, xs, i, v, h1, h2, h3, h4, q⟩ => ⟨p, xs, i, v, h1, h2, h3, h4, f _ _ q⟩) a b
theorem mono_ixL {K : PySem.W.Frag} {ta tb : TE} (a : Mono ta) (b : Mono tb) : Mono (tOp (rIxL K) ta tb) := mono_op (fun _ _ _ _ _ f ⟨p, xs, i, v, h1, h2, h3, h4, q⟩ => ⟨p, xs, i, v, h1, h2, h3, h4, f _ _ q⟩) a b
theorem mono_tupA {te : TE} (a : Mono te) : Mono (tTupA te) := fun σ H Q Q' f h => a σ H _ _ (fun x H1 ⟨b, c, xs, h1, h2, q⟩ => ⟨b, c, xs, h1, h2, fun l H' s r => f _ _ (q l H' s r)⟩) h
/-- Numeral(e1, e2) of a row of digits and a row of bases -/
def tNum (C : Addr) (t1 t2 : TE) : TE := fun σ H Q => t1 σ H fun u H1 => t2 σ H1 fun v H2 => ∃ (d b : Addr) (b1 b2 : Bool) (ds bs : List Int), u = .ref d ∧ v = .ref b ∧ RdA b1 H2 d (ds.map V.int) ∧ RdA b2 H2 b (bs.map V.int) ∧ Bss bs ∧ Dgs ds bs ∧
  ∀ r H', Same H2 H' → H2 r = none → NumAt C H' r ds bs → Q (.ref r) H'
theorem pe_num {X : Cx} {k : Nat} {C : Addr} {x : Str} {e1 e2 : Expr} {t1 t2 : TE} {p pos : Pos} (M : CdC X.prog X.w X.K X.mg X.base CX0 k x C ["self", "digits", "bases"] (spInit X.K C)) (hr : Room (k + 1) X.A) (hg : Gl X x) (h1 : PE X e1 t1) (h2 : PE X e2 t2)
    (m1 : Mono t1) (m2 : Mono t2) (hdb : (x == ("__debug__" : Str)) = false := by decide) (hs : starEach [e1, e2] X.env = (false, eval e1 X.env) :: starEach [e2] X.env := by rfl) (hs2 : starEach [e2] X.env = (false, eval e2 X.env) :: starEach [] X.env := by rfl)
    (hpl : (backTo pos (starEach [e2] X.env)).any (·.1) = false := by rfl) : PE X (.Call (.Name x p) [e1, e2] [] pos) (tNum C t1 t2) :=
  weaken (pe_cc (E := E0) M hr hg pass0 (pa_cons h1 (pa_cons h2 pa_nil hs2) hs) hdb hs hpl) fun σ H Q h => m1 σ H _ _ (fun u H1 q1 => m2 σ H1 _ _ (fun v H2 q => by
    obtain ⟨d, b, b1, b2, ds, bs, rfl, rfl, r1, r2, B, D, kk⟩ := q
    exact fun y dx ny nd ne => make_num r1 r2 B D kk y dx ny nd ne) q1) h
end Ru

set_option Elab.async false
set_option linter.all false
set_option maxRecDepth 100000
set_option maxHeartbeats 4000000
namespace Ru
open PySem PySem.Spec PyProof.Rows L2
/-- what a class must be, so that its own operator is asked of an int behind it -/
structure BinC (K : PySem.W.Frag) (C : Addr) (nm : String) : Prop where
  r : PySem.W.findIn K (.ref C) (dunderR nm) = some none
  h1 : (PySem.W.findIn K (.type "int") (PySem.dunder nm)).isSome = true
  h2 : (PySem.W.findIn K (.type "int") (dunderR nm)).isSome = true
section
variable {X : Cx} {CX : CXT} {k : Nat} {C : Addr} {m : Str} {ps : List Str} {sp : Sp} {E : XK}
theorem op_bm {op : Operator} (M : CdM X.prog X.w X.K X.mg X.base CX k C m ps sp) (hm : PySem.dunder op.info.2 = m) (c : PySem.W.selfFirst X.K C = true) (B : BinC X.K C op.info.2) (u : PySem.W.subIn X.K (.type "int") (.ref C) = some false) (hr : Room k X.A) (hx : Passes CX X E) :
    OpR X (binaryOp op) (rBinI C sp E) := by
  subst hm
  obtain ⟨f, fd, F, a, b, _, bd⟩ := M.ex
  exact op_binI ⟨c, a, b, B.r, Option.isSome_iff_exists.mp B.h1, Option.isSome_iff_exists.mp B.h2, u⟩ F hr bd hx
theorem op_bs {op : Operator} (M : CdM X.prog X.w X.K X.mg X.base CX k C m ps sp) (hm : PySem.dunder op.info.2 = m) (c : PySem.W.selfFirst X.K C = true) (hr : Room k X.A) (hx : Passes CX X E) : OpR X (binaryOp op) (rOwnI C sp E) := by
  subst hm
  obtain ⟨f, fd, F, a, b, _, bd⟩ := M.ex
  exact op_binS c a b F hr bd hx
theorem un_cn (M : CdM X.prog X.w X.K X.mg X.base CX k C "__neg__" ps sp) (hr : Room k X.A) (hx : Passes CX X E) : UnR X (unaryOp .USub) (rInvI C sp E) := by
  obtain ⟨f, fd, F, a, b, _, bd⟩ := M.ex
  exact un_negI a b F hr bd hx
theorem call_cb (M : CdM X.prog X.w X.K X.mg X.base CX k C "__bool__" ps sp) (hr : Room (k + 2) X.A) (hx : Passes CX X E) : CallR X (.type "bool") (rBoolI C sp E) := by
  obtain ⟨f, fd, F, a, b, _, bd⟩ := M.ex
  exact call_boolI a b F hr bd hx
end
end Ru

set_option Elab.async false
set_option linter.all false
set_option maxRecDepth 100000
set_option maxHeartbeats 4000000
namespace Ru
open PySem PySem.Spec PyProof.Rows L2
/-! ### digits joined, turned and moved -/
def negD : List Int → List Int → List Int
  | d :: ds, b :: bs => ((b - d) % b) :: negD ds bs
  | _, _ => []
def xorD : List Int → List Int → List Int → List Int
  | d :: ds, e :: es, b :: bs => ((d + e) % b) :: xorD ds es bs
  | _, _, _ => []
theorem negD_dgs : ∀ {ds bs : List Int}, Dgs ds bs → Dgs (negD ds bs) bs
  | [], [], _ => trivial
  | d :: ds, b :: bs, h => ⟨⟨Int.emod_nonneg _ (by have := h.1; omega), Int.emod_lt_of_pos _ (by have := h.1; omega)⟩, negD_dgs h.2⟩
  | [], _ :: _, h => h.elim
  | _ :: _, [], h => h.elim
theorem xorD_dgs : ∀ {ds es bs : List Int}, Dgs ds bs → Dgs es bs → Dgs (xorD ds es bs) bs
  | [], [], [], _, _ => trivial
  | d :: ds, e :: es, b :: bs, h, k => ⟨⟨Int.emod_nonneg _ (by have := h.1; omega), Int.emod_lt_of_pos _ (by have := h.1; omega)⟩, xorD_dgs h.2 k.2⟩
  | [], _ :: _, [], _, k => k.elim
  | _ :: _, _, [], h, _ => h.elim
  | [], _, _ :: _, h, _ => h.elim
  | _ :: _, [], _ :: _, _, k => k.elim
theorem negD_at : ∀ {ds bs : List Int} {i : Nat} {d b : Int}, ds[i]? = some d → bs[i]? = some b → (negD ds bs)[i]? = some ((b - d) % b)
  | d :: ds, b :: bs, 0, _, _, e1, e2 => by
    cases e1
    cases e2
    rfl
  | d :: ds, b :: bs, i + 1, _, _, e1, e2 => negD_at (ds := ds) (bs := bs) (i := i) e1 e2
  | [], _, _, _, _, e1, _ => by cases e1
  | _ :: _, [], _, _, _, _, e2 => by cases e2
theorem xorD_at : ∀ {ds es bs : List Int} {i : Nat} {d e b : Int}, ds[i]? = some d → es[i]? = some e → bs[i]? = some b → (xorD ds es bs)[i]? = some ((d + e) % b)
  | d :: ds, e :: es, b :: bs, 0, _, _, _, e1, e2, e3 => by
    cases e1
    cases e2
    cases e3
    rfl
  | d :: ds, e :: es, b :: bs, i + 1, _, _, _, e1, e2, e3 => xorD_at (ds := ds) (es := es) (bs := bs) (i := i) e1 e2 e3
  | [], _, _, _, _, _, _, e1, _, _ => by cases e1
  | _ :: _, [], _, _, _, _, _, _, e2, _ => by cases e2
  | _ :: _, _ :: _, [], _, _, _, _, _, _, e3 => by cases e3
theorem xorD_comm : ∀ {ds es bs : List Int}, Dgs ds bs → Dgs es bs → xorD ds es bs = xorD es ds bs
  | [], [], [], _, _ => rfl
  | d :: ds, e :: es, b :: bs, h, k => by
    show ((d + e) % b) :: xorD ds es bs = ((e + d) % b) :: xorD es ds bs
    rw [xorD_comm h.2 k.2, Int.add_comm]
  | [], _ :: _, [], _, k => k.elim
  | _ :: _, _, [], h, _ => h.elim
  | [], _, _ :: _, h, _ => h.elim
  | _ :: _, [], _ :: _, _, k => k.elim
theorem xorD_assoc : ∀ {ds es fs bs : List Int}, Dgs ds bs → Dgs es bs → Dgs fs bs → xorD (xorD ds es bs) fs bs = xorD ds (xorD es fs bs) bs
  | [], [], [], [], _, _, _ => rfl
  | d :: ds, e :: es, f :: fs, b :: bs, h, k, l => by
    show (((d + e) % b + f) % b) :: xorD (xorD ds es bs) fs bs = ((d + (e + f) % b) % b) :: xorD ds (xorD es fs bs) bs
    rw [xorD_assoc h.2 k.2 l.2, Int.emod_add_emod, Int.add_emod_emod, Int.add_assoc]
  | _, _, _ :: _, [], _, _, l => l.elim
  | _, _ :: _, _, [], _, k, _ => k.elim
  | _ :: _, _, _, [], h, _, _ => h.elim
  | [], _, _, _ :: _, h, _, _ => h.elim
  | _, [], _, _ :: _, _, k, _ => k.elim
  | _, _, [], _ :: _, _, _, l => l.elim
theorem xor_neg : ∀ {ds es bs : List Int}, Dgs ds bs → Dgs es bs → xorD (xorD ds es bs) (negD es bs) bs = ds
  | [], [], [], _, _ => rfl
  | d :: ds, e :: es, b :: bs, h, k => by
    show (((d + e) % b + (b - e) % b) % b) :: xorD (xorD ds es bs) (negD es bs) bs = d :: ds
    have := h.1
    rw [xor_neg h.2 k.2, Int.emod_add_emod, Int.add_emod_emod, show d + e + (b - e) = d + b by omega, Int.add_emod_right, Int.emod_eq_of_lt this.1 this.2]
  | [], _ :: _, [], _, k => k.elim
  | _ :: _, _, [], h, _ => h.elim
  | [], _, _ :: _, h, _ => h.elim
  | _ :: _, [], _ :: _, _, k => k.elim
theorem neg_neg : ∀ {ds bs : List Int}, Dgs ds bs → negD (negD ds bs) bs = ds
  | [], [], _ => rfl
  | d :: ds, b :: bs, h => by
    show ((b - (b - d) % b) % b) :: negD (negD ds bs) bs = d :: ds
    have := h.1
    rw [neg_neg h.2]
    congr 1
    by_cases c : d = 0
    · rw [c, Int.sub_zero, Int.emod_self, Int.sub_zero, Int.emod_self]
    · rw [Int.emod_eq_of_lt (by omega : 0 ≤ b - d) (by omega), show b - (b - d) = d by omega, Int.emod_eq_of_lt this.1 this.2]
  | [], _ :: _, h => h.elim
  | _ :: _, [], h => h.elim
theorem inv_inv : ∀ {ds bs : List Int}, Dgs ds bs → invD (invD ds bs) bs = ds
  | [], [], _ => rfl
  | d :: ds, b :: bs, h => by
    show (b - 1 - (b - 1 - d)) :: invD (invD ds bs) bs = d :: ds
    rw [inv_inv h.2]
    congr 1
    omega
  | [], _ :: _, h => h.elim
  | _ :: _, [], h => h.elim
theorem val_xneg : ∀ {ds bs : List Int}, Dgs ds bs → valD (xorD ds (negD ds bs) bs) bs = 0
  | [], [], _ => rfl
  | d :: ds, b :: bs, h => by
    show ((d + (b - d) % b) % b) * prodL bs + valD (xorD ds (negD ds bs) bs) bs = 0
    rw [val_xneg h.2, Int.add_emod_emod, show d + (b - d) = b by omega, Int.emod_self, Int.zero_mul]
    rfl
  | [], _ :: _, h => h.elim
  | _ :: _, [], h => h.elim
/-! ### moved -/
/-- the j-th digit can't go k places up -/
def badJ (ds bs : List Int) (k : Int) (j : Nat) : Bool :=
  if (j : Int) - k < 0 then decide (ds.getD j 0 ≠ 0) else if (j : Int) - k < ds.length then decide (bs.getD ((j : Int) - k).toNat 0 ≤ ds.getD j 0) else false
def mvA (ds : List Int) (k : Int) (i g : Nat) : Int := if 0 ≤ (g : Int) + k ∧ (g : Int) + k < i then ds.getD ((g : Int) + k).toNat 0 else 0
/-- the first i digits k places up, all else 0 -/
def mvL (ds : List Int) (k : Int) (i : Nat) : List Int := (List.range ds.length).map (mvA ds k i)
theorem mvL_len {ds : List Int} {k : Int} {i : Nat} : (mvL ds k i).length = ds.length := by
  unfold mvL
  rw [List.length_map, List.length_range]
theorem mvL_at {ds : List Int} {k : Int} {i g : Nat} (h : g < ds.length) : (mvL ds k i)[g]? = some (mvA ds k i g) := by
  unfold mvL
  rw [List.getElem?_map, List.getElem?_range h]
  rfl
theorem mvL_ext {ds xs : List Int} {k : Int} {i : Nat} (hl : xs.length = ds.length) (h : ∀ g, g < ds.length → xs[g]? = some (mvA ds k i g)) : xs = mvL ds k i := by
  apply List.ext_getElem?
  intro g
  by_cases c : g < ds.length
  · rw [h g c, mvL_at c]
  · rw [List.getElem?_eq_none (by omega), List.getElem?_eq_none (by rw [mvL_len]; omega)]
theorem mvL_0 {ds : List Int} {k : Int} : List.replicate ds.length 0 = mvL ds k 0 := by
  refine mvL_ext (List.length_replicate) fun g h => ?_
  rw [List.getElem?_replicate, if_pos h]
  unfold mvA
  rw [if_neg (by omega)]
theorem mvL_skip {ds : List Int} {k : Int} {i : Nat} (h : (i : Int) - k < 0 ∨ (ds.length : Int) ≤ (i : Int) - k) : mvL ds k i = mvL ds k (i + 1) := by
  refine mvL_ext mvL_len fun g hg => ?_
  rw [mvL_at hg]
  congr 1
  unfold mvA
  by_cases c : 0 ≤ (g : Int) + k ∧ (g : Int) + k < i
  · rw [if_pos c, if_pos (by omega)]
  · rw [if_neg c, if_neg (by omega)]
theorem mvL_set {ds : List Int} {k : Int} {i m : Nat} (h : (i : Int) - k = m) (hm : m < ds.length) : (mvL ds k i).set m (ds.getD i 0) = mvL ds k (i + 1) := by
  refine mvL_ext (by rw [List.length_set, mvL_len]) fun g hg => ?_
  rw [List.getElem?_set]
  by_cases c : m = g
  · subst c
    rw [if_pos rfl, if_pos (by rw [mvL_len]; exact hm)]
    unfold mvA
    rw [if_pos (by omega), show ((m : Int) + k).toNat = i by omega]
  · rw [if_neg c, mvL_at hg]
    congr 1
    unfold mvA
    by_cases c2 : 0 ≤ (g : Int) + k ∧ (g : Int) + k < i
    · rw [if_pos c2, if_pos (by omega)]
    · rw [if_neg c2, if_neg (by omega)]
theorem getD_at {xs : List Int} {i : Nat} {x : Int} (h : xs[i]? = some x) : xs.getD i 0 = x := by
  rw [List.getD_eq_getElem?_getD, h]
  rfl
theorem mv_dgs {ds bs : List Int} {k : Int} (h : Dgs ds bs) (hn : ∀ j, j < ds.length → badJ ds bs k j = false) : Dgs (mvL ds k ds.length) bs := by
  have hl := h.len
  refine dgs_of (by rw [mvL_len, hl]) fun g d b e1 e2 => ?_
  have hg : g < bs.length := (List.getElem?_eq_some_iff.mp e2).1
  rw [mvL_at (by omega)] at e1
  have e1 : mvA ds k ds.length g = d := Option.some.inj e1
  have b0 : 0 < b := by
    have z := h.at (List.getElem?_eq_getElem (show g < ds.length by omega)) e2
    omega
  rw [← e1]
  unfold mvA
  by_cases c : 0 ≤ (g : Int) + k ∧ (g : Int) + k < ds.length
  · rw [if_pos c]
    obtain ⟨j, hj⟩ := Int.eq_ofNat_of_zero_le c.1
    have hj2 : j < ds.length := by omega
    rw [hj, Int.toNat_natCast]
    have z := hn j hj2
    unfold badJ at z
    rw [if_neg (by omega), if_pos (by omega), show ((j : Int) - k).toNat = g by omega, getD_at e2] at z
    have z2 := of_decide_eq_false z
    have e3 : ds[j]? = some ds[j] := List.getElem?_eq_getElem hj2
    rw [getD_at e3] at z2 ⊢
    have e4 : bs[j]? = some bs[j] := List.getElem?_eq_getElem (by omega)
    have := h.at e3 e4
    omega
  · rw [if_neg c]
    omega
/-! ### .. and what is due -/
/-- the places whose digit is none -/
def wrN (xs bs : List Int) (n : Nat) : List Int := ((List.range n).filter fun j => decide (bs.getD j 0 ≤ xs.getD j 0)).map fun (j : Nat) => (j : Int)
theorem wr_len {xs bs : List Int} {n : Nat} : (wrN xs bs n).length ≤ n := by
  unfold wrN
  rw [List.length_map]
  have h := List.length_filter_le (fun j => decide (bs.getD j 0 ≤ xs.getD j 0)) (List.range n)
  rw [List.length_range] at h
  exact h
theorem wr_no {xs bs : List Int} {n : Nat} (h : ¬ bs.getD n 0 ≤ xs.getD n 0) : wrN xs bs (n + 1) = wrN xs bs n := by
  unfold wrN
  rw [List.range_succ, List.filter_append, List.filter_cons_of_neg (by rw [decide_eq_false h]; decide), List.filter_nil, List.append_nil]
theorem wr_yes {xs bs : List Int} {n : Nat} (h : bs.getD n 0 ≤ xs.getD n 0) : wrN xs bs (n + 1) = wrN xs bs n ++ [(n : Int)] := by
  unfold wrN
  rw [List.range_succ, List.filter_append, List.filter_cons_of_pos (by rw [decide_eq_true h]), List.filter_nil, List.map_append]
  rfl
theorem wr_nil {xs bs : List Int} {n : Nat} : wrN xs bs n = [] ↔ ∀ j, j < n → ¬ bs.getD j 0 ≤ xs.getD j 0 := by
  unfold wrN
  rw [List.map_eq_nil_iff, List.filter_eq_nil_iff]
  constructor
  · intro h j hj q
    exact h j (List.mem_range.mpr hj) (decide_eq_true q)
  · intro h j hj q
    exact h j (List.mem_range.mp hj) (of_decide_eq_true q)
/-- those above 0 -/
def posL (zs : List Int) : List Int := zs.filter fun z => decide (0 < z)
theorem pos_nil {zs : List Int} : posL zs = [] ↔ ∀ z ∈ zs, ¬ 0 < z := by
  unfold posL
  rw [List.filter_eq_nil_iff]
  exact ⟨fun h z hz q => h z hz (decide_eq_true q), fun h z hz q => h z hz (of_decide_eq_true q)⟩
theorem up_eq {ds : List Int} {k : Int} {m : Nat} (h0 : 0 ≤ k) (hm : (m : Int) = min k ds.length) : (ds ++ List.replicate m 0).drop m = mvL ds k ds.length := by
  refine mvL_ext (by rw [List.length_drop, List.length_append, List.length_replicate]; omega) fun g hg => ?_
  rw [List.getElem?_drop]
  unfold mvA
  by_cases c : 0 ≤ (g : Int) + k ∧ (g : Int) + k < ds.length
  · rw [if_pos c, List.getElem?_append_left (by omega), show ((g : Int) + k).toNat = m + g by omega]
    rw [getD_at (List.getElem?_eq_getElem (show m + g < ds.length by omega)), List.getElem?_eq_getElem (show m + g < ds.length by omega)]
  · rw [if_neg c, List.getElem?_append_right (by omega), List.getElem?_replicate, if_pos (by omega)]
theorem dn_eq {ds : List Int} {k : Int} {m : Nat} (h0 : 0 ≤ k) (hm : (m : Int) = min k ds.length) : (List.replicate m 0 ++ ds).take ds.length = mvL ds (-k) ds.length := by
  refine mvL_ext (by rw [List.length_take, List.length_append, List.length_replicate]; omega) fun g hg => ?_
  rw [List.getElem?_take, if_pos hg]
  unfold mvA
  by_cases c : 0 ≤ (g : Int) + -k ∧ (g : Int) + -k < ds.length
  · rw [if_pos c, List.getElem?_append_right (by rw [List.length_replicate]; omega), List.length_replicate, show ((g : Int) + -k).toNat = g - m by omega]
    rw [getD_at (List.getElem?_eq_getElem (show g - m < ds.length by omega)), List.getElem?_eq_getElem (show g - m < ds.length by omega)]
  · rw [if_neg c, List.getElem?_append_left (by rw [List.length_replicate]; omega), List.getElem?_replicate, if_pos (by omega)]
theorem up_bad {ds bs : List Int} {k : Int} {m : Nat} (h : Dgs ds bs) (h0 : 0 ≤ k) (hm : (m : Int) = min k ds.length) :
    (∀ j, j < ds.length → badJ ds bs k j = false) ↔ wrN (mvL ds k ds.length) bs ds.length = [] ∧ posL (ds.take m) = [] := by
  have hl := h.len
  rw [wr_nil, pos_nil]
  constructor
  · intro q
    refine ⟨fun g hg z => ?_, fun z hz p => ?_⟩
    · have d := mv_dgs h q
      have e1 := mvL_at (k := k) (i := ds.length) hg
      have e2 : bs[g]? = some bs[g] := List.getElem?_eq_getElem (by omega)
      have := d.at e1 e2
      rw [getD_at e1, getD_at e2] at z
      omega
    · obtain ⟨j, hj, e⟩ := List.getElem_of_mem hz
      rw [List.length_take] at hj
      have e3 : (ds.take m)[j]? = some z := by rw [List.getElem?_eq_getElem (by rw [List.length_take]; exact hj), e]
      rw [List.getElem?_take, if_pos (by omega)] at e3
      have z2 := q j (by omega)
      unfold badJ at z2
      rw [if_pos (by omega), getD_at e3] at z2
      have := of_decide_eq_false z2
      omega
  · rintro ⟨q1, q2⟩ j hj
    have e3 : ds[j]? = some ds[j] := List.getElem?_eq_getElem hj
    have e4 : bs[j]? = some bs[j] := List.getElem?_eq_getElem (by omega)
    have dj := h.at e3 e4
    unfold badJ
    by_cases c : (j : Int) - k < 0
    · rw [if_pos c, getD_at e3]
      refine decide_eq_false fun z => ?_
      refine q2 ds[j] ?_ (by omega)
      refine List.mem_of_getElem? (i := j) ?_
      rw [List.getElem?_take, if_pos (by omega), e3]
    · rw [if_neg c, if_pos (by omega)]
      refine decide_eq_false fun z => ?_
      obtain ⟨g, hg⟩ := Int.eq_ofNat_of_zero_le (show 0 ≤ (j : Int) - k by omega)
      have e1 := mvL_at (ds := ds) (k := k) (i := ds.length) (g := g) (by omega)
      refine q1 g (by omega) ?_
      rw [getD_at e1]
      unfold mvA
      rw [if_pos (by omega), show ((g : Int) + k).toNat = j by omega]
      rw [hg, Int.toNat_natCast] at z
      exact z
theorem dn_bad {ds bs : List Int} {k : Int} (h : Dgs ds bs) (h0 : 0 ≤ k) :
    (∀ j, j < ds.length → badJ ds bs (-k) j = false) ↔ wrN (mvL ds (-k) ds.length) bs ds.length = [] ∧ posL [] = [] := by
  have hl := h.len
  rw [wr_nil]
  constructor
  · intro q
    refine ⟨fun g hg z => ?_, rfl⟩
    have d := mv_dgs h q
    have e1 := mvL_at (k := -k) (i := ds.length) hg
    have e2 : bs[g]? = some bs[g] := List.getElem?_eq_getElem (by omega)
    have := d.at e1 e2
    rw [getD_at e1, getD_at e2] at z
    omega
  · rintro ⟨q1, _⟩ j hj
    unfold badJ
    rw [if_neg (by omega)]
    by_cases c : (j : Int) - -k < ds.length
    · rw [if_pos c]
      refine decide_eq_false fun z => ?_
      obtain ⟨g, hg⟩ := Int.eq_ofNat_of_zero_le (show 0 ≤ (j : Int) - -k by omega)
      have e1 := mvL_at (ds := ds) (k := -k) (i := ds.length) (g := g) (by omega)
      refine q1 g (by omega) ?_
      rw [getD_at e1]
      unfold mvA
      rw [if_pos (by omega), show ((g : Int) + -k).toNat = j by omega]
      rw [hg, Int.toNat_natCast] at z
      exact z
    · rw [if_neg c]
end Ru

set_option Elab.async false
set_option linter.all false
set_option maxRecDepth 100000
set_option maxHeartbeats 4000000
namespace Ru
open PySem PySem.Spec PyProof.Rows L2
/-! ### own signs that are met from the right, and in place -/
section
variable {prog : Program} {w : World} {A : Around} {E : Value → Shared → Prop} {s : Shared} {K : PySem.W.Frag} {x y C f : Addr} {ox oy : Obj} {od oe : Option Obj} {a b : Value}
/-- what the sign's first road gives is the sign's value -/
theorem sign_of {op : Operator} {Q : Value → Shared → Prop} (h : wpAny (model prog w) A (binaryOp1 op.info.2 a b) (fun r s' => ∃ v, r = some v ∧ Q v s') E s) : wpAny (model prog w) A (binaryOp op a b) Q E s := by
  rcases e : op.info with ⟨sy, nm⟩
  rw [e] at h
  simp only [binaryOp, e]
  refine wpAny_holding (wpAny_bind (wpAny_mono h (fun r s' z => ?_) fun _ _ z => z))
  obtain ⟨v, rfl, q⟩ := z
  exact wpAny_pure q
theorem inSign_of {op : Operator} {T : Value} {Q : Value → Shared → Prop} (ht : PySem.W.Looks (model prog w) s.heap (typeOf a) T) (hf : PySem.W.Looks (model prog w) s.heap (fillsInplaceSlot T op.info.2 (op == .Add)) false)
    (h : wpAny (model prog w) A (binaryOp1 op.info.2 a b) (fun r s' => ∃ v, r = some v ∧ Q v s') E s) : wpAny (model prog w) A (inplaceOp op a b) Q E s := by
  obtain ⟨hh, g, d, tt, os⟩ := s
  unfold inplaceOp
  refine wpAny_holding (wpAny_bind (ht.at (wpAny_bind (hf.at ?_))))
  rw [if_neg Bool.false_ne_true]
  refine wpAny_bind (wpAny_mono h (fun r s' z => ?_) fun _ _ z => z)
  obtain ⟨v, rfl, q⟩ := z
  exact wpAny_pure q
/-- the class has no such sign in place, nor has object -/
theorem noIn {nm : String} {add : Bool} (X : K.In s.heap) (hm : (PySem.W.clsIn K C).map (·.mro) = some [.ref C, .type "object"]) (h1 : PySem.W.findIn K (.ref C) (dunderI nm) = some none) (h2 : PySem.W.findIn K (.type "object") (dunderI nm) = some none) :
    PySem.W.Looks (model prog w) s.heap (fillsInplaceSlot (.ref C) nm add) false := by
  intro A Q E s' k q
  obtain ⟨cd, hc, hm⟩ := Option.map_eq_some_iff.mp hm
  have Lm : PySem.W.Looks (model prog w) s.heap (mroOf (.ref C)) cd.mro := (PySem.W.looks_clsIn X hc).andThen (f := fun cd => pure cd.mro) .now
  have Lm' := Lm.keeps k
  obtain ⟨hh, g, d, tt, os⟩ := s'
  have X' : K.In hh := X.keeps k
  have La : PySem.W.Looks (model prog w) hh (typeLookup (.ref C) (dunderI nm)) none := PySem.W.looks_findIn X' h1
  have Lb : PySem.W.Looks (model prog w) hh (typeLookup (.type "object") (dunderI nm)) none := PySem.W.looks_findIn X' h2
  unfold fillsInplaceSlot
  refine wpAny_bind (Lm'.at ?_)
  rw [hm, List.anyM_cons]
  refine wpAny_bind (wpAny_bind (La.at (wpAny_pure ?_)))
  simp only [Bool.false_eq_true, if_false]
  rw [List.anyM_cons]
  refine wpAny_bind (wpAny_bind (Lb.at (wpAny_pure ?_)))
  simp only [Bool.false_eq_true, if_false]
  rw [List.anyM_nil]
  exact wpAny_pure q
/-- two instances of one class -/
theorem road_same {nm : String} {Q : Value → Shared → Prop} (X : K.In s.heap) (I : PySem.W.InstAt s.heap x ox C od) (J : PySem.W.InstAt s.heap y oy C oe) (hc : PySem.W.selfFirst K C = true) (hs : PySem.W.findIn K (.ref C) (PySem.dunder nm) = some (some (.ref f)))
    (hf : PySem.W.isFn K (.ref f) = true) (h : wpAny (model prog w) A (call (.ref f) [.ref x, .ref y]) (PySem.W.CmpBack Q) E s) : wpAny (model prog w) A (binaryOp1 nm (.ref x) (.ref y)) (fun r s' => ∃ v, r = some v ∧ Q v s') E s := by
  obtain ⟨cd, rest, hcd, hm⟩ := PySem.W.ksp_first hc
  have one := PySem.W.ksp_try X I hs hf h
  obtain ⟨hh, g, d, tt, os⟩ := s
  have Ta : PySem.W.Looks (model prog w) hh (typeOf (.ref x)) (.ref C) := I.type
  have Tb : PySem.W.Looks (model prog w) hh (typeOf (.ref y)) (.ref C) := J.type
  have Fa : PySem.W.Looks (model prog w) hh (fillsNumberSlot (.ref C) nm) true := PySem.W.fills_K X hcd hm hs
  have same : (Value.ref C == Value.ref C) = true := by simp
  unfold binaryOp1
  refine wpAny_bind (Ta.at (wpAny_bind (Tb.at (wpAny_bind (Fa.at ?_)))))
  simp only [same, if_true]
  ksp_lk
  refine wpAny_mono one (fun r s' z => ?_) fun _ _ z => z
  obtain ⟨v, rfl, q⟩ := z
  ksp_lk
  exact ⟨v, rfl, q⟩
/-- an instance, and an int behind it -/
theorem road_int {nm : String} {i : Int} {t : Tok} {fo ro rc : Option Value} {Q : Value → Shared → Prop} (X : K.In s.heap) (I : PySem.W.InstAt s.heap x ox C od) (hc : PySem.W.selfFirst K C = true) (hs : PySem.W.findIn K (.ref C) (PySem.dunder nm) = some (some (.ref f))) (hf : PySem.W.isFn K (.ref f) = true)
    (hr : PySem.W.findIn K (.ref C) (dunderR nm) = some rc) (hp : rc = none ∨ ∃ g : Addr, rc = some (.ref g)) (h1 : PySem.W.findIn K (.type "int") (PySem.dunder nm) = some fo) (h2 : PySem.W.findIn K (.type "int") (dunderR nm) = some ro) (hu : PySem.W.subIn K (.type "int") (.ref C) = some false)
    (h : wpAny (model prog w) A (call (.ref f) [.ref x, .int i t]) (PySem.W.CmpBack Q) E s) : wpAny (model prog w) A (binaryOp1 nm (.ref x) (.int i t)) (fun r s' => ∃ v, r = some v ∧ Q v s') E s := by
  obtain ⟨cd, rest, hcd, hm⟩ := PySem.W.ksp_first hc
  have one := PySem.W.ksp_try X I hs hf h
  obtain ⟨hh, g, d, tt, os⟩ := s
  have Ta : PySem.W.Looks (model prog w) hh (typeOf (.ref x)) (.ref C) := I.type
  have Tb : PySem.W.Looks (model prog w) hh (typeOf (.int i t)) (.type "int") := PySem.W.Looks.of_pure rfl
  have Fa : PySem.W.Looks (model prog w) hh (fillsNumberSlot (.ref C) nm) true := PySem.W.fills_K X hcd hm hs
  have Fb := PySem.W.ksp_fillsT (M := model prog w) (T := "int") X h1 h2
  have Su : PySem.W.Looks (model prog w) hh (isSubtype (.type "int") (.ref C)) false := PySem.W.looks_subIn X hu
  have Pa : PySem.W.Looks (model prog w) hh (numberSlotInPython (.ref C) nm) true := PySem.W.ksp_inPy X hs hr hp
  have Pb : PySem.W.Looks (model prog w) hh (numberSlotInPython (.type "int") nm) false := PySem.W.Looks.of_pure rfl
  have Rb : PySem.W.Looks (model prog w) hh (typeLookup (.type "int") (dunderR nm)) ro := PySem.W.looks_findIn X h2
  generalize ((fo.isSome && !isSeqSlot fo) || (ro.isSome && !isSeqSlot ro)) = rt at Fb
  have other : (Value.ref C == Value.type "int") = false := Bool.eq_false_iff.mpr fun q => by cases beq_iff_eq.mp q
  unfold binaryOp1
  refine wpAny_bind (Ta.at (wpAny_bind (Tb.at (wpAny_bind (Fa.at ?_)))))
  simp only [other, Bool.false_eq_true, if_false]
  cases rt <;>
  · ksp_lk
    refine wpAny_mono one (fun r s' z => ?_) fun _ _ z => z
    obtain ⟨v, rfl, q⟩ := z
    ksp_lk
    exact ⟨v, rfl, q⟩
/-- an int ahead of an instance: the int declines, the turned sign is asked -/
theorem road_turned {nm : String} {id : String} {i : Int} {t : Tok} {Q : Value → Shared → Prop} (X : K.In s.heap) (I : PySem.W.InstAt s.heap x ox C od) (hc : PySem.W.selfFirst K C = true) (hs : PySem.W.findIn K (.ref C) (PySem.dunder nm) = some (some (.ref y)))
    (hr : PySem.W.findIn K (.ref C) (dunderR nm) = some (some (.ref f))) (hf : PySem.W.isFn K (.ref f) = true) (hfi : fillsNumberSlot (.type "int") nm = pure true) (sl : Slot "int" (PySem.dunder nm) id) (hu : PySem.W.subIn K (.ref C) (.type "int") = some false)
    (dec : ∀ {A : Around} {Q : Value → Shared → Prop}, Q .notImplemented s → wpAny (model prog w) A (call (.builtin id) [.int i t, .ref x]) Q E s)
    (h : wpAny (model prog w) A (call (.ref f) [.ref x, .int i t]) (PySem.W.CmpBack Q) E s) : wpAny (model prog w) A (binaryOp1 nm (.int i t) (.ref x)) (fun r s' => ∃ v, r = some v ∧ Q v s') E s := by
  obtain ⟨cd, rest, hcd, hm⟩ := PySem.W.ksp_first hc
  have one := PySem.W.ksp_try X I hr hf h
  have no : wpAny (model prog w) A (tryMethod (.int i t) (PySem.dunder nm) (.ref x)) (fun r s' => r = none ∧ s' = s) E s := wpAny_tryMethod_declines (typeIs_int s i t) sl (dec ⟨rfl, rfl, rfl⟩)
  have Ta : PySem.W.Looks (model prog w) s.heap (typeOf (.int i t)) (.type "int") := PySem.W.Looks.of_pure rfl
  have Tb : PySem.W.Looks (model prog w) s.heap (typeOf (.ref x)) (.ref C) := I.type
  have Fa : PySem.W.Looks (model prog w) s.heap (fillsNumberSlot (.type "int") nm) true := PySem.W.Looks.of_pure hfi
  have Fb : PySem.W.Looks (model prog w) s.heap (fillsNumberSlot (.ref C) nm) true := PySem.W.fills_K X hcd hm hs
  have Su : PySem.W.Looks (model prog w) s.heap (isSubtype (.ref C) (.type "int")) false := PySem.W.looks_subIn X hu
  have Pa : PySem.W.Looks (model prog w) s.heap (numberSlotInPython (.type "int") nm) false := PySem.W.Looks.of_pure rfl
  have other : (Value.type "int" == Value.ref C) = false := Bool.eq_false_iff.mpr fun q => by cases beq_iff_eq.mp q
  obtain ⟨hh, g, d, tt, os⟩ := s
  unfold binaryOp1
  refine wpAny_bind (Ta.at (wpAny_bind (Tb.at (wpAny_bind (Fa.at ?_)))))
  simp only [other, Bool.false_eq_true, if_false]
  refine wpAny_bind (Fb.at ?_)
  ksp_lk
  refine wpAny_mono no (fun r s' z => ?_) fun _ _ z => z
  obtain ⟨rfl, rfl⟩ := z
  ksp_lk
  refine wpAny_mono one (fun r s' z => ?_) fun _ _ z => z
  obtain ⟨v, rfl, q⟩ := z
  ksp_lk
  exact ⟨v, rfl, q⟩
end
end Ru

set_option Elab.async false
set_option linter.all false
set_option maxRecDepth 100000
set_option maxHeartbeats 4000000
namespace Ru
open PySem PySem.Spec PyProof.Rows L2
/-! ### an int's own sign declines a plain object -/
section
variable {i : Int} {t : Tok} {x C dx : Addr}
theorem no_add : Meets (Builtin.«int.__add__» ⟨[.int i t, .ref x], []⟩) fun _ R s => s.heap.get? x = some (PySem.W.instObj C dx) ∧ R (.ok (.ret Value.notImplemented)) s :=
  .of_wp fun prog w A R s h => by obtain ⟨hp, g, d, tk, os⟩ := s; obtain ⟨hl, h⟩ := h; wp_walk using wpAny_loadPart' hl; exact ⟨_, rfl, h⟩
theorem no_sub : Meets (Builtin.«int.__sub__» ⟨[.int i t, .ref x], []⟩) fun _ R s => s.heap.get? x = some (PySem.W.instObj C dx) ∧ R (.ok (.ret Value.notImplemented)) s :=
  .of_wp fun prog w A R s h => by obtain ⟨hp, g, d, tk, os⟩ := s; obtain ⟨hl, h⟩ := h; wp_walk using wpAny_loadPart' hl; exact ⟨_, rfl, h⟩
theorem no_mul : Meets (Builtin.«int.__mul__» ⟨[.int i t, .ref x], []⟩) fun _ R s => s.heap.get? x = some (PySem.W.instObj C dx) ∧ R (.ok (.ret Value.notImplemented)) s :=
  .of_wp fun prog w A R s h => by obtain ⟨hp, g, d, tk, os⟩ := s; obtain ⟨hl, h⟩ := h; wp_walk using wpAny_loadPart' hl; exact ⟨_, rfl, h⟩
end
/-- .. as a call: what the rule for the turned sign asks -/
structure Dec (nm : String) : Prop where
  fills : fillsNumberSlot (.type "int") nm = pure true
  ex : ∃ id, Slot "int" (PySem.dunder nm) id ∧ ∀ {prog : Program} {w : World} {A : Around} {E : Value → Shared → Prop} {s : Shared} {i : Int} {t : Tok} {x C dx : Addr} {Q : Value → Shared → Prop}, s.heap.get? x = some (PySem.W.instObj C dx) → Q .notImplemented s →
    wpAny (model prog w) A (call (.builtin id) [.int i t, .ref x]) Q E s
theorem dec_add : Dec "add" := ⟨PySem.F.fills_int_add, _, PySem.F.slot_int_add, fun {_ _ _ _ s i t _ _ _ _} ho q => call_meets PySem.F.slot_int_add (typeIs_int s i t) PySem.F.entry_int_add (PySem.F.args_int_add_2 _ _) no_add ⟨ho, q⟩⟩
theorem dec_sub : Dec "sub" := ⟨PySem.F.fills_int_sub, _, PySem.F.slot_int_sub, fun {_ _ _ _ s i t _ _ _ _} ho q => call_meets PySem.F.slot_int_sub (typeIs_int s i t) PySem.F.entry_int_sub (PySem.F.args_int_sub_2 _ _) no_sub ⟨ho, q⟩⟩
theorem dec_mul : Dec "mul" := ⟨PySem.F.fills_int_mul, _, PySem.F.slot_int_mul, fun {_ _ _ _ s i t _ _ _ _} ho q => call_meets PySem.F.slot_int_mul (typeIs_int s i t) PySem.F.entry_int_mul (PySem.F.args_int_mul_2 _ _) no_mul ⟨ho, q⟩⟩
/-- the turned sign is none, or a def of the class -/
def turnB (K : PySem.W.Frag) (C : Addr) (nm : String) : Bool := match PySem.W.findIn K (.ref C) (dunderR nm) with
  | some none => true
  | some (some (.ref _)) => true
  | _ => false
/-- what a class must be, so that its own sign is asked of an int behind it -/
structure BinN (K : PySem.W.Frag) (C : Addr) (nm : String) : Prop where
  r : turnB K C nm = true
  h1 : (PySem.W.findIn K (.type "int") (PySem.dunder nm)).isSome = true
  h2 : (PySem.W.findIn K (.type "int") (dunderR nm)).isSome = true
theorem turn_ok {K : PySem.W.Frag} {C : Addr} {nm : String} (h : turnB K C nm = true) : ∃ rc, PySem.W.findIn K (.ref C) (dunderR nm) = some rc ∧ (rc = none ∨ ∃ g : Addr, rc = some (.ref g)) := by
  unfold turnB at h
  split at h
  · rename_i e
    exact ⟨_, e, .inl rfl⟩
  · rename_i g e
    exact ⟨_, e, .inr ⟨g, rfl⟩⟩
  · cases h
/-- the class has no such sign in place -/
structure NoI (K : PySem.W.Frag) (C : Addr) (nm : String) : Prop where
  m : (PySem.W.clsIn K C).map (·.mro) = some [.ref C, .type "object"]
  a : PySem.W.findIn K (.ref C) (dunderI nm) = some none
  b : PySem.W.findIn K (.type "object") (dunderI nm) = some none
section
variable {X : Cx} {CX CX' : CXT} {k k' : Nat} {C : Addr} {m m' : Str} {ps ps' : List Str} {sp sp' : Sp} {E : XK}
theorem back_of {P : Program} {pins : List (Addr × Obj)} {σ : L2.St} {Q : VK} {A : Around} {Er : Value → Shared → Prop} {s : Shared} {p : Sem Value} (h : wpAny (model P X.w) A p (EP X pins σ Q) Er s) : wpAny (model P X.w) A p (PySem.W.CmpBack (EP X pins σ Q)) Er s :=
  wpAny_mono h (fun z s' e => by
    obtain ⟨t, H', I', rt, qt⟩ := e
    exact SlX.cmpback rt ⟨t, H', I', rt, qt⟩) fun _ _ e => e
theorem ins_obj {P : Program} {w : World} {H : Hp} {h : Heap} {a dx : Addr} {fs : List (Str × V)} (hok : HOk P w H h) (e : H a = some (.ins C dx fs)) : h.get? a = some (PySem.W.instObj C dx) := by
  obtain ⟨_, _, _, ob, _⟩ := (show ObjOk P w H h a (.ins C dx fs) from hok a _ e)
  exact ob
theorem op_im {op : Operator} (M : CdM X.prog X.w X.K X.mg X.base CX k C m ps sp) (hm : PySem.dunder op.info.2 = m) (c : PySem.W.selfFirst X.K C = true) (B : BinN X.K C op.info.2) (u : PySem.W.subIn X.K (.type "int") (.ref C) = some false) (hr : Room k X.A) (hx : Passes CX X E) :
    OpR X (binaryOp op) (rBinI C sp E) := by
  subst hm
  obtain ⟨f, fd, F, a, b, _, bd⟩ := M.ex
  intro pins s σ H x y v z Q I rx ry h
  obtain ⟨p, dx, fs, i, rfl, rfl, ha, q⟩ := h
  cases rx
  obtain ⟨t, rfl⟩ := ry
  obtain ⟨_, J, _⟩ := ins_get I.hok ha
  obtain ⟨_, J, _⟩ := J.look
  obtain ⟨rc, e1, e2⟩ := turn_ok B.r
  obtain ⟨fo, h1⟩ := Option.isSome_iff_exists.mp B.h1
  obtain ⟨ro, h2⟩ := Option.isSome_iff_exists.mp B.h2
  exact sign_of (road_int I.kIn J c a b e1 e2 h1 h2 u (back_of (run_fn (us := [.ref p, .int i t]) (vs := [.ref p, .int i]) F hr bd .nil hx I (.cons rfl (.cons ⟨t, rfl⟩ .nil)) q)))
theorem iop_im {op : Operator} (M : CdM X.prog X.w X.K X.mg X.base CX k C m ps sp) (hm : PySem.dunder op.info.2 = m) (c : PySem.W.selfFirst X.K C = true) (B : BinN X.K C op.info.2) (N : NoI X.K C op.info.2) (u : PySem.W.subIn X.K (.type "int") (.ref C) = some false) (hr : Room k X.A)
    (hx : Passes CX X E) : PIp X op (rBinI C sp E) := by
  subst hm
  obtain ⟨f, fd, F, a, b, _, bd⟩ := M.ex
  intro pins s σ H x y v z Q I rx ry h
  obtain ⟨p, dx, fs, i, rfl, rfl, ha, q⟩ := h
  cases rx
  obtain ⟨t, rfl⟩ := ry
  obtain ⟨_, J, _⟩ := ins_get I.hok ha
  obtain ⟨_, J, _⟩ := J.look
  obtain ⟨rc, e1, e2⟩ := turn_ok B.r
  obtain ⟨fo, h1⟩ := Option.isSome_iff_exists.mp B.h1
  obtain ⟨ro, h2⟩ := Option.isSome_iff_exists.mp B.h2
  exact inSign_of J.type (noIn I.kIn N.m N.a N.b) (road_int I.kIn J c a b e1 e2 h1 h2 u (back_of (run_fn (us := [.ref p, .int i t]) (vs := [.ref p, .int i]) F hr bd .nil hx I (.cons rfl (.cons ⟨t, rfl⟩ .nil)) q)))
theorem iop_bs {op : Operator} (M : CdM X.prog X.w X.K X.mg X.base CX k C m ps sp) (hm : PySem.dunder op.info.2 = m) (c : PySem.W.selfFirst X.K C = true) (N : NoI X.K C op.info.2) (hr : Room k X.A) (hx : Passes CX X E) : PIp X op (rOwnI C sp E) := by
  subst hm
  obtain ⟨f, fd, F, a, b, _, bd⟩ := M.ex
  intro pins s σ H x y v z Q I rx ry h
  obtain ⟨p, q, dx, dy, fs, gs, rfl, rfl, hp, hq, hh⟩ := h
  cases rx
  cases ry
  obtain ⟨_, J1, _⟩ := ins_get I.hok hp
  obtain ⟨_, J2, _⟩ := ins_get I.hok hq
  obtain ⟨_, J1, _⟩ := J1.look
  obtain ⟨_, J2, _⟩ := J2.look
  exact inSign_of J1.type (noIn I.kIn N.m N.a N.b) (road_same I.kIn J1 J2 c a b (back_of (run_fn (us := [.ref p, .ref q]) (vs := [.ref p, .ref q]) F hr bd .nil hx I (.cons rfl (.cons rfl .nil)) hh)))
/-- an int ahead -/
def rTurn (C : Addr) (sp : Sp) (E : XK) : R2 := fun x y H Q => ∃ (a dx : Addr) (fs : List (Str × V)) (i : Int), x = .int i ∧ y = .ref a ∧ H a = some (.ins C dx fs) ∧ sp [.ref a, .int i] H Q E
theorem op_tm {op : Operator} (M' : CdM X.prog X.w X.K X.mg X.base CX' k' C m' ps' sp') (M : CdM X.prog X.w X.K X.mg X.base CX k C m ps sp) (hm' : PySem.dunder op.info.2 = m') (hm : dunderR op.info.2 = m) (c : PySem.W.selfFirst X.K C = true) (D : Dec op.info.2)
    (u : PySem.W.subIn X.K (.ref C) (.type "int") = some false) (hr : Room k X.A) (hx : Passes CX X E) : OpR X (binaryOp op) (rTurn C sp E) := by
  subst hm hm'
  obtain ⟨f, fd, F, a, b, _, bd⟩ := M.ex
  obtain ⟨f', _, _, a', _, _, _⟩ := M'.ex
  obtain ⟨id, sl, dc⟩ := D.ex
  intro pins s σ H x y v z Q I rx ry h
  obtain ⟨p, dx, fs, i, rfl, rfl, ha, q⟩ := h
  obtain ⟨t, rfl⟩ := rx
  cases ry
  have ho := ins_obj I.hok ha
  obtain ⟨_, J, _⟩ := ins_get I.hok ha
  obtain ⟨_, J, _⟩ := J.look
  exact sign_of (road_turned I.kIn J c a' a b D.fills sl u (fun q => dc ho q) (back_of (run_fn (us := [.ref p, .int i t]) (vs := [.ref p, .int i]) F hr bd .nil hx I (.cons rfl (.cons ⟨t, rfl⟩ .nil)) q)))
end
end Ru

set_option Elab.async false
set_option linter.all false
set_option maxRecDepth 100000
set_option maxHeartbeats 4000000
namespace Ru
open PySem PySem.Spec PyProof.Rows L2
/-! ### own __contains__, __getitem__, __len__ -/
section
variable {X : Cx} {CX : CXT} {k : Nat} {C : Addr} {ps : List Str} {sp : Sp} {E : XK}
def rInOwn (C : Addr) (sp : Sp) (E : XK) : R2 := fun x y H Q => ∃ (a dx : Addr) (fs : List (Str × V)), y = .ref a ∧ H a = some (.ins C dx fs) ∧ sp [.ref a, x] H (fun v H' => ∃ b, v = .bl b ∧ Q (.bl b) H') E
theorem op_inOwn (M : CdM X.prog X.w X.K X.mg X.base CX k C "__contains__" ps sp) (hr : Room k X.A) (hx : Passes CX X E) : OpR X (compareOp .In) (rInOwn C sp E) := by
  obtain ⟨f, fd, F, a, b, _, bd⟩ := M.ex
  intro pins s σ H x y v z Q I rx ry h
  obtain ⟨p, dx, fs, rfl, hp, q⟩ := h
  cases ry
  obtain ⟨_, J, _⟩ := ins_get I.hok hp
  obtain ⟨_, J, _⟩ := J.look
  obtain ⟨m, fr⟩ := I.fr
  refine PySem.W.in_K fr I.ok.mod.kin J a b (thn (run_fn (us := [.ref p, v]) (vs := [.ref p, x]) F hr bd .nil hx I (.cons rfl (.cons rx .nil)) q) fun r s' e => ?_)
  obtain ⟨t, H', I', rt, b', et, qt⟩ := e
  subst et
  cases (show r = Value.bool b' from rt)
  exact wpAny_truthy_bool ⟨.bl b', H', I', rfl, qt⟩
theorem run_fn1 {f : Addr} {fd : FuncData} {pins : List (Addr × Obj)} {σ : L2.St} {H : Hp} {s : Shared} {Q : VK} {us : List Value} {vs : List V} (F : FnOk X.prog X.w X.K X.mg X.base CX k f fd ps sp) (hr : Room (k + 1) X.A) (hb : Binds X.K fd ps []) (hx : Passes CX X E)
    (I : Inv X pins σ H s) (r : Vals vs us) (q : sp vs H Q E) : wpAny (model X.prog X.w) X.A.in1 (call (.ref f) us) (EP X pins σ Q) X.xe s := by
  have hl := F.len _ _ _ _ q
  have bd := hb s us I.kIn (by rw [List.append_nil, ← r.length]; exact hl)
  rw [List.append_nil] at bd
  refine wpAny_call (codeAny_mono (F.run X.A.in1 X.stack s H ⟨us, []⟩ us vs _ E hr.in1 I.env0.in1 bd r q) fun r s' z => ?_)
  cases r with
  | error e => exact hx pins σ H s e s' I z
  | ok fl =>
    cases fl with
    | ret u => exact I.after z
    | next => exact False.elim z
    | brk => exact False.elim z
    | cont => exact False.elim z
def rIxOwn (C : Addr) (sp : Sp) (E : XK) : R2 := fun x y H Q => ∃ (a dx : Addr) (fs : List (Str × V)), x = .ref a ∧ H a = some (.ins C dx fs) ∧ sp [.ref a, y] H Q E
theorem pe_ixOwn {ea eb : Expr} {ta tb : TE} {pos : Pos} (M : CdM X.prog X.w X.K X.mg X.base CX k C "__getitem__" ps sp) (hfn : ∀ f : Addr, PySem.W.findIn X.K (.ref C) "__getitem__" = some (some (.ref f)) → PySem.W.fnIn X.K f = true) (hr : Room (k + 1) X.A) (hx : Passes CX X E) (ha : PE X ea ta) (hb : PE X eb tb)
    (hs : ∀ o i, subscripted eb true o i = runValue (.builtin "lifetime.subscript" ⟨[o, i], []⟩)) : PE X (.Subscript ea eb pos) (tOp (rIxOwn C sp E) ta tb) := by
  obtain ⟨f, fd, F, a, b, kp, bd⟩ := M.ex
  refine ⟨fun pins s σ H Q I h => ?_⟩
  refine Subscript_ (binT ha hb I h fun v u s2 x y H2 I2 rx ry q => ?_)
  obtain ⟨p, dx, fs, rfl, hp, q⟩ := q
  cases rx
  obtain ⟨_, J, _⟩ := ins_get I2.hok hp
  obtain ⟨_, J, _⟩ := J.look
  obtain ⟨m, fr⟩ := I2.fr
  exact PySem.W.sub_K fr I2.ok.mod.kin J a (hfn f a) b (run_fn1 (us := [.ref p, u]) (vs := [.ref p, y]) F hr bd hx I2 (.cons rfl (.cons ry .nil)) q) (hs _ _)
def rLenOwn (C : Addr) (sp : Sp) (E : XK) : List V → Hp → VK → Prop := fun xs H Q => ∃ (a dx : Addr) (fs : List (Str × V)), xs = [.ref a] ∧ H a = some (.ins C dx fs) ∧ sp [.ref a] H (fun v H' => ∃ n : Int, v = .int n ∧ 0 ≤ n ∧ n < 2 ^ 63 ∧ Q (.int n) H') E
theorem call_lenOwn (M : CdM X.prog X.w X.K X.mg X.base CX k C "__len__" ps sp) (hr : Room (k + 1) X.A) (hx : Passes CX X E) : CallR X (.builtin "len") (rLenOwn C sp E) := by
  obtain ⟨f, fd, F, a, b, _, bd⟩ := M.ex
  intro pins s σ H xs us Q I r h
  obtain ⟨p, dx, fs, rfl, hp, q⟩ := h
  obtain rfl := Vals.ref1 r
  obtain ⟨_, J, _⟩ := ins_get I.hok hp
  obtain ⟨_, J, _⟩ := J.look
  obtain ⟨m, fr⟩ := I.fr
  have r2 : Vals [V.ref p] [Value.ref p] := .cons rfl .nil
  have hl := F.len _ _ _ _ q
  have run : codeAny (model X.prog X.w) X.A.in1 (.call (.ref f) ⟨[.ref p], []⟩) (fun r s' => match r with | .ok (.ret v) => ∃ n t, v = .int n t ∧ (0 ≤ n ∧ n < 2 ^ 63) ∧ ∃ H', Inv X pins σ H' s' ∧ Q (.int n) H' | .ok _ => False | .error e => X.xe e s') s := by
    have bd := bd s [.ref p] I.kIn (by rw [List.append_nil]; exact hl)
    rw [List.append_nil] at bd
    refine codeAny_mono (F.run X.A.in1 X.stack s H ⟨[.ref p], []⟩ [.ref p] [.ref p] _ E hr.in1 I.env0.in1 bd r2 q) fun r s' z => ?_
    cases r with
    | error e => exact hx pins σ H s e s' I z
    | ok fl =>
      cases fl with
      | ret w' =>
        obtain ⟨t, H', I', rt, n, en, n0, n1, qk⟩ := I.after z
        subst en
        obtain ⟨tk, rfl⟩ := (show ∃ t, w' = Value.int n t from rt)
        exact ⟨n, tk, rfl, ⟨n0, n1⟩, H', I', qk⟩
      | next => exact False.elim z
      | brk => exact False.elim z
      | cont => exact False.elim z
  refine PySem.W.len_K fr I.ok.mod.kin J a b (wpAny_call (codeAny_mono run fun r s' z => ?_))
  cases r with
  | error e => exact z
  | ok fl =>
    cases fl with
    | ret t =>
      obtain ⟨n, tk, rfl, hn, H', I', qk⟩ := z
      exact ⟨hn, .int n, H', I'.tok _, ⟨_, rfl⟩, qk⟩
    | next => exact False.elim z
    | brk => exact False.elim z
    | cont => exact False.elim z
end
/-! ### C.m(..), m a staticmethod of the class at C -/
structure SMet (K : PySem.W.Frag) (C : Addr) (m : Str) (p g : Addr) : Prop where
  at_ : PySem.W.findCls K (.ref C) (.type "type") m = some (.get (.builtin "staticmethod.__get__") (.ref p) .none (.ref C))
  rc : ∃ rest, PySem.W.recIn K p "staticmethod" = some (.ref g :: rest)
  kp : PySem.W.keepIn K (.ref g) = true
def tSMeth (C : Addr) (sp : Sp) (E : XK) (ta : TE) (t : TA) : TE := fun σ H Q => ta σ H fun x H1 => x = .ref C ∧ t σ H1 fun vs H2 => sp (vs ++ []) H2 Q E
theorem pe_smeth {X : Cx} {CX : CXT} {k : Nat} {C p g : Addr} {fd : FuncData} {ps : List Str} {sp : Sp} {E : XK} {o e : Expr} {es : List Expr} {m : Str} {pos apos : Pos} {ta : TE} {t : TA} {pl : Sem Bool} (he : PE X o ta) (r : ClX.CRead X.K C (.type "type")) (c : SMet X.K C m p g) (F : FnOk X.prog X.w X.K X.mg X.base CX k g fd ps sp) (hr : Room k X.A) (hb : Binds X.K fd ps []) (hx : Passes CX X E) (ha : PA X (e :: es) t)
    (hst : starEach (e :: es) X.env = (false, eval e X.env) :: starEach es X.env := by rfl) (hpl : (backTo pos (starEach es X.env)).any (·.1) = false := by rfl)
    (ht : eval (.Call (.Attribute o m apos) (e :: es) [] pos) X.env = (do
      let ov ← eval o X.env
      standAt apos.atName
      let (f, first) ← holding [ov] (getMethod ov m pl)
      callWith pos f first (backTo pos (starEach (e :: es) X.env)) (backToKw pos (keywordEach [] X.env))) := by rfl) :
    PE X (.Call (.Attribute o m apos) (e :: es) [] pos) (tSMeth C sp E ta t) := by
  refine ⟨fun pins s σ H Q I h => ?_⟩
  refine PySem.W.methodCall_KW (pl := pl) (thn (he.run pins s σ H _ I h) fun u s1 ⟨x, H1, I1, rx, ex, q⟩ => ?_) ht
  subst ex
  obtain rfl : u = Value.ref C := rx
  obtain ⟨rest, hp⟩ := c.rc
  refine PySem.W.method_cls I1.kIn r.ga (PySem.W.cls_bind I1.kIn r.rd c.at_ (wpAny_call (PySem.W.sm_get (s := { s1 with toks := s1.toks + 1 }) I1.kIn hp (PySem.W.handed_on rfl ?_))))
  have I2 := I1.tok (s1.toks + 1)
  refine PySem.W.callWith_K (h₀ := X.base) (first := []) I2.ok.mod.kin c.kp (thn (ha.run pos pins _ σ H1 _ I2 q) fun us s3 ⟨vs, H2, I3, rv, q2⟩ => ⟨I3.kIn, ?_⟩) hst hpl
  exact run_fn F hr hb .nil hx I3 rv q2
end Ru

set_option Elab.async false
set_option linter.all false
set_option maxRecDepth 100000
set_option maxHeartbeats 4000000
namespace Ru
open PySem PySem.Spec PyProof.Rows L2
/-! ### an own == that declines -/
section
variable {P : Program} {w : World} {K : PySem.W.Frag} {mg : Str → Option Value} {base : Heap}
/-- the def answers NotImplemented and leaves all as it is -/
structure FnNo (P : Program) (w : World) (K : PySem.W.Frag) (mg : Str → Option Value) (base : Heap) (k : Nat) (f : Addr) (fd : FuncData) (ps : List Str) (sp : List V → Hp → Prop) : Prop where
  run : ∀ (A : Around) (outer : List Env) (s : Shared) (H : Hp) (args : Args) (us : List Value) (vs : List V), Room k A → Env0 P w K mg base A outer s H → BindsTo s fd args (ps.zip us) → Vals vs us → sp vs H →
    codeAny (model P w) A (.call (.ref f) args) (fun r s' => match r with | .ok (.ret u) => u = .notImplemented ∧ CE outer P w H s (fun v H' => v = .non ∧ H' = H) .none s' | _ => False) s
theorem no_of {x qual : Str} {params : Arguments} {scope : Scope} {f : Addr} {fd : FuncData} {N ps : List Str} {k : Nat} {sp : List V → Hp → Prop} {c : Expr} {p1 p2 p3 : Pos} {rest : List Stmt}
    (F : FunD K x qual params (.If c [.Return (some (.Name "NotImplemented" p1)) p2] [] p3 :: rest) scope [] [] f fd) (S : FnScope N ps scope) (len : ∀ vs H, sp vs H → vs.length = ps.length) (g : mg "NotImplemented" = none)
    (hg : ∀ (cdv : Value) (A : Around) (outer : List Env) (s : Shared) (H : Hp), Gl (cxOf CX0 P w K mg base N qual scope f cdv A outer s H E0) "NotImplemented")
    (hb : ∀ (cdv : Value) (A : Around) (outer : List Env) (s : Shared) (H : Hp) (vs : List V), Room k (A.deeper (envOfC qual scope s.heap.objs.size f cdv)) → sp vs H →
      ∃ t, PT (cxOf CX0 P w K mg base N qual scope f cdv A outer s H E0) c t ∧ t (start N vs) H (fun b H' => b = true ∧ H' = H)) : FnNo P w K mg base (k + 1) f fd ps sp := by
  obtain ⟨_, _, _, _, _, _, _, code, _, _, e, lk, hcd, _⟩ := F.ex
  subst e
  refine ⟨fun A outer s H args us vs hr e0 hbd r h => ?_⟩
  have KX : K.In s.heap := e0.mod.kin.keeps fun b o e => (e0.bs b o e).1
  have lim : s.heap.NoLimit := e0.mod.nolimit.keeps fun b o e => (e0.bs b o e).1
  have hkind : ∀ y ∈ ps.zip us, scope.names.lookup y.1 = some .local ∨ (scope.names.lookup y.1 = some .cell ∧ ((cellsFrom (s.heap.objs.size + 1) scope.names []).lookup y.1).isSome = true) := fun ⟨n, v⟩ hy => by
    rcases S.par n (List.of_mem_zip hy).1 with q | q
    · exact .inl q
    · exact .inr ⟨q, PySem.W.cellsFrom_some _ _ _ (.inl q)⟩
  refine codeAny_call_function hr.depth (KX _ _ lk) rfl S.co S.gen rfl (PySem.W.codeRec_of KX hcd) (hbd _ _ _ _ ?_)
  refine wpAny_newFunctionEnv_cells S.kind hkind fun env he s1 x => ?_
  subst he
  refine ⟨lim.keeps x.toInCall.keep, codeAny_func ?_⟩
  obtain ⟨t, ht, hq⟩ := hb code A outer s H vs (hr.deeper _) h
  have I : Inv (cxOf CX0 P w K mg base N qual scope f code A outer s H E0) [] (start N vs) H s1 := inv_start S hr.hd e0 (len vs H h) r x
  refine wpAny_execs_cons (wpAny_If (wpAny_mono (ht.run [] s1 (start N vs) H _ I hq) (fun b s2 hs => ?_) fun e s' hs => hs))
  obtain ⟨H1, I1, rfl, rfl⟩ := hs
  refine wpAny_execs_cons (wpAny_Return_some (ld_blt I1 (hg code A outer s H1) g PyProof.Rows.Boot.«NotImplemented» ?_))
  exact ⟨rfl, .non, H1, I1.os, I1.bare, I1.base, I1.hok, rfl, rfl, rfl⟩
end
end Ru

set_option Elab.async false
set_option linter.all false
set_option maxRecDepth 100000
set_option maxHeartbeats 4000000
namespace Ru
open PySem PySem.Spec PyProof.Rows L2
section
variable {prog : Program} {w : World} {A : Around} {E : Value → Shared → Prop} {s : Shared} {K : PySem.W.Frag} {x C f : Addr} {ox : Obj} {od : Option Obj} {b tb : Value}
/-- both ways decline -/
theorem eq_no {Q : Value → Shared → Prop} {T id : String} (hu : A.units < cLine) (X : K.In s.heap) (I : PySem.W.InstAt s.heap x ox C od) (hb : s.TypeIs b T)
    (hs : PySem.W.findIn K (.ref C) "__eq__" = some (some (.ref f))) (hf : PySem.W.isFn K (.ref f) = true) (sl : Slot T "__eq__" id) (u : PySem.W.subIn K (.type T) (.ref C) = some false)
    (h : wpAny (model prog w) A (call (.ref f) [.ref x, b]) (fun v s' => v = .notImplemented ∧ s'.TypeIs b T ∧ wpAny (model prog w) A (call (.builtin id) [b, .ref x]) (fun v s'' => v = .notImplemented ∧ wpAny (model prog w) A (isSame (.ref x) b) (fun r => Q (.bool r)) E s'') E s') E s) : wpAny (model prog w) A (richCompare .Eq (.ref x) b) Q E s := by
  have two : ∀ s' : Shared, s'.TypeIs b T → wpAny (model prog w) A (call (.builtin id) [b, .ref x]) (fun v s'' => v = .notImplemented ∧ wpAny (model prog w) A (isSame (.ref x) b) (fun r => Q (.bool r)) E s'') E s' →
      wpAny (model prog w) A (tryCompare b "__eq__" (.ref x)) (fun r s'' => r = none ∧ wpAny (model prog w) A (isSame (.ref x) b) (fun r => Q (.bool r)) E s'') E s' := fun s' k q => by
    unfold tryCompare
    refine wpAny_bind (wpAny_callSpecialIfBound?_slot k sl (wpAny_mono q (fun v s'' hv => ?_) fun _ _ e => e))
    obtain ⟨rfl, hv⟩ := hv
    exact wpAny_pure ⟨rfl, hv⟩
  have one : wpAny (model prog w) A (tryCompare (.ref x) (cmpInfo .Eq).2.1 b) (fun r s' => r = none ∧ wpAny (model prog w) A (tryCompare b "__eq__" (.ref x)) (fun r s'' => r = none ∧ wpAny (model prog w) A (isSame (.ref x) b) (fun r => Q (.bool r)) E s'') E s') E s := by
    unfold tryCompare
    refine wpAny_bind (PySem.W.ifBound_K X I hs hf (wpAny_mono h (fun v s' hv => ?_) fun _ _ e => e))
    obtain ⟨rfl, k, hv⟩ := hv
    exact wpAny_pure ⟨rfl, two s' k hv⟩
  unfold richCompare
  simp only [oneThing_ref]
  refine wpAny_holding (wpAny_bind (wpAny_cRoomFor hu ?_))
  refine wpAny_bind (I.type.here (wpAny_bind (wpAny_typeOf hb ?_)))
  split
  · refine wpAny_bind ((PySem.W.looks_subIn X u).here ?_)
    simp only [Bool.false_eq_true, if_false]
    refine wpAny_bind (wpAny_mono one (fun r s' z => ?_) fun _ _ e => e)
    obtain ⟨rfl, z⟩ := z
    simp only [Bool.not_false, if_true]
    refine wpAny_bind (wpAny_mono z (fun r s' z => ?_) fun _ _ e => e)
    obtain ⟨rfl, z⟩ := z
    exact wpAny_bind (wpAny_rule (wpAny_bind (wpAny_mono z (fun _ _ q => wpAny_pure q) fun _ _ e => e)))
  · refine wpAny_bind (wpAny_pure ?_)
    simp only [Bool.false_eq_true, if_false]
    refine wpAny_bind (wpAny_mono one (fun r s' z => ?_) fun _ _ e => e)
    obtain ⟨rfl, z⟩ := z
    simp only [Bool.not_false, if_true]
    refine wpAny_bind (wpAny_mono z (fun r s' z => ?_) fun _ _ e => e)
    obtain ⟨rfl, z⟩ := z
    exact wpAny_bind (wpAny_rule (wpAny_bind (wpAny_mono z (fun _ _ q => wpAny_pure q) fun _ _ e => e)))
end
section
variable {prog : Program} {w : World} {A : Around} {E : Value → Shared → Prop} {s : Shared} {K : PySem.W.Frag} {x t C : Addr} {ox : Obj} {od : Option Obj}
theorem tup_no {Q : Value → Shared → Prop} (X : K.In s.heap) (I : PySem.W.InstAt s.heap x ox C od) (ht : s.TypeIs (.ref t) "tuple") (u : PySem.W.subIn K (.ref C) (.type "tuple") = some false) (q : Q .notImplemented s) :
    wpAny (model prog w) A (call (.builtin "tuple.__eq__") [.ref t, .ref x]) Q E s := by
  refine wpAny_call_entry PySem.F.slot_tuple_eq ht PySem.F.entry_tuple_eq ?_ (PySem.F.args_tuple_eq_2 _ _)
  show wpAny _ _ (isInstance (.ref x) (.type "tuple") >>= _) _ _ s
  refine wpAny_bind ?_
  unfold isInstance
  refine wpAny_bind (I.type.here ((PySem.W.looks_subIn X u).here ?_))
  simp only [Bool.not_false, if_true]
  exact wpAny_pure ⟨_, rfl, q⟩
theorem lst_no {Q : Value → Shared → Prop} (X : K.In s.heap) (I : PySem.W.InstAt s.heap x ox C od) (ht : s.TypeIs (.ref t) "list") (u : PySem.W.subIn K (.ref C) (.type "list") = some false) (q : Q .notImplemented s) :
    wpAny (model prog w) A (call (.builtin "list.__eq__") [.ref t, .ref x]) Q E s := by
  refine wpAny_call_entry PySem.F.slot_list_eq ht PySem.F.entry_list_eq ?_ (PySem.F.args_list_eq_2 _ _)
  show wpAny _ _ (isInstance (.ref x) (.type "list") >>= _) _ _ s
  refine wpAny_bind ?_
  unfold isInstance
  refine wpAny_bind (I.type.here ((PySem.W.looks_subIn X u).here ?_))
  simp only [Bool.not_false, if_true]
  exact wpAny_pure ⟨_, rfl, q⟩
theorem int_no {i : Int} {tk : Tok} {dx : Addr} {Q : Value → Shared → Prop} (ho : s.heap.get? x = some (PySem.W.instObj C dx)) (q : Q .notImplemented s) : wpAny (model prog w) A (call (.builtin "int.__eq__") [.int i tk, .ref x]) Q E s := by
  have m : Meets (Builtin.«int.__eq__» ⟨[.int i tk, .ref x], []⟩) fun _ R s => s.heap.get? x = some (PySem.W.instObj C dx) ∧ R (.ok (.ret Value.notImplemented)) s :=
    .of_wp fun prog w A R s h => by obtain ⟨hp, g, d, tk, os⟩ := s; obtain ⟨hl, h⟩ := h; wp_walk using wpAny_loadPart' hl; exact ⟨_, rfl, h⟩
  exact call_meets PySem.F.slot_int_eq (typeIs_int s i tk) PySem.F.entry_int_eq (PySem.F.args_int_eq_2 _ _) m ⟨ho, q⟩
end
/-! ### .. as a rule: an int, a tuple, a list behind it -/
inductive OddE (K : PySem.W.Frag) (H : Hp) : V → Prop
  | int (i : Int) : OddE K H (.int i)
  | tup {t : Addr} {xs : List V} : SqT K H t xs → OddE K H (.ref t)
  | lst {t : Addr} {xs : List V} : SqL K H t xs → OddE K H (.ref t)
def spEqNo (K : PySem.W.Frag) : List V → Hp → Prop := fun vs H => ∃ (a : Addr) (y : V), vs = [.ref a, y] ∧ OddE K H y
structure CdE (P : Program) (w : World) (K : PySem.W.Frag) (mg : Str → Option Value) (base : Heap) (k : Nat) (C : Addr) : Prop where
  ex : ∃ (f : Addr) (fd : FuncData), FnNo P w K mg base k f fd ["self", "other"] (spEqNo K) ∧ PySem.W.findIn K (.ref C) "__eq__" = some (some (.ref f)) ∧ PySem.W.isFn K (.ref f) = true ∧ Binds K fd ["self", "other"] []
  uI : PySem.W.subIn K (.type "int") (.ref C) = some false
  uT : PySem.W.subIn K (.type "tuple") (.ref C) = some false
  uL : PySem.W.subIn K (.type "list") (.ref C) = some false
  vT : PySem.W.subIn K (.ref C) (.type "tuple") = some false
  vL : PySem.W.subIn K (.ref C) (.type "list") = some false
def rEqNo (K : PySem.W.Frag) (C : Addr) : R2 := fun x y H Q => ∃ (a dx : Addr) (fs : List (Str × V)), x = .ref a ∧ H a = some (.ins C dx fs) ∧ OddE K H y ∧ Q (.bl false) H
theorem op_eqNo {X : Cx} {k : Nat} {C : Addr} (M : CdE X.prog X.w X.K X.mg X.base k C) (hr : Room k X.A) : OpR X (compareOp .Eq) (rEqNo X.K C) := by
  obtain ⟨f, fd, F, a, b, bd⟩ := M.ex
  intro pins s σ H x y v u Q I rx ry h
  obtain ⟨p, dx, fs, rfl, hp, od, q⟩ := h
  cases rx
  obtain ⟨_, J, _⟩ := ins_get I.hok hp
  obtain ⟨_, J, _⟩ := J.look
  have run : wpAny (model X.prog X.w) X.A (call (.ref f) [.ref p, u]) (fun v s' => v = .notImplemented ∧ Inv X pins σ H s') X.xe s := by
    have bd := bd s [.ref p, u] I.kIn rfl
    rw [List.append_nil] at bd
    refine wpAny_call (codeAny_mono (F.run X.A X.stack s H ⟨[.ref p, u], []⟩ [.ref p, u] [.ref p, y] hr I.env0 bd (.cons rfl (.cons ry .nil)) ⟨p, y, rfl, od⟩) fun r s' z => ?_)
    cases r with
    | error e => exact False.elim z
    | ok fl =>
      cases fl with
      | ret u =>
        obtain ⟨e, z⟩ := z
        obtain ⟨t, H', I', _, _, eH⟩ := I.after z
        subst eH
        exact ⟨e, I'⟩
      | next => exact False.elim z
      | brk => exact False.elim z
      | cont => exact False.elim z
  have ob := ins_obj I.hok hp
  have hcl : (PySem.W.instObj C dx).cls ≠ .type "tuple" := fun z => nomatch z
  cases od with
  | int i =>
    obtain ⟨t, rfl⟩ := ry
    refine eq_no (Q := EP X pins σ Q) hr.units0 I.kIn J (typeIs_int s i t) a b PySem.F.slot_int_eq M.uI (thn run fun v s' ⟨e, I'⟩ => ⟨e, typeIs_int s' i t, ?_⟩)
    exact int_no (ins_obj I'.hok hp) ⟨rfl, wpAny_isSame_plain rfl ⟨.bl false, H, I', rfl, q⟩⟩
  | tup ht =>
    rename_i t xs
    cases ry
    obtain ⟨its, _, tp, _⟩ := I.tuple ht
    refine eq_no (Q := EP X pins σ Q) hr.units0 I.kIn J tp.typeIs a b PySem.F.slot_tuple_eq M.uT (thn run fun v s' ⟨e, I'⟩ => ?_)
    obtain ⟨its, _, tp, _⟩ := I'.tuple ht
    obtain ⟨_, J', _⟩ := ins_get I'.hok hp
    obtain ⟨_, J', _⟩ := J'.look
    obtain ⟨o, ho, hc, _⟩ := tp
    refine ⟨e, IsTup.typeIs ⟨o, ho, hc, by assumption⟩, tup_no I'.kIn J' (IsTup.typeIs ⟨o, ho, hc, by assumption⟩) M.vT ⟨rfl, wpAny_isSame_ref_other (fun z => ?_) (ins_obj I'.hok hp) ho hcl ⟨.bl false, H, I', rfl, q⟩⟩⟩
    subst z
    rw [ins_obj I'.hok hp] at ho
    cases ho
    cases hc
  | lst ht =>
    rename_i t xs
    cases ry
    obtain ⟨its, _, tp, _⟩ := I.list ht
    refine eq_no (Q := EP X pins σ Q) hr.units0 I.kIn J tp.isList.typeIs a b PySem.F.slot_list_eq M.uL (thn run fun v s' ⟨e, I'⟩ => ?_)
    obtain ⟨its, _, tp, _⟩ := I'.list ht
    obtain ⟨_, J', _⟩ := ins_get I'.hok hp
    obtain ⟨_, J', _⟩ := J'.look
    have tt := tp.isList.typeIs
    obtain ⟨o, n, ho, hc, _⟩ := tp
    refine ⟨e, tt, lst_no I'.kIn J' tt M.vL ⟨rfl, wpAny_isSame_ref_other (fun z => ?_) (ins_obj I'.hok hp) ho hcl ⟨.bl false, H, I', rfl, q⟩⟩⟩
    subst z
    rw [ins_obj I'.hok hp] at ho
    cases ho
    cases hc
end Ru

set_option Elab.async false
set_option linter.all false
set_option maxRecDepth 100000
set_option maxHeartbeats 4000000
namespace Ru
open PySem PySem.Spec PyProof.Rows L2
/-! ### the digits of a value -/
def dgsV : List Int → Int → List Int
  | [], _ => []
  | b :: bs, v => (v / prodL bs % b) :: dgsV bs v
theorem dgsV_len : ∀ {bs : List Int} {v : Int}, (dgsV bs v).length = bs.length
  | [], _ => rfl
  | _ :: _, _ => congrArg Nat.succ dgsV_len
theorem dgsV_dgs : ∀ {bs : List Int} {v : Int}, (∀ z ∈ bs, 2 ≤ z ∧ z ≤ 100) → Dgs (dgsV bs v) bs
  | [], _, _ => trivial
  | b :: bs, v, h => by
    have h1 := (h b List.mem_cons_self).1
    exact ⟨⟨Int.emod_nonneg _ (by omega), Int.emod_lt_of_pos _ (by omega)⟩, dgsV_dgs fun z hz => h z (List.mem_cons_of_mem _ hz)⟩
theorem prodL_pos {bs : List Int} (h : ∀ z ∈ bs, 2 ≤ z ∧ z ≤ 100) : 0 < prodL bs := by
  have := (prodL_le (zs := bs) (n := bs.length) h (Nat.le_refl _)).1
  omega
theorem mod_mul {v p b : Int} (hp : 0 < p) : v % (p * b) = (v / p % b) * p + v % p := by
  have e1 := Int.mul_ediv_add_emod v p
  have e2 := Int.mul_ediv_add_emod (v / p) b
  have e3 := Int.mul_ediv_add_emod v (p * b)
  have e4 : v / p / b = v / (p * b) := Int.ediv_ediv_of_nonneg (Int.le_of_lt hp)
  rw [e4] at e2
  have e5 : p * b * (v / (p * b)) = p * (b * (v / (p * b))) := Int.mul_assoc _ _ _
  have e6 : p * (v / p) = p * (b * (v / (p * b))) + p * (v / p % b) := by rw [← Int.mul_add, e2]
  have e7 : p * (v / p % b) = (v / p % b) * p := Int.mul_comm _ _
  omega
theorem valD_dgsV : ∀ {bs : List Int} {v : Int}, (∀ z ∈ bs, 2 ≤ z ∧ z ≤ 100) → valD (dgsV bs v) bs = v % prodL bs
  | [], v, _ => by
    show (0 : Int) = v % 1
    rw [Int.emod_one]
  | b :: bs, v, h => by
    have ht : ∀ z ∈ bs, 2 ≤ z ∧ z ≤ 100 := fun z hz => h z (List.mem_cons_of_mem _ hz)
    show (v / prodL bs % b) * prodL bs + valD (dgsV bs v) bs = v % (prodL bs * b)
    rw [valD_dgsV ht, mod_mul (prodL_pos ht)]
theorem in_room {v p : Int} (hp : 0 < p) : v / p = 0 ↔ 0 ≤ v ∧ v < p := by
  constructor
  · intro h
    have e1 := Int.mul_ediv_add_emod v p
    have h1 := Int.emod_nonneg v (show p ≠ 0 by omega)
    have h2 := Int.emod_lt_of_pos v hp
    rw [h, Int.mul_zero, Int.zero_add] at e1
    omega
  · intro ⟨h1, h2⟩
    exact Int.ediv_eq_zero_of_lt h1 h2
theorem val_of {bs : List Int} {v : Int} (h : ∀ z ∈ bs, 2 ≤ z ∧ z ≤ 100) (e : v / prodL bs = 0) : valD (dgsV bs v) bs = v := by
  obtain ⟨h1, h2⟩ := (in_room (prodL_pos h)).mp e
  rw [valD_dgsV h, Int.emod_eq_of_lt h1 h2]
theorem dgs_val {ds bs : List Int} (d : Dgs ds bs) (h : ∀ z ∈ bs, 2 ≤ z ∧ z ≤ 100) : dgsV bs (valD ds bs) = ds ∧ valD ds bs / prodL bs = 0 := by
  obtain ⟨v1, v2⟩ := valD_range d
  have e := (in_room (prodL_pos h)).mpr ⟨v1, v2⟩
  exact ⟨val_inj (dgsV_dgs h) d (val_of h e), e⟩
/-- the digit at a place, with the place's weight -/
theorem dgsV_at : ∀ {bs : List Int} {v w b : Int} {i : Nat}, (wts bs)[i]? = some w → bs[i]? = some b → (dgsV bs v)[i]? = some (v / w % b) := by
  intro bs
  induction bs with
  | nil =>
    intro v w b i _ e
    cases e
  | cons c cs ih =>
    intro v w b i e1 e2
    have e : wts (c :: cs) = prodL cs :: wts cs := by
      unfold wts
      rw [List.length_cons, List.range_succ_eq_map, List.map_cons, List.map_map]
      rfl
    rw [e] at e1
    match i, e1, e2 with
    | 0, e1, e2 =>
      cases e1
      cases e2
      rfl
    | i + 1, e1, e2 => exact ih (i := i) e1 e2
/-- one place more, from the lowest up -/
theorem dgs_step {bs : List Int} {b v : Int} (h : 0 < prodL bs) : v / prodL bs / b = v / prodL (b :: bs) := Int.ediv_ediv_of_nonneg (Int.le_of_lt h)
/-! ### sizes -/
theorem abs_add {i j : Int} {n : Nat} (h1 : i.natAbs < 2 ^ n) (h2 : j.natAbs < 2 ^ n) : (i + j).natAbs < 2 ^ (n + 1) := by
  rw [Nat.pow_succ]
  omega
theorem abs_sub {i j : Int} {n : Nat} (h1 : i.natAbs < 2 ^ n) (h2 : j.natAbs < 2 ^ n) : (i - j).natAbs < 2 ^ (n + 1) := by
  rw [Nat.pow_succ]
  omega
theorem abs_pow {i : Int} {n : Nat} (h : i.natAbs < 2 ^ n) (h0 : 0 < n) : ∀ k : Nat, (i ^ k).natAbs < 2 ^ (n * k + 1)
  | 0 => by
    rw [Int.pow_zero, Nat.mul_zero]
    decide
  | k + 1 => by
    have h1 := abs_pow h h0 k
    rw [Int.pow_succ, Int.natAbs_mul]
    have h2 : (i ^ k).natAbs * i.natAbs < 2 ^ (n * k + 1) * 2 ^ n := Nat.mul_lt_mul'' h1 h
    rw [← Nat.pow_add] at h2
    rw [show n * (k + 1) + 1 = n * k + 1 + n by rw [Nat.mul_succ]; omega]
    exact h2
theorem abs_up {i : Int} {m n : Nat} (h : i.natAbs < 2 ^ m) (hm : m ≤ n) : i.natAbs < 2 ^ n := Nat.lt_of_lt_of_le h (Nat.pow_le_pow_right (by decide) hm)
theorem abs_div {i j : Int} {n : Nat} (h : i.natAbs < 2 ^ n) (h0 : 0 ≤ i) (hj : 0 < j) : (i / j).natAbs < 2 ^ n := by
  have h1 : i / j ≤ i := Int.ediv_le_self _ h0
  have h2 : 0 ≤ i / j := Int.ediv_nonneg h0 (by omega)
  omega
theorem val_abs {ds bs : List Int} (d : Dgs ds bs) (B : Bss bs) : (valD ds bs).natAbs < 2 ^ 27 := by
  obtain ⟨v1, v2⟩ := valD_range d
  obtain ⟨_, p2⟩ := prodL_le (zs := bs) (n := 4) B.2.2 B.2.1
  have q : (100 : Int) ^ 4 = 100000000 := by decide
  have q2 : (2 : Nat) ^ 27 = 134217728 := by decide
  omega
theorem room_abs {bs : List Int} (B : Bss bs) : (prodL bs).natAbs < 2 ^ 27 ∧ 1 ≤ prodL bs ∧ prodL bs ≤ 100000000 := by
  obtain ⟨p1, p2⟩ := prodL_le (zs := bs) (n := 4) B.2.2 B.2.1
  have q : (100 : Int) ^ 4 = 100000000 := by decide
  have q2 : (2 : Nat) ^ 27 = 134217728 := by decide
  omega
theorem mulW {i j : Int} {a b : Nat} (ha : i.natAbs < 2 ^ a) (hb : j.natAbs < 2 ^ b) (h0 : 0 < a) (h1 : 0 < b) (h : a + b ≤ 1000000) : CMulW i j := wide_mul ha hb h0 h1 h
end Ru

set_option Elab.async false
set_option linter.all false
set_option maxRecDepth 100000
set_option maxHeartbeats 4000000
namespace Ru
open PySem PySem.Spec PyProof.Rows L2
/-! ### zip of three rows -/
def YTri (xs ys zs : Nat → Option V) : Nat → Hp → V → Hp → Prop := fun i H v H' => ∃ T x y z, v = .ref T ∧ H T = none ∧ H' = upd H T (.tup [x, y, z]) ∧ xs i = some x ∧ ys i = some y ∧ zs i = some z
def ItZ3 (K : PySem.W.Frag) (b1 b2 b3 : Bool) (a c e : Addr) (xs ys zs : List V) : It :=
  ⟨fun i H => i < min (min xs.length ys.length) zs.length ∧ SqA K b1 H a xs ∧ SqA K b2 H c ys ∧ SqA K b3 H e zs, YTri (fun i => xs[i]?) (fun i => ys[i]?) (fun i => zs[i]?), fun i H => i = min (min xs.length ys.length) zs.length ∧ SqA K b1 H a xs ∧ SqA K b2 H c ys ∧ SqA K b3 H e zs⟩
theorem walk_zip3 {K : PySem.W.Frag} {b1 b2 b3 : Bool} {a c e : Addr} {xs ys zs : List V} : Walk (ItZ3 K b1 b2 b3 a c e xs ys zs) (min (min xs.length ys.length) zs.length) (fun H => SqA K b1 H a xs ∧ SqA K b2 H c ys ∧ SqA K b3 H e zs) (YTri (fun i => xs[i]?) (fun i => ys[i]?) (fun i => zs[i]?)) :=
  ⟨fun _ _ h g => ⟨h, g⟩, fun _ g => ⟨rfl, g⟩, fun _ _ _ _ _ _ y => y⟩
section
variable {P : Program} {w : World} {K : PySem.W.Frag} {elts : List Expr} {kk : Nat} {tpos : Pos}
theorem tri_in {X : Cx} {pins : List (Addr × Obj)} {σ : L2.St} {H : Hp} {s : Shared} {h' : Heap} {tk : Nat} {ch : List Addr} {T : Addr} {x y z : V} {u v o : Value} (I : Inv X pins σ H s) (k : ∀ b o, b ∉ ch → s.heap.get? b = some o → h'.get? b = some o)
    (hf : ∀ b ∈ ch, FpOk X pins H b) (hT : s.heap.objs.size ≤ T) (rx : RelV x u) (ry : RelV y v) (rz : RelV z o) (p : h'.IsTuple T #[u, v, o]) : Inv X pins σ (upd H T (.tup [x, y, z])) { s with heap := h', toks := tk } :=
  I.turnedNew (ch := ch) k hf hT ⟨by show 3 ≤ sizeLine; decide, [u, v, o], .cons rx (.cons ry (.cons rz .nil)), p⟩
theorem turn_zip3 {b1 b2 b3 : Bool} {a c e z TI TO i1 i2 i3 : Addr} {xs ys zs : List V} (S : ZipSep3 z TI TO i1 i2 i3 [i1, a] [i2, c] [i3, e]) (n1 : a ≠ i1) (n2 : c ≠ i2) (n3 : e ≠ i3) :
    Turn P w K (.Tuple elts kk tpos) (ItZ3 K b1 b2 b3 a c e xs ys zs) [z, TI, TO, i1, i2, i3] z
      (fun i h => IsZip h z TI TO .none ∧ IsTupOf3 h TI (.ref i1) (.ref i2) (.ref i3) ∧ (∃ p q r, IsTupOf3 h TO p q r) ∧ AtA b1 h i1 a i ∧ AtA b2 h i2 c i ∧ AtA b3 h i3 e i) where
  mem := List.mem_cons_self
  obj := fun i h st b hb => by
    obtain ⟨hz, hI, ⟨p, q, r, hO⟩, h1, h2, h3⟩ := st
    rcases List.mem_cons.mp hb with e | hb
    · exact e ▸ ⟨_, hz, fun v q => nomatch q⟩
    rcases List.mem_cons.mp hb with e | hb
    · exact e ▸ ⟨_, hI, fun v q => nomatch q⟩
    rcases List.mem_cons.mp hb with e | hb
    · exact e ▸ ⟨_, hO, fun v q => nomatch q⟩
    rcases List.mem_cons.mp hb with e | hb
    · exact e ▸ h1.cell
    rcases List.mem_cons.mp hb with e | hb
    · exact e ▸ h2.cell
    · exact List.mem_singleton.mp hb ▸ h3.cell
  keep := fun i h h' st k => by
    obtain ⟨hz, hI, ⟨p, q, r, hO⟩, h1, h2, h3⟩ := st
    exact ⟨k z (by simp) _ hz, k TI (by simp) _ hI, ⟨p, q, r, k TO (by simp) _ hO⟩, h1.keep (k i1 (by simp)), h2.keep (k i2 (by simp)), h3.keep (k i3 (by simp))⟩
  item := by
    intro X eP ew eK hc i pins s σ H E I hf st hg
    subst eP ew eK
    obtain ⟨hz, hI, hO, h1, h2, h3⟩ := st
    obtain ⟨hi, q1, q2, q3⟩ := hg
    obtain ⟨us, r1, p1⟩ := q1.raw I
    obtain ⟨vs, r2, p2⟩ := q2.raw I
    obtain ⟨ws, r3, p3⟩ := q3.raw I
    have hh : X.A.in1.handled = none := I.ok.hd hc
    have l1 := r1.length
    have l2 := r2.length
    have l3 := r3.length
    refine (GoesN.zip3 (elts := elts) (x1 := kk) (pos := tpos) (A := X.A) S (drawsA b1 hh i1 a n1 us.toArray) (drawsA b2 hh i2 c n2 vs.toArray) (drawsA b3 hh i3 e n3 ws.toArray)).goes i s (fun u s2 => ∃ x H', Inv X pins σ H' s2 ∧ RelV x u ∧ YTri (fun i => xs[i]?) (fun i => ys[i]?) (fun i => zs[i]?) i H x H' ∧
      (IsZip s2.heap z TI TO .none ∧ IsTupOf3 s2.heap TI (.ref i1) (.ref i2) (.ref i3) ∧ (∃ p q r, IsTupOf3 s2.heap TO p q r) ∧ AtA b1 s2.heap i1 a (i + 1) ∧ AtA b2 s2.heap i2 c (i + 1) ∧ AtA b3 s2.heap i3 e (i + 1)) ∧ ∀ b ∈ [z, TI, TO, i1, i2, i3], H' b = none) E
      (by simp only [List.size_toArray]; omega) ⟨hz, hI, hO, ⟨h1, p1⟩, ⟨h2, p2⟩, ⟨h3, p3⟩⟩ fun v h' tk hY st' hk _ => ?_
    obtain ⟨T, u, v', o', rfl, hT, hu, hv, ho, pT⟩ := hY
    obtain ⟨z', I', O', ⟨h1', _⟩, ⟨h2', _⟩, ⟨h3', _⟩⟩ := st'
    have j1 : i < xs.length := by omega
    have j2 : i < ys.length := by omega
    have j3 : i < zs.length := by omega
    obtain ⟨u0, e1, ru⟩ := r1.get (List.getElem?_eq_getElem j1)
    obtain ⟨v0, e2, rv⟩ := r2.get (List.getElem?_eq_getElem j2)
    obtain ⟨o0, e3, ro⟩ := r3.get (List.getElem?_eq_getElem j3)
    have f1 : us[i]? = some u := by simpa using hu
    have f2 : vs[i]? = some v' := by simpa using hv
    have f3 : ws[i]? = some o' := by simpa using ho
    rw [e1] at f1
    rw [e2] at f2
    rw [e3] at f3
    cases f1
    cases f2
    cases f3
    refine ⟨.ref T, _, tri_in I (ch := [z, TI, TO, i1, i2, i3]) (fun b o nb e => hk b o (fun m => nb ?_) e) hf hT ru rv ro pT, rfl, ⟨T, _, _, _, rfl, I.hok.fresh hT, rfl, List.getElem?_eq_getElem j1, List.getElem?_eq_getElem j2, List.getElem?_eq_getElem j3⟩, ⟨z', I', O', h1', h2', h3'⟩, fun b hb => ?_⟩
    · simp only [List.mem_cons, List.not_mem_nil, or_false] at m ⊢
      rcases m with m | m | m | m | m <;> simp [m]
    · have lt : b < s.heap.objs.size := by
        obtain ⟨p, q, r, hO⟩ := hO
        obtain ⟨o1, e1, _⟩ := h1.cell
        obtain ⟨o2, e2, _⟩ := h2.cell
        obtain ⟨o3, e3, _⟩ := h3.cell
        simp only [List.mem_cons, List.not_mem_nil, or_false] at hb
        rcases hb with m | m | m | m | m | m
        · exact m ▸ Heap.lt_size hz
        · exact m ▸ Heap.lt_size hI
        · exact m ▸ Heap.lt_size hO
        · exact m ▸ Heap.lt_size e1
        · exact m ▸ Heap.lt_size e2
        · exact m ▸ Heap.lt_size e3
      rw [upd_ne (Nat.ne_of_lt (Nat.lt_of_lt_of_le lt hT))]
      exact (hf b hb).1
  done := by
    intro X eP ew eK hc i pins s σ H E I hf st hg
    subst eP ew eK
    obtain ⟨hz, hI, hO, h1, h2, h3⟩ := st
    obtain ⟨hi, q1, q2, q3⟩ := hg
    obtain ⟨us, r1, p1⟩ := q1.raw I
    obtain ⟨vs, r2, p2⟩ := q2.raw I
    obtain ⟨ws, r3, p3⟩ := q3.raw I
    have hh : X.A.in1.handled = none := I.ok.hd hc
    have l1 := r1.length
    have l2 := r2.length
    have l3 := r3.length
    have en : i = min (min us.toArray.size vs.toArray.size) ws.toArray.size := by
      simp only [List.size_toArray]
      omega
    subst en
    refine (GoesN.zip3 (elts := elts) (x1 := kk) (pos := tpos) (A := X.A) S (drawsA b1 hh i1 a n1 us.toArray) (drawsA b2 hh i2 c n2 vs.toArray) (drawsA b3 hh i3 e n3 ws.toArray)).stops s (fun s2 => Inv X pins σ H s2) E ⟨hz, hI, hO, ⟨h1, p1⟩, ⟨h2, p2⟩, ⟨h3, p3⟩⟩ fun h' tk hk _ => ?_
    refine I.turnedL (ch := [z, TI, TO, i1, i2, i3]) (fun b o nb e => hk b o (fun m => nb ?_) e) hf
    simp only [List.mem_cons, List.not_mem_nil, or_false] at m ⊢
    rcases m with m | m | m | m | m <;> simp [m]
  self := fun A i s Q E st h => wpAny_pyIter_zip st.1 h
end
section
variable {X : Cx} {e e2 e3 : Expr} {ta : TA} {p pos tpos : Pos} {elts : List Expr} {kk : Nat}
def iZip3 (K : PySem.W.Frag) (ta : TA) : TI := fun σ H R => ta σ H fun vs H1 => ∃ (b1 b2 b3 : Bool) (a c d : Addr) (xs ys zs : List V), vs = [.ref a, .ref c, .ref d] ∧ SqA K b1 H1 a xs ∧ SqA K b2 H1 c ys ∧ SqA K b3 H1 d zs ∧ R (ItZ3 K b1 b2 b3 a c d xs ys zs) H1
theorem pi_zip3 (hg : Gl X "zip") (hm : X.mg "zip" = none) (ha : PA X [e, e2, e3] ta) (hs : starEach [e, e2, e3] X.env = (false, eval e X.env) :: starEach [e2, e3] X.env := by rfl) (hpl : (backTo pos (starEach [e2, e3] X.env)).any (·.1) = false := by rfl) :
    PI X (.Tuple elts kk tpos) (.Call (.Name "zip" p) [e, e2, e3] [] pos) (iZip3 X.K ta) := by
  refine ⟨fun pins s σ H R I h => Call_ (ld_blt I hg hm PyProof.Rows.boot_zip (PyProof.Rows.callWith_type1 (thn (ha.run pos pins s σ H _ I h) fun us s1 hh => ?_) hs hpl))⟩
  obtain ⟨vs, H1, I1, r, b1, b2, b3, a, c, d, xs, ys, zs, ev, q1, q2, q3, q⟩ := hh
  subst ev
  cases r with
  | cons ra r =>
  obtain ⟨v, o, rfl, rc, rd⟩ := vals2 r
  cases ra
  cases (show v = Value.ref c from rc)
  cases (show o = Value.ref d from rd)
  obtain ⟨ws, r1, p1⟩ := q1.raw I1
  obtain ⟨us, r2, p2⟩ := q2.raw I1
  obtain ⟨ts, r3, p3⟩ := q3.raw I1
  obtain ⟨oa, ea⟩ := p1.live
  obtain ⟨oc, ec⟩ := p2.live
  obtain ⟨od, ed⟩ := p3.live
  have la : a < s1.heap.objs.size := Heap.lt_size ea
  have lc : c < s1.heap.objs.size := Heap.lt_size ec
  have ld : d < s1.heap.objs.size := Heap.lt_size ed
  refine zip_begins3 (beginsA b1 a ws.toArray) (beginsA b2 c us.toArray) (beginsA b3 d ts.toArray) p1 p2 p3 fun h' hz hI hO g1 g2 g3 _ hk => wpAny_pyIter_zip hz ?_
  have I2 : Inv X pins σ H1 { s1 with heap := h' } := I1.kept (t' := s1.toks) hk
  have S := zip_sep3 (N := s1.heap.objs.size) (fp1 := [a]) (fp2 := [c]) (fp3 := [d]) (fun b m => List.mem_singleton.mp m ▸ la) (fun b m => List.mem_singleton.mp m ▸ lc) (fun b m => List.mem_singleton.mp m ▸ ld)
  have n1 : a ≠ s1.heap.objs.size := Nat.ne_of_lt la
  have n2 : c ≠ s1.heap.objs.size + 1 := Nat.ne_of_lt (Nat.lt_succ_of_lt lc)
  have n3 : d ≠ s1.heap.objs.size + 2 := Nat.ne_of_lt (Nat.lt_of_lt_of_le ld (Nat.le_add_right _ _))
  refine ⟨s1.heap.objs.size + 5, [s1.heap.objs.size + 5, s1.heap.objs.size + 3, s1.heap.objs.size + 4, s1.heap.objs.size, s1.heap.objs.size + 1, s1.heap.objs.size + 2], _, _, H1, rfl, I2, turn_zip3 S n1 n2 n3, ⟨hz, hI, ⟨_, _, _, hO⟩, newA_at g1, newA_at g2, newA_at g3⟩, fun b hb => ?_, q⟩
  have f0 := fresh_at (H' := H1) I1 0
  simp only [List.mem_cons, List.not_mem_nil, or_false] at hb
  rcases hb with m | m | m | m | m | m
  · exact m ▸ fresh_at (H' := H1) I1 5
  · exact m ▸ fresh_at (H' := H1) I1 3
  · exact m ▸ fresh_at (H' := H1) I1 4
  · exact m ▸ f0
  · exact m ▸ fresh_at (H' := H1) I1 1
  · exact m ▸ fresh_at (H' := H1) I1 2
end
end Ru

set_option Elab.async false
set_option linter.all false
set_option maxRecDepth 100000
set_option maxHeartbeats 2000000
namespace Ru
open PySem PySem.Spec PyProof.Rows L2
/-! ### a caught exception inside its suite -/
/-- its own fields -/
def XdAt (H : Hp) (d : Option Addr) (fs : List (Str × V)) : Prop := (d = none ∧ fs = []) ∨ ∃ dd, d = some dd ∧ H dd = some (.xd fs)
section
variable {X : Cx} {pins : List (Addr × Obj)} {σ : L2.St} {H : Hp} {s : Shared} {a C : Addr} {cls : Value} {d : Option Addr} {oe : Obj} {pn : List (Addr × Obj)} {fs : List (Str × V)}
theorem pin_inst (I : Inv (X.suite a ((a, oe) :: pn)) pins σ H s) (hz : Zc (.ref C) d oe) (hf : ∃ vs, oe.data = .fields vs) (h : XdAt H d fs) :
    ∃ (ox : Obj) (od : Option Obj), PySem.W.InstAt s.heap a ox C od ∧ ∀ f v, fs.lookup f = some v → ∃ o u, od = some o ∧ PySem.W.lookIn f o = some (some u) ∧ RelV v u := by
  obtain ⟨vs, hd⟩ := hf
  have ho : s.heap.get? a = some oe := (I.pin (a, oe) (List.mem_append_left _ List.mem_cons_self)).1
  rcases h with ⟨h1, h2⟩ | ⟨dd, h1, h2⟩
  · subst h1 h2
    obtain ⟨oc, odi, oda, osl⟩ := oe
    obtain ⟨z1, z2⟩ := hz
    dsimp only at z1 z2 hd
    subst z1 z2 hd
    exact ⟨_, none, ⟨ho, rfl, rfl, trivial⟩, fun f v q => nomatch q⟩
  · subst h1
    obtain ⟨oc, odi, oda, osl⟩ := oe
    obtain ⟨z1, z2⟩ := hz
    dsimp only at z1 z2 hd
    subst z1 z2 hd
    have hx : ObjOk X.prog X.w H s.heap dd (.xd fs) := I.hok dd _ h2
    obtain ⟨mA, hns, hr⟩ := hx
    obtain ⟨od, hod, hl⟩ := lookIn_ns hns
    refine ⟨_, some od, ⟨ho, rfl, rfl, hod⟩, fun f v q => ?_⟩
    obtain ⟨u, hu, ru⟩ := RelO.some_of (v := v) (o := mA f) (by rw [← q]; exact hr f)
    exact ⟨od, u, rfl, by rw [hl, hu], ru⟩
end
def rIsP (K : PySem.W.Frag) (cls : Value) (d : Option Addr) (a : Addr) : List V → Hp → VK → Prop := fun xs H Q =>
  ∃ (D : Addr) (fs : List (Str × V)) (c : V) (cv : Value) (b : Bool), xs = [.ref a, c] ∧ cls = .ref D ∧ XdAt H d fs ∧ ExK K D ∧ ClsV c cv ∧ PySem.W.kitOne K (.ref D) cv = some b ∧ Q (.bl b) H
theorem call_isP {X : Cx} {a : Addr} {cls : Value} {d : Option Addr} {oe : Obj} {pn : List (Addr × Obj)} (hz : Zc cls d oe) (hf : ∃ vs, oe.data = .fields vs) : CallR (X.suite a ((a, oe) :: pn)) (.builtin "isinstance") (rIsP X.K cls d a) := by
  intro pins s σ H xs us Q I r h
  obtain ⟨D, fs, c, cv, b, rfl, rfl, he, C, hcv, ek, q⟩ := h
  cases r with
  | cons rx rr =>
    cases rr with
    | cons rt rr =>
      cases rr
      cases rx
      have ec := hcv.eq rt
      subst ec
      obtain ⟨ox, od, J, _⟩ := pin_inst I hz hf he
      exact PySem.W.kia_one (PySem.W.kitx_exc C.hcl C.hga C.hgt C.hsub C.ha C.hn C.htk C.hm) I.kIn J ek (fun z => nomatch z) fun tk => ⟨.bl b, H, I.kept (t' := tk) fun _ _ z => z, rfl, q⟩
def rIsPT (K : PySem.W.Frag) (cls : Value) (d : Option Addr) (a : Addr) : List V → Hp → VK → Prop := fun xs H Q =>
  ∃ (D : Addr) (fs : List (Str × V)) (tp : Addr) (cs : List V) (us : List Value) (b : Bool), xs = [.ref a, .ref tp] ∧ cls = .ref D ∧ XdAt H d fs ∧ ExK K D ∧ H tp = some (.tup cs) ∧ Paired ClsV cs us ∧ PySem.W.kitAny K (.ref D) us = some b ∧ Q (.bl b) H
theorem call_isPT {X : Cx} {a : Addr} {cls : Value} {d : Option Addr} {oe : Obj} {pn : List (Addr × Obj)} (hz : Zc cls d oe) (hf : ∃ vs, oe.data = .fields vs) : CallR (X.suite a ((a, oe) :: pn)) (.builtin "isinstance") (rIsPT X.K cls d a) := by
  intro pins s σ H xs us Q I r h
  obtain ⟨D, fs, tp, cs, ws, b, rfl, rfl, he, C, hT, k, ek, q⟩ := h
  obtain ⟨u1, u2, rfl, r1, r2⟩ := vals2 r
  cases r1
  cases (show u2 = Value.ref tp from r2)
  obtain ⟨ox, od, J, _⟩ := pin_inst I hz hf he
  obtain ⟨_, its, rv, o, h1, h2, n, h3⟩ := (show ObjOk X.prog X.w H s.heap tp (.tup cs) from I.hok tp _ hT)
  have e3 := ClsV.all k rv
  subst e3
  obtain ⟨oc, od2, dt, sl⟩ := o
  simp only at h2 h3
  subst h2 h3
  exact PySem.W.kia_tup (PySem.W.kitx_exc C.hcl C.hga C.hgt C.hsub C.ha C.hn C.htk C.hm) I.kIn J h1 ek (fun z => nomatch z) fun tk => ⟨.bl b, H, I.tok tk, rfl, q⟩
/-- e.f -/
def tPxF (K : PySem.W.Frag) (cls : Value) (d : Option Addr) (a : Addr) (f : Str) (te : TE) : TE := fun σ H Q => te σ H fun x H1 =>
  ∃ (D : Addr) (fs : List (Str × V)) (v : V), x = .ref a ∧ cls = .ref D ∧ XdAt H1 d fs ∧ ExK K D ∧ PySem.W.findIn K (.ref D) f = some none ∧ fs.lookup f = some v ∧ Q v H1
theorem pe_pxf {X : Cx} {a : Addr} {cls : Value} {d : Option Addr} {oe : Obj} {pn : List (Addr × Obj)} {e : Expr} {te : TE} {pos : Pos} {n : Str} (hz : Zc cls d oe) (hf : ∃ vs, oe.data = .fields vs) (he : PE (X.suite a ((a, oe) :: pn)) e te)
    (hb : attributeBase e n X.env (eval e X.env) = eval e X.env := by rfl) : PE (X.suite a ((a, oe) :: pn)) (.Attribute e n pos) (tPxF X.K cls d a n te) := by
  refine ⟨fun pins s σ H Q I h => ?_⟩
  refine attr_of hb (thn (he.run pins s σ H _ I h) fun u s1 hh => ?_)
  obtain ⟨x, H1, I1, rx, D, fs, v, ex, ec, hx, T, hno, hl, q⟩ := hh
  subst ex ec
  obtain rfl : u = Value.ref a := rx
  obtain ⟨ox, od, J, hfl⟩ := pin_inst I1 hz hf hx
  obtain ⟨o, u, rfl, hlk, ru⟩ := hfl n v hl
  exact HandSPX.exc_get I1.kIn J T.hga T.hgt T.hsub (PySem.W.findObj_own T.hdc hno rfl hlk) (handed_of ru) ⟨v, H1, I1.tok _, ru, q⟩
/-- a new tuple: it doesn't lie where the exception lies -/
def tTupP (a : Addr) (t : TA) : TE := fun σ H Q => tTup t σ H fun v H' => ∃ p o, v = .ref p ∧ H' p = some o ∧ (p ≠ a → Q v H')
theorem pe_tupP {X : Cx} {a : Addr} {oe : Obj} {pn : List (Addr × Obj)} {es : List Expr} {t : TA} {x1 : _} {pos : Pos} (h : PA (X.suite a ((a, oe) :: pn)) es t) : PE (X.suite a ((a, oe) :: pn)) (.Tuple es x1 pos) (tTupP a t) := by
  refine ⟨fun pins s σ H Q I hq => thn ((pe_tup h).run pins s σ H _ I hq) fun u s1 hh => ?_⟩
  obtain ⟨v, H', I1, r, p, o, ev, eo, q⟩ := hh
  refine ⟨v, H', I1, r, q fun e => ?_⟩
  subst e
  have z := (I1.pin (p, oe) (List.mem_append_left _ List.mem_cons_self)).2.1
  have z : H' p = none := z
  rw [eo] at z
  cases z
end Ru

set_option Elab.async false
set_option linter.all false
set_option maxRecDepth 100000
set_option maxHeartbeats 4000000
namespace Ru
open PySem PySem.Spec PyProof.Rows L2
theorem same_put {H0 H : Hp} {D : Addr} {o : HO} (n : H0 D = none) (s : Same H0 H) : Same H0 (upd H D o) := fun b u e => by
  rw [upd_ne (ne_of_none e n)]
  exact s b u e
theorem wts_at {bs : List Int} {i : Nat} (B : Bss bs) (h : i < bs.length) : ∃ v, (wts bs)[i]? = some v ∧ 0 < v ∧ v < 1073741824 := by
  refine ⟨prodL (bs.drop (i + 1)), ?_, ?_⟩
  · unfold wts
    rw [List.getElem?_map, List.getElem?_range h]
    rfl
  · obtain ⟨h1, h2⟩ := prodL_le (zs := bs.drop (i + 1)) (n := 4) (fun z hz => B.2.2 z (List.mem_of_mem_drop hz)) (by rw [List.length_drop]; have := B.2.1; omega)
    have q : (100 : Int) ^ 4 = 100000000 := by decide
    omega
theorem rep_flat {n : Nat} : (List.replicate n [V.int 0]).flatten = (List.replicate n 0).map V.int := by
  induction n with
  | zero => rfl
  | succ n ih =>
    rw [List.replicate_succ, List.flatten_cons, ih, List.replicate_succ, List.map_cons]
    rfl
theorem rep_take {n i : Nat} (h : i < n) : (List.replicate n (0 : Int))[i]? = some 0 := by
  rw [List.getElem?_replicate, if_pos h]
theorem zero_dgs {bs : List Int} (B : Bss bs) : Dgs (List.replicate bs.length 0) bs := by
  refine dgs_of (List.length_replicate) fun i d b e1 e2 => ?_
  have hi : i < bs.length := (List.getElem?_eq_some_iff.mp e2).1
  rw [rep_take hi] at e1
  cases e1
  have := B.2.2 b (List.mem_of_getElem? e2)
  omega
end Ru
namespace Ru
open PySem PySem.Spec PyProof.Rows L2
theorem mono_fld {K : PySem.W.Frag} {ta : TE} {f : Str} (a : Mono ta) : Mono (tFld K ta f) := fun σ H Q Q' g h => a σ H _ _ (fun x H1 ⟨p, C, dx, fs, v, e1, e2, e3, e4, e5, q⟩ => ⟨p, C, dx, fs, v, e1, e2, e3, e4, e5, g _ _ q⟩) h
theorem mono_neg {ta : TE} (a : Mono ta) : Mono (tUn (rU fun i => .int (-i)) ta) := fun σ H Q Q' g h => a σ H _ _ (fun x H1 ⟨i, e, q⟩ => ⟨i, e, g _ _ q⟩) h
end Ru
namespace Ru
open PySem PySem.Spec PyProof.Rows L2
/-- the tables don't stand where a list stands -/
theorem tabs_bt {T : List (Addr × Str)} {d : Addr} {H H' : Hp} {xs : List V} (hd : H d = some (.lst xs)) (s : Bt d H H') (t : LamX.Tabs T H) : LamX.Tabs T H' := by
  intro p hp
  obtain ⟨ps, h1, h2, h3⟩ := t p hp
  refine ⟨ps, s _ _ h1 (fun e => ?_), h2, fun pos cv hc => ?_⟩
  · rw [e, hd] at h1
    cases h1
  · obtain ⟨c, e1, e2⟩ := h3 pos cv hc
    refine ⟨c, e1, s _ _ e2 (fun e => ?_)⟩
    rw [e, hd] at e2
    cases (show HO.lst xs = HO.ext _ from Option.some.inj e2)
theorem PenL.ext {H H' : Hp} {d l : Addr} {cells : List Int} {a r : Int} (s : LamX.ExtN H H') (P : PenL H d l cells a r) : PenL H' d l cells a r :=
  ⟨s _ _ P.dk (fun _ z => by cases z), s _ _ P.cl (fun _ z => by cases z), P.len, P.a0, P.r0⟩
theorem PenL.off {H : Hp} {d l D : Addr} {cells : List Int} {a r : Int} {u : HO} (n1 : D ≠ d) (n2 : D ≠ l) (P : PenL H d l cells a r) : PenL (upd H D u) d l cells a r :=
  ⟨by rw [upd_ne (Ne.symm n1)]; exact P.dk, by rw [upd_ne (Ne.symm n2)]; exact P.cl, P.len, P.a0, P.r0⟩
/-- a new list is filled meanwhile -/
theorem Bt.fill {d D : Addr} {H H1 H2 : Hp} {u : HO} (t1 : Bt d H H1) (n : H1 D = none) (t2 : Bt d H H2) : Bt d H (upd H2 D u) := fun b o e nb => by
  rw [upd_ne (ne_of_none (t1 b o e nb) n)]
  exact t2 b o e nb
theorem ints_ne {H : Hp} {d l b : Addr} {zs : List V} {ns : List Int} (hd : H d = some (.lst (.ref l :: zs))) (h : H b = some (.lst (ns.map V.int))) : b ≠ d := fun e => by
  rw [e, hd] at h
  have z : V.ref l :: zs = ns.map V.int := by injection (Option.some.inj h)
  cases ns with
  | nil => cases z
  | cons x xs => cases z
theorem num_ext {C : Addr} {H H' : Hp} {a : Addr} {ds bs : List Int} (x : LamX.ExtN H H') (h : NumAt C H a ds bs) : NumAt C H' a ds bs := by
  obtain ⟨dx, da, ba, h1, h2, h3⟩ := h
  have rd : ∀ {b : Addr} {u : HO}, (∀ ps, u ≠ .tbl ps) → Rd H b u → Rd H' b u := fun {b u} n q => q.elim (fun q => .inl (x _ _ q n)) fun ⟨o, q⟩ => .inr ⟨o, x _ _ q fun _ z => by cases z⟩
  exact ⟨dx, da, ba, x _ _ h1 (fun _ z => by cases z), rd (fun _ z => by cases z) h2, rd (fun _ z => by cases z) h3⟩
end Ru
namespace Ru
open PySem PySem.Spec PyProof.Rows L2
theorem ext_put {H H1 H2 : Hp} {q : Addr} {u : HO} (x1 : LamX.ExtN H H1) (n : H1 q = none) (x2 : LamX.ExtN H H2) : LamX.ExtN H (upd H2 q u) := fun b o e t => by
  by_cases c : b = q
  · subst c
    rw [x1 _ _ e t] at n
    cases n
  · rw [upd_ne c]
    exact x2 _ _ e t
theorem num_put {C : Addr} {H : Hp} {q a : Addr} {xs : List V} {u : HO} {ds bs : List Int} (hq : H q = some (.lst xs)) (h : NumAt C H a ds bs) : NumAt C (upd H q u) a ds bs := NumAt.ki (Ki.of .put) hq h
end Ru
namespace Ru
open PySem PySem.Spec PyProof.Rows L2
theorem set_cut {xs : List Int} {m : Nat} {x : Int} (h : m < xs.length) : xs.take m ++ [x] ++ xs.drop (m + 1) = xs.set m x := by
  rw [List.set_eq_take_append_cons_drop, if_pos h, List.append_assoc]
  rfl
theorem bss_set {bs : List Int} {m : Nat} {c : Int} (h : Bss bs) (l : 2 ≤ c ∧ c ≤ 100) : Bss (bs.set m c) := by
  refine ⟨by rw [List.length_set]; exact h.1, by rw [List.length_set]; exact h.2.1, fun z hz => ?_⟩
  rcases List.mem_or_eq_of_mem_set hz with q | q
  · exact h.2.2 z q
  · rw [q]
    exact l
end Ru
set_option Elab.async false
set_option linter.all false
set_option maxRecDepth 100000
set_option maxHeartbeats 4000000
namespace Ru
open PySem PySem.Spec PyProof.Rows L2
/-- str of a list of data -/
def rStrL (K : PySem.W.Frag) : List V → Hp → VK → Prop := fun xs H Q => ∃ (a dp : Addr) (d : PyData), xs = [.ref a] ∧ Dq K dp H (.ref a) d ∧ Sh d ∧ Q (.str d.shown) H
theorem call_strL {X : Cx} (M : SmK X.K) (hg : X.A.guards = some []) (hu : X.A.units + 64 < cLine) : CallR X (.type "str") (rStrL X.K) := by
  intro pins s σ H xs us Q I r h
  obtain ⟨a, dp, d, rfl, hd, ⟨hs, hdp, hsz⟩, q⟩ := h
  obtain rfl := Vals.ref1 r
  obtain ⟨as, r1, n1⟩ := Dq.reads I M d _ _ hd rfl
  exact str_of_reads r1 hs (fun _ => n1) hg (by omega) (fun _ _ e => e) (fun h' u tk hk => ⟨.str d.shown, H, I.kept (t' := tk) hk, ⟨u, rfl⟩, q⟩) hsz
/-! ### tracked data, off the address d -/
mutual
inductive Dw (d : Addr) (H : Hp) : V → PyData → Prop
  | non : Dw d H .non .none
  | bl (b : Bool) : Dw d H (.bl b) (.bool b)
  | int (i : Int) : Dw d H (.int i) (.int i)
  | str (x : Str) : Dw d H (.str x) (.str x)
  | lst {a : Addr} {xs : List V} {ds : List PyData} : Rd H a (.lst xs) → a ≠ d → DwA d H xs ds → Dw d H (.ref a) (.list ds)
  | tup {a : Addr} {xs : List V} {ds : List PyData} : Rd H a (.tup xs) → a ≠ d → DwA d H xs ds → Dw d H (.ref a) (.tuple ds)
  | d0 {a : Addr} : H a = some (.dK []) → a ≠ d → Dw d H (.ref a) (.dict [])
inductive DwA (d : Addr) (H : Hp) : List V → List PyData → Prop
  | nil : DwA d H [] []
  | cons {v : V} {vs : List V} {x : PyData} {ds : List PyData} : Dw d H v x → DwA d H vs ds → DwA d H (v :: vs) (x :: ds)
end
mutual
theorem Dw.bt {d : Addr} {H H' : Hp} (s : Bt d H H') : ∀ {v : V} {x : PyData}, Dw d H v x → Dw d H' v x
  | _, _, .non => .non
  | _, _, .bl b => .bl b
  | _, _, .int i => .int i
  | _, _, .str x => .str x
  | _, _, .lst h n a => .lst (s.rd n h) n (DwA.bt s a)
  | _, _, .tup h n a => .tup (s.rd n h) n (DwA.bt s a)
  | _, _, .d0 h n => .d0 (s _ _ h n) n
theorem DwA.bt {d : Addr} {H H' : Hp} (s : Bt d H H') : ∀ {vs : List V} {ds : List PyData}, DwA d H vs ds → DwA d H' vs ds
  | _, _, .nil => .nil
  | _, _, .cons a b => .cons (Dw.bt s a) (DwA.bt s b)
end
theorem Dw.same {d : Addr} {H H' : Hp} (s : Same H H') {v : V} {x : PyData} (h : Dw d H v x) : Dw d H' v x := Dw.bt (.of s) h
theorem DwA.same {d : Addr} {H H' : Hp} (s : Same H H') {v : List V} {x : List PyData} (h : DwA d H v x) : DwA d H' v x := DwA.bt (.of s) h
/-- no datum stands at q -/
structure NoD (H : Hp) (q : Addr) : Prop where
  l : ∀ xs, ¬ Rd H q (.lst xs)
  t : ∀ xs, ¬ Rd H q (.tup xs)
  k : H q ≠ some (.dK [])
theorem NoD.free {H : Hp} {q : Addr} (h : H q = none) : NoD H q := ⟨fun xs z => (by rcases z with z | ⟨o, z⟩ <;> rw [h] at z <;> cases z), fun xs z => (by rcases z with z | ⟨o, z⟩ <;> rw [h] at z <;> cases z), fun z => (by rw [h] at z; cases z)⟩
theorem NoD.ins {H : Hp} {q C dx : Addr} {fs : List (Str × V)} (h : H q = some (.ins C dx fs)) : NoD H q := ⟨fun xs z => (by rcases z with z | ⟨o, z⟩ <;> rw [h] at z <;> cases z), fun xs z => (by rcases z with z | ⟨o, z⟩ <;> rw [h] at z <;> cases z), fun z => (by rw [h] at z; cases z)⟩
mutual
theorem Dw.at {K : PySem.W.Frag} {d q : Addr} {H : Hp} (n : NoD H q) : ∀ {v : V} {x : PyData}, Dw d H v x → Dq K q H v x
  | _, _, .non => .non
  | _, _, .bl b => .bl b
  | _, _, .int i => .int i
  | _, _, .str x => .str x
  | _, _, .lst h _ a => .lst (.inl h) (fun e => n.l _ (e ▸ h)) (DwA.at n a)
  | _, _, .tup h _ a => .tup h (fun e => n.t _ (e ▸ h)) (DwA.at n a)
  | _, _, .d0 h _ => .d0 h (fun e => n.k (e ▸ h))
theorem DwA.at {K : PySem.W.Frag} {d q : Addr} {H : Hp} (n : NoD H q) : ∀ {vs : List V} {ds : List PyData}, DwA d H vs ds → DqA K q H vs ds
  | _, _, .nil => .nil
  | _, _, .cons a b => .cons (Dw.at n a) (DwA.at n b)
end
mutual
theorem Dw.dq {K : PySem.W.Frag} {d : Addr} {H : Hp} : ∀ {v : V} {x : PyData}, Dw d H v x → Dq K d H v x
  | _, _, .non => .non
  | _, _, .bl b => .bl b
  | _, _, .int i => .int i
  | _, _, .str x => .str x
  | _, _, .lst h n a => .lst (.inl h) n (DwA.dq a)
  | _, _, .tup h n a => .tup h n (DwA.dq a)
  | _, _, .d0 h n => .d0 h n
theorem DwA.dq {K : PySem.W.Frag} {d : Addr} {H : Hp} : ∀ {vs : List V} {ds : List PyData}, DwA d H vs ds → DqA K d H vs ds
  | _, _, .nil => .nil
  | _, _, .cons a b => .cons (Dw.dq a) (DwA.dq b)
end
theorem DwA.get {d : Addr} {H : Hp} : ∀ {vs : List V} {ds : List PyData} {i : Nat} {v : V}, DwA d H vs ds → vs[i]? = some v → ∃ x, ds[i]? = some x ∧ Dw d H v x
  | _, _, 0, _, .cons a _, e => by cases e; exact ⟨_, rfl, a⟩
  | _, _, i + 1, _, .cons _ r, e => by
    obtain ⟨x, e1, e2⟩ := DwA.get (i := i) r e
    exact ⟨x, e1, e2⟩
theorem DwA.app {d : Addr} {H : Hp} : ∀ {vs : List V} {ds : List PyData} {us : List V} {es : List PyData}, DwA d H vs ds → DwA d H us es → DwA d H (vs ++ us) (ds ++ es)
  | _, _, _, _, .nil, b => b
  | _, _, _, _, .cons a r, b => .cons a (r.app b)
theorem dw_ints {d : Addr} {H : Hp} : ∀ {zs : List Int}, DwA d H (zs.map V.int) (intsD zs)
  | [] => .nil
  | z :: zs => .cons (.int z) dw_ints
theorem DwA.len {d : Addr} {H : Hp} : ∀ {vs : List V} {ds : List PyData}, DwA d H vs ds → vs.length = ds.length
  | _, _, .nil => rfl
  | _, _, .cons _ r => congrArg (· + 1) r.len
theorem DwA.set {d : Addr} {H : Hp} {v : V} {x : PyData} (h : Dw d H v x) : ∀ {vs : List V} {ds : List PyData} (i : Nat), DwA d H vs ds → DwA d H (vs.set i v) (ds.set i x)
  | _, _, _, .nil => .nil
  | _, _, 0, .cons _ r => .cons h r
  | _, _, i + 1, .cons a r => .cons a (r.set h i)
/-! ### the first digit that is none -/
def elsD : PyData → List PyData
  | .list ds => ds
  | .tuple ds => ds
  | _ => []
def digD : PyData → Int → Bool
  | .int z, b => decide (0 ≤ z) && decide (z < b)
  | _, _ => false
def AllR (ds : List PyData) (bs : List Int) (n : Nat) : Prop := ∀ (j : Nat) (d : PyData) (b : Int), j < n → ds[j]? = some d → bs[j]? = some b → digD d b = true
def FW (ds : List PyData) (bs : List Int) (i : Nat) : Prop := AllR ds bs i ∧ ∃ d b, ds[i]? = some d ∧ bs[i]? = some b ∧ digD d b = false
def spWrongD (K : PySem.W.Frag) : Sp := fun vs H Q _ => ∃ (v : V) (d b : Addr) (x : PyData) (b2 : Bool) (bs : List Int), vs = [v, .ref b] ∧ Dq K d H v x ∧ seqD x = true ∧ SqA K b2 H b (bs.map V.int) ∧ lenD x = bs.length ∧
  (∀ (i : Nat) H', Same H H' → FW (elsD x) bs i → Q (.int i) H') ∧ ∀ H', Same H H' → AllR (elsD x) bs bs.length → Q .non H'
theorem Dq.row {K : PySem.W.Frag} {d : Addr} {H : Hp} {v : V} {x : PyData} (h : Dq K d H v x) (hs : seqD x = true) : ∃ b a xs, v = .ref a ∧ SqA K b H a xs ∧ DqA K d H xs (elsD x) ∧ xs.length = lenD x := by
  cases h with
  | lst h _ r => exact ⟨false, _, _, rfl, h, r, r.length⟩
  | tup h _ r => exact ⟨true, _, _, rfl, .inl h, r, r.length⟩
  | _ => cases hs
end Ru

set_option Elab.async false
set_option linter.all false
set_option maxRecDepth 100000
set_option maxHeartbeats 4000000
namespace K06
open PySem PySem.Spec PyProof.Rows L2 Ru
abbrev nWrong : List Str := ["digits", "bases", "place", "digit"]
theorem sc_wrong : FnScope nWrong ["digits", "bases"] (defScope sFirstWrong) := ⟨rfl, rfl, rfl, by decide +kernel, rfl, by decide +kernel, by decide +kernel⟩
section
variable {P : Program} {w : World} {K : PySem.W.Frag} {mg : Str → Option Value} {base : Heap}
theorem ok_wrong {f : Addr} {fd : FuncData} (F : FunD K "_first_wrong" "_first_wrong" (defArgs sFirstWrong) (defBody sFirstWrong) (defScope sFirstWrong) [] [] f fd) (CW : Cd P w K mg base CX0 1 "is_whole" ["thing"] (spWhole K)) (g_enum : mg "enumerate" = none) :
    FnOk P w K mg base CX0 2 f fd ["digits", "bases"] (spWrongD K) := by
  refine F.ok sc_wrong (fun vs H Q E h => ?_) (fun cdv A outer s H vs Q E hr h => ?_)
  · obtain ⟨v, d, b, x, b2, bs, rfl, _⟩ := h
    rfl
  · obtain ⟨v, dq, b, xD, b2, bs, rfl, hx, hs, h2, hlen, qw, qn⟩ := h
    obtain ⟨b1, d, xs, rfl, h1, hA, hl⟩ := hx.row hs
    have sc := sc_wrong
    refine ⟨_, PSs.nox (pss_cons (ps_for PassesOwn.never rfl (pi_enumX (by rfl) g_enum (pa_cons (pv 0) pa_nil)) (pg_tup rfl (pgs_cons (pg_name (i := 2) sc.nd rfl (Or.inl rfl)) (pgs_cons (pg_name (i := 3) sc.nd rfl (Or.inl rfl)) pgs_nil)))
        (pss_one (ps_if (PW.pt (pw_or (pt_not (pt_val (pe_cd CW hr (by rfl) pass0 (pa_cons (pv 3) pa_nil)))) (pw_or1 (pt_not (pt_chain op_le op_lt pe_int (pv 3) (pe_ix ix_seq (pv 1) (pv 2) (fun _ _ => rfl)))))))
          (pss_one (ps_ret (pv 2))) pss_nil)))
      (pss_one (ps_ret pe_non))), ?_⟩
    refine ⟨_, rfl, b1, d, _, rfl, h1, for_it walk_enumA (fun i σ H' => ∃ u v, σ = [some (.ref d), some (.ref b), u, v] ∧ Same H H' ∧ AllR (elsD xD) bs i) ⟨_, _, rfl, Same.refl H, fun j _ _ hj => absurd hj (Nat.not_lt_zero j)⟩ (fun i σ H' _ ⟨_, _, _, s1, _⟩ => h1.same s1) ?_ ?_⟩
    · rintro i x σ H1 H2 hi ⟨u, v, rfl, s1, hR⟩ ⟨T, x1, x2, rfl, hT, rfl, e1, e2⟩
      cases e1
      have s2 := s1.trans (upd_new (o := .tup [.int (i : Nat), x2]) hT)
      have e2 : xs[i]? = some x2 := e2
      obtain ⟨xd, ed, hd⟩ := hA.get e2
      have hd := hd.same s2
      have j2 : bs[i]? = some bs[i] := List.getElem?_eq_getElem (by omega)
      refine ⟨T, _, rfl, Or.inl (Or.inl upd_same), rfl, _, _, rfl, _, _, rfl, rfl, ?_⟩
      have wrong : digD xd bs[i] = false → FW (elsD xD) bs i := fun e => ⟨hR, xd, _, ed, j2, e⟩
      have right : digD xd bs[i] = true → AllR (elsD xD) bs (i + 1) := fun e j d' b' hj f1 f2 => by
        rcases Nat.lt_or_ge j i with c | c
        · exact hR j d' b' c f1 f2
        · have : j = i := by omega
          subst this
          rw [ed] at f1
          rw [j2] at f2
          cases f1
          cases f2
          exact e
      refine ⟨_, rfl, x2, dq, xd, rfl, hd, _, rfl, ?_⟩
      cases hd with
      | int z =>
        refine iteF ?_
        refine ⟨_, rfl, _, _, rfl, rfl, _, rfl, ?_⟩
        by_cases c1 : 0 ≤ z
        · rw [decide_eq_true c1]
          refine iteT ⟨_, rfl, _, rfl, (h2.same s2).ix (at_of rfl (show (bs.map V.int)[i]? = some (.int bs[i]) by rw [List.getElem?_map, j2]; rfl)) ⟨_, _, rfl, rfl, _, rfl, ?_⟩⟩
          by_cases c2 : z < bs[i]
          · rw [decide_eq_true c2]
            refine iteF ?_
            refine ⟨_, _, rfl, s2, right ?_⟩
            show (decide (0 ≤ z) && decide (z < bs[i])) = true
            rw [decide_eq_true c1, decide_eq_true c2]
            rfl
          · rw [decide_eq_false c2]
            refine iteT ?_
            refine ⟨_, rfl, ?_⟩
            refine qw i _ s2 (wrong ?_)
            show (decide (0 ≤ z) && decide (z < bs[i])) = false
            rw [decide_eq_false c2, Bool.and_false]
        · rw [decide_eq_false c1]
          refine iteF ⟨_, rfl, ?_⟩
          refine iteT ?_
          refine ⟨_, rfl, ?_⟩
          refine qw i _ s2 (wrong ?_)
          show (decide (0 ≤ z) && decide (z < bs[i])) = false
          rw [decide_eq_false c1, Bool.false_and]
      | _ =>
        refine iteT ?_
        refine ⟨_, rfl, ?_⟩
        exact qw i _ s2 (wrong rfl)
    · rintro σ H' ⟨u, v, rfl, s1, hR⟩
      have e : xs.length = bs.length := by omega
      exact qn H' s1 (e ▸ hR)
end
end K06

set_option Elab.async false
set_option linter.all false
set_option maxRecDepth 100000
set_option maxHeartbeats 4000000
namespace K06
open PySem PySem.Spec PyProof.Rows L2 Ru
abbrev nInit : List Str := ["self", "digits", "bases", "wrong", "digit", "weight"]
theorem sc_init : FnScope nInit ["self", "digits", "bases"] (defScope sNumeral_init) := ⟨rfl, rfl, rfl, by decide +kernel, rfl, by decide +kernel, by decide +kernel⟩
section
variable {P : Program} {w : World} {K : PySem.W.Frag} {mg : Str → Option Value} {base : Heap}
/-- NoNumeral of such a place -/
def Rai (Z : Addr) (v : V) (H : Hp) (E : XK) : Prop := ∀ dd H', Same H H' → H' dd = some (.xd [("at", v)]) → E (.ref Z) (some dd) H'
def NumD (xD yD : PyData) (ds bs : List Int) : Prop := Bss bs ∧ Dgs ds bs ∧ (yD = .list (intsD bs) ∨ yD = .tuple (intsD bs)) ∧ (xD = .list (intsD ds) ∨ xD = .tuple (intsD ds))
/-- what is made of such digits and bases -/
structure InitD (Z : Addr) (H : Hp) (xD yD : PyData) (K1 : List Int → List Int → Prop) (E : XK) : Prop where
  no : longD xD yD = false → Rai Z .non H E
  fw : ∀ (bs : List Int) (i : Nat), longD xD yD = true → Bss bs → (yD = .list (intsD bs) ∨ yD = .tuple (intsD bs)) → FW (elsD xD) bs i → Rai Z (.int i) H E
  ok : ∀ ds bs, NumD xD yD ds bs → K1 ds bs
def spInitD (K : PySem.W.Frag) (C Z : Addr) : Sp := fun vs H Q E => ∃ (x dx : Addr) (v u : V) (xD yD : PyData), vs = [.ref x, v, u] ∧ H x = some (.ins C dx []) ∧ Dw x H v xD ∧ Dw x H u yD ∧
  InitD Z H xD yD (fun ds bs => ∀ H', (∀ c o, H c = some o → c ≠ x → H' c = some o) → NumAt C H' x ds bs → Q .non H') E
theorem dgs_all {xD : PyData} {bs : List Int} (hl : (elsD xD).length = bs.length) (h : AllR (elsD xD) bs bs.length) (hs : seqD xD = true) : ∃ ds : List Int, Dgs ds bs ∧ (xD = .list (intsD ds) ∨ xD = .tuple (intsD ds)) := by
  have go : ∀ (es : List PyData) (bs : List Int), es.length = bs.length → AllR es bs bs.length → ∃ ds : List Int, Dgs ds bs ∧ es = intsD ds := by
    intro es
    induction es with
    | nil =>
      intro bs hl _
      cases bs with
      | nil => exact ⟨[], dgs_of rfl (fun i x b e _ => by cases e), rfl⟩
      | cons b bs => cases hl
    | cons e es ih =>
      intro bs hl h
      cases bs with
      | nil => cases hl
      | cons b bs =>
        obtain ⟨ds, D, rfl⟩ := ih bs (Nat.succ.inj hl) (fun j d c hj e1 e2 => h (j + 1) d c (Nat.succ_lt_succ hj) e1 e2)
        have h0 := h 0 e b (Nat.succ_pos _) rfl rfl
        cases e with
        | int z =>
          have h0 : (decide (0 ≤ z) && decide (z < b)) = true := h0
          rw [Bool.and_eq_true, decide_eq_true_eq, decide_eq_true_eq] at h0
          refine ⟨z :: ds, dgs_of (congrArg (· + 1) D.len) (fun i x c e1 e2 => ?_), rfl⟩
          cases i with
          | zero => cases e1; cases e2; exact h0
          | succ i => exact D.at e1 e2
        | _ => cases h0
  match xD, hs with
  | .list es, _ =>
    obtain ⟨ds, D, e⟩ := go es bs hl h
    exact ⟨ds, D, .inl (by rw [e])⟩
  | .tuple es, _ =>
    obtain ⟨ds, D, e⟩ := go es bs hl h
    exact ⟨ds, D, .inr (by rw [e])⟩
theorem els_len {x : PyData} (hs : seqD x = true) : (elsD x).length = lenD x := by
  cases x <;> first | rfl | cases hs
/-- a row of ints, tracked -/
theorem Dw.rowI {d : Addr} {H : Hp} {v : V} {x : PyData} {zs : List Int} (h : Dw d H v x) (e : x = .list (intsD zs) ∨ x = .tuple (intsD zs)) : ∃ (b : Bool) (a : Addr), v = .ref a ∧ a ≠ d ∧ RdA b H a (zs.map V.int) := by
  have go : ∀ {zs : List Int} {vs : List V} {ds : List PyData}, DwA d H vs ds → ds = intsD zs → vs = zs.map V.int := by
    intro zs
    induction zs with
    | nil =>
      intro vs ds h e
      subst e
      cases h
      rfl
    | cons z zs ih =>
      intro vs ds h e
      subst e
      cases h with
      | cons a r =>
        rw [ih r rfl]
        cases a
        rfl
  rcases e with rfl | rfl
  · cases h with
    | lst h n a => exact ⟨false, _, rfl, n, go a rfl ▸ h⟩
  · cases h with
    | tup h n a => exact ⟨true, _, rfl, n, go a rfl ▸ h⟩
theorem ok_init {C f : Addr} {fd : FuncData} (F : FunD K "__init__" "Numeral.__init__" (defArgs sNumeral_init) (defBody sNumeral_init) (defScope sNumeral_init) [] [] f fd) (CL : Cd P w K mg base CX0 3 "_is_as_long" ["digits", "bases"] (spLong K))
    (CR : Cd P w K mg base CX0 2 "_first_wrong" ["digits", "bases"] (spWrongD K)) (CT : Cd P w K mg base (L2.CX P w) 4 "weights" ["bases"] (spWts K "NoNumeral")) (R : RsX P w K mg base "NoNumeral" "at") (N : NumK K mg C) (g_tuple : mg "tuple" = none) (g_sum : mg "sum" = none) (g_zip : mg "zip" = none) :
    FnOk P w K mg base (L2.CX P w) 5 f fd ["self", "digits", "bases"] (spInitD K C (He.ga K "NoNumeral")) := by
  refine F.ok sc_init (fun vs H Q E h => ?_) (fun cdv A outer s H vs Q E hr h => ?_)
  · obtain ⟨x, dx, v, u, xD, yD, rfl, _⟩ := h
    rfl
  · obtain ⟨x, dx, v, u, xD, yD, rfl, hx, w1, w2, I⟩ := h
    have sc := sc_init
    have r3 := hr.mono (show 3 ≤ 4 by decide)
    have r2 := hr.mono (show 2 ≤ 4 by decide)
    refine ⟨_, (pss_cons (ps_if (pt_not (pt_val (pe_cd CL r3 (by rfl) pass0 (pa_cons (pv 1) (pa_cons (pv 2) pa_nil))))) (pss_one (ps_raise rfl (takes_of rfl rfl rfl rfl) (pmk_rs R (hr.mono (by decide)) (by rfl) pe_non (fun _ _ _ _ f q => f _ _ q)))) pss_nil)
      (pss_cons (ps_set (i := 3) sc.nd rfl (Or.inl rfl) (pe_cd CR r2 (by rfl) pass0 (pa_cons (pv 1) (pa_cons (pv 2) pa_nil))))
      (pss_cons (ps_if (pt_cmpR op_notN (pv 3) pe_non (nomark _)) (pss_one (ps_raise rfl (takes_of rfl rfl rfl rfl) (pmk_rs R (hr.mono (by decide)) (by rfl) (pv 3) mono_var))) pss_nil)
      (pss_cons (ps_fld (pv 0) (pe_tupA (by rfl) g_tuple (pv 1)) rfl)
      (pss_cons (ps_fld (pv 0) (pe_tupA (by rfl) g_tuple (pv 2)) rfl)
      (pss_one (ps_fld (pv 0) (pe_callB (cr_sum rfl) (by rfl) g_sum (by decide +kernel) (pa_cons (pe_lc (own := [("digit", 4), ("weight", 5)]) (g := gTup K 2 (gCons (gName 4) (gCons (gName 5) gNil))) (tt := tYes) rfl sc.nd
          (pi_zipX (by rfl) g_zip (pa_cons (pv 1) (pa_cons (pe_cd CT hr (by rfl) passN (pa_cons (pv 2) pa_nil)) pa_nil))) (blkOk_by (N := nInit) (sc := defScope sNumeral_init) (by decide +kernel))
          (fun _ _ _ _ _ => pg_tup rfl (pgs_cons (pg_name (i := 4) sc.nd rfl (Or.inl rfl)) (pgs_cons (pg_name (i := 5) sc.nd rfl (Or.inl rfl)) pgs_nil))) (fun _ _ _ _ _ => pts_nil)
          (fun _ _ _ _ _ => pe_op op_mul (pv 4) (pv 5))) pa_nil)) rfl))))))), ?_⟩
    refine ⟨_, rfl, _, rfl, _, _, x, x, _, _, rfl, w1.dq, w2.dq, fun H1 s1 => ⟨_, rfl, ?_⟩⟩
    cases hL : longD xD yD with
    | false =>
      refine iteT ?_
      exact fun dd H2 s2 nd hd => I.no hL dd H2 (s1.trans s2) hd
    | true =>
    refine iteF ?_
    have hL' := hL
    unfold longD at hL'
    rw [Bool.and_eq_true, Bool.and_eq_true, decide_eq_true_eq] at hL'
    obtain ⟨hB, hS, hlen⟩ := hL'
    obtain ⟨bs, B, yE⟩ := basesD_ints hB
    obtain ⟨b2, b, rfl, nb, h2⟩ := Dw.rowI w2 yE
    have ly : lenD yD = bs.length := by
      rcases yE with e | e <;> rw [e] <;> exact List.length_map _
    refine ⟨_, rfl, _, rfl, v, x, b, xD, b2, bs, rfl, w1.dq.same s1, hS, (h2.same s1).sq, hlen.trans ly, fun i H2 s2 fw => ?_, fun H2 s2 hall => ?_⟩
    · refine ⟨_, rfl, rfl, _, rfl, ?_⟩
      refine iteT ?_
      exact ⟨_, rfl, fun dd H3 s3 nd hd => I.fw bs i hL B yE fw dd H3 ((s1.trans s2).trans s3) hd⟩
    obtain ⟨ds, hd, xE⟩ := dgs_all ((els_len hS).trans (hlen.trans ly)) hall hS
    obtain ⟨b1, d, rfl, nd, h1⟩ := Dw.rowI w1 xE
    have q := I.ok ds bs ⟨B, hd, yE, xE⟩
    refine ⟨_, rfl, rfl, _, rfl, ?_⟩
    refine iteF ?_
    have s12 := s1.trans s2
    refine ⟨_, rfl, b1, d, _, rfl, h1.same s12, fun l1 H3 s3 t1 => ?_⟩
    have s13 := s12.trans s3
    have hx3 := s13 _ _ hx
    refine ⟨_, rfl, x, C, dx, [], rfl, hx3, N.cl, N.nD, by show 0 < 1000; decide, ?_⟩
    have b4 : Bt x H (upd H3 x (.ins C dx (putF "digits" (.ref l1) []))) := (Bt.of s13).trans .put
    have n1 : l1 ≠ x := fun e => by
      subst e
      rcases t1 with t1 | ⟨o, t1⟩ <;> rw [hx3] at t1 <;> cases t1
    have t14 := (Bt.put (u := .ins C dx (putF "digits" (.ref l1) []))).rd n1 t1
    have hx4 : (upd H3 x (.ins C dx (putF "digits" (.ref l1) []))) x = some (.ins C dx (putF "digits" (.ref l1) [])) := upd_same
    generalize upd H3 x (.ins C dx (putF "digits" (.ref l1) [])) = H4 at b4 t14 hx4 ⊢
    refine ⟨_, rfl, b2, b, _, rfl, h2.bt b4 nb, fun l2 H5 s5 t2 => ?_⟩
    have hx5 := s5 _ _ hx4
    refine ⟨_, rfl, x, C, dx, _, rfl, hx5, N.cl, N.nB, by show 1 < 1000; decide, ?_⟩
    have n2 : l2 ≠ x := fun e => by
      subst e
      rcases t2 with t2 | ⟨o, t2⟩ <;> rw [hx5] at t2 <;> cases t2
    have b6 : Bt x H (upd H5 x (.ins C dx (putF "bases" (.ref l2) (putF "digits" (.ref l1) [])))) := (b4.same s5).trans .put
    have t16 := (Bt.put (u := .ins C dx (putF "bases" (.ref l2) (putF "digits" (.ref l1) [])))).rd n1 (Same.rd s5 t14)
    have t26 := (Bt.put (u := .ins C dx (putF "bases" (.ref l2) (putF "digits" (.ref l1) [])))).rd n2 t2
    have hx6 : (upd H5 x (.ins C dx (putF "bases" (.ref l2) (putF "digits" (.ref l1) [])))) x = some (.ins C dx [("digits", .ref l1), ("bases", .ref l2)]) := upd_same
    generalize upd H5 x (.ins C dx (putF "bases" (.ref l2) (putF "digits" (.ref l1) []))) = H6 at b6 t16 t26 hx6 ⊢
    have h16 := h1.bt b6 nd
    have h26 := h2.bt b6 nb
    refine ⟨_, rfl, _, rfl, _, x, _, rfl, h26.dq nb, fun zs hB hz p H7 s7 np hp => ?_, fun z => by rw [rowD_bss B] at z; cases z⟩
    have ez : zs = bs := by
      rcases hz with e | e <;> cases b2 <;> first | cases e | skip
      all_goals
        injection e with e
        exact (intsD_inj e).symm
    subst ez
    refine ⟨b1, true, d, p, _, _, rfl, (h16.same s7).sq, Or.inl (.inl hp), fun D hD => ?_⟩
    have hl := hd.len
    have lz : ((zs.length : Nat)) ≤ 4 := B.2.1
    have lw := wts_len (bs := zs)
    refine lc_it walk_zipA (fun i H' => Same H7 H' ∧ H7 D = none ∧ H' D = some (.lst (((List.zipWith (· * ·) ds (wts zs)).take i).map V.int))) ⟨upd_new hD, hD, upd_same⟩ (fun i H' _ g => ⟨((h16.same s7).same g.1).sq, Or.inl (.inl (g.1 _ _ hp))⟩) ?_ ?_
    · rintro i v H8 H9 hi ⟨s8, nD, eD⟩ ⟨T, y1, y2, rfl, hT, rfl, e1, e2⟩
      rw [List.length_map, List.length_map] at hi
      have e1 : (ds.map V.int)[i]? = some y1 := e1
      have e2 : ((wts zs).map V.int)[i]? = some y2 := e2
      have j1 : ds[i]? = some ds[i] := List.getElem?_eq_getElem (by omega)
      have j2 : (wts zs)[i]? = some (wts zs)[i] := List.getElem?_eq_getElem (by omega)
      rw [List.getElem?_map, j1] at e1
      rw [List.getElem?_map, j2] at e2
      cases e1
      cases e2
      have j3 : zs[i]? = some zs[i] := List.getElem?_eq_getElem (by omega)
      obtain ⟨c1, c2⟩ := hd.at j1 j3
      have c3 := (B.2.2 _ (List.mem_of_getElem? j3)).2
      refine ⟨T, _, rfl, Or.inl (Or.inl upd_same), rfl, _, _, rfl, _, _, rfl, rfl, rfl, yesT ?_⟩
      refine yes_ ⟨_, rfl, _, rfl, _, _, rfl, rfl, .inl ⟨by omega, by omega⟩, ?_⟩
      have nT : D ≠ T := ne_of_none eD hT
      refine ⟨_, by rw [upd_ne nT]; exact eD, ?_, fill_next nD (s8.trans (upd_new hT)), nD, ?_⟩
      · rw [List.length_map, List.length_take, sizeLine_eq]
        omega
      · rw [upd_same]
        have z : (List.zipWith (· * ·) ds (wts zs))[i]? = some (ds[i] * (wts zs)[i]) := by rw [List.getElem?_zipWith, j1, j2]
        rw [take_next z]
    · rintro H8 ⟨s8, nD, eD⟩
      refine ⟨D, List.zipWith (· * ·) ds (wts zs), rfl, SqL.of ?_, ?_⟩
      · rw [eD, List.take_of_length_le (by rw [List.length_map, List.length_map, List.length_zipWith]; exact Nat.le_refl _)]
      · have hx8 := s8 _ _ (s7 _ _ hx6)
        refine ⟨_, rfl, x, C, dx, _, rfl, hx8, N.cl, N.nV, by show 2 < 1000; decide, ?_⟩
        rw [valD_sum hl]
        have s68 := s7.trans s8
        refine q _ (fun c o e ne => ((b6.same s68).trans .put) c o e ne) ⟨dx, l1, l2, upd_same, ?_, ?_⟩
        · exact (Bt.put (d := x)).rd n1 (Same.rd s68 t16)
        · exact (Bt.put (d := x)).rd n2 (Same.rd s68 t26)
end
end K06

set_option Elab.async false
set_option linter.all false
set_option maxRecDepth 100000
set_option maxHeartbeats 4000000
namespace K06
open PySem PySem.Spec PyProof.Rows L2 Ru
section
variable {P : Program} {w : World} {K : PySem.W.Frag} {mg : Str → Option Value} {base : Heap}
theorem sc_eq : FnScope ["self", "other"] ["self", "other"] (defScope sNumeral_eq) := ⟨rfl, rfl, rfl, by decide +kernel, rfl, by decide +kernel, by decide +kernel⟩
theorem ok_eq {C f : Addr} {fd : FuncData} (F : FunD K "__eq__" "Numeral.__eq__" (defArgs sNumeral_eq) (defBody sNumeral_eq) (defScope sNumeral_eq) [] [] f fd) (N : NumK K mg C) (g_isi : mg "isinstance" = none) :
    FnOk P w K mg base CX0 1 f fd ["self", "other"] (spEqN C) := by
  refine F.ok sc_eq (fun vs H Q E h => ?_) (fun cdv A outer s H vs Q E hr h => ?_)
  · obtain ⟨a, b, ds, bs, es, cs, rfl, _⟩ := h
    rfl
  · obtain ⟨a, b, ds, bs, es, cs, rfl, h1, h2, d1, d2, B1, B2, q⟩ := h
    have hu := hr.un
    refine ⟨_, PSs.nox (pss_cons (ps_if (pt_not (pt_val (pe_callB call_isi (by rfl) g_isi boot_isinstance (pa_cons (pv 1) (pa_cons (pe_glob (v := V.ref C) (by rfl) N.gN rfl) pa_nil))))) (pss_one ps_never) pss_nil)
      (pss_one (ps_ret (pe_cmpR (op_eqD hr.units) (pe_tup (pa_cons (pe_fld (pv 0) rfl) (pa_cons (pe_fld (pv 0) rfl) pa_nil))) (pe_tup (pa_cons (pe_fld (pv 1) rfl) (pa_cons (pe_fld (pv 1) rfl) pa_nil))) (nomark _))))), ?_⟩
    refine ⟨_, rfl, _, _, _, _, _, rfl, .own C, N.ty h2, N.kN, _, rfl, ?_⟩
    refine iteF ?_
    obtain ⟨dx, da, ba, a1, a2, a3⟩ := h1
    obtain ⟨ex, ea, ca, c1, c2, c3⟩ := h2
    refine ⟨_, rfl, a, C, dx, _, _, rfl, a1, N.cl, N.nB, rfl, _, rfl, a, C, dx, _, _, rfl, a1, N.cl, N.nV, rfl, by show 2 ≤ sizeLine; decide, fun t ht => ?_⟩
    have s1 : Same H (upd H t (.tup [.ref ba, .int (valD ds bs)])) := upd_new ht
    have e1 : (upd H t (.tup [.ref ba, .int (valD ds bs)])) t = some (.tup [.ref ba, .int (valD ds bs)]) := upd_same
    generalize upd H t (.tup [.ref ba, .int (valD ds bs)]) = H1 at s1 e1 ⊢
    refine ⟨_, rfl, b, C, ex, _, _, rfl, s1 _ _ c1, N.cl, N.nB, rfl, _, rfl, b, C, ex, _, _, rfl, s1 _ _ c1, N.cl, N.nV, rfl, by show 2 ≤ sizeLine; decide, fun u hu2 => ?_⟩
    have s2 : Same H1 (upd H1 u (.tup [.ref ca, .int (valD es cs)])) := upd_new hu2
    have e2 : (upd H1 u (.tup [.ref ca, .int (valD es cs)])) u = some (.tup [.ref ca, .int (valD es cs)]) := upd_same
    have e1 := s2 _ _ e1
    generalize upd H1 u (.tup [.ref ca, .int (valD es cs)]) = H2 at s2 e1 e2 ⊢
    have s := s1.trans s2
    have r1 : SqT K H2 ba (bs.map V.int) := Or.inl (Same.rd s a3)
    have r2 : SqT K H2 ca (cs.map V.int) := Or.inl (Same.rd s c3)
    refine ⟨pairD bs (valD ds bs), pairD cs (valD es cs), .tup (Or.inl (.inl e1)) (.cons (.tup r1 dp_ints) (.cons (.int _) .nil)), .tup (Or.inl (.inl e2)) (.cons (.tup r2 dp_ints) (.cons (.int _) .nil)), shaped_pair, shaped_pair, ?_⟩
    rw [eqv_pair]
    have e : (decide (bs = cs) && decide (valD ds bs = valD es cs)) = (decide (bs = cs) && decide (ds = es)) := by
      by_cases c : bs = cs
      · subst c
        by_cases c2 : ds = es
        · rw [c2]
          simp
        · rw [decide_eq_false c2, decide_eq_false (fun z => c2 (val_inj d1 d2 z))]
      · rw [decide_eq_false c, Bool.false_and, Bool.false_and]
    rw [e]
    exact q H2 s
end
end K06

set_option Elab.async false
set_option linter.all false
set_option maxRecDepth 100000
set_option maxHeartbeats 4000000
namespace K06
open PySem PySem.Spec PyProof.Rows L2 Ru
mutual
theorem Dw_re {d q : Addr} {H : Hp} (n : NoD H q) : ∀ {v : V} {x : PyData}, Dw d H v x → Dw q H v x
  | _, _, .non => .non
  | _, _, .bl b => .bl b
  | _, _, .int i => .int i
  | _, _, .str x => .str x
  | _, _, .lst h _ a => .lst h (fun e => n.l _ (e ▸ h)) (DwA_re n a)
  | _, _, .tup h _ a => .tup h (fun e => n.t _ (e ▸ h)) (DwA_re n a)
  | _, _, .d0 h _ => .d0 h (fun e => n.k (e ▸ h))
theorem DwA_re {d q : Addr} {H : Hp} (n : NoD H q) : ∀ {vs : List V} {ds : List PyData}, DwA d H vs ds → DwA q H vs ds
  | _, _, .nil => .nil
  | _, _, .cons a b => .cons (Dw_re n a) (DwA_re n b)
end
theorem rowOr {x : PyData} {zs : List Int} (e : x = .list (intsD zs) ∨ x = .tuple (intsD zs)) : ∃ b, x = rowD b zs := e.elim (fun e => ⟨false, e⟩) fun e => ⟨true, e⟩
theorem NumD.long {xD yD : PyData} {ds bs : List Int} (N : NumD xD yD ds bs) : longD xD yD = true := by
  obtain ⟨B, D, yE, xE⟩ := N
  obtain ⟨b, rfl⟩ := rowOr xE
  obtain ⟨c, rfl⟩ := rowOr yE
  exact rowD_long B D
theorem row_one {x : PyData} {zs ys : List Int} (h : x = .list (intsD zs) ∨ x = .tuple (intsD zs)) (e : x = .list (intsD ys) ∨ x = .tuple (intsD ys)) : ys = zs := by
  rcases h with h | h <;> rcases e with e | e <;> rw [h] at e
  · injection e with e
    exact intsD_inj e.symm
  · cases e
  · cases e
  · injection e with e
    exact intsD_inj e.symm
theorem els_row {x : PyData} {zs : List Int} (e : x = .list (intsD zs) ∨ x = .tuple (intsD zs)) : elsD x = intsD zs := by rcases e with rfl | rfl <;> rfl
theorem NumD.nofw {xD yD : PyData} {ds bs : List Int} {i : Nat} (N : NumD xD yD ds bs) (h : FW (elsD xD) bs i) : False := by
  obtain ⟨B, D, yE, xE⟩ := N
  rw [els_row xE] at h
  obtain ⟨_, d, b, e1, e2, e3⟩ := h
  unfold intsD at e1
  rw [List.getElem?_map] at e1
  obtain ⟨z, ez, rfl⟩ := Option.map_eq_some_iff.mp e1
  obtain ⟨c1, c2⟩ := D.at ez e2
  have e3 : (decide (0 ≤ z) && decide (z < b)) = false := e3
  rw [decide_eq_true c1, decide_eq_true c2] at e3
  cases e3
theorem fw_one {es : List PyData} {bs : List Int} {i j : Nat} (h : FW es bs i) (k : FW es bs j) : i = j := by
  obtain ⟨h1, d, b, e1, e2, e3⟩ := h
  obtain ⟨k1, c, a, f1, f2, f3⟩ := k
  rcases Nat.lt_trichotomy i j with c | c | c
  · rw [k1 i d b c e1 e2] at e3
    cases e3
  · exact c
  · rw [h1 j _ _ c f1 f2] at f3
    cases f3
theorem InitD.good {Z : Addr} {H : Hp} {xD yD : PyData} {ds bs : List Int} {K1 : List Int → List Int → Prop} {E : XK} (N : NumD xD yD ds bs) (k : K1 ds bs) : InitD Z H xD yD K1 E where
  no := fun e => by rw [N.long] at e; cases e
  fw := fun bs' i _ _ yE h => by
    have e := row_one N.2.2.1 yE
    subst e
    exact (N.nofw h).elim
  ok := fun ds' bs' M => by
    have e1 := row_one N.2.2.1 M.2.2.1
    have e2 := row_one N.2.2.2 M.2.2.2
    subst e1 e2
    exact k
theorem InitD.none {Z : Addr} {H : Hp} {xD yD : PyData} {K1 : List Int → List Int → Prop} {E : XK} (h : longD xD yD = false) (k : Rai Z .non H E) : InitD Z H xD yD K1 E where
  no := fun _ => k
  fw := fun bs' i e _ _ _ => by rw [h] at e; cases e
  ok := fun ds' bs' M => by
    have e := M.long
    rw [h] at e
    cases e
theorem InitD.at {Z : Addr} {H : Hp} {xD yD : PyData} {bs : List Int} {i : Nat} {K1 : List Int → List Int → Prop} {E : XK} (h : longD xD yD = true) (B : Bss bs) (yE : yD = .list (intsD bs) ∨ yD = .tuple (intsD bs)) (f : FW (elsD xD) bs i) (k : Rai Z (.int i) H E) : InitD Z H xD yD K1 E where
  no := fun e => by rw [h] at e; cases e
  fw := fun bs' j _ _ yE' g => by
    have e := row_one yE yE'
    subst e
    have e := fw_one f g
    subst e
    exact k
  ok := fun ds' bs' M => by
    have e := row_one yE M.2.2.1
    subst e
    exact (M.nofw f).elim
theorem Rai.same {Z : Addr} {v : V} {H H1 : Hp} {E : XK} (s : Same H H1) (h : Rai Z v H E) : Rai Z v H1 E := fun dd H' s' e => h dd H' (s.trans s') e
/-- a numeral is asked for -/
theorem make_numW {K : PySem.W.Frag} {C Z d : Addr} {H : Hp} {v u : V} {xD yD : PyData} {Q : VK} {E : XK} (hx : Dw d H v xD) (hu : Dw d H u yD)
    (I : InitD Z H xD yD (fun ds bs => ∀ r H', Same H H' → H r = none → NumAt C H' r ds bs → Q (.ref r) H') E) (x dx : Addr) (nx : H x = none) (nd : H dx = none) (ne : dx ≠ x) :
    spInitD K C Z (.ref x :: ([v, u] ++ [])) (upd (upd H dx (.own x)) x (.ins C dx [])) (fun v H2 => v = .non ∧ Q (.ref x) H2) E := by
  have s : Same H (upd (upd H dx (.own x)) x (.ins C dx [])) := fun c o e => by
    rw [upd_ne (ne_of_none e nx), upd_ne (ne_of_none e nd)]
    exact e
  have n := NoD.free nx
  refine ⟨x, dx, v, u, xD, yD, rfl, upd_same, (Dw_re n hx).same s, (Dw_re n hu).same s, ⟨fun e => (I.no e).same s, fun bs i e B yE f => (I.fw bs i e B yE f).same s, fun ds bs N H' kp num => ?_⟩⟩
  exact ⟨rfl, I.ok ds bs N x H' (fun c o e => kp c o (s c o e) (ne_of_none e nx)) nx num⟩
theorem make_numR {K : PySem.W.Frag} {C Z d : Addr} {H : Hp} {v u : V} {xD yD : PyData} {R : Addr → Hp → Prop} {E : XK} (hx : Dw d H v xD) (hu : Dw d H u yD)
    (I : InitD Z H xD yD (fun ds bs => ∀ r H', Same H H' → H r = none → NumAt C H' r ds bs → R r H') E) (x dx : Addr) (nx : H x = none) (nd : H dx = none) (ne : dx ≠ x) :
    spInitD K C Z (.ref x :: ([v, u] ++ [])) (upd (upd H dx (.own x)) x (.ins C dx [])) (fun v H2 => v = .non ∧ R x H2) E := by
  have s : Same H (upd (upd H dx (.own x)) x (.ins C dx [])) := fun c o e => by
    rw [upd_ne (ne_of_none e nx), upd_ne (ne_of_none e nd)]
    exact e
  have n := NoD.free nx
  refine ⟨x, dx, v, u, xD, yD, rfl, upd_same, (Dw_re n hx).same s, (Dw_re n hu).same s, ⟨fun e => (I.no e).same s, fun bs i e B yE f => (I.fw bs i e B yE f).same s, fun ds bs N H' kp num => ?_⟩⟩
  exact ⟨rfl, I.ok ds bs N x H' (fun c o e => kp c o (s c o e) (ne_of_none e nx)) nx num⟩
end K06

set_option Elab.async false
set_option linter.all false
set_option maxRecDepth 100000
set_option maxHeartbeats 4000000
namespace K06
open PySem
/-! ### reading numbers, and the machine that looks at one sign after another -/
def fig (c : Nat) : Bool := decide (c ∈ [48, 49, 50, 51, 52, 53, 54, 55, 56, 57])
def run : Nat → List Nat → Nat
  | k + 1, c :: l => if fig c then run k l + 1 else 0
  | _, _ => 0
/-- how many signs of a number stand here -/
def num : List Nat → Nat
  | 48 :: _ => 1
  | l => run 3 l
def intOf (l : List Nat) : Int := (intText? ⟨l.toArray⟩).getD 0
def readR : Nat → List Nat → Except Nat (List Int × Nat)
  | 0, _ => .error 0
  | m + 1, l => if num l = 0 then .error 0 else if m = 0 ∨ (l.drop (num l)).head? ≠ some 46 then .ok ([intOf (l.take (num l))], num l) else match readR m (l.drop (num l + 1)) with
    | .error x => .error (num l + 1 + x)
    | .ok (ns, k) => .ok (intOf (l.take (num l)) :: ns, num l + 1 + k)
def readP (l : List Nat) : Except Nat (List Int × List Int) := match readR 4 l with
  | .error x => .error x
  | .ok (ds, e) => if (l.drop e).head? ≠ some 47 then .error e else match readR ds.length (l.drop (e + 1)) with
    | .error x => .error (e + 1 + x)
    | .ok (bs, k) => if bs.length < ds.length ∨ e + 1 + k < l.length then .error (e + 1 + k) else .ok (ds, bs)
structure Sm where
  f : List Int
  r : Option (List Int)
  s : List Nat
def isNext (c : Nat) (t : Sm) : Bool := if fig c then decide (t.s.length < 3) && decide (t.s ≠ [48]) else if t.s = [] then false else if c = 47 then t.r.isNone else decide (c = 46) && decide ((t.r.getD t.f).length + 1 < (if t.r.isNone then 4 else t.f.length))
def moved (c : Nat) (t : Sm) : Sm := if fig c then ⟨t.f, t.r, t.s ++ [c]⟩ else match t.r with
  | none => ⟨t.f ++ [intOf t.s], if c = 47 then some [] else none, []⟩
  | some r => ⟨t.f, some (r ++ [intOf t.s]), []⟩
def scan : List Nat → Sm → Nat → Except Nat (List Int × List Int)
  | [], t, p => match t.r with
    | none => .error p
    | some r => if t.s = [] ∨ r.length + 1 < t.f.length then .error p else .ok (t.f, r ++ [intOf t.s])
  | c :: l, t, p => if isNext c t then scan l (moved c t) (p + 1) else .error p
/-- no further figure is let -/
def Full (s : List Nat) (l : List Nat) : Prop := s ≠ [] ∧ ∀ c, l.head? = some c → fig c = true → 3 ≤ s.length ∨ s = [48]
theorem scan_fig {c : Nat} {l : List Nat} {t : Sm} {p : Nat} (h : fig c = true) (h3 : t.s.length < 3) (h0 : t.s ≠ [48]) : scan (c :: l) t p = scan l ⟨t.f, t.r, t.s ++ [c]⟩ (p + 1) := by
  rw [scan]
  have e : isNext c t = true := by
    unfold isNext
    rw [if_pos h, decide_eq_true h3, decide_eq_true h0]
    rfl
  rw [if_pos e]
  unfold moved
  rw [if_pos h]
theorem run_le : ∀ (k : Nat) (l : List Nat), run k l ≤ k ∧ run k l ≤ l.length
  | 0, l => by simp [run]
  | k + 1, [] => by simp [run]
  | k + 1, c :: l => by
    have := run_le k l
    rw [run]
    split <;> simp <;> omega
/-- from s on, k figures more -/
theorem scan_run : ∀ (k : Nat) (l : List Nat) (f : List Int) (r : Option (List Int)) (s : List Nat) (p : Nat), s.length + k = 3 → (s = [] → l.head? ≠ some 48) → s ≠ [48] → (s ≠ [] ∨ 0 < run k l) →
    scan l ⟨f, r, s⟩ p = scan (l.drop (run k l)) ⟨f, r, s ++ l.take (run k l)⟩ (p + run k l) ∧ Full (s ++ l.take (run k l)) (l.drop (run k l)) := by
  intro k
  induction k with
  | zero =>
    intro l f r s p hs h1 h2 h3
    have e : run 0 l = 0 := by simp [run]
    rw [e, List.drop_zero, List.take_zero, List.append_nil]
    refine ⟨rfl, fun z => ?_, fun c _ _ => .inl (by omega)⟩
    rw [z] at hs
    cases hs
  | succ k ih =>
    intro l f r s p hs h1 h2 h3
    cases l with
    | nil =>
      have e : run (k + 1) ([] : List Nat) = 0 := by simp [run]
      rw [e] at h3 ⊢
      rw [List.drop_zero, List.take_zero, List.append_nil]
      exact ⟨rfl, by rcases h3 with h | h; exact h; omega, fun c e => by cases e⟩
    | cons c l =>
      by_cases hc : fig c = true
      · have e : run (k + 1) (c :: l) = run k l + 1 := by rw [run, if_pos hc]
        have hs0 : s ++ [c] ≠ [48] := fun z => by
          cases s with
          | nil =>
            have : c = 48 := by injection z
            exact h1 rfl (by rw [this]; rfl)
          | cons x xs =>
            have := congrArg List.length z
            simp at this
        obtain ⟨i1, i2⟩ := ih l f r (s ++ [c]) (p + 1) (by rw [List.length_append]; show s.length + 1 + k = 3; omega) (fun z => by simp at z) hs0 (.inl (by simp))
        rw [e, scan_fig hc (by show s.length < 3; omega) h2]
        rw [i1]
        rw [List.append_assoc] at i2
        refine ⟨?_, i2⟩
        rw [List.append_assoc]
        show scan (l.drop (run k l)) ⟨f, r, s ++ (c :: l.take (run k l))⟩ (p + 1 + run k l) = _
        rw [show p + 1 + run k l = p + (run k l + 1) by omega]
        rfl
      · have e : run (k + 1) (c :: l) = 0 := by rw [run, if_neg hc]
        rw [e] at h3 ⊢
        rw [List.drop_zero, List.take_zero, List.append_nil]
        refine ⟨rfl, by rcases h3 with h | h; exact h; omega, fun c' e' hc' => ?_⟩
        cases e'
        exact absurd hc' hc
theorem num_zero (l : List Nat) : num (48 :: l) = 1 := by rw [num]
theorem num_run {l : List Nat} (h : l.head? ≠ some 48) : num l = run 3 l := by
  cases l with
  | nil => rw [num]; intro a z; cases z
  | cons c l =>
    rw [num]
    intro a z
    cases z
    exact h rfl
theorem scan_none {l : List Nat} {f : List Int} {r : Option (List Int)} {p : Nat} (h : num l = 0) : scan l ⟨f, r, []⟩ p = .error p := by
  cases l with
  | nil =>
    rw [scan]
    cases r with
    | none => rfl
    | some r => simp
  | cons c l =>
    have hc : fig c = false := by
      cases hc : fig c with
      | false => rfl
      | true =>
        by_cases h8 : c = 48
        · rw [h8, num_zero] at h
          cases h
        · rw [num_run (by intro z; injection z with z; exact h8 z), run, if_pos hc] at h
          cases h
    rw [scan, if_neg]
    unfold isNext
    rw [hc]
    simp
theorem scan_num {l : List Nat} {f : List Int} {r : Option (List Int)} {p : Nat} (h : num l ≠ 0) : scan l ⟨f, r, []⟩ p = scan (l.drop (num l)) ⟨f, r, l.take (num l)⟩ (p + num l) ∧ Full (l.take (num l)) (l.drop (num l)) := by
  by_cases h8 : l.head? = some 48
  · cases l with
    | nil => cases h8
    | cons c l =>
      injection h8 with e
      subst e
      rw [num_zero]
      refine ⟨scan_fig (by decide) (by show 0 < 3; decide) (by show ([] : List Nat) ≠ [48]; decide), by show [48] ≠ []; decide, fun c _ _ => .inr rfl⟩
  · rw [num_run h8] at h ⊢
    have z := scan_run 3 l f r [] p rfl (fun _ => h8) (by decide) (.inr (by omega))
    rw [List.nil_append] at z
    exact z
theorem next_slash {f : List Int} {s : List Nat} (h : s ≠ []) : isNext 47 ⟨f, none, s⟩ = true := by
  unfold isNext
  rw [if_neg (by decide), if_neg h, if_pos rfl]
  rfl
theorem next_dot {f : List Int} {r : Option (List Int)} {s : List Nat} (h : s ≠ []) : isNext 46 ⟨f, r, s⟩ = decide ((r.getD f).length + 1 < (if r.isNone then 4 else f.length)) := by
  unfold isNext
  rw [if_neg (by decide), if_neg h, if_neg (by decide), decide_eq_true rfl, Bool.true_and]
theorem next_not {f : List Int} {r : Option (List Int)} {s l : List Nat} {c : Nat} (h : Full s (c :: l)) (h7 : c = 47 → r.isNone = false) (h6 : c ≠ 46) : isNext c ⟨f, r, s⟩ = false := by
  obtain ⟨sn, fu⟩ := h
  unfold isNext
  by_cases hc : fig c = true
  · rw [if_pos hc]
    rcases fu c rfl hc with h | h
    · show (decide (s.length < 3) && decide (s ≠ [48])) = false
      rw [decide_eq_false (show ¬ s.length < 3 by omega), Bool.false_and]
    · show (decide (s.length < 3) && decide (s ≠ [48])) = false
      rw [h]
      decide
  · rw [if_neg hc, if_neg sn]
    by_cases e : c = 47
    · rw [if_pos e]
      exact h7 e
    · rw [if_neg e, decide_eq_false h6, Bool.false_and]
theorem front_end {f : List Int} {s l : List Nat} {q : Nat} (h : Full s l) (h6 : l.head? = some 46 → ¬ f.length + 1 < 4) : scan l ⟨f, none, s⟩ q = if l.head? ≠ some 47 then .error q else scan (l.drop 1) ⟨f ++ [intOf s], some [], []⟩ (q + 1) := by
  cases l with
  | nil =>
    rw [scan, if_pos (by decide)]
  | cons c l =>
    by_cases h7 : c = 47
    · subst h7
      rw [scan, next_slash h.1, if_pos rfl, if_neg (by simp)]
      rfl
    · have e : isNext c ⟨f, none, s⟩ = false := by
        by_cases c6 : c = 46
        · subst c6
          rw [next_dot h.1]
          exact decide_eq_false (h6 rfl)
        · exact next_not h (fun z => absurd z h7) c6
      have hne : (c :: l).head? ≠ some 47 := fun z => h7 (by injection z)
      rw [scan, e, if_neg (by decide), if_pos hne]
theorem rear_end {f r : List Int} {s l : List Nat} {q : Nat} (h : Full s l) (h6 : l.head? = some 46 → ¬ r.length + 1 < f.length) : scan l ⟨f, some r, s⟩ q = if r.length + 1 < f.length ∨ l ≠ [] then .error q else .ok (f, r ++ [intOf s]) := by
  cases l with
  | nil =>
    rw [scan]
    show (if s = [] ∨ r.length + 1 < f.length then _ else _) = _
    by_cases hl : r.length + 1 < f.length
    · rw [if_pos (.inr hl), if_pos (.inl hl)]
    · rw [if_neg (fun z => z.elim h.1 hl), if_neg (fun z => z.elim hl (fun z => z rfl))]
  | cons c l =>
    have e : isNext c ⟨f, some r, s⟩ = false := by
      by_cases c6 : c = 46
      · subst c6
        rw [next_dot h.1]
        exact decide_eq_false (h6 rfl)
      · exact next_not h (fun _ => rfl) c6
    rw [scan, e, if_neg (by decide), if_pos (.inr (by simp))]
theorem dot_step {l : List Nat} {n : Nat} (h6 : (l.drop n).head? = some 46) : ∃ l2, l.drop n = 46 :: l2 ∧ l.drop (n + 1) = l2 := by
  cases hl : l.drop n with
  | nil => rw [hl] at h6; cases h6
  | cons c l2 =>
    rw [hl] at h6
    injection h6 with z
    subst z
    exact ⟨l2, rfl, by rw [← List.drop_drop, hl]; rfl⟩
/-- in front of the slash -/
theorem scan_front : ∀ (m : Nat) (l : List Nat) (f : List Int) (p : Nat), f.length + (m + 1) = 4 → scan l ⟨f, none, []⟩ p = match readR (m + 1) l with
    | .error x => .error (p + x)
    | .ok (ns, e) => if (l.drop e).head? ≠ some 47 then .error (p + e) else scan (l.drop (e + 1)) ⟨f ++ ns, some [], []⟩ (p + e + 1) := by
  intro m
  induction m with
  | zero =>
    intro l f p hf
    rw [readR]
    by_cases h0 : num l = 0
    · rw [if_pos h0, scan_none h0]
      rfl
    · rw [if_neg h0, if_pos (.inl rfl)]
      obtain ⟨e1, fu⟩ := scan_num (f := f) (r := none) (p := p) h0
      rw [e1, front_end fu (fun _ => by omega), List.drop_drop]
  | succ m ih =>
    intro l f p hf
    rw [readR]
    by_cases h0 : num l = 0
    · rw [if_pos h0, scan_none h0]
      rfl
    · rw [if_neg h0]
      obtain ⟨e1, fu⟩ := scan_num (f := f) (r := none) (p := p) h0
      rw [e1]
      by_cases h6 : (l.drop (num l)).head? = some 46
      · have hnot : ¬ (m + 1 = 0 ∨ (l.drop (num l)).head? ≠ some 46) := fun z => z.elim (by omega) (fun z => z h6)
        rw [if_neg hnot]
        obtain ⟨l2, ed1, ed2⟩ := dot_step h6
        rw [ed1, ed2, scan, next_dot fu.1, if_pos (by show decide (f.length + 1 < 4) = true; exact decide_eq_true (by omega))]
        have em : moved 46 ⟨f, none, l.take (num l)⟩ = ⟨f ++ [intOf (l.take (num l))], none, []⟩ := rfl
        rw [em, ih l2 _ _ (by rw [List.length_append]; show f.length + 1 + (m + 1) = 4; omega)]
        cases hr : readR (m + 1) l2 with
        | error x =>
          show Except.error _ = Except.error _
          congr 1
          omega
        | ok v =>
          obtain ⟨ns, k⟩ := v
          show (if (l2.drop k).head? ≠ some 47 then _ else _) = if (l.drop (num l + 1 + k)).head? ≠ some 47 then _ else _
          have e2 : l.drop (num l + 1 + k) = l2.drop k := by rw [← ed2, List.drop_drop]
          have e3 : l.drop (num l + 1 + k + 1) = l2.drop (k + 1) := by rw [← ed2, List.drop_drop]; congr 1
          rw [e2, e3, List.append_assoc, show p + num l + 1 + k = p + (num l + 1 + k) by omega]
          rfl
      · rw [if_pos (.inr h6), front_end fu (fun z => absurd z h6), List.drop_drop]
/-- behind it -/
theorem scan_rear : ∀ (m : Nat) (l : List Nat) (f r : List Int) (p : Nat), r.length + (m + 1) = f.length → scan l ⟨f, some r, []⟩ p = match readR (m + 1) l with
    | .error x => .error (p + x)
    | .ok (bs, e) => if r.length + bs.length < f.length ∨ e < l.length then .error (p + e) else .ok (f, r ++ bs) := by
  intro m
  have lst : ∀ (l : List Nat) (n : Nat), (l.drop n ≠ []) ↔ n < l.length := fun l n => by
    rw [ne_eq, List.drop_eq_nil_iff]
    omega
  induction m with
  | zero =>
    intro l f r p hf
    rw [readR]
    by_cases h0 : num l = 0
    · rw [if_pos h0, scan_none h0]
      rfl
    · rw [if_neg h0, if_pos (.inl rfl)]
      obtain ⟨e1, fu⟩ := scan_num (f := f) (r := some r) (p := p) h0
      rw [e1, rear_end fu (fun _ => by omega)]
      simp only [lst]
      rfl
  | succ m ih =>
    intro l f r p hf
    rw [readR]
    by_cases h0 : num l = 0
    · rw [if_pos h0, scan_none h0]
      rfl
    · rw [if_neg h0]
      obtain ⟨e1, fu⟩ := scan_num (f := f) (r := some r) (p := p) h0
      rw [e1]
      by_cases h6 : (l.drop (num l)).head? = some 46
      · have hnot : ¬ (m + 1 = 0 ∨ (l.drop (num l)).head? ≠ some 46) := fun z => z.elim (by omega) (fun z => z h6)
        rw [if_neg hnot]
        obtain ⟨l2, ed1, ed2⟩ := dot_step h6
        rw [ed1, ed2, scan, next_dot fu.1, if_pos (by show decide (r.length + 1 < f.length) = true; exact decide_eq_true (by omega))]
        have em : moved 46 ⟨f, some r, l.take (num l)⟩ = ⟨f, some (r ++ [intOf (l.take (num l))]), []⟩ := rfl
        rw [em, ih l2 _ _ _ (by rw [List.length_append]; show r.length + 1 + (m + 1) = f.length; omega)]
        cases hr : readR (m + 1) l2 with
        | error x =>
          show Except.error _ = Except.error _
          congr 1
          omega
        | ok v =>
          obtain ⟨ns, k⟩ := v
          have hlen : l2.length + (num l + 1) = l.length := by
            have z := congrArg List.length ed1
            rw [List.length_drop] at z
            have : (46 :: l2).length = l2.length + 1 := rfl
            omega
          show (if (r ++ [intOf (l.take (num l))]).length + ns.length < f.length ∨ k < l2.length then _ else _) = if r.length + (intOf (l.take (num l)) :: ns).length < f.length ∨ num l + 1 + k < l.length then _ else _
          have c1 : ((r ++ [intOf (l.take (num l))]).length + ns.length < f.length ∨ k < l2.length) ↔ (r.length + (intOf (l.take (num l)) :: ns).length < f.length ∨ num l + 1 + k < l.length) := by
            rw [List.length_append, List.length_cons]
            show (r.length + 1 + ns.length < f.length ∨ k < l2.length) ↔ (r.length + (ns.length + 1) < f.length ∨ num l + 1 + k < l.length)
            omega
          rw [List.append_assoc, show p + num l + 1 + k = p + (num l + 1 + k) by omega]
          by_cases hc : r.length + (intOf (l.take (num l)) :: ns).length < f.length ∨ num l + 1 + k < l.length
          · rw [if_pos (c1.mpr hc), if_pos hc]
          · rw [if_neg (fun z => hc (c1.mp z)), if_neg hc]
            rfl
      · rw [if_pos (.inr h6), rear_end fu (fun z => absurd z h6)]
        simp only [lst]
        rfl
theorem readR_len : ∀ (m : Nat) (l : List Nat) (ns : List Int) (e : Nat), readR m l = .ok (ns, e) → 1 ≤ ns.length ∧ ns.length ≤ m
  | 0, l, ns, e, h => by rw [readR] at h; cases h
  | m + 1, l, ns, e, h => by
    rw [readR] at h
    split at h
    · cases h
    · split at h
      · cases h
        simp
      · split at h
        · cases h
        · rename_i ns' k hr
          cases h
          have := readR_len m _ _ _ hr
          simp
          omega
/-- the program's reading is the machine's -/
theorem read_scan (l : List Nat) : scan l ⟨[], none, []⟩ 0 = readP l := by
  rw [scan_front 3 l [] 0 rfl]
  unfold readP
  cases hr : readR 4 l with
  | error x =>
    show Except.error _ = Except.error _
    congr 1
    omega
  | ok v =>
    obtain ⟨ds, e⟩ := v
    have hd := readR_len _ _ _ _ hr
    show (if (l.drop e).head? ≠ some 47 then _ else _) = if (l.drop e).head? ≠ some 47 then _ else _
    by_cases h7 : (l.drop e).head? ≠ some 47
    · rw [if_pos h7, if_pos h7]
      congr 1
      omega
    · rw [if_neg h7, if_neg h7]
      obtain ⟨m, hm⟩ : ∃ m, ds.length = m + 1 := ⟨ds.length - 1, by omega⟩
      rw [List.nil_append, scan_rear m _ ds [] _ (by show 0 + (m + 1) = ds.length; omega), hm]
      have hle : e < l.length := by
        rcases Nat.lt_or_ge e l.length with h | h
        · exact h
        · rw [List.drop_of_length_le h] at h7
          exact absurd (show ([] : List Nat).head? ≠ some 47 by decide) h7
      cases hq : readR (m + 1) (l.drop (e + 1)) with
      | error x =>
        show Except.error _ = Except.error _
        congr 1
        omega
      | ok v =>
        obtain ⟨bs, k⟩ := v
        show (if ([] : List Int).length + bs.length < m + 1 ∨ k < (l.drop (e + 1)).length then _ else _) = if bs.length < m + 1 ∨ e + 1 + k < l.length then _ else _
        have c1 : (([] : List Int).length + bs.length < m + 1 ∨ k < (l.drop (e + 1)).length) ↔ (bs.length < m + 1 ∨ e + 1 + k < l.length) := by
          rw [List.length_drop]
          show (0 + bs.length < m + 1 ∨ k < l.length - (e + 1)) ↔ _
          omega
        rw [show 0 + e + 1 + k = e + 1 + k by omega, List.nil_append]
        by_cases hc : bs.length < m + 1 ∨ e + 1 + k < l.length
        · rw [if_pos (c1.mpr hc), if_pos hc]
        · rw [if_neg (fun z => hc (c1.mp z)), if_neg hc]
end K06

set_option Elab.async false
set_option linter.all false
set_option maxRecDepth 100000
set_option maxHeartbeats 4000000
namespace Ru
open PySem PySem.Spec PyProof.Rows L2
/-! ### calls under a try whose suite leans on the locals -/
section
variable {X : Cx} {W : WX} {k : Nat} {C : Addr} {ps : List Str} {sp : Sp} {σ : L2.St} {pins : List (Addr × Obj)} {H : Hp} {s : Shared}
theorem hx_at {E : XK} {e : Value} {s' : Shared} (tk : Takes X W) (I : Inv X pins σ H s) (hW : ∀ cls d H', E cls d H' → W cls d σ H') (z : L2.CX X.prog X.w X.stack H s E e s') : X.xe e s' :=
  tk e s' (XE.of_call I (fun cls d H' h => hW cls d H' h) z)
theorem run_fn1S {E : XK} {f : Addr} {fd : FuncData} {Q : VK} {us : List Value} {vs : List V} (F : FnOk X.prog X.w X.K X.mg X.base (L2.CX X.prog X.w) k f fd ps sp) (hr : Room (k + 1) X.A) (hb : Binds X.K fd ps []) (tk : Takes X W)
    (I : Inv X pins σ H s) (r : Vals vs us) (hW : ∀ cls d H', E cls d H' → W cls d σ H') (q : sp vs H Q E) : wpAny (model X.prog X.w) X.A.in1 (call (.ref f) us) (EP X pins σ Q) X.xe s := by
  have hl := F.len _ _ _ _ q
  have bd := hb s us I.kIn (by rw [List.append_nil, ← r.length]; exact hl)
  rw [List.append_nil] at bd
  refine wpAny_call (codeAny_mono (F.run X.A.in1 X.stack s H ⟨us, []⟩ us vs _ E hr.in1 I.env0.in1 bd r q) fun r s' z => ?_)
  cases r with
  | error e => exact hx_at tk I hW z
  | ok fl =>
    cases fl with
    | ret u => exact I.after z
    | next => exact False.elim z
    | brk => exact False.elim z
    | cont => exact False.elim z
/-- o[i] by an own __getitem__ that may raise -/
def tIxS (W : WX) (C : Addr) (sp : Sp) (ta tb : TE) : TE := fun σ H Q => ta σ H fun x H1 => tb σ H1 fun y H2 => ∃ (E : XK) (a dx : Addr) (fs : List (Str × V)), (∀ cls d H', E cls d H' → W cls d σ H') ∧ x = .ref a ∧ H2 a = some (.ins C dx fs) ∧ sp [.ref a, y] H2 Q E
theorem pe_ixS {ea eb : Expr} {ta tb : TE} {pos : Pos} (M : CdM X.prog X.w X.K X.mg X.base (L2.CX X.prog X.w) k C "__getitem__" ps sp) (hfn : ∀ f : Addr, PySem.W.findIn X.K (.ref C) "__getitem__" = some (some (.ref f)) → PySem.W.fnIn X.K f = true) (hr : Room (k + 1) X.A) (tk : Takes X W) (ha : PE X ea ta) (hb : PE X eb tb)
    (hs : ∀ o i, subscripted eb true o i = runValue (.builtin "lifetime.subscript" ⟨[o, i], []⟩)) : PE X (.Subscript ea eb pos) (tIxS W C sp ta tb) := by
  obtain ⟨f, fd, F, a, b, kp, bd⟩ := M.ex
  refine ⟨fun pins s σ H Q I h => ?_⟩
  refine Subscript_ (thn (ha.run pins s σ H _ I h) fun v s1 ⟨x, H1, I1, rx, q1⟩ => thn (hb.run pins s1 σ H1 _ I1 q1) fun u s2 ⟨y, H2, I2, ry, q⟩ => ?_)
  obtain ⟨E, p, dx, fs, hW, rfl, hp, q⟩ := q
  cases rx
  obtain ⟨_, J, _⟩ := ins_get I2.hok hp
  obtain ⟨_, J, _⟩ := J.look
  obtain ⟨m, fr⟩ := I2.fr
  exact PySem.W.sub_K fr I2.ok.mod.kin J a (hfn f a) b (run_fn1S (us := [.ref p, u]) (vs := [.ref p, y]) F hr bd tk I2 (.cons rfl (.cons ry .nil)) hW q) (hs _ _)
/-- C.m(..), m a classmethod that may raise -/
def tCMethS (W : WX) (C : Addr) (sp : Sp) (ta : TE) (t : TA) : TE := fun σ H Q => ta σ H fun x H1 => x = .ref C ∧ t σ H1 fun vs H2 => ∃ E : XK, (∀ cls d H', E cls d H' → W cls d σ H') ∧ sp (.ref C :: vs) H2 Q E
theorem pe_cmethS {p g : Addr} {mc : Value} {o e : Expr} {es : List Expr} {m : Str} {pos apos : Pos} {ta : TE} {t : TA} {pl : Sem Bool} (he : PE X o ta) (r : ClX.CRead X.K C mc) (c : ClX.CMet X.K C mc m p g) (F : FnR X.prog X.w X.K X.mg X.base (L2.CX X.prog X.w) k g sp) (hr : Room k X.A) (tk : Takes X W) (ha : PA X (e :: es) t)
    (hst : starEach (e :: es) X.env = (false, eval e X.env) :: starEach es X.env := by rfl) (hpl : (backTo pos (starEach es X.env)).any (·.1) = false := by rfl)
    (ht : eval (.Call (.Attribute o m apos) (e :: es) [] pos) X.env = (do
      let ov ← eval o X.env
      standAt apos.atName
      let (f, first) ← holding [ov] (getMethod ov m pl)
      callWith pos f first (backTo pos (starEach (e :: es) X.env)) (backToKw pos (keywordEach [] X.env))) := by rfl) :
    PE X (.Call (.Attribute o m apos) (e :: es) [] pos) (tCMethS W C sp ta t) := by
  refine ⟨fun pins s σ H Q I h => ?_⟩
  refine PySem.W.methodCall_KW (pl := pl) (thn (he.run pins s σ H _ I h) fun u s1 ⟨x, H1, I1, rx, ex, q⟩ => ?_) ht
  subst ex
  obtain rfl : u = Value.ref C := rx
  refine ClX.getmethcm_ok I1 r c fun s2 I2 => ?_
  refine ClX.callwith_cm I2 (ClX.base_none I1 (Nat.le_refl _)) c.fi (thn (ha.run pos _ s2 σ H1 _ I2 q) fun us s3 ⟨vs, H2, I3, rv, E, hW, q2⟩ => ⟨⟨ClX.pin_at I3, I3.kIn⟩, ?_⟩) hst hpl
  have z : wpAny (model X.prog X.w) X.A (call (.ref s1.heap.objs.size) us) (EP X ((s1.heap.objs.size, PySem.W.methodObj (.ref g) (.ref C)) :: pins) σ Q) X.xe s3 := by
    refine wpAny_call (PySem.W.method_call (ClX.pin_at I3) (codeAny_mono (F X.A X.stack s3 H2 (.ref C :: us) (.ref C :: vs) Q E hr I3.env0 (.cons rfl rv) q2) fun r s' hq => ?_))
    cases r with
    | error e => exact hx_at tk I3 hW hq
    | ok fl =>
      cases fl with
      | ret u => exact I3.after hq
      | next => exact False.elim hq
      | brk => exact False.elim hq
      | cont => exact False.elim hq
  exact thn z fun _ _ y => ClX.unpinE y
end
end Ru

set_option Elab.async false
set_option linter.all false
set_option maxRecDepth 100000
set_option maxHeartbeats 4000000
namespace Ru
open PySem PySem.Spec PyProof.Rows L2
/-- a menu of tracked values, being written: nothing but new objects since H0 -/
structure Mw (d : Addr) (H0 H : Hp) (vs : List V) (ds : List PyData) : Prop where
  s : Same H0 H
  dk : ∃ o, H d = some o
  all : DwA d H vs ds
section
variable {d : Addr} {H0 H H' : Hp} {vs : List V} {ds : List PyData} {v : V} {x : PyData}
theorem Mw.start {o : HO} (h : H d = some o) : Mw d H H [] [] := ⟨Same.refl _, ⟨o, h⟩, .nil⟩
theorem Mw.grow (b : Mw d H0 H vs ds) (s : Same H H') : Mw d H0 H' vs ds := by
  obtain ⟨o, e⟩ := b.dk
  exact ⟨b.s.trans s, ⟨o, s _ _ e⟩, b.all.same s⟩
theorem Mw.add (b : Mw d H0 H vs ds) (s : Same H H') (h : Dw d H' v x) : Mw d H0 H' (vs ++ [v]) (ds ++ [x]) := by
  obtain ⟨o, e⟩ := b.dk
  exact ⟨b.s.trans s, ⟨o, s _ _ e⟩, (b.all.same s).app (.cons h .nil)⟩
theorem Mw.put (b : Mw d H0 H vs ds) (h : Dw d H v x) : Mw d H0 H (vs ++ [v]) (ds ++ [x]) := b.add (Same.refl _) h
theorem Mw.off (b : Mw d H0 H vs ds) {q : Addr} (h : H q = none) : q ≠ d := by
  obtain ⟨o, e⟩ := b.dk
  exact (ne_of_none e h).symm
theorem Mw.lst (b : Mw d H0 H vs ds) {q : Addr} {xs : List V} {es : List PyData} (h : H q = none) (a : DwA d H xs es) : Mw d H0 (upd H q (.lst xs)) (vs ++ [.ref q]) (ds ++ [.list es]) :=
  b.add (upd_new h) (.lst (.inl upd_same) (b.off h) (a.same (upd_new h)))
theorem Mw.tup (b : Mw d H0 H vs ds) {q : Addr} {xs : List V} {es : List PyData} (h : H q = none) (a : DwA d H xs es) : Mw d H0 (upd H q (.tup xs)) (vs ++ [.ref q]) (ds ++ [.tuple es]) :=
  b.add (upd_new h) (.tup (.inl upd_same) (b.off h) (a.same (upd_new h)))
theorem Mw.d0 (b : Mw d H0 H vs ds) {q : Addr} (h : H q = none) : Mw d H0 (upd H q (.dK [])) (vs ++ [.ref q]) (ds ++ [.dict []]) :=
  b.add (upd_new h) (.d0 upd_same (b.off h))
/-- one of the menu -/
theorem Mw.pick (b : Mw d H0 H vs ds) (s : Bt d H H') {j : Nat} (hj : vs[j]? = some v) : ∃ x, ds[j]? = some x ∧ Dw d H' v x := by
  obtain ⟨x, h1, h2⟩ := b.all.get hj
  exact ⟨x, h1, h2.bt s⟩
end
end Ru

set_option Elab.async false
set_option linter.all false
set_option maxRecDepth 100000
set_option maxHeartbeats 4000000
namespace Ru
open PySem PySem.Spec PyProof.Rows L2
/-! ### the text of a row, shown once more -/
def Sg (x : Str) : Prop := ∀ c ∈ x.cps.toList, c < 16 ^ 8
theorem Sg.of (s : String) : Sg (Str.ofString s) := fun c hc => by
  rw [signs_ofString] at hc
  obtain ⟨k, _, rfl⟩ := List.mem_map.mp hc
  have h : k.toNat < 1114112 := by
    rcases k.valid with h | ⟨_, h⟩
    · exact Nat.lt_of_lt_of_le h (by decide)
    · exact h
  exact Nat.lt_of_lt_of_le h (by decide)
theorem Sg.app {x y : Str} (h : Sg x) (k : Sg y) : Sg (x ++ y) := fun c hc => by
  have e : (x ++ y).cps = x.cps ++ y.cps := rfl
  rw [e, Array.toList_append] at hc
  rcases List.mem_append.mp hc with hc | hc
  · exact h c hc
  · exact k c hc
theorem Sg.from : ∀ (ts : List Str) (k : Nat) (acc : Str), Sg acc → (∀ t ∈ ts, Sg t) → Sg (textFrom k acc ts)
  | [], _, _, h, _ => h
  | t :: r, k, acc, h, ht => by
    refine Sg.from r (k + 1) _ ((h.app ?_).app (ht t List.mem_cons_self)) fun y hy => ht y (List.mem_cons_of_mem _ hy)
    split <;> exact Sg.of _
theorem shownI : ∀ {zs : List Int}, ∀ t ∈ PyData.shownAll (intsD zs), Sg t
  | [], t, h => by
    have e : PyData.shownAll (intsD []) = [] := by simp [intsD, PyData.shownAll]
    rw [e] at h
    exact (List.not_mem_nil h).elim
  | z :: zs, t, h => by
    have e : PyData.shownAll (intsD (z :: zs)) = (PyData.int z).shown :: PyData.shownAll (intsD zs) := by simp [intsD, PyData.shownAll]
    rw [e] at h
    rcases List.mem_cons.mp h with h | h
    · rw [h, PyData.shown]
      exact Sg.of _
    · exact shownI t h
theorem md_text {zs : List Int} {L : Nat} (h : (PyData.list (intsD zs)).shown.length ≤ L) : Md 1 (10 * L + 2) (.str (PyData.list (intsD zs)).shown) := by
  have sg : Sg (PyData.list (intsD zs)).shown := by
    rw [PyData.shown]
    show Sg (textFrom 0 ("[" : String) _ ++ ("]" : String))
    exact (Sg.from _ _ _ (Sg.of _) shownI).app (Sg.of _)
  refine ⟨by rw [PyData.showable], by rw [PyData.depth]; omega, ?_⟩
  rw [PyData.shown_str]
  have z := StrLaws.reprText_len _ sg
  omega
end Ru

set_option Elab.async false
set_option linter.all false
set_option maxRecDepth 100000
set_option maxHeartbeats 4000000
namespace Ru
open PySem PySem.Spec PyProof.Rows L2
/-! ### str(x) where the class has an own __str__ -/
section
variable {prog : Program} {w : World} {A : Around} {E : Value → Shared → Prop} {s : Shared} {K : PySem.W.Frag} {x C f : Addr} {ox : Obj} {od : Option Obj}
open Builtin Builtin.Str PySem.W in
theorem str_own {Q : Value → Shared → Prop} (hu : A.in1.in1.units < cLine) (X : K.In s.heap) (I : InstAt s.heap x ox C od) (hs : findIn K (.ref C) "__str__" = some (some (.ref f))) (hf : isFn K (.ref f) = true)
    (h : wpAny (model prog w) A.in1.in1 (call (.ref f) [.ref x]) (StrBack Q) E s) : wpAny (model prog w) A (call (.type "str") [.ref x]) Q E s := by
  refine callType_codes (T := "str") (Bi := Builtin.«object.__init__») (Q₁ := fun r s₁ => ∃ y u, r = .str y u ∧ Q r s₁) PySem.F.called_str (PySem.F.typeCall_str_1 _) PySem.F.entry_object_init ?_ ?_
  · refine codeAny_of_tree ?_
    show wpAny _ A.in1.in1 (do checkBuiltinCall "str.__new__" ⟨[.type "str", .ref x], []⟩; again (.builtin "str.__new__" ⟨[.type "str", .ref x], []⟩)) _ _ s
    refine wpAny_bind (wpAny_of_eq (PySem.F.newCall_str_1 _) (wpAny_pure ⟨plainId_quiet (by decide +kernel) _, codeAny_builtin PySem.F.entry_str_new ?_⟩))
    rw [Around.under_plainId (by decide +kernel) _]
    rw [str_new_tree]
    refine wpAny_bind (wpAny_pure ?_)
    refine wpAny_bind (wpAny_of_eq isSubtype_str_str ?_)
    have key : wpAny (model prog w) A.in1.in1 (PySem.Builtin.Str.strOf (.ref x)) (fun r s₁ => ∃ y u, r = .str y u ∧ Q r s₁) E s := by
      unfold PySem.Builtin.Str.strOf
      rw [show isExactStr (.ref x) = false from rfl]
      refine wpAny_bind (m := cRoomFor _ _) (wpAny_cRoomFor hu ?_)
      refine wpAny_bind (m := callSpecial? (.ref x) (Str.ofString "__str__")) (special_fn X I hs (beq_iff_eq.mp hf) (wpAny_mono h (fun r s' z => ?_) fun _ _ y => y))
      cases r <;> first | exact z.elim | exact wpAny_pure ⟨_, _, rfl, z⟩
    exact wpAny_bind (wpAny_mono key (fun r s₁ hr => wpAny_pure hr) fun _ _ y => y)
  · rintro obj s₁ ⟨y, u, rfl, hq⟩
    exact ⟨typeIs_str _ _ _, PySem.F.args_object_init_2 _ _, object_init_meets PySem.F.called_str.init.lookup PySem.F.called_str.made (by decide) prog w A.in1 _ s₁ ⟨typeIs_str _ _ _, rfl, hq⟩⟩
end
section
variable {X : Cx} {CX : CXT} {k : Nat} {C : Addr} {ps : List Str} {sp : Sp} {E : XK}
def rStrOwn (C : Addr) (sp : Sp) (E : XK) : List V → Hp → VK → Prop := fun xs H Q => ∃ (a dx : Addr) (fs : List (Str × V)), xs = [.ref a] ∧ H a = some (.ins C dx fs) ∧ sp [.ref a] H (fun v H' => ∃ z : Str, v = .str z ∧ Q (.str z) H') E
theorem call_strOwn (M : CdM X.prog X.w X.K X.mg X.base CX k C "__str__" ps sp) (hr : Room (k + 2) X.A) (hx : Passes CX X E) : CallR X (.type "str") (rStrOwn C sp E) := by
  obtain ⟨f, fd, F, a, b, _, bd⟩ := M.ex
  intro pins s σ H xs us Q I r h
  obtain ⟨p, dx, fs, rfl, hp, q⟩ := h
  obtain rfl := Vals.ref1 r
  obtain ⟨_, J, _⟩ := ins_get I.hok hp
  obtain ⟨_, J, _⟩ := J.look
  have r2 : Vals [V.ref p] [Value.ref p] := .cons rfl .nil
  have hl := F.len _ _ _ _ q
  have run : codeAny (model X.prog X.w) X.A.in1.in1 (.call (.ref f) ⟨[.ref p], []⟩) (fun r s' => match r with | .ok (.ret v) => ∃ z t, v = .str z t ∧ ∃ H', Inv X pins σ H' s' ∧ Q (.str z) H' | .ok _ => False | .error e => X.xe e s') s := by
    have bd := bd s [.ref p] I.kIn (by rw [List.append_nil]; exact hl)
    rw [List.append_nil] at bd
    refine codeAny_mono (F.run X.A.in1.in1 X.stack s H ⟨[.ref p], []⟩ [.ref p] [.ref p] _ E hr.in1.in1 I.env0.in1.in1 bd r2 q) fun r s' z => ?_
    cases r with
    | error e => exact hx pins σ H s e s' I z
    | ok fl =>
      cases fl with
      | ret w' =>
        obtain ⟨t, H', I', rt, y, ez, qk⟩ := I.after z
        subst ez
        obtain ⟨tk, rfl⟩ := (show ∃ t, w' = Value.str y t from rt)
        exact ⟨y, tk, rfl, H', I', qk⟩
      | next => exact False.elim z
      | brk => exact False.elim z
      | cont => exact False.elim z
  have hu : X.A.in1.in1.units < cLine := hr.in1.in1.units0
  refine str_own hu I.kIn J a b (wpAny_call (codeAny_mono run fun r s' z => ?_))
  cases r with
  | error e => exact z
  | ok fl =>
    cases fl with
    | ret t =>
      obtain ⟨n, tk, rfl, H', I', qk⟩ := z
      exact ⟨.str n, H', I', ⟨_, rfl⟩, qk⟩
    | next => exact False.elim z
    | brk => exact False.elim z
    | cont => exact False.elim z
end
end Ru

set_option Elab.async false
set_option linter.all false
set_option maxRecDepth 100000
set_option maxHeartbeats 4000000
namespace K06
open PySem PySem.Spec PyProof.Rows L2 Ru
theorem one_eq {l : List Nat} {c : Nat} : ((⟨(l.take 1).toArray⟩ : Str) = ⟨#[c]⟩) ↔ l.head? = some c := by
  cases l with
  | nil => constructor <;> intro h <;> cases h
  | cons x l =>
    constructor
    · intro h
      have : (#[x] : Array Nat) = #[c] := by injection h
      have := congrArg Array.toList this
      injection this with h
      rw [h]
      rfl
    · intro h
      injection h with h
      rw [h]
      rfl
theorem cut1 (z : Str) (n : Nat) : cutS z (some (n : Nat)) (some (((n : Nat) : Int) + 1)) = ⟨((z.cps.toList.drop n).take 1).toArray⟩ := by
  have hl : z.length = z.cps.toList.length := (Array.length_toList).symm
  unfold cutS
  rw [show (((n : Nat) : Int) + 1) = ((n + 1 : Nat) : Int) from rfl, HT.sIx_nat, HT.sIx_nat, hl]
  congr 2
  rcases Nat.lt_or_ge n z.cps.toList.length with h | h
  · rw [Nat.min_eq_left (by omega), Nat.min_eq_left (by omega), show n + 1 - n = 1 by omega]
  · rw [Nat.min_eq_right h, Nat.min_eq_right (by omega), Nat.sub_self, List.drop_of_length_le h, List.take_zero]
    rfl
theorem cutNM (z : Str) {n m : Nat} (h : n ≤ m) (hm : m ≤ z.length) : cutS z (some (n : Nat)) (some (m : Nat)) = ⟨((z.cps.toList.drop n).take (m - n)).toArray⟩ := by
  unfold cutS
  rw [HT.sIx_nat, HT.sIx_nat, Nat.min_eq_left hm, Nat.min_eq_left (Nat.le_trans h hm)]
theorem dec_str {a b : Str} {p : Prop} [Decidable p] (h : a = b ↔ p) : decide (V.str a = V.str b) = decide p := by
  by_cases e : p
  · rw [decide_eq_true e, decide_eq_true (by rw [h.mpr e])]
  · rw [decide_eq_false e, decide_eq_false (fun z => e (h.mp (by injection z)))]
theorem s_zero : (("0" : Str)) = ⟨#[48]⟩ := by decide +kernel
theorem s_dot : (("." : Str)) = ⟨#[46]⟩ := by decide +kernel
theorem s_slash : (("/" : Str)) = ⟨#[47]⟩ := by decide +kernel
theorem s_figs : ("0123456789" : Str).cps.toList = [48, 49, 50, 51, 52, 53, 54, 55, 56, 57] := by decide +kernel
abbrev nEnd : List Str := ["text", "at", "end"]
theorem sc_end : FnScope nEnd ["text", "at"] (defScope sEndOfNumber) := ⟨rfl, rfl, rfl, by decide +kernel, rfl, by decide +kernel, by decide +kernel⟩
def spEnd : Sp := fun vs H Q _ => ∃ (z : Str) (n : Nat), vs = [.str z, .int (n : Nat)] ∧ n ≤ z.length ∧ z.length ≤ 1000 ∧ Q (.int ((n + num (z.cps.toList.drop n) : Nat) : Int)) H
theorem num_le (l : List Nat) : num l ≤ l.length ∧ num l ≤ 3 := by
  by_cases h8 : l.head? = some 48
  · cases l with
    | nil => cases h8
    | cons c l =>
      injection h8 with e
      subst e
      rw [num_zero]
      simp
  · rw [num_run h8]
    have := run_le 3 l
    omega
theorem ixN_n {n j : Nat} (h : j < n) : ixN n (j : Int) = some j := by
  unfold ixN
  rw [if_pos (Int.natCast_nonneg j), if_pos (by omega)]
  rfl
theorem at_nat {l : List Nat} {j c : Nat} (h : l[j]? = some c) : atI l ((j : Nat) : Int) = some c := by
  unfold atI
  rw [ixN_n (List.getElem?_eq_some_iff.mp h).1]
  exact h
structure CsT (mg : Str → Option Value) : Prop where
  fg : ∃ t, mg "FIGURES" = some (.str "0123456789" t)
  mf : ∃ t, mg "MOST_FIGURES" = some (.int 3 t)
section
variable {P : Program} {w : World} {K : PySem.W.Frag} {mg : Str → Option Value} {base : Heap}
theorem ok_end {f : Addr} {fd : FuncData} (F : FunD K "_end_of_number" "_end_of_number" (defArgs sEndOfNumber) (defBody sEndOfNumber) (defScope sEndOfNumber) [] [] f fd) (T : CsT mg) (g_len : mg "len" = none) (g_min : mg "min" = none) : FnOk P w K mg base CX0 1 f fd ["text", "at"] spEnd := by
  refine F.ok sc_end (fun vs H Q E h => ?_) (fun cdv A outer s H vs Q E hr h => ?_)
  · obtain ⟨z, n, rfl, _⟩ := h
    rfl
  · obtain ⟨z, n, rfl, hn, hz, q⟩ := h
    have sc := sc_end
    obtain ⟨t1, gF⟩ := T.fg
    obtain ⟨t2, gM⟩ := T.mf
    refine ⟨_, PSs.nox (pss_cons (ps_if (pt_cmpR op_eq (pe_slice sl_str (pv 0) (po_some (pv 1)) (po_some (pe_op op_add (pv 1) pe_int))) pe_str (nomark _)) (pss_one (ps_ret (pe_op op_add (pv 1) pe_int))) pss_nil)
      (pss_cons (ps_set (i := 2) sc.nd rfl (Or.inl rfl) (pv 1))
      (pss_cons (ps_while PassesOwn.never (PW.pt (pw_and (pt_cmpR op_lt (pv 2) (pe_callB (call_min2 rfl) (by rfl) g_min boot_min (pa_cons (pe_callB call_len (by rfl) g_len PySem.boot_len (pa_cons (pv 0) pa_nil)) (pa_cons (pe_op op_add (pv 1) (pe_glob (v := V.int 3) (by rfl) gM ⟨_, rfl⟩)) pa_nil))) (nomark _))
          (pw_and1 (pt_cmpR op_in_sign (pe_ix ix_str (pv 0) (pv 2) (fun _ _ => rfl)) (pe_glob (v := V.str "0123456789") (by rfl) gF ⟨_, rfl⟩) (by rfl)))))
        (pss_one (ps_set (i := 2) sc.nd rfl (Or.inl rfl) (pe_op op_add (pv 2) pe_int))))
      (pss_one (ps_ret (pv 2)))))), ?_⟩
    have hL : z.length = z.cps.toList.length := (Array.length_toList).symm
    refine ⟨_, rfl, _, rfl, _, rfl, _, rfl, _, _, rfl, rfl, _, rfl, z, rfl, by rw [sizeLine_eq]; omega, rfl, _, rfl, ?_⟩
    rw [cut1, s_zero, dec_str one_eq]
    by_cases h8 : (z.cps.toList.drop n).head? = some 48
    · rw [decide_eq_true h8]
      refine iteT ?_
      refine ⟨_, rfl, _, _, rfl, rfl, ?_⟩
      have e : num (z.cps.toList.drop n) = 1 := by
        cases hd : z.cps.toList.drop n with
        | nil => rw [hd] at h8; cases h8
        | cons c l =>
          rw [hd] at h8
          injection h8 with e
          subst e
          exact num_zero l
      rw [e] at q
      exact q
    · rw [decide_eq_false h8]
      refine iteF ?_
      refine ⟨_, rfl, ?_⟩
      rw [num_run h8] at q
      refine while_by (fun σ H' => ∃ j : Nat, σ = [some (.str z), some (.int (n : Nat)), some (.int ((n + j : Nat) : Int))] ∧ H' = H ∧ j ≤ 3 ∧ run 3 (z.cps.toList.drop n) = j + run (3 - j) (z.cps.toList.drop (n + j)))
        (fun (σ : L2.St) _ => n + 3 - (match σ[2]? with | some (some (V.int e)) => e.toNat | _ => 0)) ⟨0, rfl, rfl, by decide, by simp⟩ ?_ ?_
      · rintro σ H' ⟨j, rfl, rfl, hj, hrun⟩
        have em : (if ((n : Nat) : Int) + 3 < ((z.length : Nat) : Int) then ((n : Nat) : Int) + 3 else ((z.length : Nat) : Int)) = ((min z.length (n + 3) : Nat) : Int) := by
          split <;> omega
        refine ⟨_, rfl, _, rfl, .str z, z.length, rfl, ⟨by rw [sizeLine_eq]; omega, rfl⟩, _, rfl, _, _, rfl, rfl, _, _, rfl, ?_⟩
        rw [em]
        refine ⟨_, _, rfl, rfl, _, rfl, ?_⟩
        by_cases hlt : ((n + j : Nat) : Int) < ((min z.length (n + 3) : Nat) : Int)
        · rw [decide_eq_true hlt]
          refine iteT ?_
          have hlt : n + j < z.length ∧ j < 3 := by omega
          have hi : n + j < z.cps.toList.length := by omega
          have jc : z.cps.toList[n + j]? = some z.cps.toList[n + j] := List.getElem?_eq_getElem hi
          have dc : z.cps.toList.drop (n + j) = z.cps.toList[n + j] :: z.cps.toList.drop (n + j + 1) := List.drop_eq_getElem_cons hi
          obtain ⟨m, hm⟩ : ∃ m, 3 - j = m + 1 := ⟨2 - j, by omega⟩
          refine ⟨_, rfl, _, rfl, z, _, _, rfl, rfl, by rw [sizeLine_eq]; omega, at_nat jc, ?_⟩
          refine ⟨_, _, rfl, rfl, _, rfl, ?_⟩
          rw [s_figs]
          rw [dc, hm, run] at hrun
          by_cases hc : fig z.cps.toList[n + j] = true
          · rw [show decide (z.cps.toList[n + j] ∈ [48, 49, 50, 51, 52, 53, 54, 55, 56, 57]) = true from hc]
            rw [if_pos hc] at hrun
            refine iteT ?_
            refine ⟨_, rfl, _, _, rfl, rfl, ⟨j + 1, rfl, rfl, by omega, ?_⟩, ?_⟩
            · rw [show 3 - (j + 1) = m by omega, show n + (j + 1) = n + j + 1 by omega]
              omega
            · show n + 3 - (((n + j : Nat) : Int) + 1).toNat < n + 3 - (((n + j : Nat) : Int)).toNat
              omega
          · rw [show decide (z.cps.toList[n + j] ∈ [48, 49, 50, 51, 52, 53, 54, 55, 56, 57]) = false from by simpa [fig] using hc]
            rw [if_neg hc] at hrun
            refine iteF ?_
            refine ⟨_, rfl, ?_⟩
            rw [hrun] at q
            exact q
        · rw [decide_eq_false hlt]
          refine iteF ?_
          refine iteF ?_
          refine ⟨_, rfl, ?_⟩
          have e0 : run (3 - j) (z.cps.toList.drop (n + j)) = 0 := by
            by_cases h3 : j = 3
            · rw [h3]
              simp [run]
            · rw [List.drop_of_length_le (by omega)]
              cases 3 - j <;> simp [run]
          rw [hrun, e0] at q
          exact q
      · intro σ H' Q1 Q2 f h
        obtain ⟨v, e1, x1, e2, v3, n3, e3, l3, x4, e4, i1, i2, e5, e6, i3, i4, e7, i5, i6, e8, e9, k1, e10, h⟩ := h
        refine ⟨v, e1, x1, e2, v3, n3, e3, l3, x4, e4, i1, i2, e5, e6, i3, i4, e7, i5, i6, e8, e9, k1, e10, ?_⟩
        cases k1 with
        | false => exact iteF (f _ _ (by rwa [if_neg (by decide)] at h))
        | true =>
          rw [if_pos rfl] at h
          obtain ⟨y1, g1, y2, g2, z1, i7, c1, g3, g4, g5, g6, c2, z2, g7, g8, k2, g9, h⟩ := h
          exact iteT ⟨y1, g1, y2, g2, z1, i7, c1, g3, g4, g5, g6, c2, z2, g7, g8, k2, g9, f _ _ h⟩
end
end K06

set_option Elab.async false
set_option linter.all false
set_option maxRecDepth 100000
set_option maxHeartbeats 4000000
namespace K06
open PySem PySem.Spec PyProof.Rows L2 Ru
def chk (s : List Nat) : Bool := match intText? ⟨s.toArray⟩ with
  | some n => decide (0 ≤ n) && decide (n < 1000)
  | none => false
theorem chk1 : ∀ a ∈ [48, 49, 50, 51, 52, 53, 54, 55, 56, 57], chk [a] = true := by decide +kernel
theorem chk2 : ∀ a ∈ [48, 49, 50, 51, 52, 53, 54, 55, 56, 57], ∀ b ∈ [48, 49, 50, 51, 52, 53, 54, 55, 56, 57], chk [a, b] = true := by decide +kernel
theorem chk3 : ∀ a ∈ [48, 49, 50, 51, 52, 53, 54, 55, 56, 57], ∀ b ∈ [48, 49, 50, 51, 52, 53, 54, 55, 56, 57], ∀ c ∈ [48, 49, 50, 51, 52, 53, 54, 55, 56, 57], chk [a, b, c] = true := by decide +kernel
theorem int_figs {s : List Nat} (h0 : s ≠ []) (h3 : s.length ≤ 3) (hf : ∀ c ∈ s, fig c = true) : intText? ⟨s.toArray⟩ = some (intOf s) ∧ 0 ≤ intOf s ∧ intOf s < 1000 := by
  have h : chk s = true := by
    match s, h0, h3, hf with
    | [a], _, _, hf => exact chk1 a (of_decide_eq_true (hf a (by simp)))
    | [a, b], _, _, hf => exact chk2 a (of_decide_eq_true (hf a (by simp))) b (of_decide_eq_true (hf b (by simp)))
    | [a, b, c], _, _, hf => exact chk3 a (of_decide_eq_true (hf a (by simp))) b (of_decide_eq_true (hf b (by simp))) c (of_decide_eq_true (hf c (by simp)))
    | a :: b :: c :: d :: l, _, h3, _ => simp at h3
  unfold chk at h
  unfold intOf
  cases e : intText? ⟨s.toArray⟩ with
  | none => rw [e] at h; cases h
  | some n =>
    rw [e] at h
    simp only [Bool.and_eq_true, decide_eq_true_eq] at h
    exact ⟨rfl, h.1, h.2⟩
theorem run_figs : ∀ (k : Nat) (l : List Nat), ∀ c ∈ l.take (run k l), fig c = true
  | 0, l, c, h => by simp [run] at h
  | k + 1, [], c, h => by simp at h
  | k + 1, x :: l, c, h => by
    by_cases hx : fig x = true
    · rw [run, if_pos hx] at h
      rcases List.mem_cons.mp h with h | h
      · rw [h]; exact hx
      · exact run_figs k l c h
    · rw [run, if_neg hx] at h
      simp at h
theorem num_figs (l : List Nat) : ∀ c ∈ l.take (num l), fig c = true := by
  by_cases h8 : l.head? = some 48
  · cases l with
    | nil => cases h8
    | cons c l =>
      injection h8 with e
      subst e
      rw [num_zero]
      intro c hc
      have : c = 48 := by simpa using hc
      rw [this]
      decide
  · rw [num_run h8]
    exact run_figs 3 l
theorem num_int {l : List Nat} (h : num l ≠ 0) : intText? ⟨(l.take (num l)).toArray⟩ = some (intOf (l.take (num l))) ∧ 0 ≤ intOf (l.take (num l)) ∧ intOf (l.take (num l)) < 1000 := by
  obtain ⟨h1, h2⟩ := num_le l
  refine int_figs (fun z => ?_) (by rw [List.length_take]; omega) (num_figs l)
  have := congrArg List.length z
  rw [List.length_take, Nat.min_eq_left h1] at this
  exact h this
abbrev nRead : List Str := ["text", "at", "most", "numbers", "end"]
theorem sc_read : FnScope nRead ["text", "at", "most"] (defScope sReadNumbers) := ⟨rfl, rfl, rfl, by decide +kernel, rfl, by decide +kernel, by decide +kernel⟩
def spReadN (Z : Addr) : Sp := fun vs H Q E => ∃ (z : Str) (n m : Nat), vs = [.str z, .int (n : Nat), .int (m : Nat)] ∧ n ≤ z.length ∧ z.length ≤ 1000 ∧ 1 ≤ m ∧ m ≤ 4 ∧
  (∀ x, readR m (z.cps.toList.drop n) = .error x → Rai Z (.int ((n + x : Nat) : Int)) H E) ∧
  ∀ ns e, readR m (z.cps.toList.drop n) = .ok (ns, e) → ∀ t L H', Same H H' → H' t = some (.tup [.ref L, .int ((n + e : Nat) : Int)]) → H' L = some (.lst (ns.map V.int)) → Q (.ref t) H'
section
variable {P : Program} {w : World} {K : PySem.W.Frag} {mg : Str → Option Value} {base : Heap}
theorem ok_read {f : Addr} {fd : FuncData} (F : FunD K "_read_numbers" "_read_numbers" (defArgs sReadNumbers) (defBody sReadNumbers) (defScope sReadNumbers) [] [] f fd) (CE : Cd P w K mg base CX0 1 "_end_of_number" ["text", "at"] spEnd) (R : RsX P w K mg base "NoText" "at") (g_len : mg "len" = none) (g_int : mg "int" = none) :
    FnOk P w K mg base (L2.CX P w) 3 f fd ["text", "at", "most"] (spReadN (He.ga K "NoText")) := by
  refine F.ok sc_read (fun vs H Q E h => ?_) (fun cdv A outer s H vs Q E hr h => ?_)
  · obtain ⟨z, n, m, rfl, _⟩ := h
    rfl
  · obtain ⟨z, n, m, rfl, hn, hz, m1, m4, qe, qo⟩ := h
    have sc := sc_read
    have r1 := hr.mono (show 1 ≤ 2 by decide)
    refine ⟨_, (pss_cons (ps_set (i := 3) sc.nd rfl (Or.inl rfl) (pe_lst pa_nil))
      (pss_one (ps_while (passes_of rfl) (pt_val pe_bl)
        (pss_cons (ps_set (i := 4) sc.nd rfl (Or.inl rfl) (pe_cd CE r1 (by rfl) pass0 (pa_cons (pv 0) (pa_cons (pv 1) pa_nil))))
        (pss_cons (ps_if (pt_cmpR op_eq (pv 4) (pv 1) (nomark _)) (pss_one (ps_raise rfl (takes_of rfl rfl rfl rfl) (pmk_rs R hr (by rfl) (pv 1) mono_var))) pss_nil)
        (pss_cons (ps_expr (pe_bm PySem.F.plainAttrs_list PySem.F.slot_list_append PySem.F.type_list_append mt_append (pv 3) (pa_cons (pe_callTy call_int_str (by rfl) g_int boot_int (pa_cons (pe_slice sl_str (pv 0) (po_some (pv 1)) (po_some (pv 4))) pa_nil)) pa_nil)))
        (pss_cons (ps_if (PW.pt (pw_or (pt_cmpR op_eq (pe_callB call_len_seq (by rfl) g_len PySem.boot_len (pa_cons (pv 3) pa_nil)) (pv 2) (nomark _)) (pw_or1 (pt_cmpR op_ne (pe_slice sl_str (pv 0) (po_some (pv 4)) (po_some (pe_op op_add (pv 4) pe_int))) pe_str (nomark _)))))
            (pss_one (ps_ret (pe_tup (pa_cons (pv 3) (pa_cons (pv 4) pa_nil))))) pss_nil)
        (pss_one (ps_set (i := 1) sc.nd rfl (Or.inl rfl) (pe_op op_add (pv 4) pe_int)))))))))), ?_⟩
    have hL : z.length = z.cps.toList.length := (Array.length_toList).symm
    refine ⟨by show 0 ≤ sizeLine; decide, fun L hNL => ?_⟩
    refine while_by (fun σ H' => ∃ (k m' : Nat) (ns0 : List Int) (x4 : Option V), σ = [some (.str z), some (.int ((n + k : Nat) : Int)), some (.int (m : Nat)), some (.ref L), x4] ∧ Same H H' ∧ H' L = some (.lst (ns0.map V.int)) ∧ ns0.length + m' = m ∧ 1 ≤ m' ∧ n + k ≤ z.length ∧
        readR m (z.cps.toList.drop n) = (match readR m' (z.cps.toList.drop (n + k)) with | .error x => .error (k + x) | .ok (ns, e) => .ok (ns0 ++ ns, k + e)))
      (fun _ H' => m - (match H' L with | some (.lst xs) => xs.length | _ => 0)) ⟨0, m, [], none, rfl, upd_new hNL, upd_same, by simp, m1, by omega, ?_⟩ ?_ ?_
    · rw [Nat.add_zero]
      cases readR m (z.cps.toList.drop n) with
      | error x => simp
      | ok v => obtain ⟨ns, e⟩ := v; simp
    · rintro σ H' ⟨k, m', ns0, x4, rfl, sH, eL, hm', m1', hk, hR⟩
      refine ⟨_, rfl, ?_⟩
      refine iteT ?_
      refine ⟨_, rfl, _, rfl, z, n + k, rfl, hk, hz, ?_⟩
      have hnl := num_le (z.cps.toList.drop (n + k))
      have hni := @num_int (z.cps.toList.drop (n + k))
      obtain ⟨m2, rfl⟩ : ∃ m2, m' = m2 + 1 := ⟨m' - 1, by omega⟩
      rw [readR] at hR
      have hlen : (z.cps.toList.drop (n + k)).length = z.length - (n + k) := by rw [List.length_drop, hL]
      have dd : ∀ j, (z.cps.toList.drop (n + k)).drop j = z.cps.toList.drop (n + k + j) := fun j => List.drop_drop
      simp only [dd] at hR
      generalize hj : num (z.cps.toList.drop (n + k)) = j at hR hnl hni ⊢
      refine ⟨_, rfl, _, rfl, rfl, _, rfl, ?_⟩
      by_cases h0 : j = 0
      · subst h0
        rw [show decide (V.int ((n + k + 0 : Nat) : Int) = V.int ((n + k : Nat) : Int)) = true from decide_eq_true rfl]
        refine iteT ?_
        rw [if_pos rfl] at hR
        exact ⟨_, rfl, fun dd2 H2 s2 nd hd => qe (k + 0) hR dd2 H2 (sH.trans s2) hd⟩
      · rw [decide_eq_false (fun e => h0 (by injection e with e; omega))]
        refine iteF ?_
        obtain ⟨iv, i0, i1⟩ := hni h0
        rw [if_neg h0] at hR
        refine ⟨_, rfl, .inl ⟨rfl, _, SqL.of eL⟩, _, rfl, _, rfl, _, rfl, _, rfl, _, rfl, z, rfl, by rw [sizeLine_eq]; omega, ?_⟩
        rw [cutNM z (show n + k ≤ n + k + j by omega) (by omega), show n + k + j - (n + k) = j by omega]
        refine ⟨_, _, rfl, iv, ?_, L, _, _, rfl, rfl, eL, by rw [List.length_map, sizeLine_eq]; omega, ?_⟩
        · show ((z.cps.toList.drop (n + k)).take j).toArray.size ≤ 640
          rw [List.size_toArray, List.length_take]
          omega
        generalize intOf ((z.cps.toList.drop (n + k)).take j) = v at iv i0 i1 hR ⊢
        have ea : ns0.map V.int ++ [V.int v] = (ns0 ++ [v]).map V.int := by rw [List.map_append]; rfl
        rw [ea]
        have sH2 : Same H (upd H' L (.lst ((ns0 ++ [v]).map V.int))) := fun b o e => by rw [upd_ne (ne_of_none e hNL)]; exact sH b o e
        have eL2 : (upd H' L (.lst ((ns0 ++ [v]).map V.int))) L = some (.lst ((ns0 ++ [v]).map V.int)) := upd_same
        have mu : (match H' L with | some (.lst xs) => xs.length | _ => 0) = ns0.length := by rw [eL]; exact List.length_map _
        generalize upd H' L (.lst ((ns0 ++ [v]).map V.int)) = H2 at sH2 eL2 ⊢
        have back : ∀ {ns : List Int} {e : Nat}, readR m (z.cps.toList.drop n) = .ok (ns, e) → ns = ns0 ++ [v] → e = k + j → ∀ t, H2 t = none → Q (.ref t) (upd H2 t (.tup [.ref L, .int ((n + k + j : Nat) : Int)])) := fun {ns e} hr e1 e2 t ht => by
          subst e1 e2
          refine qo _ _ hr t L _ (sH2.trans (upd_new ht)) ?_ (upd_new ht _ _ eL2)
          rw [upd_same, show n + k + j = n + (k + j) by omega]
        refine ⟨_, rfl, L, _, rfl, .inl (SqL.of eL2), _, rfl, rfl, _, rfl, ?_⟩
        rw [List.length_map, List.length_append]
        by_cases h2 : m2 = 0
        · subst h2
          rw [decide_eq_true (by congr 1; show ((ns0.length + 1 : Nat) : Int) = (m : Nat); omega)]
          refine iteT ?_
          rw [if_pos (.inl rfl)] at hR
          refine iteT ?_
          refine ⟨_, rfl, _, rfl, by show 2 ≤ sizeLine; decide, fun t ht => ?_⟩
          exact back hR rfl rfl t ht
        · rw [decide_eq_false (fun e => h2 (by injection e with e; have e : ((ns0.length + 1 : Nat) : Int) = (m : Nat) := e; omega))]
          refine iteF ?_
          refine ⟨_, rfl, _, rfl, _, rfl, _, rfl, _, _, rfl, rfl, _, rfl, z, rfl, by rw [sizeLine_eq]; omega, rfl, _, rfl, ?_⟩
          rw [cut1, s_dot, dec_str one_eq]
          by_cases h6 : (z.cps.toList.drop (n + k + j)).head? = some 46
          · rw [decide_eq_true h6]
            refine iteF ?_
            rw [if_neg (fun z => z.elim h2 (fun z => z h6))] at hR
            have hlt : n + k + j < z.length := by
              rcases Nat.lt_or_ge (n + k + j) z.length with h | h
              · exact h
              · rw [List.drop_of_length_le (by omega)] at h6
                cases h6
            have ei : (((n + k + j : Nat) : Int) + 1) = ((n + (k + j + 1) : Nat) : Int) := by omega
            refine ⟨_, rfl, _, _, rfl, rfl, ⟨k + j + 1, m2, ns0 ++ [v], some (.int ((n + k + j : Nat) : Int)), by rw [← ei]; rfl, sH2, eL2, by rw [List.length_append]; show ns0.length + 1 + m2 = m; omega, by omega, by omega, ?_⟩, ?_⟩
            · rw [hR, show n + k + (j + 1) = n + (k + j + 1) by omega]
              cases readR m2 (z.cps.toList.drop (n + (k + j + 1))) with
              | error x =>
                show Except.error _ = Except.error _
                congr 1
                omega
              | ok w =>
                obtain ⟨ns, e⟩ := w
                show Except.ok _ = Except.ok _
                rw [List.append_assoc, show k + (j + 1 + e) = k + j + 1 + e by omega]
                rfl
            · rw [mu, eL2]
              show m - ((ns0 ++ [v]).map V.int).length < m - ns0.length
              rw [List.length_map, List.length_append]
              show m - (ns0.length + 1) < m - ns0.length
              omega
          · rw [decide_eq_false h6]
            refine iteT ?_
            rw [if_pos (.inr h6)] at hR
            refine ⟨_, rfl, _, rfl, by show 2 ≤ sizeLine; decide, fun t ht => ?_⟩
            exact back hR rfl rfl t ht
    · rintro σ H' Q1 Q2 f ⟨c, e, h⟩
      exact ⟨c, e, f _ _ h⟩
end
end K06

set_option Elab.async false
set_option linter.all false
set_option maxRecDepth 100000
set_option maxHeartbeats 4000000
namespace K06
open PySem PySem.Spec PyProof.Rows L2 Ru
theorem kit_str : ∀ x : PyData, kitB (tyD x) "str" = some (decide (tyD x = "str"))
  | .none => by decide +kernel
  | .bool _ => by show kitB "bool" "str" = some false; decide +kernel
  | .int _ => by show kitB "int" "str" = some false; decide +kernel
  | .str _ => by show kitB "str" "str" = some true; decide +kernel
  | .list _ => by show kitB "list" "str" = some false; decide +kernel
  | .tuple _ => by show kitB "tuple" "str" = some false; decide +kernel
  | .dict _ => by show kitB "dict" "str" = some false; decide +kernel
theorem is_str {x : PyData} (h : tyD x = "str") : ∃ z, x = .str z := by
  cases x with
  | str z => exact ⟨z, rfl⟩
  | none => exact absurd h (by show ¬ ("NoneType" : String) = "str"; decide)
  | bool _ => exact absurd h (by show ¬ ("bool" : String) = "str"; decide)
  | int _ => exact absurd h (by show ¬ ("int" : String) = "str"; decide)
  | list _ => exact absurd h (by show ¬ ("list" : String) = "str"; decide)
  | tuple _ => exact absurd h (by show ¬ ("tuple" : String) = "str"; decide)
  | dict _ => exact absurd h (by show ¬ ("dict" : String) = "str"; decide)
theorem InitD.same {Z : Addr} {H H1 : Hp} {xD yD : PyData} {K1 K2 : List Int → List Int → Prop} {E : XK} (s : Same H H1) (I : InitD Z H xD yD K1 E) (k : ∀ ds bs, K1 ds bs → K2 ds bs) : InitD Z H1 xD yD K2 E :=
  ⟨fun e => (I.no e).same s, fun bs i e B yE f => (I.fw bs i e B yE f).same s, fun ds bs N => k ds bs (I.ok ds bs N)⟩
theorem ad1 (a b : Nat) : a ≠ a + b + 1 := by omega
theorem ad2 (a b : Nat) : b ≠ a + b + 1 := by omega
abbrev nRd : List Str := ["cls", "text", "digits", "at", "bases"]
theorem sc_rd : FnScope nRd ["cls", "text"] (defScope sNumeral_read) := ⟨rfl, rfl, rfl, by decide +kernel, rfl, by decide +kernel, by decide +kernel⟩
/-- what reading a thing gives: its NoText, or what is made of the digits and bases read -/
structure ReadD (C ZN ZT : Addr) (H : Hp) (x : PyData) (Q : VK) (E : XK) : Prop where
  no : tyD x ≠ "str" → Rai ZT (.int 0) H E
  er : ∀ z p, x = .str z → readP z.cps.toList = .error p → Rai ZT (.int (p : Nat)) H E
  ok : ∀ z ds bs, x = .str z → readP z.cps.toList = .ok (ds, bs) → InitD ZN H (.list (intsD ds)) (.list (intsD bs)) (fun ds bs => ∀ r H', Same H H' → H r = none → NumAt C H' r ds bs → Q (.ref r) H') E
def spRd (C ZN ZT : Addr) : Sp := fun vs H Q E => ∃ (v : V) (d : Addr) (x : PyData), vs = [.ref C, v] ∧ Dw d H v x ∧ (∀ z, x = .str z → z.length ≤ 1000) ∧ ReadD C ZN ZT H x Q E
section
variable {P : Program} {w : World} {K : PySem.W.Frag} {mg : Str → Option Value} {base : Heap}
theorem ok_rd {C f fi : Addr} {fd fdi : FuncData} {u4 : Value} (F : FunD K "read" "Numeral.read" (defArgs sNumeral_read) (defBody sNumeral_read) (defScope sNumeral_read) [] [] f fd) (CR : Cd P w K mg base (L2.CX P w) 3 "_read_numbers" ["text", "at", "most"] (spReadN (He.ga K "NoText"))) (R : RsX P w K mg base "NoText" "at")
    (CRD : ClX.CRead K C (.type "type")) (CV : ClX.CVal K C (.type "type") "PLACES" (.int 4) u4) (FI : FnOk P w K mg base (L2.CX P w) 5 fi fdi ["self", "digits", "bases"] (spInitD K C (He.ga K "NoNumeral"))) (M : Mk K C fi) (bI : Binds K fdi ["self", "digits", "bases"] [])
    (g_isi : mg "isinstance" = none) (g_str : mg "str" = none) (g_len : mg "len" = none) : FnOk P w K mg base (L2.CX P w) 7 f fd ["cls", "text"] (spRd C (He.ga K "NoNumeral") (He.ga K "NoText")) := by
  refine F.ok sc_rd (fun vs H Q E h => ?_) (fun cdv A outer s H vs Q E hr h => ?_)
  · obtain ⟨v, d, x, rfl, _⟩ := h
    rfl
  · obtain ⟨v, d, x, rfl, hv, hz, I⟩ := h
    have sc := sc_rd
    have r3 := hr.mono (show 3 ≤ 6 by decide)
    have r2 := hr.mono (show 2 ≤ 6 by decide)
    refine ⟨_, (pss_cons (ps_if (pt_not (pt_val (pe_callB call_isi (by rfl) g_isi boot_isinstance (pa_cons (pv 1) (pa_cons (pe_bltn (v := V.ty "str") (by rfl) g_str boot_str rfl) pa_nil))))) (pss_one (ps_raise rfl (takes_of rfl rfl rfl rfl) (pmk_rs R r2 (by rfl) pe_int (fun _ _ _ _ f q => f _ _ q)))) pss_nil)
      (pss_cons (ps_asg (pe_cd CR r3 (by rfl) (passes_call (takes_of rfl rfl rfl rfl) (fun _ _ _ _ h => h)) (pa_cons (pv 1) (pa_cons pe_int (pa_cons (ClX.pe_cval (pv 0)) pa_nil)))) (pg_tup rfl (pgs_cons (pg_name (i := 2) sc.nd rfl (Or.inl rfl)) (pgs_cons (pg_name (i := 3) sc.nd rfl (Or.inl rfl)) pgs_nil))))
      (pss_cons (ps_if (pt_cmpR op_ne (pe_slice sl_str (pv 1) (po_some (pv 3)) (po_some (pe_op op_add (pv 3) pe_int))) pe_str (nomark _)) (pss_one (ps_raise rfl (takes_of rfl rfl rfl rfl) (pmk_rs R r2 (by rfl) (pv 3) mono_var))) pss_nil)
      (pss_cons (ps_asg (pe_cd CR r3 (by rfl) (passes_call (takes_of rfl rfl rfl rfl) (fun _ _ _ _ h => h)) (pa_cons (pv 1) (pa_cons (pe_op op_add (pv 3) pe_int) (pa_cons (pe_callB call_len_seq (by rfl) g_len PySem.boot_len (pa_cons (pv 2) pa_nil)) pa_nil)))) (pg_tup rfl (pgs_cons (pg_name (i := 4) sc.nd rfl (Or.inl rfl)) (pgs_cons (pg_name (i := 3) sc.nd rfl (Or.inl rfl)) pgs_nil))))
      (pss_cons (ps_if (PW.pt (pw_or (pt_cmpR op_lt (pe_callB call_len_seq (by rfl) g_len PySem.boot_len (pa_cons (pv 4) pa_nil)) (pe_callB call_len_seq (by rfl) g_len PySem.boot_len (pa_cons (pv 2) pa_nil)) (nomark _)) (pw_or1 (pt_cmpR op_lt (pv 3) (pe_callB call_len (by rfl) g_len PySem.boot_len (pa_cons (pv 1) pa_nil)) (nomark _))))) (pss_one (ps_raise rfl (takes_of rfl rfl rfl rfl) (pmk_rs R r2 (by rfl) (pv 3) mono_var))) pss_nil)
      (pss_one (ps_ret (pe_makeL (i := 0) (E := E) M FI hr rfl (Or.inl rfl) bI (passes_call (takes_of rfl rfl rfl rfl) (fun _ _ _ _ h => h)) (pa_cons (pv 2) (pa_cons (pv 4) pa_nil))))))))))
      , ?_⟩
    refine ⟨_, rfl, _, _, _, _, _, rfl, .ty "str", (hv.dq (K := K)).ty, kit_ty (kit_str x), _, rfl, ?_⟩
    by_cases hs : tyD x = "str"
    case neg =>
      rw [decide_eq_false hs]
      refine iteT ?_
      exact fun dd H2 s2 nd hd => I.no hs dd H2 s2 hd
    rw [decide_eq_true hs]
    refine iteF ?_
    obtain ⟨z, rfl⟩ := is_str hs
    cases hv with
    | str _ =>
      have hz := hz z rfl
      have hL : z.length = z.cps.toList.length := (Array.length_toList).symm
      refine ⟨_, rfl, _, rfl, C, _, _, _, rfl, CRD, CV, z, 0, 4, rfl, by omega, hz, by decide, by decide, fun p hp => ?_, fun ds e he t1 L1 H1 s1 e1 l1 => ?_⟩
      · rw [List.drop_zero] at hp
        have hq : readP z.cps.toList = .error p := by unfold readP; rw [hp]
        have := I.er z p rfl hq
        rw [show ((0 + p : Nat) : Int) = (p : Nat) by omega]
        exact this
      · rw [List.drop_zero] at he
        have dl := readR_len _ _ _ _ he
        have bad : ∀ {H2 : Hp} {p : Nat}, Same H H2 → readP z.cps.toList = .error p → Rai (He.ga K "NoText") (.int (p : Nat)) H2 E := fun s e => (I.er z _ rfl e).same s
        rw [show (0 + e : Nat) = e by omega] at e1
        refine ⟨t1, _, rfl, Or.inl (Or.inl e1), rfl, _, _, rfl, _, _, rfl, rfl, ?_⟩
        refine ⟨_, rfl, _, rfl, _, rfl, _, rfl, _, _, rfl, rfl, _, rfl, z, rfl, by rw [sizeLine_eq]; omega, rfl, _, rfl, ?_⟩
        rw [cut1, s_slash, dec_str one_eq]
        by_cases h7 : (z.cps.toList.drop e).head? = some 47
        case neg =>
          rw [decide_eq_false h7]
          refine iteT ?_
          refine ⟨_, rfl, fun dd H2 s2 nd hd => bad (p := e) s1 ?_ dd H2 s2 hd⟩
          unfold readP
          rw [he]
          exact if_pos h7
        rw [decide_eq_true h7]
        refine iteF ?_
        have hlt : e < z.length := by
          rcases Nat.lt_or_ge e z.length with h | h
          · exact h
          · rw [List.drop_of_length_le (by omega)] at h7
            cases h7
        refine ⟨_, rfl, _, rfl, _, _, rfl, rfl, _, rfl, L1, _, rfl, .inl (SqL.of l1), z, e + 1, ds.length, by rw [List.length_map]; rfl, by omega, hz, by omega, by omega, fun p hp => ?_, fun bs e' he' t2 L2 H2 s2 e2 l2 => ?_⟩
        · rw [show ((e + 1 + p : Nat) : Int) = ((e + 1 + p : Nat) : Int) from rfl]
          refine bad s1 ?_
          unfold readP
          rw [he]
          show (if (z.cps.toList.drop e).head? ≠ some 47 then _ else _) = _
          rw [if_neg (fun h => h h7), hp]
        · have s12 := s1.trans s2
          have bl := readR_len _ _ _ _ he'
          refine ⟨t2, _, rfl, Or.inl (Or.inl e2), rfl, _, _, rfl, _, _, rfl, rfl, ?_⟩
          have l1' := s2 _ _ l1
          have hP : readP z.cps.toList = if bs.length < ds.length ∨ e + 1 + e' < z.cps.toList.length then .error (e + 1 + e') else .ok (ds, bs) := by
            unfold readP
            rw [he]
            show (if (z.cps.toList.drop e).head? ≠ some 47 then _ else _) = _
            rw [if_neg (fun h => h h7), he']
          refine ⟨_, rfl, L2, _, rfl, .inl (SqL.of l2), _, rfl, L1, _, rfl, .inl (SqL.of l1'), _, _, rfl, rfl, _, rfl, ?_⟩
          rw [List.length_map, List.length_map]
          by_cases hb : bs.length < ds.length
          · rw [decide_eq_true (by omega)]
            refine iteT ?_
            refine iteT ?_
            rw [if_pos (.inl hb)] at hP
            exact ⟨_, rfl, fun dd H3 s3 nd hd => bad s12 hP dd H3 s3 hd⟩
          · rw [decide_eq_false (by omega)]
            refine iteF ?_
            refine ⟨_, rfl, _, rfl, .str z, z.length, rfl, ⟨by rw [sizeLine_eq]; omega, rfl⟩, _, _, rfl, rfl, _, rfl, ?_⟩
            by_cases hl : e + 1 + e' < z.length
            · rw [decide_eq_true (by omega)]
              refine iteT ?_
              rw [if_pos (.inr (by omega))] at hP
              exact ⟨_, rfl, fun dd H3 s3 nd hd => bad s12 hP dd H3 s3 hd⟩
            · rw [decide_eq_false (by omega)]
              refine iteF ?_
              rw [if_neg (fun z => z.elim hb (fun z => hl (by omega)))] at hP
              have I2 := I.ok z ds bs rfl hP
              refine ⟨rfl, _, rfl, _, rfl, ?_⟩
              exact make_numW (d := L1 + L2 + 1) (.lst (.inl l1') (ad1 _ _) dw_ints) (.lst (.inl l2) (ad2 _ _) dw_ints) (InitD.same s12 I2 fun ds bs k r H' s nr nm => k r H' (s12.trans s) (Same.free s12 nr) nm)
end
end K06

set_option Elab.async false
set_option linter.all false
set_option maxRecDepth 100000
set_option maxHeartbeats 4000000
namespace K06
open PySem PySem.Spec PyProof.Rows L2 Ru
def tS (z : Int) : Str := Str.ofString (toString z)
def tL (z : Int) : List Nat := (tS z).cps.toList
def txB (z : Int) : Bool := decide (tL z ≠ []) && decide ((tL z).length ≤ 3) && (tL z).all fig && (decide ((tL z).head? ≠ some 48) || decide (tL z = [48])) && decide (intOf (tL z) = z)
theorem tx_all : (List.range 101).all (fun n => txB (n : Nat)) = true := by decide +kernel
theorem tx {z : Int} (h0 : 0 ≤ z) (h1 : z ≤ 100) : tL z ≠ [] ∧ (tL z).length ≤ 3 ∧ (∀ c ∈ tL z, fig c = true) ∧ ((tL z).head? ≠ some 48 ∨ tL z = [48]) ∧ intOf (tL z) = z := by
  obtain ⟨n, rfl⟩ := Int.eq_ofNat_of_zero_le h0
  have h := List.all_eq_true.mp tx_all n (List.mem_range.mpr (by omega))
  unfold txB at h
  simp only [Bool.and_eq_true, Bool.or_eq_true, decide_eq_true_eq, List.all_eq_true] at h
  exact ⟨h.1.1.1.1, h.1.1.1.2, h.1.1.2, h.1.2, h.2⟩
def dotL : List Int → List Nat
  | [] => []
  | [z] => tL z
  | z :: zs => tL z ++ 46 :: dotL zs
def dotS (zs : List Int) : Str := Txt.join "." (zs.map tS)
theorem cps_app (x y : Str) : (x ++ y).cps.toList = x.cps.toList ++ y.cps.toList := by
  have e : (x ++ y).cps = x.cps ++ y.cps := rfl
  rw [e, Array.toList_append]
theorem str_ext {x y : Str} (h : x.cps.toList = y.cps.toList) : x = y := by
  cases x with
  | mk a =>
    cases y with
    | mk b =>
      have : a = b := by
        have := congrArg List.toArray h
        simpa using this
      rw [this]
theorem dot_cps : ∀ zs : List Int, (dotS zs).cps.toList = dotL zs
  | [] => by
    show (Txt.join "." []).cps.toList = []
    decide +kernel
  | [z] => by
    show (Builtin.Str.glued "." [tS z]).cps.toList = tL z
    rw [StrLaws.glued_eq_join]
    rfl
  | z :: z2 :: zs => by
    have ih := dot_cps (z2 :: zs)
    show (Builtin.Str.glued "." (tS z :: tS z2 :: zs.map tS)).cps.toList = tL z ++ 46 :: dotL (z2 :: zs)
    have ih' : (Builtin.Str.glued "." (tS z2 :: zs.map tS)).cps.toList = dotL (z2 :: zs) := ih
    rw [StrLaws.glued_eq_join] at ih' ⊢
    show (tS z ++ "." ++ Str.join "." (tS z2 :: zs.map tS)).cps.toList = _
    rw [cps_app, cps_app, ih', s_dot, List.append_assoc]
    rfl
theorem dot_len : ∀ {zs : List Int}, (∀ z ∈ zs, 0 ≤ z ∧ z ≤ 100) → (dotL zs).length ≤ 4 * zs.length
  | [], _ => by simp [dotL]
  | [z], h => by
    have := (tx (h z (by simp)).1 (h z (by simp)).2).2.1
    simp [dotL]
    omega
  | z :: z2 :: zs, h => by
    have h1 := (tx (h z (by simp)).1 (h z (by simp)).2).2.1
    have h2 := dot_len (zs := z2 :: zs) (fun y hy => h y (List.mem_cons_of_mem _ hy))
    show (tL z ++ 46 :: dotL (z2 :: zs)).length ≤ _
    rw [List.length_append, List.length_cons]
    simp at h2 ⊢
    omega
theorem run_app : ∀ (k : Nat) (t rest : List Nat), (∀ c ∈ t, fig c = true) → t.length ≤ k → (∀ c, rest.head? = some c → fig c = false) → run k (t ++ rest) = t.length
  | 0, t, rest, _, h, _ => by
    have : t = [] := List.eq_nil_of_length_eq_zero (by omega)
    subst this
    simp [run]
  | k + 1, [], rest, _, _, hr => by
    cases rest with
    | nil => simp [run]
    | cons c rest =>
      rw [List.nil_append, run, if_neg (by rw [hr c rfl]; decide)]
      rfl
  | k + 1, c :: t, rest, hf, h, hr => by
    rw [List.cons_append, run, if_pos (hf c (by simp)), run_app k t rest (fun x hx => hf x (List.mem_cons_of_mem _ hx)) (by simpa using h) hr]
    rfl
theorem num_app {z : Int} {rest : List Nat} (h0 : 0 ≤ z) (h1 : z ≤ 100) (hr : ∀ c, rest.head? = some c → fig c = false) : num (tL z ++ rest) = (tL z).length ∧ (tL z ++ rest).take (tL z).length = tL z ∧ (tL z ++ rest).drop (tL z).length = rest ∧ (tL z).length ≠ 0 ∧ intOf (tL z) = z := by
  obtain ⟨e1, e2, e3, e4, e5⟩ := tx h0 h1
  refine ⟨?_, List.take_left, List.drop_left, fun z => e1 (List.eq_nil_of_length_eq_zero z), e5⟩
  rcases e4 with e | e
  · rw [num_run, run_app 3 _ _ e3 e2 hr]
    cases ht : tL z with
    | nil => exact absurd ht e1
    | cons c t =>
      rw [ht] at e
      exact e
  · rw [e]
    exact num_zero rest
theorem readR_dot : ∀ (zs : List Int) (m : Nat) (rest : List Nat), (∀ z ∈ zs, 0 ≤ z ∧ z ≤ 100) → 1 ≤ zs.length → zs.length ≤ m → (∀ c, rest.head? = some c → fig c = false) → (zs.length = m ∨ rest.head? ≠ some 46) → readR m (dotL zs ++ rest) = .ok (zs, (dotL zs).length)
  | [], m, rest, _, h, _, _, _ => by simp at h
  | [z], 0, rest, _, _, h, _, _ => by simp at h
  | [z], m + 1, rest, hz, _, hm, hr, h6 => by
    obtain ⟨n1, n2, n3, n4, n5⟩ := num_app (hz z (by simp)).1 (hz z (by simp)).2 hr
    show readR (m + 1) (tL z ++ rest) = .ok ([z], (tL z).length)
    rw [readR, n1, n2, n3, n5, if_neg n4, if_pos]
    rcases h6 with h | h
    · left
      simp at h
      omega
    · exact .inr h
  | z :: z2 :: zs, 0, rest, _, _, h, _, _ => by simp at h
  | z :: z2 :: zs, m + 1, rest, hz, _, hm, hr, h6 => by
    have hr2 : ∀ c, (46 :: dotL (z2 :: zs) ++ rest).head? = some c → fig c = false := fun c e => by
      have : 46 = c := by injection e
      rw [← this]
      decide
    obtain ⟨n1, n2, n3, n4, n5⟩ := num_app (hz z (by simp)).1 (hz z (by simp)).2 hr2
    show readR (m + 1) (tL z ++ 46 :: dotL (z2 :: zs) ++ rest) = .ok (z :: z2 :: zs, (tL z ++ 46 :: dotL (z2 :: zs)).length)
    rw [List.append_assoc, readR, n1, n2, n5, if_neg n4]
    have e : (tL z ++ (46 :: dotL (z2 :: zs) ++ rest)).drop ((tL z).length + 1) = dotL (z2 :: zs) ++ rest := by
      rw [← List.drop_drop, n3]
      rfl
    rw [n3, e, if_neg (fun h => h.elim (fun h => by simp at hm; omega) (fun h => h rfl)),
      readR_dot (z2 :: zs) m rest (fun y hy => hz y (List.mem_cons_of_mem _ hy)) (by simp) (by simp at hm ⊢; omega) hr (h6.imp (fun h => by simp at h ⊢; omega) id)]
    show Except.ok _ = Except.ok _
    congr 2
    rw [List.length_append, List.length_cons]
    omega
def faceS (ds bs : List Int) : Str := dotS ds ++ "/" ++ dotS bs
theorem face_cps (ds bs : List Int) : (faceS ds bs).cps.toList = dotL ds ++ 47 :: dotL bs := by
  unfold faceS
  rw [cps_app, cps_app, dot_cps, dot_cps, s_slash, List.append_assoc]
  rfl
theorem read_face {ds bs : List Int} (B : Bss bs) (D : Dgs ds bs) : readP (faceS ds bs).cps.toList = .ok (ds, bs) := by
  have hl := D.len
  have hb : ∀ z ∈ bs, 0 ≤ z ∧ z ≤ 100 := fun z hz => by
    have := B.2.2 z hz
    omega
  have hd : ∀ z ∈ ds, 0 ≤ z ∧ z ≤ 100 := fun z hz => by
    obtain ⟨i, hi, e⟩ := List.mem_iff_getElem.mp hz
    have j2 : bs[i]? = some bs[i] := List.getElem?_eq_getElem (by omega)
    obtain ⟨c1, c2⟩ := D.at (List.getElem?_eq_getElem hi) j2
    have c3 := (B.2.2 _ (List.mem_of_getElem? j2)).2
    omega
  have h1 := B.1
  have h4 := B.2.1
  rw [face_cps]
  unfold readP
  have hr : ∀ c, (47 :: dotL bs).head? = some c → fig c = false := fun c e => by
    have e : 47 = c := by injection e
    rw [← e]
    decide
  rw [readR_dot ds 4 (47 :: dotL bs) hd (by omega) (by omega) hr (.inr (by show some 47 ≠ some 46; decide))]
  show (if ((dotL ds ++ 47 :: dotL bs).drop (dotL ds).length).head? ≠ some 47 then _ else _) = _
  rw [List.drop_left, if_neg (by simp)]
  have e : (dotL ds ++ 47 :: dotL bs).drop ((dotL ds).length + 1) = dotL bs := by
    rw [← List.drop_drop, List.drop_left]
    rfl
  have r2 := readR_dot bs ds.length [] hb (by omega) (by omega) (fun c e => by cases e) (.inl hl.symm)
  rw [List.append_nil] at r2
  rw [e, r2]
  show (if bs.length < ds.length ∨ (dotL ds).length + 1 + (dotL bs).length < (dotL ds ++ 47 :: dotL bs).length then _ else _) = _
  rw [if_neg]
  rw [List.length_append, List.length_cons]
  omega
end K06

set_option Elab.async false
set_option linter.all false
set_option maxRecDepth 100000
set_option maxHeartbeats 4000000
namespace Ru
open PySem PySem.Spec PyProof.Rows L2
/-! ### enumerate(z), a text -/
def ItES (z : Str) : It := ⟨fun i _ => i < z.cps.size, YPair (fun i => some (.int (i : Nat))) (fun i => (z.cps[i]?).map fun c => V.str ⟨#[c]⟩), fun i _ => i = z.cps.size⟩
theorem walk_enumS {z : Str} : Walk (ItES z) z.cps.size (fun _ => True) (YPair (fun i => some (.int (i : Nat))) (fun i => (z.cps[i]?).map fun c => V.str ⟨#[c]⟩)) :=
  ⟨fun _ _ h _ => h, fun _ _ => rfl, fun _ _ _ _ _ _ y => y⟩
section
variable {P : Program} {w : World} {K : PySem.W.Frag} {elts : List Expr} {kk : Nat} {tpos : Pos}
theorem strIter_cell {h : Heap} {it : Addr} {ty : String} {x : Str} {t : Tok} {i : Nat} (r : h.IsStrIter it ty x t i) : ∃ o, h.get? it = some o ∧ ∀ v, o.data ≠ .cell v := by
  obtain ⟨o, e, _, d⟩ := r
  exact ⟨o, e, fun v q => by rw [d] at q; cases q⟩
theorem turn_enumS {z : Str} {t : Tok} {e it : Addr} (ne : e ≠ it) :
    Turn P w K (.Tuple elts kk tpos) (ItES z) [e, it] e (fun i h => (∃ old, IsEnum h e it (0 + (i : Int)) old) ∧ h.IsStrIter it (strIterType z) z t i) where
  mem := List.mem_cons_self
  obj := fun i h st c hb => by
    obtain ⟨⟨old, he⟩, h1⟩ := st
    rcases List.mem_cons.mp hb with q | hb
    · exact q ▸ ⟨_, he, fun v q => nomatch q⟩
    · exact List.mem_singleton.mp hb ▸ strIter_cell h1
  keep := fun i h h' st k => by
    obtain ⟨⟨old, he⟩, o, e1, c1, d1⟩ := st
    exact ⟨⟨old, k e (by simp) _ he⟩, o, k it (by simp) _ e1, c1, d1⟩
  item := by
    intro X eP ew eK hc i pins s σ H E I hf st hg
    subst eP ew eK
    obtain ⟨he, h1⟩ := st
    have hi : i < z.cps.size := hg
    have hh : X.A.in1.handled = none := I.ok.hd hc
    refine (GoesN.enumFrom (elts := elts) (x1 := kk) (pos := tpos) (A := X.A) 0 (Draws.text hh it z t) e ne (by simp [ne]) (by simp)).goes i s (fun u s2 => ∃ x H', Inv X pins σ H' s2 ∧ RelV x u ∧ YPair (fun i => some (.int (i : Nat))) (fun i => (z.cps[i]?).map fun c => V.str ⟨#[c]⟩) i H x H' ∧
      ((∃ old, IsEnum s2.heap e it (0 + ((i + 1 : Nat) : Int)) old) ∧ s2.heap.IsStrIter it (strIterType z) z t (i + 1)) ∧ ∀ c ∈ [e, it], H' c = none) E
      hi ⟨he, h1⟩ fun v h' tk hY st' hk _ => ?_
    obtain ⟨T, t2, u, rfl, hT, hu, pT⟩ := hY
    obtain ⟨e', h1'⟩ := st'
    obtain ⟨c, u', ec, rfl⟩ := hu
    rw [show (0 : Int) + (i : Int) = ((i : Nat) : Int) by omega] at pT
    refine ⟨.ref T, _, pair_in I (ch := [e, it]) hk hf hT (x := .int (i : Nat)) (y := .str ⟨#[c]⟩) ⟨t2, rfl⟩ ⟨u', rfl⟩ pT, rfl, ⟨T, _, _, rfl, I.hok.fresh hT, rfl, rfl, by show Option.map _ z.cps[i]? = _; rw [ec]; rfl⟩, ⟨e', h1'⟩, fun c hb => ?_⟩
    have lt : c < s.heap.objs.size := by
      obtain ⟨old, he⟩ := he
      obtain ⟨o1, e1, _⟩ := strIter_cell h1
      simp only [List.mem_cons, List.not_mem_nil, or_false] at hb
      rcases hb with m | m
      · exact m ▸ Heap.lt_size he
      · exact m ▸ Heap.lt_size e1
    rw [upd_ne (Nat.ne_of_lt (Nat.lt_of_lt_of_le lt hT))]
    exact (hf c hb).1
  done := by
    intro X eP ew eK hc i pins s σ H E I hf st hg
    subst eP ew eK
    obtain ⟨he, h1⟩ := st
    have hi : i = z.cps.size := hg
    have hh : X.A.in1.handled = none := I.ok.hd hc
    subst hi
    exact (GoesN.enumFrom (elts := elts) (x1 := kk) (pos := tpos) (A := X.A) 0 (Draws.text hh it z t) e ne (by simp [ne]) (by simp)).stops s (fun s2 => Inv X pins σ H s2) E ⟨he, h1⟩ fun h' tk hk _ => I.turnedL (ch := [e, it]) hk hf
  self := fun A i s Q E st h => let ⟨⟨_, he⟩, _⟩ := st; wpAny_pyIter_enum he h
end
section
variable {X : Cx} {e : Expr} {ta : TA} {p pos tpos : Pos} {elts : List Expr} {kk : Nat}
def iEnumS (ta : TA) : TI := fun σ H R => ta σ H fun vs H1 => ∃ z : Str, vs = [.str z] ∧ R (ItES z) H1
theorem pi_enumS (hg : Gl X "enumerate") (hm : X.mg "enumerate" = none) (ha : PA X [e] ta) (hs : starEach [e] X.env = [(false, eval e X.env)] := by rfl) : PI X (.Tuple elts kk tpos) (.Call (.Name "enumerate" p) [e] [] pos) (iEnumS ta) := by
  refine ⟨fun pins s σ H R I h => Call_ (ld_blt I hg hm boot_enumerate (PyProof.Rows.callWith_type1 (thn (ha.run pos pins s σ H _ I h) fun us s1 hh => ?_) hs rfl))⟩
  obtain ⟨vs, H1, I1, r, z, ev, q⟩ := hh
  subst ev
  obtain ⟨u, rfl, ra⟩ := r.one
  obtain ⟨t, rfl⟩ := ra
  refine enum_beginsA (begins_text z t) trivial fun h' he g1 hk => wpAny_pyIter_enum he ?_
  have I2 : Inv X pins σ H1 { s1 with heap := h' } := I1.kept (t' := s1.toks) hk
  refine ⟨s1.heap.objs.size + 1, [s1.heap.objs.size + 1, s1.heap.objs.size], _, _, H1, rfl, I2, turn_enumS (t := t) (Nat.succ_ne_self _), ⟨⟨_, he⟩, ⟨_, g1, rfl, rfl⟩⟩, fun c hb => ?_, q⟩
  have f0 := fresh_at (H' := H1) I1 0
  simp only [List.mem_cons, List.not_mem_nil, or_false] at hb
  rcases hb with m | m
  · exact m ▸ fresh_at (H' := H1) I1 1
  · exact m ▸ f0
end
end Ru

set_option Elab.async false
set_option linter.all false
set_option maxRecDepth 100000
set_option maxHeartbeats 4000000
namespace K06
open PySem PySem.Spec PyProof.Rows L2 Ru
def Sml (zs : List Int) : Prop := zs.length ≤ 4 ∧ ∀ z ∈ zs, 0 ≤ z ∧ z ≤ 100
theorem sml_bss {bs : List Int} (B : Bss bs) : Sml bs := ⟨B.2.1, fun z hz => by have := B.2.2 z hz; omega⟩
theorem sml_dgs {ds bs : List Int} (B : Bss bs) (D : Dgs ds bs) : Sml ds := by
  have hl := D.len
  refine ⟨by have := B.2.1; omega, fun z hz => ?_⟩
  obtain ⟨i, hi, e⟩ := List.mem_iff_getElem.mp hz
  have j2 : bs[i]? = some bs[i] := List.getElem?_eq_getElem (by omega)
  obtain ⟨c1, c2⟩ := D.at (List.getElem?_eq_getElem hi) j2
  have c3 := (B.2.2 _ (List.mem_of_getElem? j2)).2
  omega
theorem dotS_len {zs : List Int} (h : Sml zs) : (dotS zs).length ≤ 16 := by
  have e : (dotS zs).length = (dotS zs).cps.toList.length := (Array.length_toList).symm
  have := dot_len h.2
  have := h.1
  rw [e, dot_cps]
  omega
theorem join_room {zs : List Int} (h : Sml zs) : ((zs.map tS).map (·.length)).sum + (zs.map tS).length * ("." : Str).length ≤ 16777216 := by
  have one : ∀ xs : List Int, (∀ z ∈ xs, 0 ≤ z ∧ z ≤ 100) → ((xs.map tS).map (·.length)).sum ≤ 3 * xs.length := by
    intro xs
    induction xs with
    | nil => intro _; simp
    | cons x xs ih =>
      intro hx
      have h1 := (tx (hx x (by simp)).1 (hx x (by simp)).2).2.1
      have h2 := ih fun y hy => hx y (List.mem_cons_of_mem _ hy)
      have e : (tS x).length = (tL x).length := (Array.length_toList).symm
      simp at h2 ⊢
      omega
  have h1 := one zs h.2
  have h2 := h.1
  have h3 : ("." : Str).length = 1 := by decide +kernel
  rw [h3, List.length_map]
  omega
abbrev nDot : List Str := ["numbers", "number"]
theorem sc_dot : FnScope nDot ["numbers"] (defScope sDotted) := ⟨rfl, rfl, rfl, by decide +kernel, rfl, by decide +kernel, by decide +kernel⟩
theorem sc_str : FnScope ["self"] ["self"] (defScope sNumeral_str) := ⟨rfl, rfl, rfl, by decide +kernel, rfl, by decide +kernel, by decide +kernel⟩
def spDot (K : PySem.W.Frag) : Sp := fun vs H Q _ => ∃ (p : Addr) (zs : List Int), vs = [.ref p] ∧ Rd H p (.tup (zs.map V.int)) ∧ Sml zs ∧ ∀ H', Same H H' → Q (.str (dotS zs)) H'
def spStr (C : Addr) : Sp := fun vs H Q _ => ∃ (a : Addr) (ds bs : List Int), vs = [.ref a] ∧ NumAt C H a ds bs ∧ Bss bs ∧ Dgs ds bs ∧ ∀ H', Same H H' → Q (.str (faceS ds bs)) H'
theorem empty_app (x : Str) : Str.empty ++ x = x := by
  refine str_ext ?_
  rw [cps_app]
  rfl
abbrev nFace : List Str := ["_law_numeral_here", "_law_front", "_law_number"]
theorem sc_face : FnScope nFace ["_law_numeral_here"] (defScope sLFace) := ⟨rfl, rfl, rfl, by decide +kernel, rfl, by decide +kernel, by decide +kernel⟩
section
variable {P : Program} {w : World} {K : PySem.W.Frag} {mg : Str → Option Value} {base : Heap}
theorem ok_dot {f : Addr} {fd : FuncData} (F : FunD K "_dotted" "_dotted" (defArgs sDotted) (defBody sDotted) (defScope sDotted) [] [] f fd) (g_str : mg "str" = none) : FnOk P w K mg base CX0 1 f fd ["numbers"] (spDot K) := by
  refine F.ok sc_dot (fun vs H Q E h => ?_) (fun cdv A outer s H vs Q E hr h => ?_)
  · obtain ⟨p, zs, rfl, _⟩ := h
    rfl
  · obtain ⟨p, zs, rfl, hp, hz, q⟩ := h
    have sc := sc_dot
    refine ⟨_, PSs.nox (pss_one (ps_ret (pe_join pe_str (pe_lc (own := [("number", 1)]) (g := gName 1) (tt := tYes) rfl sc.nd (pi_tup (pv 0)) (blkOk_by (N := nDot) (sc := defScope sDotted) (by decide +kernel))
      (fun _ _ _ _ _ => pg_name (i := 1) sc.nd rfl (Or.inl rfl)) (fun _ _ _ _ _ => pts_nil) (fun _ _ _ _ _ => pe_callTy call_str_int (by rfl) g_str boot_str (pa_cons (pv 1) pa_nil)))))), ?_⟩
    refine ⟨⟨_, rfl⟩, _, rfl, p, rfl, ⟨_, .inl hp⟩, fun D hD => lc_tup (xs := zs.map V.int) (fun i H' => Same H H' ∧ H' D = some (.lst (((zs.take i).map tS).map V.str)) ∧ H D = none) ⟨upd_new hD, upd_same, hD⟩ (fun i H' _ g => .inl (Same.rd g.1 hp)) ?_ ?_⟩
    · rintro i y H' hy ⟨s1, e1, nD⟩
      rw [List.getElem?_map] at hy
      obtain ⟨z, ez, rfl⟩ := Option.map_eq_some_iff.mp hy
      obtain ⟨z0, z1⟩ := hz.2 z (List.mem_of_getElem? ez)
      refine ⟨rfl, yesT ?_⟩
      refine yes_ ⟨_, rfl, z, rfl, by have := log2_small z0 (show z ≤ 100 ^ 4 by omega); omega, ?_⟩
      have hl := hz.1
      refine ⟨_, e1, by rw [List.length_map, List.length_map, List.length_take, sizeLine_eq]; omega, fill_next nD s1, ?_, nD⟩
      rw [upd_same, List.take_succ, ez, List.map_append, List.map_append]
      rfl
    · rintro H' ⟨s1, e1, nD⟩
      rw [List.length_map, List.take_length] at e1
      exact ⟨_, D, zs.map tS, rfl, rfl, .inl (SqL.of e1), join_room hz, q H' s1⟩
theorem ok_str {C f : Addr} {fd : FuncData} (F : FunD K "__str__" "Numeral.__str__" (defArgs sNumeral_str) (defBody sNumeral_str) (defScope sNumeral_str) [] [] f fd) (N : NumK K mg C) (CD : Cd P w K mg base CX0 1 "_dotted" ["numbers"] (spDot K)) : FnOk P w K mg base CX0 2 f fd ["self"] (spStr C) := by
  refine F.ok sc_str (fun vs H Q E h => ?_) (fun cdv A outer s H vs Q E hr h => ?_)
  · obtain ⟨a, ds, bs, rfl, _⟩ := h
    rfl
  · obtain ⟨a, ds, bs, rfl, h1, B, D, q⟩ := h
    obtain ⟨dx, da, ba, a1, a2, a3⟩ := h1
    refine ⟨_, PSs.nox (pss_one (ps_ret (pe_joined (.cons (pe_fmt (pe_cd CD hr (by rfl) pass0 (pa_cons (pe_fld (pv 0) rfl) pa_nil))) (.cons pe_str (.cons (pe_fmt (pe_cd CD hr (by rfl) pass0 (pa_cons (pe_fld (pv 0) rfl) pa_nil))) .nil)))))), ?_⟩
    have l1 := dotS_len (sml_dgs B D)
    have l2 := dotS_len (sml_bss B)
    have ls : ("/" : Str).length = 1 := by decide +kernel
    have la : ∀ x y : Str, (x ++ y).length = x.length + y.length := fun x y => by
      show (x.cps ++ y.cps).size = _
      rw [Array.size_append]
      rfl
    refine ⟨_, rfl, a, C, dx, _, _, rfl, a1, N.cl, N.nD, rfl, da, ds, rfl, a2, sml_dgs B D, fun H1 s1 => .inl ⟨_, rfl, by rw [sizeLine_eq]; omega, ?_⟩⟩
    refine ⟨_, rfl, by rw [empty_app, sizeLine_eq]; omega, ?_⟩
    refine ⟨_, rfl, by rw [la, empty_app, ls, sizeLine_eq]; omega, ?_⟩
    refine ⟨_, rfl, a, C, dx, _, _, rfl, s1 _ _ a1, N.cl, N.nB, rfl, ba, bs, rfl, Same.rd s1 a3, sml_bss B, fun H2 s2 => .inl ⟨_, rfl, by rw [sizeLine_eq]; omega, ?_⟩⟩
    refine ⟨_, rfl, by rw [la, la, empty_app, ls, sizeLine_eq]; omega, ?_⟩
    rw [empty_app]
    exact q H2 (s1.trans s2)
end
end K06

set_option Elab.async false
set_option linter.all false
set_option maxRecDepth 100000
set_option maxHeartbeats 4000000
namespace K06
open PySem PySem.Spec PyProof.Rows L2 Ru
theorem sc_pick : FnScope ["_law_pen_here", "_law_some"] ["_law_pen_here", "_law_some"] (defScope sLPick) := ⟨rfl, rfl, rfl, by decide +kernel, rfl, by decide +kernel, by decide +kernel⟩
/-- a drawn item -/
def spPickL (K : PySem.W.Frag) : Sp := fun vs H Q _ => ∃ (d l p : Addr) (cells : List Int) (a r : Int) (xs : List V), vs = [.ref d, .ref p] ∧ PenL H d l cells a r ∧ a ≤ 100000 ∧ p ≠ d ∧ SqL K H p xs ∧ 0 < xs.length ∧ xs.length ≤ 1000 ∧
  ∀ (j : Nat) (v : V) (a' r' : Int) (H' : Hp), xs[j]? = some v → a' ≤ a + 1 → Bt d H H' → PenL H' d l cells a' r' → Q v H'
abbrev nNum : List Str := ["_law_pen_here", "_law_bases", "_law_at", "_law_base"]
theorem sc_num : FnScope nNum ["_law_pen_here"] (defScope sLNumeral) := ⟨rfl, rfl, rfl, by decide +kernel, rfl, by decide +kernel, by decide +kernel⟩
def spNumL (C : Addr) : Sp := fun vs H Q _ => ∃ (d l : Addr) (cells : List Int) (a r : Int), vs = [.ref d] ∧ PenL H d l cells a r ∧ a ≤ 99900 ∧
  ∀ (n : Addr) (ds bs : List Int) (a' r' : Int) (H' : Hp), Bt d H H' → PenL H' d l cells a' r' → a' ≤ a + 18 → NumAt C H' n ds bs → Bss bs → Dgs ds bs → Q (.ref n) H'
section
variable {P : Program} {w : World} {K : PySem.W.Frag} {mg : Str → Option Value} {base : Heap}
theorem ok_pick {f : Addr} {fd : FuncData} (F : FunD K "_law_pick" "_law_pick" (defArgs sLPick) (defBody sLPick) (defScope sLPick) [] [] f fd) (CT : Cd P w K mg base CX0 1 "_law_take" ["_law_pen_here", "_law_limit"] spTakeL) (g_len : mg "len" = none) :
    FnOk P w K mg base CX0 2 f fd ["_law_pen_here", "_law_some"] (spPickL K) := by
  refine F.ok sc_pick (fun vs H Q E h => ?_) (fun cdv A outer s H vs Q E hr h => ?_)
  · obtain ⟨d, l, p, cells, a, r, xs, rfl, _⟩ := h
    rfl
  · obtain ⟨d, l, p, cells, a, r, xs, rfl, PA, ha, hpd, hS, h0, h1, k⟩ := h
    refine ⟨_, PSs.nox (pss_one (ps_ret (pe_ix ix_list (pv 1) (pe_cd CT hr (by rfl) pass0 (pa_cons (pv 0) (pa_cons (pe_callB call_len_seq (by rfl) g_len PySem.boot_len (pa_cons (pv 1) pa_nil)) pa_nil))) (fun _ _ => rfl)))), ?_⟩
    refine ⟨_, rfl, _, rfl, _, rfl, p, _, rfl, .inl hS, d, l, cells, a, r, _, rfl, PA, ha, by omega, by omega, fun z a' r' H' z0 z1 h2 bt P' => ?_⟩
    obtain ⟨n, hn⟩ := Int.eq_ofNat_of_zero_le z0
    have hlt : n < xs.length := by omega
    exact ⟨p, xs, _, xs[n], rfl, rfl, bt.seq hpd hS, at_of hn (List.getElem?_eq_getElem hlt), k n _ a' r' H' (List.getElem?_eq_getElem hlt) h2 bt P'⟩
theorem ok_num {C f : Addr} {fd : FuncData} (F : FunD K "_law_numeral" "_law_numeral" (defArgs sLNumeral) (defBody sLNumeral) (defScope sLNumeral) [] [] f fd) (CT : Cd P w K mg base CX0 1 "_law_take" ["_law_pen_here", "_law_limit"] spTakeL)
    (CP : Cd P w K mg base CX0 2 "_law_pick" ["_law_pen_here", "_law_some"] (spPickL K)) (CN : CdC P w K mg base (L2.CX P w) 5 "Numeral" C ["self", "digits", "bases"] (spInitD K C (He.ga K "NoNumeral"))) (g_range : mg "range" = none) : FnOk P w K mg base CX0 7 f fd ["_law_pen_here"] (spNumL C) := by
  refine F.ok sc_num (fun vs H Q E h => ?_) (fun cdv A outer s H vs Q E hr h => ?_)
  · obtain ⟨d, l, cells, a, r, rfl, _⟩ := h
    rfl
  · obtain ⟨d, l, cells, a, r, rfl, PA, ha, k⟩ := h
    have sc := sc_num
    have r1 := hr.mono (show 1 ≤ 6 by decide)
    have r2 := hr.mono (show 2 ≤ 6 by decide)
    refine ⟨_, PSs.nox (pss_cons (ps_setLc (i := 1) (own := [("_law_at", 2)]) (g := gName 2) (tt := tYes) rfl sc.nd rfl rfl (sw_true rfl rfl rfl (by decide +kernel)) (pi_range1 rfl g_range (pa_cons (pe_op op_add pe_int (pe_cd CT r1 (by rfl) pass0 (pa_cons (pv 0) (pa_cons pe_int pa_nil)))) pa_nil)) (blkOk_by (N := nNum) (sc := defScope sLNumeral) (by decide +kernel))
          (fun _ _ _ _ _ => pg_name (i := 2) sc.nd rfl (Or.inl rfl)) (fun _ _ _ _ _ => pts_nil) (fun _ _ _ _ _ => (pe_cd CP r2 (by rfl) pass0 (pa_cons (pv 0) (pa_cons (pe_lst (pa_cons pe_int (pa_cons pe_int (pa_cons pe_int (pa_cons (pe_op op_add pe_int (pe_cd CT r1 (by rfl) pass0 (pa_cons (pv 0) (pa_cons pe_int pa_nil)))) pa_nil))))) pa_nil)))))
      (pss_one (ps_ret (pe_cc (E := E0) CN hr (by rfl) passN (pa_cons (pe_lc (own := [("_law_base", 3)]) (g := gName 3) (tt := tYes) rfl sc.nd (pi_list (pv 1)) (blkOk_by (N := nNum) (sc := defScope sLNumeral) (by decide +kernel))
          (fun _ _ _ _ _ => pg_name (i := 3) sc.nd rfl (Or.inl rfl)) (fun _ _ _ _ _ => pts_nil)
          (fun _ _ _ _ _ => (pe_cd CP r2 (by rfl) pass0 (pa_cons (pv 0) (pa_cons (pe_lst (pa_cons pe_int (pa_cons (pe_op op_sub (pv 3) pe_int) (pa_cons (pe_cd CT r1 (by rfl) pass0 (pa_cons (pv 0) (pa_cons (pv 3) pa_nil))) pa_nil)))) pa_nil))))) (pa_cons (pv 1) pa_nil)))))), ?_⟩
    refine ⟨_, rfl, d, l, cells, a, r, 4, rfl, PA, by omega, by decide, by decide, fun z b3 q3 H3 z0 z1 l3 t03 P3 => ?_⟩
    refine ⟨_, _, rfl, rfl, _, rfl, by omega, by omega, fun D hD => ?_⟩
    have nDd : D ≠ d := (ne_of_none P3.dk hD).symm
    have nDl : D ≠ l := (ne_of_none P3.cl hD).symm
    have hn : (1 + z).toNat ≤ 4 ∧ 1 ≤ (1 + z).toNat := by omega
    generalize (1 + z).toNat = n at hn
    refine lc_it walk_range (fun j H' => ∃ (zs : List Int) (b' r' : Int), zs.length = j ∧ (∀ y ∈ zs, 2 ≤ y ∧ y ≤ 100) ∧ Bt d H H' ∧ PenL H' d l cells b' r' ∧ b' ≤ a + 1 + 2 * (j : Int) ∧ H' D = some (.lst (zs.map V.int))) ?_ (fun _ _ _ _ => trivial) ?_ ?_
    · exact ⟨[], b3, q3, rfl, fun y hy => (List.not_mem_nil hy).elim, t03.same (upd_new hD), P3.same (upd_new hD), by omega, upd_same⟩
    · rintro j v H4 H5 hj ⟨zs, b4, q4, e4, hz, t4, P4, l4, h4⟩ ⟨rfl, rfl⟩
      refine ⟨rfl, yesT ?_⟩
      refine yes_ ⟨_, rfl, _, rfl, d, l, cells, b4, q4, 99, rfl, P4, by omega, by decide, by decide, fun x b5 q5 H6 x0 x1 l6 t6 P6 => ?_⟩
      refine ⟨_, _, rfl, rfl, by show 4 ≤ sizeLine; decide, fun p hp => ?_⟩
      refine ⟨d, l, p, cells, b5, q5, _, rfl, P6.same (upd_new hp), by omega, (ne_of_none P6.dk hp).symm, SqL.of upd_same, by show 0 < 4; decide, by show 4 ≤ 1000; decide, fun i v b7 q7 H7 hi l7 t7 P7 => ?_⟩
      have t07 := (t4.trans t6).trans ((Bt.of (upd_new hp)).trans t7)
      have h7 : H7 D = some (.lst (zs.map V.int)) := t7 _ _ (upd_new hp _ _ (t6 _ _ h4 nDd)) nDd
      have fin : ∀ x : Int, v = .int x → 2 ≤ x → x ≤ 100 → ∃ acc, H7 D = some (.lst acc) ∧ acc.length < sizeLine ∧ ∃ (zs : List Int) (b' r' : Int), zs.length = j + 1 ∧ (∀ y ∈ zs, 2 ≤ y ∧ y ≤ 100) ∧ Bt d H (upd H7 D (.lst (acc ++ [v]))) ∧ PenL (upd H7 D (.lst (acc ++ [v]))) d l cells b' r' ∧ b' ≤ a + 1 + 2 * ((j + 1 : Nat) : Int) ∧ (upd H7 D (.lst (acc ++ [v]))) D = some (.lst (zs.map V.int)) := fun x e c1 c2 => by
        subst e
        refine ⟨_, h7, by rw [List.length_map, e4, sizeLine_eq]; omega, zs ++ [x], b7, q7, by rw [List.length_append, e4]; rfl, fun y hy => ?_, t03.fill hD t07, P7.off nDd nDl, by omega, ?_⟩
        · rcases List.mem_append.mp hy with hy | hy
          · exact hz y hy
          · rw [List.mem_singleton.mp hy]
            exact ⟨c1, c2⟩
        · rw [upd_same, List.map_append]
          rfl
      match i, hi with
      | 0, hi => exact fin 2 (Option.some.inj hi).symm (by decide) (by decide)
      | 1, hi => exact fin 10 (Option.some.inj hi).symm (by decide) (by decide)
      | 2, hi => exact fin 100 (Option.some.inj hi).symm (by decide) (by decide)
      | 3, hi => exact fin (2 + x) (Option.some.inj hi).symm (by omega) (by omega)
      | i + 4, hi => cases hi
    · rintro H4 ⟨zs, b4, q4, e4, hz, t4, P4, l4, h4⟩
      have B : Bss zs := ⟨by omega, by omega, hz⟩
      have hl4 := B.2.1
      have nDd := nDd
      refine ⟨_, rfl, D, rfl, ⟨_, SqL.of h4⟩, fun D2 hD2 => ?_⟩
      have nEd : D2 ≠ d := (ne_of_none P4.dk hD2).symm
      have nEl : D2 ≠ l := (ne_of_none P4.cl hD2).symm
      have nED : D ≠ D2 := ne_of_none h4 hD2
      refine lc_it walk_list (fun j H' => ∃ (ds : List Int) (b' r' : Int), ds.length = j ∧ (∀ (i : Nat) (x b : Int), ds[i]? = some x → zs[i]? = some b → 0 ≤ x ∧ x < b) ∧ Bt d H4 H' ∧ PenL H' d l cells b' r' ∧ b' ≤ b4 + 2 * (j : Int) ∧ H' D = some (.lst (zs.map V.int)) ∧ H' D2 = some (.lst (ds.map V.int))) ?_ (fun _ _ _ ⟨_, _, _, _, _, _, _, _, q, _⟩ => SqL.of q) ?_ ?_
      · exact ⟨[], b4, q4, rfl, fun i x b e _ => (by cases e), (Bt.of (upd_new hD2)), P4.same (upd_new hD2), by omega, upd_new hD2 _ _ h4, upd_same⟩
      · rintro j v H5 H6 hj ⟨ds, b3, q3, e3, hd, t5, P5, l5, h5, h6⟩ ⟨rfl, ev⟩
        rw [List.length_map] at hj
        have jz : zs[j]? = some zs[j] := List.getElem?_eq_getElem hj
        rw [List.getElem?_map, jz] at ev
        cases ev
        obtain ⟨c1, c2⟩ := hz _ (List.mem_of_getElem? jz)
        refine ⟨rfl, yesT ?_⟩
        refine yes_ ⟨_, rfl, _, rfl, _, _, rfl, rfl, ?_⟩
        refine ⟨_, rfl, _, rfl, d, l, cells, b3, q3, zs[j], rfl, P5, by omega, by omega, by omega, fun y b9 q9 H7 y0 y1 l7 t7 P7 => ?_⟩
        refine ⟨by show 3 ≤ sizeLine; decide, fun p hp => ?_⟩
        refine ⟨d, l, p, cells, b9, q9, _, rfl, P7.same (upd_new hp), by omega, (ne_of_none P7.dk hp).symm, SqL.of upd_same, by show 0 < 3; decide, by show 3 ≤ 1000; decide, fun i v b5 q5 H8 hi l8 t8 P8 => ?_⟩
        have t08 := (t5.trans t7).trans ((Bt.of (upd_new hp)).trans t8)
        have g5 : H8 D = some (.lst (zs.map V.int)) := t8 _ _ (upd_new hp _ _ (t7 _ _ h5 nDd)) nDd
        have g6 : H8 D2 = some (.lst (ds.map V.int)) := t8 _ _ (upd_new hp _ _ (t7 _ _ h6 nEd)) nEd
        have fin : ∀ x : Int, v = .int x → 0 ≤ x → x < zs[j] → ∃ acc, H8 D2 = some (.lst acc) ∧ acc.length < sizeLine ∧ ∃ (ds : List Int) (b' r' : Int), ds.length = j + 1 ∧ (∀ (i : Nat) (x b : Int), ds[i]? = some x → zs[i]? = some b → 0 ≤ x ∧ x < b) ∧ Bt d H4 (upd H8 D2 (.lst (acc ++ [v]))) ∧ PenL (upd H8 D2 (.lst (acc ++ [v]))) d l cells b' r' ∧
            b' ≤ b4 + 2 * ((j + 1 : Nat) : Int) ∧ (upd H8 D2 (.lst (acc ++ [v]))) D = some (.lst (zs.map V.int)) ∧ (upd H8 D2 (.lst (acc ++ [v]))) D2 = some (.lst (ds.map V.int)) := fun x e c3 c4 => by
          subst e
          refine ⟨_, g6, by rw [List.length_map, e3, sizeLine_eq]; omega, ds ++ [x], b5, q5, by rw [List.length_append, e3]; rfl, fun i u b e1 e2 => ?_, (Bt.of (Same.refl H4)).fill hD2 t08, P8.off nEd nEl, by omega, by rw [upd_ne nED]; exact g5, ?_⟩
          · by_cases hi : i < ds.length
            · rw [List.getElem?_append_left hi] at e1
              exact hd i u b e1 e2
            · have hi2 : i = ds.length := by
                have := (List.getElem?_eq_some_iff.mp e1).1
                rw [List.length_append] at this
                have : i < ds.length + 1 := this
                omega
              subst hi2
              rw [List.getElem?_append_right (Nat.le_refl _), Nat.sub_self] at e1
              cases e1
              rw [e3, jz] at e2
              cases e2
              exact ⟨c3, c4⟩
          · rw [upd_same, List.map_append]
            rfl
        match i, hi with
        | 0, hi => exact fin 0 (Option.some.inj hi).symm (by decide) (by omega)
        | 1, hi => exact fin (zs[j] - 1) (Option.some.inj hi).symm (by omega) (by omega)
        | 2, hi => exact fin y (Option.some.inj hi).symm y0 y1
        | i + 3, hi => cases hi
      · rintro H5 ⟨ds, b3, q3, e3, hd, t5, P5, l5, h5, h6⟩
        rw [List.length_map] at e3 l5
        have Dd : Dgs ds zs := dgs_of e3 hd
        have nDd5 : D ≠ d := ints_ne P5.dk h5
        have nD2 : D2 ≠ d := ints_ne P5.dk h6
        refine ⟨_, rfl, ?_⟩
        refine make_numR (d := d) (xD := .list (intsD ds)) (yD := .list (intsD zs)) (.lst (.inl h6) nD2 dw_ints) (.lst (.inl h5) nDd5 dw_ints) (InitD.good (ds := ds) (bs := zs) ⟨B, Dd, .inl rfl, .inl rfl⟩ fun r9 H9 s9 _ nm => ?_)
        exact k r9 ds zs b3 q3 H9 ((t4.trans t5).same s9) (P5.same s9) (by omega) nm B Dd
end
end K06

set_option Elab.async false
set_option linter.all false
set_option maxRecDepth 100000
set_option maxHeartbeats 4000000
namespace K06
open PySem PySem.Spec PyProof.Rows L2 Ru
theorem len_app (x y : Str) : (x ++ y).length = x.length + y.length := by
  show (x.cps ++ y.cps).size = _
  rw [Array.size_append]
  rfl
def spFace (C : Addr) : Sp := fun vs H Q _ => ∃ (a : Addr) (ds bs : List Int), vs = [.ref a] ∧ NumAt C H a ds bs ∧ Bss bs ∧ Dgs ds bs ∧ ∀ H', Same H H' → Q (.str (faceS ds bs)) H'
abbrev nSpo : List Str := ["_law_pen_here", "_law_text", "_law_at", "_law_sign", "_law_way"]
theorem sc_spo : FnScope nSpo ["_law_pen_here", "_law_text"] (defScope sLSpoilt) := ⟨rfl, rfl, rfl, by decide +kernel, rfl, by decide +kernel, by decide +kernel⟩
def spSpo : Sp := fun vs H Q _ => ∃ (d l : Addr) (cells : List Int) (a r : Int) (z : Str), vs = [.ref d, .str z] ∧ PenL H d l cells a r ∧ a ≤ 99900 ∧ z.length ≤ 200 ∧
  ∀ (z' : Str) (a' r' : Int) (H' : Hp), z'.length ≤ 2 * z.length + 4 → a' ≤ a + 3 → Bt d H H' → PenL H' d l cells a' r' → Q (.str z') H'
section
variable {P : Program} {w : World} {K : PySem.W.Frag} {mg : Str → Option Value} {base : Heap}
theorem ok_face {C f : Addr} {fd : FuncData} (F : FunD K "_law_face" "_law_face" (defArgs sLFace) (defBody sLFace) (defScope sLFace) [] [] f fd) (N : NumK K mg C) (g_list : mg "list" = none) (g_str : mg "str" = none) : FnOk P w K mg base CX0 1 f fd ["_law_numeral_here"] (spFace C) := by
  refine F.ok sc_face (fun vs H Q E h => ?_) (fun cdv A outer s H vs Q E hr h => ?_)
  · obtain ⟨a, ds, bs, rfl, _⟩ := h
    rfl
  · obtain ⟨a, ds, bs, rfl, h1, B, D, q⟩ := h
    have sc := sc_face
    obtain ⟨dx, da, ba, a1, a2, a3⟩ := h1
    have l1 := dotS_len (sml_dgs B D)
    have l2 := dotS_len (sml_bss B)
    have l1' : (Txt.join (Str.ofString ".") (ds.map tS)).length ≤ 16 := l1
    have l2' : (Txt.join (Str.ofString ".") (bs.map tS)).length ≤ 16 := l2
    have ls : ("/" : Str).length = 1 := by decide +kernel
    refine ⟨_, PSs.nox (pss_cons (ps_set (i := 1) sc.nd rfl (Or.inl rfl) (pe_join pe_str (pe_lc (own := [("_law_number", 2)]) (g := gName 2) (tt := tYes) rfl sc.nd (pi_list (pe_callTy call_list_of (by rfl) g_list boot_list (pa_cons (pe_fld (pv 0) rfl) pa_nil))) (blkOk_by (N := nFace) (sc := defScope sLFace) (by decide +kernel))
      (fun _ _ _ _ _ => pg_name (i := 2) sc.nd rfl (Or.inl rfl)) (fun _ _ _ _ _ => pts_nil) (fun _ _ _ _ _ => pe_callTy call_str_int (by rfl) g_str boot_str (pa_cons (pv 2) pa_nil)))))
      (pss_one (ps_ret (pe_op op_add_str (pe_op op_add_str (pv 1) pe_str) (pe_join pe_str (pe_lc (own := [("_law_number", 2)]) (g := gName 2) (tt := tYes) rfl sc.nd (pi_list (pe_callTy call_list_of (by rfl) g_list boot_list (pa_cons (pe_fld (pv 0) rfl) pa_nil))) (blkOk_by (N := nFace) (sc := defScope sLFace) (by decide +kernel))
      (fun _ _ _ _ _ => pg_name (i := 2) sc.nd rfl (Or.inl rfl)) (fun _ _ _ _ _ => pts_nil) (fun _ _ _ _ _ => pe_callTy call_str_int (by rfl) g_str boot_str (pa_cons (pv 2) pa_nil)))))))), ?_⟩
    refine ⟨⟨_, rfl⟩, _, rfl, a, C, dx, _, _, rfl, (Same.refl H) _ _ a1, N.cl, N.nD, rfl, da, _, rfl, .inr (.inl (Same.rd (Same.refl H) a2)), fun xq xh => ?_⟩
    refine ⟨_, rfl, ⟨_, SqL.of upd_same⟩, fun xD xhD => ?_⟩
    have xs := (Same.refl H).trans (upd_new (o := .lst (ds.map V.int)) xh)
    have xe : (upd H xq (.lst (ds.map V.int))) xq = some (.lst (ds.map V.int)) := upd_same
    generalize upd H xq (.lst (ds.map V.int)) = xH at xs xe xhD ⊢
    refine lc_it walk_list (fun i H' => Same xH H' ∧ H' xD = some (.lst (((ds.take i).map tS).map V.str)) ∧ xH xD = none) ⟨upd_new xhD, upd_same, xhD⟩ (fun i H' _ g => SqL.of (g.1 _ _ xe)) ?_ ?_
    · rintro i y H4 H' hy ⟨s1, e1, nD⟩ ⟨rfl, ev⟩
      rw [List.getElem?_map] at ev
      obtain ⟨z, ez, rfl⟩ := Option.map_eq_some_iff.mp ev
      obtain ⟨z0, z1⟩ := (sml_dgs B D).2 z (List.mem_of_getElem? ez)
      refine ⟨rfl, yesT ?_⟩
      refine yes_ ⟨_, rfl, z, rfl, by have := log2_small z0 (show z ≤ 100 ^ 4 by omega); omega, ?_⟩
      have hl := (sml_dgs B D).1
      refine ⟨_, e1, by rw [List.length_map, List.length_map, List.length_take, sizeLine_eq]; omega, fill_next nD s1, ?_, nD⟩
      rw [upd_same, List.take_succ, ez, List.map_append, List.map_append]
      rfl
    rintro xK ⟨s1, e1, nD⟩
    rw [List.length_map, List.take_length] at e1
    refine ⟨_, xD, ds.map tS, rfl, rfl, .inl (SqL.of e1), join_room (sml_dgs B D), ?_⟩
    have xt := xs.trans s1
    refine ⟨_, rfl, _, _, rfl, rfl, by rw [ls, sizeLine_eq]; omega, ?_⟩
    refine ⟨⟨_, rfl⟩, _, rfl, a, C, dx, _, _, rfl, xt _ _ a1, N.cl, N.nB, rfl, ba, _, rfl, .inr (.inl (Same.rd xt a3)), fun yq yh => ?_⟩
    refine ⟨_, rfl, ⟨_, SqL.of upd_same⟩, fun yD yhD => ?_⟩
    have ys := xt.trans (upd_new (o := .lst (bs.map V.int)) yh)
    have ye : (upd xK yq (.lst (bs.map V.int))) yq = some (.lst (bs.map V.int)) := upd_same
    generalize upd xK yq (.lst (bs.map V.int)) = yH at ys ye yhD ⊢
    refine lc_it walk_list (fun i H' => Same yH H' ∧ H' yD = some (.lst (((bs.take i).map tS).map V.str)) ∧ yH yD = none) ⟨upd_new yhD, upd_same, yhD⟩ (fun i H' _ g => SqL.of (g.1 _ _ ye)) ?_ ?_
    · rintro i y H4 H' hy ⟨s1, e1, nD⟩ ⟨rfl, ev⟩
      rw [List.getElem?_map] at ev
      obtain ⟨z, ez, rfl⟩ := Option.map_eq_some_iff.mp ev
      obtain ⟨z0, z1⟩ := (sml_bss B).2 z (List.mem_of_getElem? ez)
      refine ⟨rfl, yesT ?_⟩
      refine yes_ ⟨_, rfl, z, rfl, by have := log2_small z0 (show z ≤ 100 ^ 4 by omega); omega, ?_⟩
      have hl := (sml_bss B).1
      refine ⟨_, e1, by rw [List.length_map, List.length_map, List.length_take, sizeLine_eq]; omega, fill_next nD s1, ?_, nD⟩
      rw [upd_same, List.take_succ, ez, List.map_append, List.map_append]
      rfl
    rintro yK ⟨s1, e1, nD⟩
    rw [List.length_map, List.take_length] at e1
    refine ⟨_, yD, bs.map tS, rfl, rfl, .inl (SqL.of e1), join_room (sml_bss B), ?_⟩
    have yt := ys.trans s1
    refine ⟨_, _, rfl, rfl, by rw [len_app, ls, sizeLine_eq]; omega, ?_⟩
    exact q yK yt
theorem ok_spo {f : Addr} {fd : FuncData} (F : FunD K "_law_spoilt" "_law_spoilt" (defArgs sLSpoilt) (defBody sLSpoilt) (defScope sLSpoilt) [] [] f fd) (CT : Cd P w K mg base CX0 1 "_law_take" ["_law_pen_here", "_law_limit"] spTakeL)
    (CP : Cd P w K mg base CX0 2 "_law_pick" ["_law_pen_here", "_law_some"] (spPickL K)) (g_len : mg "len" = none) (g_max : mg "max" = none) : FnOk P w K mg base CX0 3 f fd ["_law_pen_here", "_law_text"] spSpo := by
  refine F.ok sc_spo (fun vs H Q E h => ?_) (fun cdv A outer s H vs Q E hr h => ?_)
  · obtain ⟨d, l, cells, a, r, z, rfl, _⟩ := h
    rfl
  · obtain ⟨d, l, cells, a, r, z, rfl, PA, ha, hz, k⟩ := h
    have sc := sc_spo
    have r1 := hr.mono (show 1 ≤ 2 by decide)
    have r2 := hr
    have zl : z.length ≤ sizeLine := by rw [sizeLine_eq]; omega
    refine ⟨_, PSs.nox (pss_cons (ps_set (i := 2) sc.nd rfl (Or.inl rfl) (pe_cd CT r1 (by rfl) pass0 (pa_cons (pv 0) (pa_cons (pe_op op_add (pe_callB call_len (by rfl) g_len PySem.boot_len (pa_cons (pv 1) pa_nil)) pe_int) pa_nil))))
      (pss_cons (ps_set (i := 3) sc.nd rfl (Or.inl rfl) (pe_cd CP r2 (by rfl) pass0 (pa_cons (pv 0) (pa_cons (pe_lst (pa_cons pe_str (pa_cons pe_str (pa_cons pe_str (pa_cons pe_str (pa_cons pe_str (pa_cons pe_str (pa_cons pe_str (pa_cons pe_str (pa_cons pe_str (pa_cons pe_str (pa_cons pe_str (pa_cons pe_str pa_nil))))))))))))) pa_nil))))
      (pss_cons (ps_set (i := 4) sc.nd rfl (Or.inl rfl) (pe_cd CT r1 (by rfl) pass0 (pa_cons (pv 0) (pa_cons pe_int pa_nil))))
      (pss_cons (ps_if (pt_cmpR op_eq (pv 4) pe_int (nomark _)) (pss_one (ps_ret (pe_op op_add_str (pe_op op_add_str (pe_slice sl_str (pv 1) po_none (po_some (pv 2))) (pv 3)) (pe_slice sl_str (pv 1) (po_some (pv 2)) po_none)))) pss_nil)
      (pss_cons (ps_if (pt_cmpR op_eq (pv 4) pe_int (nomark _)) (pss_one (ps_ret (pe_op op_add_str (pe_slice sl_str (pv 1) po_none (po_some (pv 2))) (pe_slice sl_str (pv 1) (po_some (pe_op op_add (pv 2) pe_int)) po_none)))) pss_nil)
      (pss_cons (ps_if (pt_cmpR op_eq (pv 4) pe_int (nomark _)) (pss_one (ps_ret (pe_op op_add_str (pe_op op_add_str (pe_slice sl_str (pv 1) po_none (po_some (pv 2))) (pv 3)) (pe_slice sl_str (pv 1) (po_some (pe_op op_add (pv 2) pe_int)) po_none)))) pss_nil)
      (pss_cons (ps_if (pt_cmpR op_eq (pv 4) pe_int (nomark _)) (pss_one (ps_ret (pe_slice sl_str (pv 1) po_none (po_some (pv 2))))) pss_nil)
      (pss_one (ps_ret (pe_op op_add_str (pe_slice sl_str (pv 1) po_none (po_some (pv 2))) (pe_slice sl_str (pv 1) (po_some (pe_callB (call_max2 rfl) (by rfl) g_max boot_max (pa_cons pe_int (pa_cons (pe_op op_sub (pv 2) pe_int) pa_nil)))) po_none))))))))))), ?_⟩
    refine ⟨_, rfl, _, rfl, .str z, z.length, rfl, ⟨zl, rfl⟩, _, _, rfl, rfl, d, l, cells, a, r, _, rfl, PA, by omega, by omega, by omega, fun m b1 r1' H1 m0 m1 l1 t1 P1 => ?_⟩
    obtain ⟨n, rfl⟩ := Int.eq_ofNat_of_zero_le m0
    refine ⟨_, rfl, by show 12 ≤ sizeLine; decide, fun L hL => ?_⟩
    refine ⟨d, l, L, cells, b1, r1', _, rfl, P1.same (upd_new hL), by omega, (ne_of_none P1.dk hL).symm, SqL.of upd_same, by show 0 < 12; decide, by show 12 ≤ 1000; decide, fun j v b2 r2' H2 hj l2 t2 P2 => ?_⟩
    have hv : ∃ s : Str, v = .str s ∧ s.length ≤ 4 := by
      have h : ∀ v ∈ [V.str "0", .str "1", .str "9", .str ".", .str "/", .str " ", .str "-", .str "a", .str "\n", .str ".0", .str "/2", .str ".1.1"], ∃ s : Str, v = .str s ∧ s.length ≤ 4 := fun v hv => by
        simp only [List.mem_cons, List.not_mem_nil, or_false] at hv
        rcases hv with rfl | rfl | rfl | rfl | rfl | rfl | rfl | rfl | rfl | rfl | rfl | rfl <;> exact ⟨_, rfl, by decide +kernel⟩
      exact h v (List.mem_of_getElem? hj)
    obtain ⟨s', rfl, hs⟩ := hv
    have c := fun lo hi => cutS_length z lo hi
    refine ⟨_, rfl, d, l, cells, b2, r2', 5, rfl, P2, by omega, by decide, by decide, fun w' b3 r3 H3 w0 w1 l3 t3 P3 => ?_⟩
    have t03 : Bt d H H3 := (t1.trans ((Bt.of (upd_new hL)).trans t2)).trans t3
    have bnd : ∀ x : Str, x.length ≤ 2 * z.length + 4 → Q (.str x) H3 := fun x hx => k x b3 r3 H3 hx (by omega) t03 P3
    refine ⟨_, rfl, rfl, _, rfl, ?_⟩
    by_cases e0 : w' = 0
    · subst e0
      rw [decide_eq_true rfl]
      refine iteT ?_
      refine ⟨_, rfl, _, rfl, _, rfl, z, rfl, zl, _, rfl, _, _, rfl, rfl, by have := c none (some (n : Nat)); rw [sizeLine_eq]; omega, ?_⟩
      refine ⟨_, rfl, _, rfl, _, rfl, z, rfl, zl, _, _, rfl, rfl, by rw [len_app]; have := c none (some (n : Nat)); have := c (some (n : Nat)) none; rw [sizeLine_eq]; omega, ?_⟩
      exact bnd _ (by rw [len_app, len_app]; have := c none (some (n : Nat)); have := c (some (n : Nat)) none; omega)
    rw [decide_eq_false (fun e => e0 (by injection e))]
    refine iteF ?_
    refine ⟨_, rfl, rfl, _, rfl, ?_⟩
    by_cases e1 : w' = 1
    · subst e1
      rw [decide_eq_true rfl]
      refine iteT ?_
      refine ⟨_, rfl, _, rfl, _, rfl, z, rfl, zl, ?_⟩
      refine ⟨_, rfl, _, rfl, _, _, rfl, rfl, _, rfl, z, rfl, zl, _, _, rfl, rfl, by have := c none (some (n : Nat)); have := c (some ((n : Nat) + 1)) none; rw [sizeLine_eq]; omega, ?_⟩
      exact bnd _ (by rw [len_app]; have := c none (some (n : Nat)); have := c (some ((n : Nat) + 1)) none; omega)
    rw [decide_eq_false (fun e => e1 (by injection e))]
    refine iteF ?_
    refine ⟨_, rfl, rfl, _, rfl, ?_⟩
    by_cases e2 : w' = 2
    · subst e2
      rw [decide_eq_true rfl]
      refine iteT ?_
      refine ⟨_, rfl, _, rfl, _, rfl, z, rfl, zl, _, rfl, _, _, rfl, rfl, by have := c none (some (n : Nat)); rw [sizeLine_eq]; omega, ?_⟩
      refine ⟨_, rfl, _, rfl, _, _, rfl, rfl, _, rfl, z, rfl, zl, _, _, rfl, rfl, by rw [len_app]; have := c none (some (n : Nat)); have := c (some ((n : Nat) + 1)) none; rw [sizeLine_eq]; omega, ?_⟩
      exact bnd _ (by rw [len_app, len_app]; have := c none (some (n : Nat)); have := c (some ((n : Nat) + 1)) none; omega)
    rw [decide_eq_false (fun e => e2 (by injection e))]
    refine iteF ?_
    refine ⟨_, rfl, rfl, _, rfl, ?_⟩
    by_cases e3 : w' = 3
    · subst e3
      rw [decide_eq_true rfl]
      refine iteT ?_
      refine ⟨_, rfl, _, rfl, _, rfl, z, rfl, zl, ?_⟩
      exact bnd _ (by have := c none (some (n : Nat)); omega)
    rw [decide_eq_false (fun e => e3 (by injection e))]
    refine iteF ?_
    refine ⟨_, rfl, _, rfl, _, rfl, z, rfl, zl, ?_⟩
    refine ⟨_, rfl, _, rfl, _, _, rfl, rfl, _, _, rfl, _, rfl, z, rfl, zl, _, _, rfl, rfl, ?_, ?_⟩
    · have := c none (some (n : Nat))
      have := c (some (if ((n : Nat) : Int) - 2 > 0 then ((n : Nat) : Int) - 2 else 0)) none
      rw [sizeLine_eq]
      omega
    · refine bnd _ ?_
      have := c none (some (n : Nat))
      have := c (some (if ((n : Nat) : Int) - 2 > 0 then ((n : Nat) : Int) - 2 else 0)) none
      rw [len_app]
      omega
end
end K06

set_option Elab.async false
set_option linter.all false
set_option maxRecDepth 100000
set_option maxHeartbeats 4000000
namespace K06
open PySem PySem.Spec PyProof.Rows L2 Ru
def StAt (H : Hp) (p : Addr) (t : Sm) : Prop := ∃ (F : Addr) (vr : V), H p = some (.tup [.ref F, vr, .str ⟨t.s.toArray⟩]) ∧ H F = some (.lst (t.f.map V.int)) ∧ match t.r with
  | none => vr = .non
  | some rs => ∃ R : Addr, vr = .ref R ∧ H R = some (.lst (rs.map V.int))
def SmB (t : Sm) : Prop := t.s.length ≤ 1000 ∧ t.f.length ≤ 1000 ∧ (t.r.getD []).length ≤ 1000
abbrev nNext : List Str := ["_law_sign", "_law_state", "_law_front", "_law_rear", "_law_figures", "_law_here"]
theorem sc_next : FnScope nNext ["_law_sign", "_law_state"] (defScope sLIsNext) := ⟨rfl, rfl, rfl, by decide +kernel, rfl, by decide +kernel, by decide +kernel⟩
def spNext : Sp := fun vs H Q _ => ∃ (c : Nat) (p : Addr) (t : Sm), vs = [.str ⟨#[c]⟩, .ref p] ∧ StAt H p t ∧ SmB t ∧ Q (.bl (isNext c t)) H
theorem fig_eq (c : Nat) : decide (c ∈ ("0123456789" : Str).cps.toList) = fig c := by
  unfold fig
  rw [s_figs]
theorem txt_eq {l m : List Nat} : ((⟨l.toArray⟩ : Str) = ⟨m.toArray⟩) ↔ l = m := by
  constructor
  · intro h
    have h : l.toArray = m.toArray := by injection h
    have := congrArg Array.toList h
    simpa using this
  · intro h
    rw [h]
theorem txt_len (l : List Nat) : (⟨l.toArray⟩ : Str).length = l.length := List.size_toArray
theorem t_nil : (("" : Str)) = ⟨([] : List Nat).toArray⟩ := by decide +kernel
theorem t_zero : (("0" : Str)) = ⟨([48] : List Nat).toArray⟩ := by decide +kernel
theorem t_dot : (("." : Str)) = ⟨([46] : List Nat).toArray⟩ := by decide +kernel
theorem t_slash : (("/" : Str)) = ⟨([47] : List Nat).toArray⟩ := by decide +kernel
theorem c_eq {c d : Nat} : ((⟨#[c]⟩ : Str) = ⟨([d] : List Nat).toArray⟩) ↔ c = d := (txt_eq (l := [c]) (m := [d])).trans (by simp)
section
variable {P : Program} {w : World} {K : PySem.W.Frag} {mg : Str → Option Value} {base : Heap}
theorem ok_next {f : Addr} {fd : FuncData} (F : FunD K "_law_is_next" "_law_is_next" (defArgs sLIsNext) (defBody sLIsNext) (defScope sLIsNext) [] [] f fd) (g_len : mg "len" = none) : FnOk P w K mg base CX0 1 f fd ["_law_sign", "_law_state"] spNext := by
  refine F.ok sc_next (fun vs H Q E h => ?_) (fun cdv A outer s H vs Q E hr h => ?_)
  · obtain ⟨c, p, t, rfl, _⟩ := h
    rfl
  · obtain ⟨c, p, t, rfl, ⟨F0, vr, hp, hF, hR⟩, ⟨b1, b2, b3⟩, q⟩ := h
    have sc := sc_next
    refine ⟨_, PSs.nox (pss_cons (ps_asg (pv 1) (pg_tup rfl (pgs_cons (pg_name (i := 2) sc.nd rfl (Or.inl rfl)) (pgs_cons (pg_name (i := 3) sc.nd rfl (Or.inl rfl)) (pgs_cons (pg_name (i := 4) sc.nd rfl (Or.inl rfl)) pgs_nil)))))
      (pss_cons (ps_if (pt_cmpR op_in_sign (pv 0) pe_str (by rfl)) (pss_one (ps_ret (pe_and (pe_cmpR op_lt (pe_callB call_len (by rfl) g_len PySem.boot_len (pa_cons (pv 4) pa_nil)) pe_int (nomark _)) (pe_one (pe_cmpR op_ne (pv 4) pe_str (nomark _)))))) pss_nil)
      (pss_cons (ps_if (pt_cmpR op_eq (pv 4) pe_str (nomark _)) (pss_one (ps_ret pe_bl)) pss_nil)
      (pss_cons (ps_if (pt_cmpR op_eq (pv 0) pe_str (nomark _)) (pss_one (ps_ret (pe_cmpR op_isN1 (pv 3) pe_non (by rfl)))) pss_nil)
      (pss_cons (ps_set (i := 5) sc.nd rfl (Or.inl rfl) (pe_ifExp (pt_cmpR op_isN1 (pv 3) pe_non (by rfl)) (pv 2) (pv 3)))
      (pss_one (ps_ret (pe_and (pe_cmpR op_eq (pv 0) pe_str (nomark _)) (pe_one (pe_cmpR op_lt (pe_op op_add (pe_callB call_len_seq (by rfl) g_len PySem.boot_len (pa_cons (pv 5) pa_nil)) pe_int) (pe_ifExp (pt_cmpR op_isN1 (pv 3) pe_non (by rfl)) pe_int (pe_callB call_len_seq (by rfl) g_len PySem.boot_len (pa_cons (pv 2) pa_nil))) (nomark _))))))))))), ?_⟩
    refine ⟨_, rfl, p, _, rfl, .inl (.inl hp), rfl, _, _, rfl, _, _, rfl, _, _, rfl, rfl, ?_⟩
    refine ⟨_, rfl, c, _, rfl, rfl, _, rfl, ?_⟩
    rw [fig_eq]
    by_cases hc : fig c = true
    · rw [hc]
      refine iteT ?_
      have eq : isNext c t = (decide (t.s.length < 3) && decide (t.s ≠ [48])) := by unfold isNext; rw [if_pos hc]
      rw [eq] at q
      refine ⟨_, rfl, .str _, _, rfl, ⟨by rw [txt_len, sizeLine_eq]; omega, rfl⟩, _, _, rfl, rfl, _, rfl, ?_⟩
      by_cases h3 : t.s.length < 3
      · have e3 : decide (((⟨t.s.toArray⟩ : Str).length : Int) < 3) = true := decide_eq_true (by rw [txt_len]; omega)
        rw [e3]
        rw [decide_eq_true h3, Bool.true_and] at q
        refine iteT ⟨_, rfl, rfl, ?_⟩
        rw [t_zero, dec_str txt_eq]
        rw [decide_not] at q
        exact q
      · have e3 : decide (((⟨t.s.toArray⟩ : Str).length : Int) < 3) = false := decide_eq_false (by rw [txt_len]; omega)
        rw [e3]
        rw [decide_eq_false h3, Bool.false_and] at q
        exact iteF q
    · rw [Bool.not_eq_true] at hc
      rw [hc]
      refine iteF ?_
      refine ⟨_, rfl, rfl, _, rfl, ?_⟩
      rw [t_nil, dec_str txt_eq]
      by_cases h0 : t.s = []
      · have eq : isNext c t = false := by unfold isNext; rw [hc, if_neg (by decide), if_pos h0]
        rw [eq] at q
        rw [decide_eq_true h0]
        exact iteT q
      rw [decide_eq_false h0]
      refine iteF ?_
      refine ⟨_, rfl, rfl, _, rfl, ?_⟩
      rw [t_slash, dec_str c_eq]
      by_cases h7 : c = 47
      · have eq : isNext c t = t.r.isNone := by unfold isNext; rw [hc, if_neg (by decide), if_neg h0, if_pos h7]
        rw [eq] at q
        rw [decide_eq_true h7]
        refine iteT ⟨_, rfl, rfl, ?_⟩
        cases er : t.r with
        | none =>
          rw [er] at q hR
          subst hR
          exact q
        | some rs =>
          rw [er] at q hR
          obtain ⟨R, rfl, _⟩ := hR
          exact q
      rw [decide_eq_false h7]
      refine iteF ?_
      have eq : isNext c t = (decide (c = 46) && decide ((t.r.getD t.f).length + 1 < (if t.r.isNone then 4 else t.f.length))) := by unfold isNext; rw [hc, if_neg (by decide), if_neg h0, if_neg h7]
      rw [eq] at q
      cases er : t.r with
      | none =>
        rw [er] at q hR
        subst hR
        refine ⟨_, rfl, rfl, _, rfl, ?_⟩
        rw [decide_eq_true rfl]
        refine iteT ⟨_, rfl, ?_⟩
        refine ⟨_, rfl, rfl, _, rfl, ?_⟩
        rw [t_dot, dec_str c_eq]
        by_cases h6 : c = 46
        · rw [decide_eq_true h6]
          rw [decide_eq_true h6, Bool.true_and] at q
          refine iteT ⟨_, rfl, F0, _, rfl, .inl (SqL.of hF), _, _, rfl, rfl, _, rfl, rfl, _, rfl, ?_⟩
          rw [decide_eq_true rfl]
          refine iteT ⟨_, _, rfl, rfl, ?_⟩
          have e : decide ((((t.f.map V.int).length : Nat) : Int) + 1 < 4) = decide (t.f.length + 1 < 4) := by
            rw [List.length_map]
            exact decide_eq_decide.mpr (by omega)
          show Q (V.bl (decide ((((t.f.map V.int).length : Nat) : Int) + 1 < 4))) H
          rw [e]
          exact q
        · rw [decide_eq_false h6]
          rw [decide_eq_false h6, Bool.false_and] at q
          exact iteF q
      | some rs =>
        rw [er] at q hR
        obtain ⟨R, rfl, hR⟩ := hR
        refine ⟨_, rfl, rfl, _, rfl, ?_⟩
        rw [decide_eq_false (by intro z; cases z)]
        refine iteF ⟨_, rfl, ?_⟩
        refine ⟨_, rfl, rfl, _, rfl, ?_⟩
        rw [t_dot, dec_str c_eq]
        by_cases h6 : c = 46
        · rw [decide_eq_true h6]
          rw [decide_eq_true h6, Bool.true_and] at q
          refine iteT ⟨_, rfl, R, _, rfl, .inl (SqL.of hR), _, _, rfl, rfl, _, rfl, rfl, _, rfl, ?_⟩
          rw [decide_eq_false (by intro z; cases z)]
          refine iteF ⟨_, rfl, F0, _, rfl, .inl (SqL.of hF), _, _, rfl, rfl, ?_⟩
          have e : decide ((((rs.map V.int).length : Nat) : Int) + 1 < (((t.f.map V.int).length : Nat) : Int)) = decide (rs.length + 1 < t.f.length) := by
            rw [List.length_map, List.length_map]
            exact decide_eq_decide.mpr (by omega)
          show Q (V.bl (decide ((((rs.map V.int).length : Nat) : Int) + 1 < (((t.f.map V.int).length : Nat) : Int)))) H
          rw [e]
          exact q
        · rw [decide_eq_false h6]
          rw [decide_eq_false h6, Bool.false_and] at q
          exact iteF q
end
end K06

set_option Elab.async false
set_option linter.all false
set_option maxRecDepth 100000
set_option maxHeartbeats 4000000
namespace K06
open PySem PySem.Spec PyProof.Rows L2 Ru
abbrev nMv : List Str := ["_law_sign", "_law_state", "_law_front", "_law_rear", "_law_figures"]
theorem sc_mv : FnScope nMv ["_law_sign", "_law_state"] (defScope sLMovedOn) := ⟨rfl, rfl, rfl, by decide +kernel, rfl, by decide +kernel, by decide +kernel⟩
theorem SmB.bd {t : Sm} (h : SmB t) : t.s.length ≤ 1000 ∧ t.f.length ≤ 1000 ∧ (t.r.getD []).length ≤ 1000 := h
theorem StAt.same {H H' : Hp} {p : Addr} {t : Sm} (h : StAt H p t) (s : Same H H') : StAt H' p t := by
  obtain ⟨F, vr, h1, h2, h3⟩ := h
  refine ⟨F, vr, s _ _ h1, s _ _ h2, ?_⟩
  cases e : t.r with
  | none => rw [e] at h3; exact h3
  | some rs =>
    rw [e] at h3
    obtain ⟨R, e1, e2⟩ := h3
    exact ⟨R, e1, s _ _ e2⟩
def spMv : Sp := fun vs H Q _ => ∃ (c : Nat) (p : Addr) (t : Sm), vs = [.str ⟨#[c]⟩, .ref p] ∧ StAt H p t ∧ SmB t ∧ (fig c = false → t.s ≠ [] ∧ t.s.length ≤ 3 ∧ ∀ x ∈ t.s, fig x = true) ∧ ∀ p' H', Same H H' → StAt H' p' (moved c t) → Q (.ref p') H'
section
variable {P : Program} {w : World} {K : PySem.W.Frag} {mg : Str → Option Value} {base : Heap}
theorem ok_mv {f : Addr} {fd : FuncData} (F : FunD K "_law_moved_on" "_law_moved_on" (defArgs sLMovedOn) (defBody sLMovedOn) (defScope sLMovedOn) [] [] f fd) (g_int : mg "int" = none) : FnOk P w K mg base CX0 1 f fd ["_law_sign", "_law_state"] spMv := by
  refine F.ok sc_mv (fun vs H Q E h => ?_) (fun cdv A outer s H vs Q E hr h => ?_)
  · obtain ⟨c, p, t, rfl, _⟩ := h
    rfl
  · obtain ⟨c, p, t, rfl, hst, hb, hw, q⟩ := h
    obtain ⟨F0, vr, hp, hF, hR⟩ := id hst
    obtain ⟨b1, b2, b3⟩ := hb
    have sc := sc_mv
    refine ⟨_, PSs.nox (pss_cons (ps_asg (pv 1) (pg_tup rfl (pgs_cons (pg_name (i := 2) sc.nd rfl (Or.inl rfl)) (pgs_cons (pg_name (i := 3) sc.nd rfl (Or.inl rfl)) (pgs_cons (pg_name (i := 4) sc.nd rfl (Or.inl rfl)) pgs_nil)))))
      (pss_cons (ps_if (pt_cmpR op_in_sign (pv 0) pe_str (by rfl)) (pss_one (ps_ret (pe_tup (pa_cons (pv 2) (pa_cons (pv 3) (pa_cons (pe_op op_add_str (pv 4) (pv 0)) pa_nil)))))) pss_nil)
      (pss_cons (ps_if (pt_cmpR op_isN1 (pv 3) pe_non (by rfl)) (pss_one (ps_ret (pe_tup (pa_cons (pe_op op_cat (pv 2) (pe_lst (pa_cons (pe_callTy call_int_str (by rfl) g_int boot_int (pa_cons (pv 4) pa_nil)) pa_nil))) (pa_cons (pe_ifExp (pt_cmpR op_eq (pv 0) pe_str (nomark _)) (pe_lst pa_nil) pe_non) (pa_cons pe_str pa_nil)))))) pss_nil)
      (pss_one (ps_ret (pe_tup (pa_cons (pv 2) (pa_cons (pe_op op_cat (pv 3) (pe_lst (pa_cons (pe_callTy call_int_str (by rfl) g_int boot_int (pa_cons (pv 4) pa_nil)) pa_nil))) (pa_cons pe_str pa_nil))))))))), ?_⟩
    refine ⟨_, rfl, p, _, rfl, .inl (.inl hp), rfl, _, _, rfl, _, _, rfl, _, _, rfl, rfl, ?_⟩
    refine ⟨_, rfl, c, _, rfl, rfl, _, rfl, ?_⟩
    rw [fig_eq]
    have ap : ∀ x : Nat, (⟨t.s.toArray⟩ : Str) ++ ⟨#[x]⟩ = ⟨(t.s ++ [x]).toArray⟩ := fun x => str_ext (by rw [cps_app])
    by_cases hc : fig c = true
    · rw [hc]
      refine iteT ?_
      have eq : moved c t = ⟨t.f, t.r, t.s ++ [c]⟩ := by unfold moved; rw [if_pos hc]
      rw [eq] at q
      refine ⟨_, rfl, _, rfl, _, rfl, _, rfl, _, _, rfl, rfl, by rw [txt_len, sizeLine_eq]; show t.s.length + 1 ≤ _; omega, by show 3 ≤ sizeLine; decide, fun D hD => ?_⟩
      refine q D _ (upd_new hD) ⟨F0, vr, by rw [upd_same, ap], upd_new hD _ _ hF, ?_⟩
      cases er : t.r with
      | none => rw [er] at hR; exact hR
      | some rs =>
        rw [er] at hR
        obtain ⟨R, e1, e2⟩ := hR
        exact ⟨R, e1, upd_new hD _ _ e2⟩
    · rw [Bool.not_eq_true] at hc
      rw [hc]
      refine iteF ?_
      obtain ⟨w0, w1, w2⟩ := hw hc
      obtain ⟨iv, i0, i1⟩ := int_figs w0 w1 w2
      have le : (⟨t.s.toArray⟩ : Str).length ≤ 640 := by rw [txt_len]; omega
      cases er : t.r with
      | none =>
        rw [er] at hR
        subst hR
        have eq : moved c t = ⟨t.f ++ [intOf t.s], if c = 47 then some [] else none, []⟩ := by unfold moved; rw [if_neg (by rw [hc]; decide), er]
        rw [eq] at q
        refine ⟨_, rfl, rfl, _, rfl, ?_⟩
        rw [decide_eq_true rfl]
        refine iteT ?_
        refine ⟨_, rfl, _, rfl, _, _, rfl, iv, le, by show 1 ≤ sizeLine; decide, fun L hL => ?_⟩
        refine ⟨F0, L, _, _, rfl, rfl, upd_new hL _ _ hF, upd_same, by rw [List.length_map, sizeLine_eq]; show t.f.length + 1 ≤ _; omega, fun M hM => ?_⟩
        have s1 := (upd_new (o := .lst [V.int (intOf t.s)]) hL).trans (upd_new (o := .lst (t.f.map V.int ++ [V.int (intOf t.s)])) hM)
        have e1 : (upd (upd H L (.lst [V.int (intOf t.s)])) M (.lst (t.f.map V.int ++ [V.int (intOf t.s)]))) M = some (.lst ((t.f ++ [intOf t.s]).map V.int)) := by rw [upd_same, List.map_append]; rfl
        generalize upd (upd H L (.lst [V.int (intOf t.s)])) M (.lst (t.f.map V.int ++ [V.int (intOf t.s)])) = H1 at s1 e1 ⊢
        refine ⟨_, rfl, rfl, _, rfl, ?_⟩
        rw [t_slash, dec_str c_eq]
        by_cases h7 : c = 47
        · rw [decide_eq_true h7]
          rw [if_pos h7] at q
          refine iteT ⟨by show 0 ≤ sizeLine; decide, fun R hR => ?_⟩
          refine ⟨by show 3 ≤ sizeLine; decide, fun D hD => ?_⟩
          have s2 := upd_new (o := .lst []) hR
          have s3 := upd_new (o := .tup [.ref M, .ref R, .str ""]) hD
          refine q D _ ((s1.trans s2).trans s3) ⟨M, .ref R, by rw [upd_same]; rfl, s3 _ _ (s2 _ _ e1), R, rfl, s3 _ _ ?_⟩
          rw [upd_same]
          rfl
        · rw [decide_eq_false h7]
          rw [if_neg h7] at q
          refine iteF ?_
          refine ⟨by show 3 ≤ sizeLine; decide, fun D hD => ?_⟩
          have s3 := upd_new (o := .tup [.ref M, .non, .str ""]) hD
          exact q D _ (s1.trans s3) ⟨M, .non, by rw [upd_same]; rfl, s3 _ _ e1, rfl⟩
      | some rs =>
        rw [er] at hR b3
        obtain ⟨R, rfl, hR⟩ := hR
        have b3 : rs.length ≤ 1000 := b3
        have eq : moved c t = ⟨t.f, some (rs ++ [intOf t.s]), []⟩ := by unfold moved; rw [if_neg (by rw [hc]; decide), er]
        rw [eq] at q
        refine ⟨_, rfl, rfl, _, rfl, ?_⟩
        rw [decide_eq_false (by intro z; cases z)]
        refine iteF ?_
        refine ⟨_, rfl, _, rfl, _, rfl, _, _, rfl, iv, le, by show 1 ≤ sizeLine; decide, fun L hL => ?_⟩
        refine ⟨R, L, _, _, rfl, rfl, upd_new hL _ _ hR, upd_same, by rw [List.length_map, sizeLine_eq]; show rs.length + 1 ≤ _; omega, fun M hM => ?_⟩
        have s1 := (upd_new (o := .lst [V.int (intOf t.s)]) hL).trans (upd_new (o := .lst (rs.map V.int ++ [V.int (intOf t.s)])) hM)
        have e1 : (upd (upd H L (.lst [V.int (intOf t.s)])) M (.lst (rs.map V.int ++ [V.int (intOf t.s)]))) M = some (.lst ((rs ++ [intOf t.s]).map V.int)) := by rw [upd_same, List.map_append]; rfl
        generalize upd (upd H L (.lst [V.int (intOf t.s)])) M (.lst (rs.map V.int ++ [V.int (intOf t.s)])) = H1 at s1 e1 ⊢
        refine ⟨by show 3 ≤ sizeLine; decide, fun D hD => ?_⟩
        have s3 := upd_new (o := .tup [.ref F0, .ref M, .str ""]) hD
        exact q D _ (s1.trans s3) ⟨F0, .ref M, by rw [upd_same]; rfl, s3 _ _ (s1 _ _ hF), M, rfl, s3 _ _ e1⟩
end
end K06

set_option Elab.async false
set_option linter.all false
set_option maxRecDepth 100000
set_option maxHeartbeats 4000000
namespace K06
open PySem PySem.Spec PyProof.Rows L2 Ru
structure Fit (t : Sm) : Prop where
  sl : t.s.length ≤ 3
  sf : ∀ x ∈ t.s, fig x = true
  fn : t.r = none → t.f.length ≤ 3
  fs : ∀ rs, t.r = some rs → t.f.length ≤ 4 ∧ rs.length + 1 ≤ t.f.length
theorem Fit.b {t : Sm} (h : Fit t) : SmB t := by
  refine ⟨by have := h.sl; omega, ?_⟩
  cases e : t.r with
  | none => have := h.fn e; exact ⟨by omega, by show 0 ≤ 1000; decide⟩
  | some rs => have := h.fs rs e; exact ⟨by omega, by show rs.length ≤ 1000; omega⟩
theorem next_some {c : Nat} {t : Sm} (h : isNext c t = true) (hc : fig c = false) : t.s ≠ [] := by
  intro z
  unfold isNext at h
  rw [hc, if_neg (by decide), if_pos z] at h
  cases h
theorem Fit.next {c : Nat} {t : Sm} (F : Fit t) (h : isNext c t = true) : Fit (moved c t) := by
  cases hc : fig c with
  | true =>
    have eq : moved c t = ⟨t.f, t.r, t.s ++ [c]⟩ := by unfold moved; rw [if_pos hc]
    rw [eq]
    unfold isNext at h
    rw [if_pos hc] at h
    rw [Bool.and_eq_true] at h
    have h3 := of_decide_eq_true h.1
    refine ⟨by rw [List.length_append]; show t.s.length + 1 ≤ 3; omega, fun x hx => ?_, F.fn, F.fs⟩
    rcases List.mem_append.mp hx with hx | hx
    · exact F.sf x hx
    · rw [List.mem_singleton.mp hx]
      exact hc
  | false =>
    have h0 := next_some h hc
    unfold isNext at h
    rw [hc, if_neg (by decide), if_neg h0] at h
    cases er : t.r with
    | none =>
      have eq : moved c t = ⟨t.f ++ [intOf t.s], if c = 47 then some [] else none, []⟩ := by unfold moved; rw [if_neg (by rw [hc]; decide), er]
      rw [eq]
      have f3 := F.fn er
      refine ⟨by show 0 ≤ 3; decide, fun x hx => (List.not_mem_nil hx).elim, fun e => ?_, fun rs e => ?_⟩
      · by_cases h7 : c = 47
        · have e : (if c = 47 then some [] else none : Option (List Int)) = none := e
          rw [if_pos h7] at e
          cases e
        · rw [if_neg h7, er, Bool.and_eq_true] at h
          have h2 : t.f.length + 1 < 4 := of_decide_eq_true h.2
          show (t.f ++ [intOf t.s]).length ≤ 3
          rw [List.length_append]
          show t.f.length + 1 ≤ 3
          omega
      · by_cases h7 : c = 47
        · have e : (if c = 47 then some [] else none : Option (List Int)) = some rs := e
          rw [if_pos h7] at e
          cases e
          show (t.f ++ [intOf t.s]).length ≤ 4 ∧ 0 + 1 ≤ (t.f ++ [intOf t.s]).length
          rw [List.length_append]
          show t.f.length + 1 ≤ 4 ∧ 0 + 1 ≤ t.f.length + 1
          omega
        · have e : (if c = 47 then some [] else none : Option (List Int)) = some rs := e
          rw [if_neg h7] at e
          cases e
    | some r =>
      have eq : moved c t = ⟨t.f, some (r ++ [intOf t.s]), []⟩ := by unfold moved; rw [if_neg (by rw [hc]; decide), er]
      rw [eq]
      have f3 := F.fs r er
      by_cases h7 : c = 47
      · rw [if_pos h7, er] at h
        cases h
      · rw [if_neg h7, er, Bool.and_eq_true] at h
        have h2 : r.length + 1 < t.f.length := of_decide_eq_true h.2
        refine ⟨by show 0 ≤ 3; decide, fun x hx => (List.not_mem_nil hx).elim, fun e => (by cases e), fun rs e => ?_⟩
        cases e
        show t.f.length ≤ 4 ∧ (r ++ [intOf t.s]).length + 1 ≤ t.f.length
        rw [List.length_append]
        show t.f.length ≤ 4 ∧ r.length + 1 + 1 ≤ t.f.length
        omega
abbrev nSc : List Str := ["_law_text", "_law_state", "_law_at", "_law_sign", "_law_front", "_law_rear", "_law_figures"]
theorem sc_sc : FnScope nSc ["_law_text"] (defScope sLScanned) := ⟨rfl, rfl, rfl, by decide +kernel, rfl, by decide +kernel, by decide +kernel⟩
/-- what the machine ends with, or how far it got -/
def FoundAt (H' : Hp) (x : V) (r : Except Nat (List Int × List Int)) : Prop := match r with
  | .error n => x = .int (n : Nat)
  | .ok (ds, bs) => ∃ T A B : Addr, x = .ref T ∧ H' T = some (.tup [.ref A, .ref B]) ∧ H' A = some (.lst (ds.map V.int)) ∧ H' B = some (.lst (bs.map V.int))
def spScan : Sp := fun vs H Q _ => ∃ z : Str, vs = [.str z] ∧ z.length ≤ 1000 ∧ ∀ x H', Same H H' → FoundAt H' x (readP z.cps.toList) → Q x H'
section
variable {P : Program} {w : World} {K : PySem.W.Frag} {mg : Str → Option Value} {base : Heap}
theorem ok_scan {f : Addr} {fd : FuncData} (F : FunD K "_law_scanned" "_law_scanned" (defArgs sLScanned) (defBody sLScanned) (defScope sLScanned) [] [] f fd) (CN : Cd P w K mg base CX0 1 "_law_is_next" ["_law_sign", "_law_state"] spNext) (CM : Cd P w K mg base CX0 1 "_law_moved_on" ["_law_sign", "_law_state"] spMv)
    (g_enum : mg "enumerate" = none) (g_len : mg "len" = none) (g_int : mg "int" = none) : FnOk P w K mg base CX0 2 f fd ["_law_text"] spScan := by
  refine F.ok sc_sc (fun vs H Q E h => ?_) (fun cdv A outer s H vs Q E hr h => ?_)
  · obtain ⟨z, rfl, _⟩ := h
    rfl
  · obtain ⟨z, rfl, hz, q⟩ := h
    have sc := sc_sc
    refine ⟨_, PSs.nox (pss_cons (ps_set (i := 1) sc.nd rfl (Or.inl rfl) (pe_tup (pa_cons (pe_lst pa_nil) (pa_cons pe_non (pa_cons pe_str pa_nil)))))
      (pss_cons (ps_for PassesOwn.never rfl (pi_enumS (by rfl) g_enum (pa_cons (pv 0) pa_nil)) (pg_tup rfl (pgs_cons (pg_name (i := 2) sc.nd rfl (Or.inl rfl)) (pgs_cons (pg_name (i := 3) sc.nd rfl (Or.inl rfl)) pgs_nil)))
        (pss_cons (ps_if (pt_not (pt_val (pe_cd CN hr (by rfl) pass0 (pa_cons (pv 3) (pa_cons (pv 1) pa_nil))))) (pss_one (ps_ret (pv 2))) pss_nil)
        (pss_one (ps_set (i := 1) sc.nd rfl (Or.inl rfl) (pe_cd CM hr (by rfl) pass0 (pa_cons (pv 3) (pa_cons (pv 1) pa_nil)))))))
      (pss_cons (ps_asg (pv 1) (pg_tup rfl (pgs_cons (pg_name (i := 4) sc.nd rfl (Or.inl rfl)) (pgs_cons (pg_name (i := 5) sc.nd rfl (Or.inl rfl)) (pgs_cons (pg_name (i := 6) sc.nd rfl (Or.inl rfl)) pgs_nil)))))
      (pss_cons (ps_if (PW.pt (pw_or (pt_cmpR op_isN1 (pv 5) pe_non (by rfl)) (pw_or (pt_cmpR op_eq (pv 6) pe_str (nomark _)) (pw_or1 (pt_cmpR op_lt (pe_op op_add (pe_callB call_len_seq (by rfl) g_len PySem.boot_len (pa_cons (pv 5) pa_nil)) pe_int) (pe_callB call_len_seq (by rfl) g_len PySem.boot_len (pa_cons (pv 4) pa_nil)) (nomark _))))))
        (pss_one (ps_ret (pe_callB call_len (by rfl) g_len PySem.boot_len (pa_cons (pv 0) pa_nil)))) pss_nil)
      (pss_one (ps_ret (pe_tup (pa_cons (pv 4) (pa_cons (pe_op op_cat (pv 5) (pe_lst (pa_cons (pe_callTy call_int_str (by rfl) g_int boot_int (pa_cons (pv 6) pa_nil)) pa_nil))) pa_nil))))))))), ?_⟩
    have hL : z.length = z.cps.toList.length := (Array.length_toList).symm
    refine ⟨by show 0 ≤ sizeLine; decide, fun L hL0 => ?_⟩
    refine ⟨by show 3 ≤ sizeLine; decide, fun p0 hp0 => ?_⟩
    have s0 := (upd_new (o := .lst []) hL0).trans (upd_new (o := .tup [.ref L, .non, .str ""]) hp0)
    have i0 : StAt (upd (upd H L (.lst [])) p0 (.tup [.ref L, .non, .str ""])) p0 ⟨[], none, []⟩ := ⟨L, .non, by rw [upd_same]; rfl, upd_new hp0 _ _ (by rw [upd_same]; rfl), rfl⟩
    generalize upd (upd H L (.lst [])) p0 (.tup [.ref L, .non, .str ""]) = H0 at s0 i0 ⊢
    refine ⟨_, rfl, z, rfl, for_it walk_enumS (fun i σ H' => ∃ (u v : Option V) (p : Addr) (t : Sm), σ = [some (.str z), some (.ref p), u, v, none, none, none] ∧ Same H H' ∧ StAt H' p t ∧ Fit t ∧ scan z.cps.toList ⟨[], none, []⟩ 0 = scan (z.cps.toList.drop i) t i)
      ⟨none, none, p0, ⟨[], none, []⟩, rfl, s0, i0, ⟨by decide, fun x hx => (List.not_mem_nil hx).elim, fun _ => by show 0 ≤ 3; decide, fun rs e => (by cases e)⟩, rfl⟩ (fun _ _ _ _ _ => trivial) ?_ ?_⟩
    · rintro i x σ H1 H2 hi ⟨u, v, p, t, rfl, s1, st, ft, hS⟩ ⟨T, x1, x2, rfl, hT, rfl, e1, e2⟩
      cases e1
      obtain ⟨c, ec, rfl⟩ := Option.map_eq_some_iff.mp e2
      have s2 := upd_new (o := .tup [.int (i : Nat), .str ⟨#[c]⟩]) hT
      have st := st.same s2
      have s1 := s1.trans s2
      have hd : z.cps.toList.drop i = c :: z.cps.toList.drop (i + 1) := by
        have hi : i < z.cps.toList.length := by rw [Array.length_toList]; exact hi
        rw [List.drop_eq_getElem_cons hi]
        congr 1
        have := Array.getElem?_toList (xs := z.cps) (i := i)
        rw [ec, List.getElem?_eq_getElem hi] at this
        exact Option.some.inj this
      rw [hd, scan] at hS
      refine ⟨T, _, rfl, Or.inl (Or.inl upd_same), rfl, _, _, rfl, _, _, rfl, rfl, ?_⟩
      refine ⟨_, rfl, _, rfl, c, p, t, rfl, st, ft.b, _, rfl, ?_⟩
      by_cases hn : isNext c t = true
      · rw [hn]
        rw [if_pos hn] at hS
        refine iteF ?_
        refine ⟨_, rfl, _, rfl, c, p, t, rfl, st, ft.b, fun hc => ⟨next_some hn hc, ft.sl, ft.sf⟩, fun p' H3 s3 st3 => ?_⟩
        exact ⟨_, _, p', _, rfl, s1.trans s3, st3, ft.next hn, hS⟩
      · rw [Bool.not_eq_true] at hn
        rw [hn]
        rw [if_neg (by rw [hn]; decide)] at hS
        refine iteT ⟨_, rfl, ?_⟩
        refine q _ _ s1 ?_
        rw [← read_scan, hS]
        rfl
    · rintro σ H1 ⟨u, v, p, t, rfl, s1, st, ft, hS⟩
      have e0 : z.cps.toList.drop z.cps.size = [] := List.drop_of_length_le (by rw [Array.length_toList]; exact Nat.le_refl _)
      rw [e0, scan] at hS
      obtain ⟨F0, vr, hp, hF, hR⟩ := st
      have zl : z.length ≤ sizeLine := by rw [sizeLine_eq]; omega
      have bad : readP z.cps.toList = .error z.cps.size → Q (.int ((z.length : Nat) : Int)) H1 := fun e => q _ _ s1 (by rw [e]; rfl)
      rw [read_scan] at hS
      refine ⟨_, rfl, p, _, rfl, .inl (.inl hp), rfl, _, _, rfl, _, _, rfl, _, _, rfl, rfl, ?_⟩
      refine ⟨_, rfl, rfl, _, rfl, ?_⟩
      cases er : t.r with
      | none =>
        rw [er] at hR hS
        subst hR
        rw [decide_eq_true rfl]
        refine iteT (iteT ?_)
        exact ⟨_, rfl, .str z, _, rfl, ⟨zl, rfl⟩, bad hS⟩
      | some rs =>
        rw [er] at hR hS
        have hS : readP z.cps.toList = if t.s = [] ∨ rs.length + 1 < t.f.length then .error z.cps.size else .ok (t.f, rs ++ [intOf t.s]) := hS
        obtain ⟨R, rfl, hR⟩ := hR
        have f4 := ft.fs rs er
        rw [decide_eq_false (by intro z; cases z)]
        refine iteF ⟨_, rfl, rfl, _, rfl, ?_⟩
        rw [t_nil, dec_str txt_eq]
        by_cases h0 : t.s = []
        · rw [if_pos (.inl h0)] at hS
          rw [decide_eq_true h0]
          refine iteT (iteT ?_)
          exact ⟨_, rfl, .str z, _, rfl, ⟨zl, rfl⟩, bad hS⟩
        rw [decide_eq_false h0]
        refine iteF ⟨_, rfl, R, _, rfl, .inl (SqL.of hR), _, _, rfl, rfl, _, rfl, F0, _, rfl, .inl (SqL.of hF), _, _, rfl, rfl, _, rfl, ?_⟩
        by_cases hl : rs.length + 1 < t.f.length
        · rw [if_pos (.inr hl)] at hS
          rw [decide_eq_true (by rw [List.length_map, List.length_map]; omega)]
          refine iteT ?_
          exact ⟨_, rfl, .str z, _, rfl, ⟨zl, rfl⟩, bad hS⟩
        · rw [if_neg (fun z => z.elim h0 hl)] at hS
          rw [decide_eq_false (by rw [List.length_map, List.length_map]; omega)]
          refine iteF ?_
          obtain ⟨iv, i0, i1⟩ := int_figs h0 ft.sl ft.sf
          have le : (⟨t.s.toArray⟩ : Str).length ≤ 640 := by have := ft.sl; rw [txt_len]; omega
          refine ⟨_, rfl, _, rfl, _, rfl, _, _, rfl, iv, le, by show 1 ≤ sizeLine; decide, fun L hL => ?_⟩
          refine ⟨R, L, _, _, rfl, rfl, upd_new hL _ _ hR, upd_same, by rw [List.length_map, sizeLine_eq]; show rs.length + 1 ≤ _; omega, fun M hM => ?_⟩
          have s2 := (upd_new (o := .lst [V.int (intOf t.s)]) hL).trans (upd_new (o := .lst (rs.map V.int ++ [V.int (intOf t.s)])) hM)
          have e1 : (upd (upd H1 L (.lst [V.int (intOf t.s)])) M (.lst (rs.map V.int ++ [V.int (intOf t.s)]))) M = some (.lst ((rs ++ [intOf t.s]).map V.int)) := by rw [upd_same, List.map_append]; rfl
          generalize upd (upd H1 L (.lst [V.int (intOf t.s)])) M (.lst (rs.map V.int ++ [V.int (intOf t.s)])) = H2 at s2 e1 ⊢
          refine ⟨by show 2 ≤ sizeLine; decide, fun D hD => ?_⟩
          have s3 := upd_new (o := .tup [.ref F0, .ref M]) hD
          exact q _ _ ((s1.trans s2).trans s3) (by rw [hS]; exact ⟨D, F0, M, rfl, upd_same, s3 _ _ (s2 _ _ hF), s3 _ _ e1⟩)
end
end K06

set_option Elab.async false
set_option linter.all false
set_option maxRecDepth 100000
set_option maxHeartbeats 4000000
namespace K06
open PySem PySem.Spec PyProof.Rows L2 Ru
theorem readR_num : ∀ (m : Nat) (l : List Nat) (ns : List Int) (e : Nat), readR m l = .ok (ns, e) → ∀ n ∈ ns, 0 ≤ n ∧ n < 1000
  | 0, l, ns, e, h => by rw [readR] at h; cases h
  | m + 1, l, ns, e, h => by
    rw [readR] at h
    split at h
    · cases h
    · rename_i h0
      obtain ⟨_, i0, i1⟩ := num_int h0
      split at h
      · cases h
        intro n hn
        rw [List.mem_singleton.mp hn]
        exact ⟨i0, i1⟩
      · split at h
        · cases h
        · rename_i ns' k hr
          cases h
          have := readR_num m _ _ _ hr
          intro n hn
          rcases List.mem_cons.mp hn with hn | hn
          · rw [hn]; exact ⟨i0, i1⟩
          · exact this n hn
theorem readP_ok {l : List Nat} {ds bs : List Int} (h : readP l = .ok (ds, bs)) : bs.length = ds.length ∧ 1 ≤ ds.length ∧ ds.length ≤ 4 ∧ (∀ n ∈ ds, 0 ≤ n ∧ n < 1000) ∧ ∀ n ∈ bs, 0 ≤ n ∧ n < 1000 := by
  unfold readP at h
  cases h1 : readR 4 l with
  | error x => rw [h1] at h; cases h
  | ok v =>
    obtain ⟨xs, e⟩ := v
    rw [h1] at h
    have h : (if (l.drop e).head? ≠ some 47 then .error e else match readR xs.length (l.drop (e + 1)) with
      | .error x => .error (e + 1 + x)
      | .ok (bs, k) => if bs.length < xs.length ∨ e + 1 + k < l.length then .error (e + 1 + k) else .ok (xs, bs) : Except Nat (List Int × List Int)) = .ok (ds, bs) := h
    split at h
    · cases h
    · cases h2 : readR xs.length (l.drop (e + 1)) with
      | error x => rw [h2] at h; cases h
      | ok v =>
        obtain ⟨ys, k⟩ := v
        rw [h2] at h
        have h : (if ys.length < xs.length ∨ e + 1 + k < l.length then .error (e + 1 + k) else .ok (xs, ys) : Except Nat (List Int × List Int)) = .ok (ds, bs) := h
        split at h
        · cases h
        · rename_i hn
          cases h
          have a1 := readR_len _ _ _ _ h1
          have a2 := readR_len _ _ _ _ h2
          exact ⟨by omega, a1.1, a1.2, readR_num _ _ _ _ h1, readR_num _ _ _ _ h2⟩
theorem scan_err : ∀ (l : List Nat) (t : Sm) (p q : Nat), scan l t p = .error q → q ≤ p + l.length
  | [], t, p, q, h => by
    rw [scan] at h
    split at h
    · cases h; simp
    · split at h
      · cases h; simp
      · cases h
  | c :: l, t, p, q, h => by
    rw [scan] at h
    split at h
    · have := scan_err l _ _ _ h
      simp
      omega
    · cases h; simp
theorem readP_err {l : List Nat} {q : Nat} (h : readP l = .error q) : q ≤ l.length := by
  rw [← read_scan] at h
  have := scan_err _ _ _ _ h
  omega
theorem ad3 (a b c : Nat) : a ≠ a + b + c + 1 ∧ b ≠ a + b + c + 1 ∧ c ≠ a + b + c + 1 := by omega
theorem rd_ne {H : Hp} {l d : Addr} {cs xs : List V} (h : Rd H l (.tup xs)) (hd : H d = some (.lst cs)) : l ≠ d := by
  intro e
  subst e
  rcases h with h | ⟨o, h⟩
  · rw [hd] at h; cases h
  · rw [hd] at h; cases h
def badB (b : Int) : Bool := !(decide (2 ≤ b) && decide (b ≤ 100))
/-- the places at which a digit isn't below its base -/
def wrN (ds bs : List Int) : Nat → List Int
  | 0 => []
  | n + 1 => wrN ds bs n ++ (if bs.getD n 0 ≤ ds.getD n 0 then [(n : Int)] else [])
theorem wr_len {ds bs : List Int} : ∀ n, (wrN ds bs n).length ≤ n
  | 0 => Nat.le_refl _
  | n + 1 => by
    have := wr_len (ds := ds) (bs := bs) n
    rw [wrN, List.length_append]
    split
    · show _ + 1 ≤ _; omega
    · show _ + 0 ≤ _; omega
def tellD (r : Except Nat (List Int × List Int)) : PyData := match r with
  | .error p => .tuple [.str "text", .int (p : Nat)]
  | .ok (ds, bs) => if bs.filter badB = [] then match wrN ds bs ds.length with
      | [] => .tuple [.str "told", .tuple (intsD ds), .tuple (intsD bs)]
      | i :: _ => .tuple [.str "numeral", .int i]
    else .tuple [.str "numeral", .none]
abbrev nDue : List Str := ["_law_text", "_law_found", "_law_digits", "_law_bases", "_law_base", "_law_wrong", "_law_at", "_law_digit"]
theorem sc_due : FnScope nDue ["_law_text"] (defScope sLDue) := ⟨rfl, rfl, rfl, by decide +kernel, rfl, by decide +kernel, by decide +kernel⟩
def spDue : Sp := fun vs H Q _ => ∃ (z : Str) (d : Addr) (cs : List V), vs = [.str z] ∧ H d = some (.lst cs) ∧ z.length ≤ 1000 ∧ ∀ x H', Same H H' → Dw d H' x (tellD (readP z.cps.toList)) → Q x H'
section
variable {P : Program} {w : World} {K : PySem.W.Frag} {mg : Str → Option Value} {base : Heap}
theorem ok_due {f : Addr} {fd : FuncData} (F : FunD K "_law_due" "_law_due" (defArgs sLDue) (defBody sLDue) (defScope sLDue) [] [] f fd) (CS : Cd P w K mg base CX0 2 "_law_scanned" ["_law_text"] spScan)
    (g_enum : mg "enumerate" = none) (g_isi : mg "isinstance" = none) (g_int : mg "int" = none) (g_tuple : mg "tuple" = none) : FnOk P w K mg base CX0 3 f fd ["_law_text"] spDue := by
  refine F.ok sc_due (fun vs H Q E h => ?_) (fun cdv A outer s H vs Q E hr h => ?_)
  · obtain ⟨z, d, cs, rfl, _⟩ := h
    rfl
  · obtain ⟨z, d, cs, rfl, hd, hz, k⟩ := h
    have sc := sc_due
    refine ⟨_, PSs.nox (pss_cons (ps_set (i := 1) sc.nd rfl (Or.inl rfl) (pe_cd CS hr (by rfl) pass0 (pa_cons (pv 0) pa_nil)))
      (pss_cons (ps_if (pt_val (pe_callB call_isi (by rfl) g_isi boot_isinstance (pa_cons (pv 1) (pa_cons (pe_bltn (v := V.ty "int") (by rfl) g_int boot_int rfl) pa_nil)))) (pss_one (ps_ret (pe_tup (pa_cons pe_str (pa_cons (pv 1) pa_nil))))) pss_nil)
      (pss_cons (ps_asg (pv 1) (pg_tup rfl (pgs_cons (pg_name (i := 2) sc.nd rfl (Or.inl rfl)) (pgs_cons (pg_name (i := 3) sc.nd rfl (Or.inr rfl)) pgs_nil))))
      (pss_cons (ps_if (pt_cmpR (op_neD hr.units) (pe_lc (own := [("_law_base", 4)]) (g := gName 4) rfl sc.nd (pi_list (pv 3)) (blkOk_by (N := nDue) (sc := defScope sLDue) (by decide +kernel))
          (fun _ _ _ _ _ => pg_name (i := 4) sc.nd rfl (Or.inl rfl)) (fun _ _ _ _ _ => pts_one (pt_not (pt_chain op_le op_le pe_int (pv 4) pe_int))) (fun _ _ _ _ _ => pv 4)) (pe_lst pa_nil) (nomark _))
        (pss_one (ps_ret (pe_tup (pa_cons pe_str (pa_cons pe_non pa_nil))))) pss_nil)
      (pss_cons (ps_setLc (i := 5) (own := [("_law_at", 6), ("_law_digit", 7)]) (g := gTup K 2 (gCons (gName 6) (gCons (gName 7) gNil))) (tt := tTest (tOp (rI0 fun i j => .bl (decide (j ≤ i))) (tVar 7) (tOp (rIxL K) (tVar 3) (tVar 6)))) (te := tVar 6) rfl sc.nd rfl rfl (sw_true rfl rfl rfl (by decide +kernel)) (pi_enumX (by rfl) g_enum (pa_cons (pv 2) pa_nil)) (blkOk_by (N := nDue) (sc := defScope sLDue) (by decide +kernel))
          (fun _ _ _ _ _ => pg_tup rfl (pgs_cons (pg_name (i := 6) sc.nd rfl (Or.inl rfl)) (pgs_cons (pg_name (i := 7) sc.nd rfl (Or.inl rfl)) pgs_nil)))
          (fun _ _ _ _ _ => pts_one (pt_cmpR op_ge (pv 7) (pe_ix ix_list (pv 3) (pv 6) (fun _ _ => rfl)) (nomark _))) (fun _ _ _ _ _ => pv 6))
      (pss_one (ps_ret (pe_ifExp (pt_cmpR (op_neD hr.units) (pv 5) (pe_lst pa_nil) (nomark _)) (pe_tup (pa_cons pe_str (pa_cons (pe_ix ix_list (pv 5) pe_int (fun _ _ => rfl)) pa_nil)))
        (pe_tup (pa_cons pe_str (pa_cons (pe_tupA (by rfl) g_tuple (pv 2) mono_var) (pa_cons (pe_tupA (by rfl) g_tuple (pv 3) mono_var) pa_nil)))))))))))), ?_⟩
    refine ⟨_, rfl, z, rfl, hz, fun x H1 s1 fx => ?_⟩
    have hd1 := s1 _ _ hd
    have hk := @readP_ok z.cps.toList
    generalize readP z.cps.toList = r at fx hk k
    cases r with
    | error p =>
      cases fx
      refine ⟨_, rfl, _, _, _, _, _, rfl, .ty "int", (Dq.int (K := K) (d := d) (H := H1) (p : Int)).ty, kit_ty (kit_int _), _, rfl, ?_⟩
      refine iteT ?_
      refine ⟨_, rfl, by show 2 ≤ sizeLine; decide, fun t ht => ?_⟩
      exact k _ _ (s1.trans (upd_new ht)) (.tup (.inl upd_same) (ne_of_none hd1 ht).symm (.cons (.str _) (.cons (.int _) .nil)))
    | ok v =>
      obtain ⟨ds, bs⟩ := v
      obtain ⟨T, A, B, rfl, hT, hA, hB⟩ := fx
      obtain ⟨l1, l2, l3, nd, nb⟩ := hk rfl
      have w0 : Dw (T + A + B + 1) H1 (.ref T) (.tuple [.list (intsD ds), .list (intsD bs)]) := .tup (.inl hT) (ad3 T A B).1 (.cons (.lst (.inl hA) (ad3 T A B).2.1 dw_ints) (.cons (.lst (.inl hB) (ad3 T A B).2.2 dw_ints) .nil))
      refine ⟨_, rfl, _, _, _, _, _, rfl, .ty "int", (w0.dq (K := K)).ty, kit_ty (kit_int _), _, rfl, ?_⟩
      rw [show (wholeD (.tuple [.list (intsD ds), .list (intsD bs)]) || decide (tyD (.tuple [.list (intsD ds), .list (intsD bs)]) = "bool")) = false by simp [wholeD, tyD]]
      refine iteF ?_
      refine ⟨_, rfl, T, _, rfl, .inl (.inl hT), rfl, _, _, rfl, _, _, rfl, rfl, ?_⟩
      refine ⟨_, rfl, B, rfl, ⟨_, SqL.of hB⟩, fun D hD => ?_⟩
      refine lc_it walk_list (fun i H' => Same H1 H' ∧ H' D = some (.lst (((bs.take i).filter badB).map V.int)) ∧ H1 D = none) ⟨upd_new hD, upd_same, hD⟩ (fun i H' _ g => SqL.of (g.1 _ _ hB)) ?_ ?_
      · rintro i y H4 H' hy ⟨s2, e2, nD⟩ ⟨rfl, ev⟩
        rw [List.getElem?_map] at ev
        obtain ⟨b, eb, rfl⟩ := Option.map_eq_some_iff.mp ev
        have en : (bs.take (i + 1)).filter badB = (bs.take i).filter badB ++ if badB b then [b] else [] := by
          rw [List.take_succ, eb, List.filter_append]
          congr 1
          show List.filter badB [b] = _
          rw [List.filter_cons]
          rfl
        have ok0 : badB b = false → Same H1 H' ∧ H' D = some (.lst (((bs.take (i + 1)).filter badB).map V.int)) ∧ H1 D = none := fun e => ⟨s2, by rw [en, e, if_neg (by decide), List.append_nil]; exact e2, nD⟩
        have bad0 : badB b = true → ∃ acc, H' D = some (.lst acc) ∧ acc.length < sizeLine ∧ Same H1 (upd H' D (.lst (acc ++ [V.int b]))) ∧ (upd H' D (.lst (acc ++ [V.int b]))) D = some (.lst (((bs.take (i + 1)).filter badB).map V.int)) ∧ H1 D = none := fun e => by
          refine ⟨_, e2, ?_, fill_next nD s2, ?_, nD⟩
          · rw [List.length_map, sizeLine_eq]
            have := List.length_filter_le badB (bs.take i)
            rw [List.length_take] at this
            omega
          · rw [upd_same, en, e, if_pos rfl, List.map_append]
            rfl
        refine ⟨rfl, _, rfl, _, _, rfl, rfl, _, rfl, ?_⟩
        by_cases c1 : 2 ≤ b
        · rw [decide_eq_true c1]
          refine iteT ⟨_, _, rfl, rfl, _, rfl, ?_⟩
          by_cases c2 : b ≤ 100
          · rw [decide_eq_true c2]
            exact iteF (ok0 (by unfold badB; rw [decide_eq_true c1, decide_eq_true c2]; rfl))
          · rw [decide_eq_false c2]
            exact iteT ⟨_, rfl, bad0 (by unfold badB; rw [decide_eq_true c1, decide_eq_false c2]; rfl)⟩
        · rw [decide_eq_false c1]
          refine iteF ⟨_, rfl, ?_⟩
          exact iteT ⟨_, rfl, bad0 (by unfold badB; rw [decide_eq_false c1]; rfl)⟩
      rintro H2 ⟨s2, e2, _⟩
      rw [List.length_map, List.take_length] at e2
      have hb := k
      refine ⟨by show 0 ≤ sizeLine; decide, fun D2 hD2 => ?_⟩
      have s3 := upd_new (o := .lst []) hD2
      refine ⟨.list (intsD (bs.filter badB)), .list (intsD []), .lst (SqL.of (s3 _ _ e2)) dp_ints, .lst (xs := ([] : List Int).map V.int) (SqL.of upd_same) dp_ints, shaped_ints, shaped_ints, _, rfl, ?_⟩
      rw [eqv_lst]
      have s13 := (s1.trans s2).trans s3
      have hT := s3 _ _ (s2 _ _ hT)
      have hA := s3 _ _ (s2 _ _ hA)
      have hB := s3 _ _ (s2 _ _ hB)
      have hd3 := s3 _ _ (s2 _ _ hd1)
      generalize upd H2 D2 (.lst []) = H3 at s13 hT hA hB hd3 ⊢
      by_cases cb : bs.filter badB = []
      case neg =>
        rw [decide_eq_false cb]
        refine iteT ⟨by show 2 ≤ sizeLine; decide, fun t ht => ?_⟩
        refine k _ _ (s13.trans (upd_new ht)) ?_
        have e : tellD (.ok (ds, bs)) = .tuple [.str "numeral", .none] := by unfold tellD; exact if_neg cb
        rw [e]
        exact .tup (.inl upd_same) (ne_of_none hd3 ht).symm (.cons (.str _) (.cons .non .nil))
      rw [decide_eq_true cb]
      refine iteF ?_
      have e0 : tellD (.ok (ds, bs)) = match wrN ds bs ds.length with
          | [] => .tuple [.str "told", .tuple (intsD ds), .tuple (intsD bs)]
          | i :: _ => .tuple [.str "numeral", .int i] := by unfold tellD; exact if_pos cb
      rw [e0] at k
      refine ⟨_, rfl, false, A, _, rfl, Or.inl (.inl hA), fun D3 hD3 => ?_⟩
      refine lc_it walk_enumA (fun i H' => Same H3 H' ∧ H' D3 = some (.lst ((wrN ds bs i).map V.int))) ⟨upd_new hD3, upd_same⟩ (fun i H' _ g => Or.inl (.inl (g.1 _ _ hA))) ?_ ?_
      · rintro i v H8 H9 hi ⟨s8, eD⟩ ⟨T2, y1, y2, rfl, hT2, rfl, e1, e2⟩
        cases e1
        rw [List.length_map] at hi
        have e2 : (ds.map V.int)[i]? = some y2 := e2
        have j1 : ds[i]? = some ds[i] := List.getElem?_eq_getElem hi
        have hi2 : i < bs.length := by omega
        have j2 : bs[i]? = some bs[i] := List.getElem?_eq_getElem hi2
        rw [List.getElem?_map, j1] at e2
        cases e2
        have s9 : Same H3 (upd H8 T2 (.tup [.int (i : Nat), .int ds[i]])) := s8.trans (upd_new hT2)
        have nT : D3 ≠ T2 := ne_of_none eD hT2
        have wn : wrN ds bs (i + 1) = wrN ds bs i ++ (if bs[i] ≤ ds[i] then [(i : Int)] else []) := by
          rw [wrN, List.getD_eq_getElem?_getD, List.getD_eq_getElem?_getD, j1, j2]
          rfl
        refine ⟨T2, _, rfl, Or.inl (Or.inl upd_same), rfl, _, _, rfl, _, _, rfl, rfl, rfl, ?_⟩
        refine ⟨_, rfl, _, rfl, _, rfl, B, _, _, .int bs[i], rfl, rfl, SqL.of (s9 _ _ hB), at_of rfl (by rw [List.getElem?_map, j2]; rfl), _, _, rfl, rfl, _, rfl, ?_⟩
        have eDT : (upd H8 T2 (.tup [.int (i : Nat), .int ds[i]])) D3 = some (.lst ((wrN ds bs i).map V.int)) := by rw [upd_ne nT]; exact eD
        by_cases c : bs[i] ≤ ds[i]
        · rw [decide_eq_true c]
          refine iteT ⟨_, rfl, _, eDT, ?_, fill_next hD3 s9, ?_⟩
          · rw [List.length_map, sizeLine_eq]
            have := wr_len (ds := ds) (bs := bs) i
            omega
          · rw [upd_same, wn, if_pos c, List.map_append]
            rfl
        · rw [decide_eq_false c]
          refine iteF ⟨s9, ?_⟩
          rw [wn, if_neg c, List.append_nil]
          exact eDT
      · rintro H8 ⟨s8, eD⟩
        rw [List.length_map] at eD
        generalize hw : wrN ds bs ds.length = ws at eD k
        refine ⟨_, rfl, by show 0 ≤ sizeLine; decide, fun D4 hD4 => ?_⟩
        have s9 := upd_new (o := .lst []) hD4
        refine ⟨.list (intsD ws), .list (intsD []), .lst (SqL.of (s9 _ _ eD)) dp_ints, .lst (xs := ([] : List Int).map V.int) (SqL.of upd_same) dp_ints, shaped_ints, shaped_ints, _, rfl, ?_⟩
        rw [eqv_lst]
        have s19 := (s13.trans s8).trans s9
        have hA := s9 _ _ (s8 _ _ hA)
        have hB := s9 _ _ (s8 _ _ hB)
        have hd4 := s9 _ _ (s8 _ _ hd3)
        have eD := s9 _ _ eD
        generalize upd H8 D4 (.lst []) = H4 at s19 hA hB hd4 eD ⊢
        cases ws with
        | nil =>
          rw [decide_eq_true rfl]
          refine iteF ⟨_, rfl, false, A, _, rfl, .inl hA, fun l H5 s5 e5 => ⟨_, rfl, false, B, _, rfl, .inl (s5 _ _ hB), fun l2 H6 s6 e6 => ⟨by show 3 ≤ sizeLine; decide, fun t ht => ?_⟩⟩⟩
          have hd6 := s6 _ _ (s5 _ _ hd4)
          have e5 := Same.rd s6 e5
          have st := upd_new (o := .tup [.str "told", .ref l, .ref l2]) ht
          exact k _ _ (((s19.trans s5).trans s6).trans st) (.tup (.inl upd_same) (ne_of_none hd6 ht).symm (.cons (.str _) (.cons (.tup (Same.rd st e5) (rd_ne e5 hd6) dw_ints) (.cons (.tup (Same.rd st e6) (rd_ne e6 hd6) dw_ints) .nil))))
        | cons x xs =>
          rw [decide_eq_false (by intro z; cases z)]
          refine iteT ⟨_, rfl, D3, _, _, .int x, rfl, rfl, SqL.of eD, at_of (j := 0) rfl rfl, by show 2 ≤ sizeLine; decide, fun t ht => ?_⟩
          exact k _ _ (s19.trans (upd_new ht)) (.tup (.inl upd_same) (ne_of_none hd4 ht).symm (.cons (.str _) (.cons (.int _) .nil)))
end
end K06

set_option Elab.async false
set_option linter.all false
set_option maxRecDepth 100000
set_option maxHeartbeats 4000000
namespace K06
open PySem PySem.Spec PyProof.Rows L2 Ru
theorem intsD_map : ∀ xs : List Int, intsD xs = xs.map PyData.int
  | [] => rfl
  | x :: xs => by
    show PyData.int x :: intsD xs = _
    rw [intsD_map xs]
    rfl
theorem bss_fil {bs : List Int} (B : Bss bs) : bs.filter badB = [] := by
  refine List.filter_eq_nil_iff.mpr fun b hb => ?_
  obtain ⟨h1, h2⟩ := B.2.2 b hb
  unfold badB
  rw [decide_eq_true h1, decide_eq_true h2]
  decide
theorem long_no {ds bs : List Int} (hl : bs.length = ds.length) (h1 : 1 ≤ ds.length) (h4 : ds.length ≤ 4) (h : longD (.list (intsD ds)) (.list (intsD bs)) = false) : bs.filter badB ≠ [] := by
  intro z
  have zb := List.filter_eq_nil_iff.mp z
  have : longD (.list (intsD ds)) (.list (intsD bs)) = true := by
    unfold longD
    rw [intsD_map, intsD_map]
    have e1 : basesD (.list (bs.map PyData.int)) = true := by
      show (decide (1 ≤ (bs.map PyData.int).length) && decide ((bs.map PyData.int).length ≤ 4) && (bs.map PyData.int).all baseD) = true
      rw [List.length_map, decide_eq_true (show 1 ≤ bs.length by omega), decide_eq_true (show bs.length ≤ 4 by omega), Bool.true_and, Bool.true_and]
      refine List.all_eq_true.mpr fun x hx => ?_
      obtain ⟨b, hb, rfl⟩ := List.mem_map.mp hx
      have := zb b hb
      unfold badB at this
      show (decide (2 ≤ b) && decide (b ≤ 100)) = true
      cases hc : (decide (2 ≤ b) && decide (b ≤ 100)) with
      | true => rfl
      | false => rw [hc] at this; exact absurd rfl this
    have e2 : decide (lenD (.list (ds.map PyData.int)) = lenD (.list (bs.map PyData.int))) = true := decide_eq_true (by show (ds.map PyData.int).length = (bs.map PyData.int).length; rw [List.length_map, List.length_map, hl])
    rw [e1, e2]
    rfl
  rw [this] at h
  cases h
theorem wr_none {ds bs : List Int} {n : Nat} (h : ∀ j, j < n → ds.getD j 0 < bs.getD j 0) : wrN ds bs n = [] := by
  induction n with
  | zero => rfl
  | succ n ih =>
    rw [wrN, ih fun j hj => h j (by omega), if_neg (by have := h n (by omega); omega)]
    rfl
theorem wr_head {ds bs : List Int} {i : Nat} (h : ∀ j, j < i → ds.getD j 0 < bs.getD j 0) (hi : bs.getD i 0 ≤ ds.getD i 0) : ∀ k, ∃ r, wrN ds bs (i + 1 + k) = (i : Int) :: r
  | 0 => ⟨[], by show wrN ds bs (i + 1) = _; rw [wrN, wr_none h, if_pos hi]; rfl⟩
  | k + 1 => by
    obtain ⟨r, e⟩ := wr_head h hi k
    show ∃ r, wrN ds bs (i + 1 + k + 1) = _
    rw [wrN, e]
    exact ⟨_, rfl⟩
theorem getD_of {l : List Int} {i : Nat} {x : Int} (h : l[i]? = some x) : l.getD i 0 = x := by
  rw [List.getD_eq_getElem?_getD, h]
  rfl
theorem fw_wr {ds bs : List Int} {i : Nat} (hl : bs.length = ds.length) (nd : ∀ n ∈ ds, 0 ≤ n ∧ n < 1000) (h : FW (intsD ds) bs i) : ∃ r, wrN ds bs ds.length = (i : Int) :: r := by
  rw [intsD_map] at h
  obtain ⟨hA, x, b, e1, e2, e3⟩ := h
  rw [List.getElem?_map] at e1
  obtain ⟨z, ez, rfl⟩ := Option.map_eq_some_iff.mp e1
  have hz := nd z (List.mem_of_getElem? ez)
  have hi : i < ds.length := (List.getElem?_eq_some_iff.mp ez).1
  obtain ⟨r, e⟩ := wr_head (ds := ds) (bs := bs) (i := i) (fun j hj => by
    have j1 : ds[j]? = some ds[j] := List.getElem?_eq_getElem (by omega)
    have j2 : bs[j]? = some bs[j] := List.getElem?_eq_getElem (by omega)
    have := hA j (.int ds[j]) bs[j] hj (by rw [List.getElem?_map, j1]; rfl) j2
    have : (decide (0 ≤ ds[j]) && decide (ds[j] < bs[j])) = true := this
    rw [Bool.and_eq_true] at this
    rw [getD_of j1, getD_of j2]
    exact of_decide_eq_true this.2) (by
    have e3 : (decide (0 ≤ z) && decide (z < b)) = false := e3
    rw [decide_eq_true hz.1, Bool.true_and] at e3
    rw [getD_of ez, getD_of e2]
    have := of_decide_eq_false e3
    omega) (ds.length - (i + 1))
  rw [show i + 1 + (ds.length - (i + 1)) = ds.length by omega] at e
  exact ⟨r, e⟩
theorem dgs_wr {ds bs : List Int} (D : Dgs ds bs) : wrN ds bs ds.length = [] := by
  have hl := D.len
  refine wr_none fun j hj => ?_
  have j1 : ds[j]? = some ds[j] := List.getElem?_eq_getElem hj
  have j2 : bs[j]? = some bs[j] := List.getElem?_eq_getElem (by omega)
  rw [getD_of j1, getD_of j2]
  exact (D.at j1 j2).2
theorem tell_bad {ds bs : List Int} (h : bs.filter badB ≠ []) : tellD (.ok (ds, bs)) = .tuple [.str "numeral", .none] := by unfold tellD; exact if_neg h
theorem tell_wr {ds bs : List Int} {i : Int} {r : List Int} (h : bs.filter badB = []) (e : wrN ds bs ds.length = i :: r) : tellD (.ok (ds, bs)) = .tuple [.str "numeral", .int i] := by
  unfold tellD
  show (if bs.filter badB = [] then _ else _) = _
  rw [if_pos h, e]
theorem tell_ok {ds bs : List Int} (h : bs.filter badB = []) (e : wrN ds bs ds.length = []) : tellD (.ok (ds, bs)) = .tuple [.str "told", .tuple (intsD ds), .tuple (intsD bs)] := by
  unfold tellD
  show (if bs.filter badB = [] then _ else _) = _
  rw [if_pos h, e]
def saysD : PyData → PyData
  | .str z => tellD (readP z.cps.toList)
  | _ => .tuple [.str "text", .int 0]
end K06

set_option Elab.async false
set_option linter.all false
set_option maxRecDepth 100000
set_option maxHeartbeats 4000000
namespace K06
open PySem PySem.Spec PyProof.Rows L2 Ru
/-- the classes that the law looks at -/
structure RfD (K : PySem.W.Frag) (mg : Str → Option Value) (ZT ZN ZB O U : Addr) : Prop where
  gR : mg "RisingError" = some (.ref (He.ga K "RisingError"))
  gT : mg "NoText" = some (.ref ZT)
  gN : mg "NoNumeral" = some (.ref ZN)
  gB : mg "BadText" = some (.ref ZB)
  gO : mg "Overflow" = some (.ref O)
  gU : mg "Unlike" = some (.ref U)
  g_isi : mg "isinstance" = none
  exT : PySem.W.exmOne K (.ref ZT) (.ref (He.ga K "RisingError")) = some true
  exN : PySem.W.exmOne K (.ref ZN) (.ref (He.ga K "RisingError")) = some true
  xkT : ExK K ZT
  xkN : ExK K ZN
  tT : PySem.W.kitOne K (.ref ZT) (.ref ZT) = some true
  tN : PySem.W.kitOne K (.ref ZT) (.ref ZN) = some false
  tB : PySem.W.kitOne K (.ref ZT) (.ref ZB) = some false
  tO : PySem.W.kitOne K (.ref ZT) (.ref O) = some false
  tU : PySem.W.kitOne K (.ref ZT) (.ref U) = some false
  nN : PySem.W.kitOne K (.ref ZN) (.ref ZN) = some true
  nT : PySem.W.kitOne K (.ref ZN) (.ref ZT) = some false
  nB : PySem.W.kitOne K (.ref ZN) (.ref ZB) = some false
  nO : PySem.W.kitOne K (.ref ZN) (.ref O) = some false
  nU : PySem.W.kitOne K (.ref ZN) (.ref U) = some false
  noT : PySem.W.findIn K (.ref ZT) "at" = some none
  noN : PySem.W.findIn K (.ref ZN) "at" = some none
abbrev nTold : List Str := ["_law_thing", "_law_found", "_law_numeral_here", "error"]
theorem sc_told : FnScope nTold ["_law_thing"] (defScope sLTold) := ⟨rfl, rfl, rfl, by decide +kernel, rfl, by decide +kernel, by decide +kernel⟩
def spTold : Sp := fun vs H Q _ => ∃ (v : V) (d : Addr) (cs : List V) (x : PyData), vs = [v] ∧ H d = some (.lst cs) ∧ Dw d H v x ∧ (∀ z, x = .str z → z.length ≤ 1000) ∧ ∀ u H', Same H H' → Dw d H' u (saysD x) → Q u H'
section
variable {P : Program} {w : World} {K : PySem.W.Frag} {mg : Str → Option Value} {base : Heap}
theorem ok_told {C f g ZT ZN ZB O U : Addr} {fd : FuncData} {pm : Addr} {mc : Value} (F : FunD K "_law_told" "_law_told" (defArgs sLTold) (defBody sLTold) (defScope sLTold) [] [] f fd) (N : NumK K mg C) (R : RfD K mg ZT ZN ZB O U)
    (CRD : ClX.CRead K C mc) (CMT : ClX.CMet K C mc "read" pm g) (FB : FnR P w K mg base (L2.CX P w) 7 g (spRd C ZN ZT)) :
    FnOk P w K mg base CX0 8 f fd ["_law_thing"] spTold := by
  refine F.ok sc_told (fun vs H Q E h => ?_) (fun cdv A outer s H vs Q E hr h => ?_)
  · obtain ⟨v, d, cs, x, rfl, _⟩ := h
    rfl
  · obtain ⟨v, d, cs, x, rfl, hd, hv, hz, k⟩ := h
    have sc := sc_told
    refine ⟨_, PSs.nox (pss_cons (ps_set (i := 1) sc.nd rfl (Or.inl rfl) (pe_tup (pa_cons pe_str pa_nil)))
      (pss_cons (ps_try_keep (X := (cxOf CX0 P w K mg base nTold "_law_told" (defScope sLTold) f cdv A outer s H E).nox) (c := .ref (He.ga K "RisingError")) (i := 3)
        (tb := fun W D σ H => tCMethS (fun cls d σ H => σ.length = 4 → W cls d σ H) C (spRd C ZN ZT) (tC (.ref C)) (tCons (tVar 0) tNil) σ H fun v H1 => gName 2 v σ H1 fun σ2 H2 => tAsg (tTup (tCons (tC (.str "told")) (tCons (tFld K (tVar 2) "digits") (tCons (tFld K (tVar 2) "bases") tNil)))) (gName 1) D σ2 H2)
        rfl rfl rfl sc.nd rfl rfl ⟨rfl, by decide, .inl R.gR⟩ LamX.takes0 (fun W pn xe tk _ => ?_) (fun a oe cls d pn hz hf =>
          pss_cons (ps_if (PW.pt (pw_and (pt_val (pe_callB (call_isP hz hf) (by rfl) R.g_isi boot_isinstance (pa_cons (pv 3) (pa_cons (pe_glob (v := V.ref ZT) (by rfl) R.gT rfl) pa_nil))))
              (pw_and1 (pt_not (pt_val (pe_callB (call_isPT hz hf) (by rfl) R.g_isi boot_isinstance (pa_cons (pv 3) (pa_cons (pe_tup (pa_cons (pe_glob (v := V.ref ZN) (by rfl) R.gN rfl) (pa_cons (pe_glob (v := V.ref ZB) (by rfl) R.gB rfl) (pa_cons (pe_glob (v := V.ref O) (by rfl) R.gO rfl) (pa_cons (pe_glob (v := V.ref U) (by rfl) R.gU rfl) pa_nil))))) pa_nil))))))))
            (pss_one (ps_set (i := 1) sc.nd rfl (Or.inl rfl) (pe_tupP (pa_cons pe_str (pa_cons (pe_pxf hz hf (pv 3)) pa_nil))))) pss_nil)
          (pss_one (ps_if (PW.pt (pw_and (pt_val (pe_callB (call_isP hz hf) (by rfl) R.g_isi boot_isinstance (pa_cons (pv 3) (pa_cons (pe_glob (v := V.ref ZN) (by rfl) R.gN rfl) pa_nil))))
              (pw_and1 (pt_not (pt_val (pe_callB (call_isPT hz hf) (by rfl) R.g_isi boot_isinstance (pa_cons (pv 3) (pa_cons (pe_tup (pa_cons (pe_glob (v := V.ref ZT) (by rfl) R.gT rfl) (pa_cons (pe_glob (v := V.ref ZB) (by rfl) R.gB rfl) (pa_cons (pe_glob (v := V.ref O) (by rfl) R.gO rfl) (pa_cons (pe_glob (v := V.ref U) (by rfl) R.gU rfl) pa_nil))))) pa_nil))))))))
            (pss_one (ps_set (i := 1) sc.nd rfl (Or.inl rfl) (pe_tupP (pa_cons pe_str (pa_cons (pe_pxf hz hf (pv 3)) pa_nil))))) pss_nil))))
      (pss_one (ps_ret (pv 1))))), ?_⟩
    · exact (pss_cons (ps_set (i := 2) sc.nd rfl (Or.inl rfl) (pe_cmethS (pe_glob (v := V.ref C) (by rfl) N.gN rfl) CRD CMT FB hr (takes_len tk) (pa_cons (pv 0) pa_nil)))
        (pss_one (ps_set (i := 1) sc.nd rfl (Or.inl rfl) (pe_tup (pa_cons pe_str (pa_cons (pe_fld (pv 2) rfl) (pa_cons (pe_fld (pv 2) rfl) pa_nil)))))))
    · refine ⟨by show 1 ≤ sizeLine; decide, fun t0 ht0 => ?_⟩
      have s0 : Same H (upd H t0 (.tup [.str "odd"])) := upd_new ht0
      generalize upd H t0 (.tup [.str "odd"]) = H0 at s0 ⊢
      have hd0 := s0 _ _ hd
      have hv0 := hv.bt (Bt.of s0)
      have EE : ∃ E : XK, ∀ cls dx H', E cls dx H' ↔ ((cls = .ref ZT ∧ ∃ q y, dx = some q ∧ H' q = some (.xd [("at", y)]) ∧ ∀ t H'', Same H' H'' → H'' t = some (.tup [.str "text", y]) → Q (.ref t) H'') ∨ (cls = .ref ZN ∧ ∃ q y, dx = some q ∧ H' q = some (.xd [("at", y)]) ∧ ∀ t H'', Same H' H'' → H'' t = some (.tup [.str "numeral", y]) → Q (.ref t) H'')) := ⟨_, fun _ _ _ => Iff.rfl⟩
      obtain ⟨E, hE⟩ := EE
      refine ⟨rfl, _, rfl, E, ?_, v, d, x, rfl, hv0, hz, ?_⟩
      · rintro cls dx H' hh hl
        have hh := (hE _ _ _).mp hh
        rcases hh with ⟨rfl, dd, y, rfl, h1, kk⟩ | ⟨rfl, dd, y, rfl, h1, kk⟩
        · refine ⟨true, R.exT, fun _ a ha => ?_, nofun⟩
          have xd : XdAt H' (some dd) [("at", y)] := .inr ⟨dd, rfl, h1⟩
          refine ⟨_, rfl, ZT, _, _, _, _, rfl, rfl, xd, R.xkT, .own _, R.tT, _, rfl, ?_⟩
          refine iteT ?_
          refine ⟨_, rfl, by show 4 ≤ sizeLine; decide, fun t ht => ?_⟩
          have st : Same H' (upd H' t (.tup [V.ref ZN, V.ref ZB, V.ref O, V.ref U])) := upd_new ht
          have et : (upd H' t (.tup [V.ref ZN, V.ref ZB, V.ref O, V.ref U])) t = some (.tup [V.ref ZN, V.ref ZB, V.ref O, V.ref U]) := upd_same
          generalize upd H' t (.tup [V.ref ZN, V.ref ZB, V.ref O, V.ref U]) = H1 at st et ⊢
          have xd1 : XdAt H1 (some dd) [("at", y)] := .inr ⟨dd, rfl, st _ _ h1⟩
          refine ⟨ZT, _, t, _, _, _, rfl, rfl, xd1, R.xkT, et, .cons (.own _) (.cons (.own _) (.cons (.own _) (.cons (.own _) .nil))), kitAny_cons R.tN (fun _ => kitAny_cons R.tB (fun _ => kitAny_cons R.tO (fun _ => kitAny_cons R.tU (fun _ => kitAny_nil) nofun) nofun) nofun) nofun, _, rfl, ?_⟩
          refine iteT ?_
          refine ⟨_, rfl, ZT, _, y, rfl, rfl, xd1, R.xkT, R.noT, rfl, by show 2 ≤ sizeLine; decide, fun u hu => ?_⟩
          refine ⟨u, _, rfl, upd_same, fun nu => ?_⟩
          have su : Same H1 (upd H1 u (.tup [.str "text", y])) := upd_new hu
          have eu : (upd H1 u (.tup [.str "text", y])) u = some (.tup [.str "text", y]) := upd_same
          generalize upd H1 u (.tup [.str "text", y]) = H2 at su eu ⊢
          have xd2 : XdAt H2 (some dd) [("at", y)] := .inr ⟨dd, rfl, su _ _ (st _ _ h1)⟩
          refine ⟨_, rfl, ZT, _, _, _, _, rfl, rfl, xd2, R.xkT, .own _, R.tN, _, rfl, ?_⟩
          refine iteF ?_
          exact ⟨_, rfl, kk u _ (same_put ha (st.trans su)) (by rw [upd_ne nu]; exact eu)⟩
        · refine ⟨true, R.exN, fun _ a ha => ?_, nofun⟩
          have xd : XdAt H' (some dd) [("at", y)] := .inr ⟨dd, rfl, h1⟩
          refine ⟨_, rfl, ZN, _, _, _, _, rfl, rfl, xd, R.xkN, .own _, R.nT, _, rfl, ?_⟩
          refine iteF ?_
          refine ⟨_, rfl, ZN, _, _, _, _, rfl, rfl, xd, R.xkN, .own _, R.nN, _, rfl, ?_⟩
          refine iteT ?_
          refine ⟨_, rfl, by show 4 ≤ sizeLine; decide, fun t ht => ?_⟩
          have st : Same H' (upd H' t (.tup [V.ref ZT, V.ref ZB, V.ref O, V.ref U])) := upd_new ht
          have et : (upd H' t (.tup [V.ref ZT, V.ref ZB, V.ref O, V.ref U])) t = some (.tup [V.ref ZT, V.ref ZB, V.ref O, V.ref U]) := upd_same
          generalize upd H' t (.tup [V.ref ZT, V.ref ZB, V.ref O, V.ref U]) = H1 at st et ⊢
          have xd1 : XdAt H1 (some dd) [("at", y)] := .inr ⟨dd, rfl, st _ _ h1⟩
          refine ⟨ZN, _, t, _, _, _, rfl, rfl, xd1, R.xkN, et, .cons (.own _) (.cons (.own _) (.cons (.own _) (.cons (.own _) .nil))), kitAny_cons R.nT (fun _ => kitAny_cons R.nB (fun _ => kitAny_cons R.nO (fun _ => kitAny_cons R.nU (fun _ => kitAny_nil) nofun) nofun) nofun) nofun, _, rfl, ?_⟩
          refine iteT ?_
          refine ⟨_, rfl, ZN, _, y, rfl, rfl, xd1, R.xkN, R.noN, rfl, by show 2 ≤ sizeLine; decide, fun u hu => ?_⟩
          refine ⟨u, _, rfl, upd_same, fun nu => ?_⟩
          exact ⟨_, rfl, kk u _ (same_put ha (st.trans (upd_new hu))) (by rw [upd_ne nu]; exact upd_same)⟩
      · have two : ∀ {t : Addr} {H'' : Hp} {a : Str} {y : V} {e : PyData}, H d = some (.lst cs) → Same H H'' → H'' t = some (.tup [.str a, y]) → Dw d H'' y e → Dw d H'' (.ref t) (.tuple [.str a, e]) := fun {t H'' a y e} _ s2 et hy => .tup (.inl et) (rd_ne (.inl et) (s2 _ _ hd)) (.cons (.str _) (.cons hy .nil))
        have rT : ∀ p : Int, saysD x = .tuple [.str "text", .int p] → Rai ZT (.int p) H0 E := fun p e dd H' s1 h1 => (hE _ _ _).mpr (.inl ⟨rfl, dd, _, rfl, h1, fun t H'' s2 et => k _ _ ((s0.trans s1).trans s2) (by rw [e]; exact two hd ((s0.trans s1).trans s2) et (.int _))⟩)
        have rN : ∀ (y : V) (e1 : PyData), saysD x = .tuple [.str "numeral", e1] → (∀ H'', Dw d H'' y e1) → Rai ZN y H0 E := fun y e1 e hy dd H' s1 h1 => (hE _ _ _).mpr (.inr ⟨rfl, dd, _, rfl, h1, fun t H'' s2 et => k _ _ ((s0.trans s1).trans s2) (by rw [e]; exact two hd ((s0.trans s1).trans s2) et (hy _))⟩)
        refine ⟨fun hs => rT 0 ?_, fun z p hx hp => rT _ ?_, fun z ds bs hx hp => ?_⟩
        · cases x <;> first | rfl | exact absurd rfl hs
        · subst hx
          show tellD (readP z.cps.toList) = _
          rw [hp]
          rfl
        · subst hx
          obtain ⟨l1, l2, l3, nd, nb⟩ := readP_ok hp
          have es : saysD (.str z) = tellD (.ok (ds, bs)) := by
            show tellD (readP z.cps.toList) = _
            rw [hp]
          refine ⟨fun hl => rN .non .none (by rw [es, tell_bad (long_no l1 l2 l3 hl)]) (fun _ => .non), fun bs' i _ B e fw => ?_, fun ds' bs' nn r H' s1 nr nm => ?_⟩
          · have eb : bs = bs' := by
              rcases e with e | e
              · injection e with e
                exact intsD_inj e
              · cases e
            subst eb
            obtain ⟨r, er⟩ := fw_wr l1 nd fw
            exact rN _ _ (by rw [es, tell_wr (bss_fil B) er]) (fun _ => .int _)
          · obtain ⟨B, D, e1, e2⟩ := nn
            have eb : bs = bs' := by
              rcases e1 with e | e
              · injection e with e
                exact intsD_inj e
              · cases e
            have ed : ds = ds' := by
              rcases e2 with e | e
              · injection e with e
                exact intsD_inj e
              · cases e
            subst eb ed
            obtain ⟨dx, da, ba, a1, a2, a3⟩ := id nm
            refine ⟨_, rfl, r, C, dx, _, _, rfl, a1, N.cl, N.nD, rfl, _, rfl, r, C, dx, _, _, rfl, a1, N.cl, N.nB, rfl, by show 3 ≤ sizeLine; decide, fun t ht => ?_⟩
            have s2 := upd_new (o := .tup [.str "told", .ref da, .ref ba]) ht
            have sA := (s0.trans s1).trans s2
            have hdA := sA _ _ hd
            refine ⟨_, rfl, k _ _ sA ?_⟩
            rw [es, tell_ok (bss_fil B) (dgs_wr D)]
            exact .tup (.inl upd_same) (rd_ne (.inl upd_same) hdA) (.cons (.str _) (.cons (.tup (Same.rd s2 a2) (rd_ne (Same.rd s2 a2) hdA) dw_ints) (.cons (.tup (Same.rd s2 a3) (rd_ne (Same.rd s2 a3) hdA) dw_ints) .nil)))
end
end K06

set_option Elab.async false
set_option linter.all false
set_option maxRecDepth 100000
set_option maxHeartbeats 4000000
namespace K06
open PySem PySem.Spec PyProof.Rows L2 Ru
theorem md_text : Md 1 1000 (.str "text") := ⟨by simp [PyData.showable], by simp [PyData.depth], by rw [PyData.shown]; decide +kernel⟩
theorem md_numeral : Md 1 1000 (.str "numeral") := ⟨by simp [PyData.showable], by simp [PyData.depth], by rw [PyData.shown]; decide +kernel⟩
theorem md_told : Md 1 1000 (.str "told") := ⟨by simp [PyData.showable], by simp [PyData.depth], by rw [PyData.shown]; decide +kernel⟩
theorem md_none : Md 1 1000 .none := ⟨by simp [PyData.showable], by simp [PyData.depth], by rw [PyData.shown]; decide +kernel⟩
theorem md_small {z : Int} (h0 : 0 ≤ z) (h1 : z ≤ 100 ^ 4) : Md 1 1000 (.int z) := (Md.int (log2_small h0 h1)).mono (by decide) (by decide)
theorem md_two {a b : PyData} (h : Md 1 1000 a) (k : Md 1 1000 b) : Sh (.tuple [a, b]) := by
  refine (Md.tuple (D := 1) (L := 1000) (ds := [a, b]) fun d hd => ?_).sh (by decide) (by show 3 + 2 * (1000 + 2) ≤ 100000; decide)
  simp only [List.mem_cons, List.not_mem_nil, or_false] at hd
  rcases hd with rfl | rfl
  · exact h
  · exact k
theorem md_row {zs : List Int} (hl : zs.length ≤ 4) (h : ∀ z ∈ zs, 0 ≤ z ∧ z < 1000) : Md 2 1000 (.tuple (intsD zs)) := by
  refine (Md.tuple (D := 1) (L := 141) fun d hd => ?_).mono (Nat.le_refl _) (by rw [intsD_map, List.length_map]; omega)
  rw [intsD_map] at hd
  obtain ⟨z, hz, rfl⟩ := List.mem_map.mp hd
  have := h z hz
  exact Md.int (log2_small this.1 (by omega))
theorem wr_mem {ds bs : List Int} : ∀ n, ∀ x ∈ wrN ds bs n, 0 ≤ x ∧ x < n
  | 0, x, h => (List.not_mem_nil h).elim
  | n + 1, x, h => by
    rw [wrN] at h
    rcases List.mem_append.mp h with h | h
    · have := wr_mem n x h
      omega
    · split at h
      · rw [List.mem_singleton.mp h]
        omega
      · exact (List.not_mem_nil h).elim
theorem tell_sh {l : List Nat} (hl : l.length ≤ 1000) : Sh (tellD (readP l)) := by
  cases e : readP l with
  | error p =>
    have := readP_err e
    exact md_two md_text (md_small (by omega) (by omega))
  | ok v =>
    obtain ⟨ds, bs⟩ := v
    obtain ⟨l1, l2, l3, nd, nb⟩ := readP_ok e
    by_cases hb : bs.filter badB = []
    · cases hw : wrN ds bs ds.length with
      | nil =>
        rw [tell_ok hb hw]
        refine (Md.tuple (D := 2) (L := 1000) (ds := [.str "told", .tuple (intsD ds), .tuple (intsD bs)]) fun d hd => ?_).sh (by decide) (by show 3 + 3 * (1000 + 2) ≤ 100000; decide)
        simp only [List.mem_cons, List.not_mem_nil, or_false] at hd
        rcases hd with rfl | rfl | rfl
        · exact md_told.mono (by decide) (Nat.le_refl _)
        · exact md_row l3 nd
        · exact md_row (by omega) nb
      | cons i r =>
        rw [tell_wr hb hw]
        have := wr_mem (ds := ds) (bs := bs) ds.length i (by rw [hw]; exact List.mem_cons_self)
        exact md_two md_numeral (md_small this.1 (by omega))
    · rw [tell_bad hb]
      exact md_two md_numeral md_none
/-- text and a number: told of what is no text -/
theorem two_dp {K : PySem.W.Frag} {d : Addr} {H : Hp} {u : V} {a : Str} {i : Int} (h : Dw d H u (.tuple [.str a, .int i])) : Dp K H u (.tuple [.str a, .int i]) := by
  cases h with
  | tup h _ k =>
    cases k with
    | cons k1 k =>
      cases k with
      | cons k2 k =>
        cases k
        cases k1
        cases k2
        exact .tup (.inl h) (.cons (.str _) (.cons (.int _) .nil))
theorem face_len {ds bs : List Int} (B : Bss bs) (D : Dgs ds bs) : (faceS ds bs).length ≤ 33 := by
  have l1 := dotS_len (sml_dgs B D)
  have l2 := dotS_len (sml_bss B)
  have ls : ("/" : Str).length = 1 := by decide +kernel
  unfold faceS
  rw [len_app, len_app, ls]
  omega
theorem eT (a : Str) : (!decide (V.str a = V.str a)) = false := by rw [decide_eq_true rfl]; rfl
abbrev nLaw : List Str := ["_law_script", "_law_pen_here", "_law_turn", "_law_numeral_here", "_law_text", "_law_again", "_law_bent", "_law_thing"]
theorem sc_law : FnScope nLaw ["_law_script"] (defScope sLaw) := ⟨rfl, rfl, rfl, by decide +kernel, rfl, by decide +kernel, by decide +kernel⟩
def spLaw (K : PySem.W.Frag) : Sp := fun vs H Q _ => ∃ (a : Addr) (ns : List Int), vs = [.ref a] ∧ SqL K H a (ns.map V.int) ∧ ns.length ≤ 63 ∧ ∀ H', Q (.bl true) H'
section
variable {P : Program} {w : World} {K : PySem.W.Frag} {mg : Str → Option Value} {base : Heap}
theorem ok_law {C f g ZT ZN : Addr} {fd : FuncData} {pm : Addr} {mc : Value} (F : FunD K "law" "law" (defArgs sLaw) (defBody sLaw) (defScope sLaw) [] [] f fd) (N : NumK K mg C) (M : SmK K) (CN : Cd P w K mg base CX0 1 "_law_pen" ["_law_script"] (spPenL K))
    (CT : Cd P w K mg base CX0 1 "_law_take" ["_law_pen_here", "_law_limit"] spTakeL) (CU : Cd P w K mg base CX0 7 "_law_numeral" ["_law_pen_here"] (spNumL C)) (CF : Cd P w K mg base CX0 1 "_law_face" ["_law_numeral_here"] (spFace C)) (CS : Cd P w K mg base CX0 3 "_law_spoilt" ["_law_pen_here", "_law_text"] spSpo)
    (CD : Cd P w K mg base CX0 3 "_law_due" ["_law_text"] spDue) (CO : Cd P w K mg base CX0 8 "_law_told" ["_law_thing"] spTold) (MS : CdM P w K mg base CX0 2 C "__str__" ["self"] (spStr C)) (ME : CdM P w K mg base CX0 1 C "__eq__" ["self", "other"] (spEqN C))
    (hn : PySem.W.findIn K (.ref C) "__ne__" = some (some (.builtin "object.__ne__"))) (hm : PySem.W.mroIn K C (.type "object") = some true)
    (CRD : ClX.CRead K C mc) (CMT : ClX.CMet K C mc "read" pm g) (FB : FnR P w K mg base (L2.CX P w) 7 g (spRd C ZN ZT)) (g_str : mg "str" = none) (g_repr : mg "repr" = none) (g_range : mg "range" = none) :
    FnG P w K mg base CX0 9 f fd ["_law_script"] (spLaw K) := by
  refine okG F sc_law (fun vs H Q E h => ?_) (fun cdv A outer s H vs Q E hG hr h => ?_)
  · obtain ⟨a, ns, rfl, _⟩ := h
    rfl
  · obtain ⟨a, ns, rfl, hS, hlen, k⟩ := h
    have sc := sc_law
    have r1 := hr.mono (show 1 ≤ 8 by decide)
    have r2 := hr.mono (show 2 ≤ 8 by decide)
    have r3 := hr.mono (show 3 ≤ 8 by decide)
    have r4 := hr.mono (show 4 ≤ 8 by decide)
    have r7 := hr.mono (show 7 ≤ 8 by decide)
    have r8 := hr
    refine ⟨_, PSs.nox (pss_cons (ps_set (i := 1) sc.nd rfl (Or.inl rfl) (pe_cd CN r1 (by rfl) pass0 (pa_cons (pv 0) pa_nil)))
      (pss_cons (ps_for PassesOwn.never rfl (pi_range1 rfl g_range (pa_cons pe_int pa_nil)) (pg_name (i := 2) sc.nd rfl (Or.inl rfl))
        (pss_cons (ps_set (i := 3) sc.nd rfl (Or.inl rfl) (pe_cd CU r7 (by rfl) pass0 (pa_cons (pv 1) pa_nil)))
        (pss_cons (ps_set (i := 4) sc.nd rfl (Or.inl rfl) (pe_cd CF r1 (by rfl) pass0 (pa_cons (pv 3) pa_nil)))
        (pss_cons (ps_if (PW.pt (pw_or (pt_cmpR op_ne (pe_callTy (call_strOwn (E := E0) MS r4 pass0) (by rfl) g_str boot_str (pa_cons (pv 3) pa_nil)) (pv 4) (nomark _))
            (pw_or1 (pt_cmpR (op_cmNe (E := E0) ME hn hm r2 pass0) (ClX.pe_cmeth (E := E0) (pe_glob (v := V.ref C) (by rfl) N.gN rfl) CRD CMT FB r7 passN (pa_cons (pv 4) pa_nil)) (pv 3) (nomark _))))) (pss_one (ps_ret pe_bl)) pss_nil)
        (pss_cons (ps_for PassesOwn.never rfl (pi_range1 rfl g_range (pa_cons pe_int pa_nil)) (pg_name (i := 5) sc.nd rfl (Or.inl rfl))
          (pss_cons (ps_set (i := 6) sc.nd rfl (Or.inl rfl) (pe_cd CS r3 (by rfl) pass0 (pa_cons (pv 1) (pa_cons (pv 4) pa_nil))))
          (pss_cons (ps_if (pt_cmpR op_eq (pe_cd CT r1 (by rfl) pass0 (pa_cons (pv 1) (pa_cons pe_int pa_nil))) pe_int (nomark _)) (pss_one (ps_set (i := 6) sc.nd rfl (Or.inl rfl) (pe_cd CS r3 (by rfl) pass0 (pa_cons (pv 1) (pa_cons (pv 6) pa_nil))))) pss_nil)
          (pss_one (ps_if (pt_cmpR op_ne (pe_callB (call_reprQ M hG hr.units) (by rfl) g_repr boot_repr (pa_cons (pe_cd CO r8 (by rfl) pass0 (pa_cons (pv 6) pa_nil)) pa_nil)) (pe_callB (call_reprQ M hG hr.units) (by rfl) g_repr boot_repr (pa_cons (pe_cd CD r3 (by rfl) pass0 (pa_cons (pv 6) pa_nil)) pa_nil)) (nomark _)) (pss_one (ps_ret pe_bl)) pss_nil)))))
        (pss_one (ps_for PassesOwn.never rfl (pi_list (pe_lst (pa_cons pe_non (pa_cons pe_int (pa_cons pe_bl (pa_cons (pe_tup (pa_cons (pv 4) pa_nil)) (pa_cons (pe_lst (pa_cons (pv 4) pa_nil)) (pa_cons pe_dnewK (pa_cons pe_str pa_nil))))))))) (pg_name (i := 7) sc.nd rfl (Or.inl rfl))
          (pss_one (ps_if (pt_cmpR (op_neD hr.units) (pe_cd CO r8 (by rfl) pass0 (pa_cons (pv 7) pa_nil)) (pe_tup (pa_cons pe_str (pa_cons pe_int pa_nil))) (nomark _)) (pss_one (ps_ret pe_bl)) pss_nil)))))))))
      (pss_one (ps_ret pe_bl)))), ?_⟩
    refine ⟨_, rfl, a, ns, rfl, hS, hlen, fun d l H1 s1 P1 => ?_⟩
    refine ⟨6, rfl, by decide, by decide, for_range (n := 6) (fun i σ H => ∃ (x2 x3 x4 x5 x6 x7 : Option V) (b r : Int), σ = [some (.ref a), some (.ref d), x2, x3, x4, x5, x6, x7] ∧ PenL H d l ns b r ∧ b ≤ 100 * (i : Int)) ⟨none, none, none, none, none, none, 0, 0, rfl, P1, by decide⟩ ?_ ?_⟩
    case refine_2 =>
      rintro σ H2 _
      exact k _
    rintro i σ H2 hi ⟨x2, x3, x4, x5, x6, x7, b, r, rfl, P2, hb⟩
    refine ⟨_, rfl, d, l, ns, b, r, rfl, P2, by omega, fun n ds bs b3 r3' H3 t3 P3 l3 nm B D => ?_⟩
    refine ⟨_, rfl, n, ds, bs, rfl, nm, B, D, fun H4 s4 => ?_⟩
    have P4 := P3.same s4
    have nm4 := nm.same s4
    have rf := read_face B D
    have zl : (faceS ds bs).length ≤ 33 := face_len B D
    obtain ⟨z, ez⟩ : ∃ z, z = faceS ds bs := ⟨_, rfl⟩
    rw [← ez] at rf zl ⊢
    obtain ⟨dx, da, ba, a1, a2, a3⟩ := id nm4
    have same2 : (!(decide (bs = bs) && decide (ds = ds))) = false := by rw [decide_eq_true rfl, decide_eq_true rfl]; rfl
    refine ⟨_, rfl, n, dx, _, rfl, a1, n, ds, bs, rfl, nm4, B, D, fun H5 s5 => ⟨_, rfl, _, rfl, rfl, _, rfl, ?_⟩⟩
    rw [← ez, eT]
    refine iteF ?_
    have P5 := P4.same s5
    have nm5 := nm4.same s5
    refine ⟨rfl, _, rfl, .str z, d, .str z, rfl, .str _, (fun z e => by cases e; omega), ⟨fun e => (e rfl).elim, fun z' p e h => ?_, fun z' ds' bs' e h => ?_⟩⟩
    · cases e
      rw [rf] at h
      cases h
    cases e
    rw [rf] at h
    cases h
    refine InitD.good (ds := ds) (bs := bs) ⟨B, D, .inl rfl, .inl rfl⟩ fun m H6 s6 _ nm6 => ?_
    obtain ⟨ex, ea, ca, c1, c2, c3⟩ := id nm6
    obtain ⟨fx, fa, ga, f1, f2, f3⟩ := id (nm5.same s6)
    have P6 := P5.same s6
    refine ⟨_, rfl, m, n, ex, fx, _, _, rfl, rfl, c1, f1, m, n, ds, bs, ds, bs, rfl, nm6, nm5.same s6, D, D, B, B, fun H7 s7 => ⟨_, rfl, _, rfl, ?_⟩⟩
    rw [same2]
    refine iteF ?_
    have P7 := P6.same s7
    refine ⟨6, rfl, by decide, by decide, for_range (n := 6) (fun j σ H => ∃ (x5 x6 : Option V) (b' r' : Int), σ = [some (.ref a), some (.ref d), some (.int ((0 : Int) + i)), some (.ref n), some (.str z), x5, x6, x7] ∧ PenL H d l ns b' r' ∧ b' ≤ b + 18 + 7 * (j : Int)) ⟨x5, x6, b3, r3', ?_, P7, by omega⟩ ?_ ?_⟩
    · rfl
    · rintro j σ HA hj ⟨x5, x6, b4, r4', rfl, PA, hb4⟩
      refine ⟨_, rfl, _, rfl, d, l, ns, b4, r4', z, rfl, PA, by omega, by omega, fun z1 b5 r5' HB hz1 l5 tB PB => ?_⟩
      refine ⟨_, rfl, d, l, ns, b5, r5', 3, rfl, PB, by omega, by decide, by decide, fun y b6 r6' HC y0 y1 l6 tC PC => ?_⟩
      refine ⟨rfl, _, rfl, ?_⟩
      by_cases hy : y = 0
      · rw [decide_eq_true (by rw [hy])]
        refine iteT ⟨_, rfl, _, rfl, d, l, ns, b6, r6', z1, rfl, PC, by omega, by omega, fun z2 b7 r7' HD hz2 l7 tD PD => ?_⟩
        refine ⟨_, rfl, .str z2, d, _, .str z2, rfl, PD.dk, .str _, (fun z e => by cases e; omega), fun u7 H7 s7 w7 => ?_⟩
        refine ⟨u7, d, _, rfl, w7.dq, tell_sh (by rw [Array.length_toList]; show z2.length ≤ 1000; omega), ?_⟩
        have P7 := PD.same s7
        refine ⟨_, rfl, z2, d, _, rfl, P7.dk, by omega, fun u8 H8 s8 w8 => ?_⟩
        refine ⟨u8, d, _, rfl, w8.dq, tell_sh (by rw [Array.length_toList]; show z2.length ≤ 1000; omega), rfl, _, rfl, ?_⟩
        rw [show (!decide (V.str (saysD (.str z2)).shown = V.str (tellD (readP z2.cps.toList)).shown)) = false from eT _]
        refine iteF ?_
        exact ⟨_, _, _, _, rfl, P7.same s8, by omega⟩
      · rw [decide_eq_false (fun e => hy (by injection e))]
        refine iteF ?_
        refine ⟨_, rfl, .str z1, d, _, .str z1, rfl, PC.dk, .str _, (fun z e => by cases e; omega), fun u7 H7 s7 w7 => ?_⟩
        refine ⟨u7, d, _, rfl, w7.dq, tell_sh (by rw [Array.length_toList]; show z1.length ≤ 1000; omega), ?_⟩
        have P7 := PC.same s7
        refine ⟨_, rfl, z1, d, _, rfl, P7.dk, by omega, fun u8 H8 s8 w8 => ?_⟩
        refine ⟨u8, d, _, rfl, w8.dq, tell_sh (by rw [Array.length_toList]; show z1.length ≤ 1000; omega), rfl, _, rfl, ?_⟩
        rw [show (!decide (V.str (saysD (.str z1)).shown = V.str (tellD (readP z1.cps.toList)).shown)) = false from eT _]
        refine iteF ?_
        exact ⟨_, _, _, _, rfl, P7.same s8, by omega⟩
    rintro σ HA ⟨x5, x6, b4, r4', rfl, PA, hb4⟩
    refine ⟨_, rfl, by show 1 ≤ sizeLine; decide, fun t1 ht1 => ?_⟩
    have u1 := upd_new (o := .tup [.str z]) ht1
    have e1 : (upd HA t1 (.tup [.str z])) t1 = some (.tup [.str z]) := upd_same
    have P1 := PA.same u1
    generalize upd HA t1 (.tup [.str z]) = HB at u1 e1 P1 ⊢
    refine ⟨_, rfl, by show 1 ≤ sizeLine; decide, fun t2 ht2 => ?_⟩
    have u2 := upd_new (o := .lst [.str z]) ht2
    have e2 : (upd HB t2 (.lst [.str z])) t2 = some (.lst [.str z]) := upd_same
    have n2 : t2 ≠ d := (ne_of_none P1.dk ht2).symm
    have e1 := u2 _ _ e1
    have P2 := P1.same u2
    generalize upd HB t2 (.lst [.str z]) = HC at u2 e1 e2 P2 ⊢
    refine fun t3 ht3 => ?_
    have u3 := upd_new (o := .dK []) ht3
    have e3 : (upd HC t3 (.dK [])) t3 = some (.dK []) := upd_same
    have n3 : t3 ≠ d := (ne_of_none P2.dk ht3).symm
    have e1 := u3 _ _ e1
    have e2 := u3 _ _ e2
    have P3 := P2.same u3
    generalize upd HC t3 (.dK []) = HD at u3 e1 e2 e3 P3 ⊢
    refine ⟨by show 7 ≤ sizeLine; decide, fun L hL => ?_⟩
    have u4 := upd_new (o := .lst [.non, .int 7, .bl true, .ref t1, .ref t2, .ref t3, .str ""]) hL
    have e4 : (upd HD L (.lst [.non, .int 7, .bl true, .ref t1, .ref t2, .ref t3, .str ""])) L = some (.lst [.non, .int 7, .bl true, .ref t1, .ref t2, .ref t3, .str ""]) := upd_same
    have e1 := u4 _ _ e1
    have e2 := u4 _ _ e2
    have e3 := u4 _ _ e3
    have P4 := P3.same u4
    generalize upd HD L (.lst [.non, .int 7, .bl true, .ref t1, .ref t2, .ref t3, .str ""]) = HL at e1 e2 e3 e4 P4 ⊢
    refine ⟨L, rfl, ⟨_, SqL.of e4⟩, for_it walk_list (fun j σ H' => ∃ x7 : Option V, σ = [some (.ref a), some (.ref d), some (.int ((0 : Int) + i)), some (.ref n), some (.str z), x5, x6, x7] ∧ Same HL H') ⟨x7, rfl, Same.refl HL⟩ (fun j σ H' _ g => SqL.of (let ⟨_, _, g⟩ := g; g _ _ e4)) ?_ ?_⟩
    · rintro j y σ H8 H9 hj ⟨x7, rfl, s8⟩ ⟨rfl, ev⟩
      have P8 := P4.same s8
      suffices h : ∃ e : PyData, Dw d H9 y e ∧ (∀ w, e = .str w → w.length ≤ 1000) ∧ saysD e = .tuple [.str "text", .int 0] by
        obtain ⟨e, he, hw, hs⟩ := h
        refine ⟨_, rfl, y, d, _, e, rfl, P8.dk, he, hw, fun u H10 s9 w9 => ?_⟩
        rw [hs] at w9
        refine ⟨by show 2 ≤ sizeLine; decide, fun t ht => ?_⟩
        have st := upd_new (o := .tup [.str "text", .int 0]) ht
        refine ⟨.tuple [.str "text", .int 0], .tuple [.str "text", .int 0], two_dp (w9.bt (Bt.of st)), .tup (.inl (.inl upd_same)) (.cons (.str _) (.cons (.int _) .nil)), by decide +kernel, by decide +kernel, _, rfl, ?_⟩
        rw [show (!PyData.eqv (.tuple [.str "text", .int 0]) (.tuple [.str "text", .int 0])) = false by decide +kernel]
        exact iteF ⟨_, rfl, (s8.trans s9).trans st⟩
      have np : ∀ {e : PyData}, tyD e ≠ "str" → ∀ w, e = .str w → w.length ≤ 1000 := fun h w e => by subst e; exact (h rfl).elim
      match j, ev with
      | 0, ev => cases ev; exact ⟨_, .non, np (by decide), rfl⟩
      | 1, ev => cases ev; exact ⟨_, .int 7, np (by decide), rfl⟩
      | 2, ev => cases ev; exact ⟨_, .bl true, np (by decide), rfl⟩
      | 3, ev => cases ev; exact ⟨_, .tup (.inl (s8 _ _ e1)) (rd_ne (.inl (s8 _ _ e1)) P8.dk) (.cons (.str _) .nil), np (by show ("tuple" : String) ≠ "str"; decide), rfl⟩
      | 4, ev => cases ev; exact ⟨_, .lst (.inl (s8 _ _ e2)) n2 (.cons (.str _) .nil), np (by show ("list" : String) ≠ "str"; decide), rfl⟩
      | 5, ev => cases ev; exact ⟨_, .d0 (s8 _ _ e3) n3, np (by show ("dict" : String) ≠ "str"; decide), rfl⟩
      | 6, ev =>
        cases ev
        refine ⟨_, .str _, fun w e => ?_, rfl⟩
        cases e
        decide
      | j + 7, ev => cases ev
    · rintro σ H8 ⟨x7, rfl, s8⟩
      exact ⟨_, _, _, _, _, _, _, _, rfl, P4.same s8, by omega⟩
end
end K06

set_option Elab.async false
set_option linter.all false
set_option maxRecDepth 100000
set_option maxHeartbeats 0
namespace K06
open PySem PySem.Spec PyProof.Rows L2 Ru
section
variable {P : Program} {w : World} {K : PySem.W.Frag} {mg : Str → Option Value} {h : Heap}
theorem facts {f : Addr} (X : K.In h) (G : h.Ns mainGlobals mg) (hfa : mg ("law" : Str) = some (.ref f)) (c : SaysY fa fn tf ex h K) (cw : obsW fw K = valW fw) :
    ∃ fd : FuncData, (∀ (s : Shared) (v : Value), BindsTo s fd ⟨[v], []⟩ [("_law_script", v)]) ∧
      ∀ base : Heap, K.In base → base.Ns mainGlobals mg → FnG P w K mg base CX0 9 f fd ["_law_script"] (spLaw K) := by
  have M := smB_ok c.sm
  have hx := c.more
  unfold ex at hx
  simp only [Bool.and_eq_true] at hx
  obtain ⟨⟨⟨⟨⟨⟨⟨⟨⟨⟨⟨⟨⟨⟨⟨⟨⟨⟨⟨⟨⟨⟨⟨⟨⟨h1, h2⟩, h3⟩, h4⟩, h5⟩, h6⟩, h7⟩, h8⟩, h9⟩, h10⟩, h11⟩, h12⟩, h13⟩, h14⟩, h15⟩, h16⟩, h17⟩, h18⟩, h19⟩, h20⟩, h21⟩, h22⟩, h23⟩, h24⟩, h25⟩, h26⟩ := hx
  obtain ⟨fdIsWhole, FIsWhole⟩ := c.d.def_ 0 (d := dIsWhole) rfl
  obtain ⟨fdIsSequence, FIsSequence⟩ := c.d.def_ 1 (d := dIsSequence) rfl
  obtain ⟨fdIsBases, FIsBases⟩ := c.d.def_ 2 (d := dIsBases) rfl
  obtain ⟨fdProducts, FProducts⟩ := c.d.def_ 3 (d := dProducts) rfl
  obtain ⟨fdWeights, FWeights⟩ := c.d.def_ 4 (d := dWeights) rfl
  obtain ⟨fdIsAsLong, FIsAsLong⟩ := c.d.def_ 5 (d := dIsAsLong) rfl
  obtain ⟨fdFirstWrong, FFirstWrong⟩ := c.d.def_ 6 (d := dFirstWrong) rfl
  obtain ⟨fdDotted, FDotted⟩ := c.d.def_ 7 (d := dDotted) rfl
  obtain ⟨fdEndOfNumber, FEndOfNumber⟩ := c.d.def_ 8 (d := dEndOfNumber) rfl
  obtain ⟨fdReadNumbers, FReadNumbers⟩ := c.d.def_ 9 (d := dReadNumbers) rfl
  obtain ⟨fdPen, FPen⟩ := c.d.def_ 10 (d := dPen) rfl
  obtain ⟨fdTake, FTake⟩ := c.d.def_ 11 (d := dTake) rfl
  obtain ⟨fdLPick, FLPick⟩ := c.d.def_ 12 (d := dLPick) rfl
  obtain ⟨fdLNumeral, FLNumeral⟩ := c.d.def_ 13 (d := dLNumeral) rfl
  obtain ⟨fdLFace, FLFace⟩ := c.d.def_ 14 (d := dLFace) rfl
  obtain ⟨fdLSpoilt, FLSpoilt⟩ := c.d.def_ 15 (d := dLSpoilt) rfl
  obtain ⟨fdLIsNext, FLIsNext⟩ := c.d.def_ 16 (d := dLIsNext) rfl
  obtain ⟨fdLMovedOn, FLMovedOn⟩ := c.d.def_ 17 (d := dLMovedOn) rfl
  obtain ⟨fdLScanned, FLScanned⟩ := c.d.def_ 18 (d := dLScanned) rfl
  obtain ⟨fdLDue, FLDue⟩ := c.d.def_ 19 (d := dLDue) rfl
  obtain ⟨fdLTold, FLTold⟩ := c.d.def_ 20 (d := dLTold) rfl
  obtain ⟨fdLaw, FLaw⟩ := c.d.def_ 21 (d := dLaw) rfl
  obtain ⟨fdNN, FNN⟩ := c.d.def_ 22 (d := dNoNumeral_init) rfl
  have FI : FunD K "__init__" "NoNumeral.__init__" (defArgs sNoNumeral_init) (defBody sNoNumeral_init) (defScope sNoNumeral_init) [] [] (He.ma K (He.ga K "NoNumeral") "__init__") fdNN := FNN
  obtain ⟨fdTT, FTT⟩ := c.d.def_ 23 (d := dNoText_init) rfl
  have FIT : FunD K "__init__" "NoText.__init__" (defArgs sNoText_init) (defBody sNoText_init) (defScope sNoText_init) [] [] (He.ma K (He.ga K "NoText") "__init__") fdTT := FTT
  obtain ⟨fdM_init, FM_init'⟩ := c.d.def_ 24 (d := dNumeral_init) rfl
  have FM_init : FunD K "__init__" "Numeral.__init__" (defArgs sNumeral_init) (defBody sNumeral_init) (defScope sNumeral_init) [] [] (He.ma K (He.ga K "Numeral") "__init__") fdM_init := FM_init'
  obtain ⟨fdM_eq, FM_eq'⟩ := c.d.def_ 25 (d := dNumeral_eq) rfl
  have FM_eq : FunD K "__eq__" "Numeral.__eq__" (defArgs sNumeral_eq) (defBody sNumeral_eq) (defScope sNumeral_eq) [] [] (He.ma K (He.ga K "Numeral") "__eq__") fdM_eq := FM_eq'
  obtain ⟨fdM_str, FM_str'⟩ := c.d.def_ 26 (d := dNumeral_str) rfl
  have FM_str : FunD K "__str__" "Numeral.__str__" (defArgs sNumeral_str) (defBody sNumeral_str) (defScope sNumeral_str) [] [] (He.ma K (He.ga K "Numeral") "__str__") fdM_str := FM_str'
  obtain ⟨fdRead, FRead'⟩ := saysW_def cw 0 (d := dRead) rfl
  have FRead : FunD K "read" "Numeral.read" (defArgs sNumeral_read) (defBody sNumeral_read) (defScope sNumeral_read) [] [] (He5.wf K (He.ga K "Numeral") "classmethod" "read") fdRead := FRead'
  have e := hfa.symm.trans (He.glo_ok X G (c.d.fact 21 (f := .glo "law") rfl))
  cases e
  have b := FunD.bindsA (ps := ["_law_script"]) FLaw fun _ _ _ _ _ _ us hl => match us, hl with | [_], _ => rfl
  refine ⟨fdLaw, fun s v => b s [v] rfl, fun base _ _ => ?_⟩
  obtain ⟨RX1, RX2, RX3⟩ := oexB_ok h4
  have RX : RsX P w K mg base "NoNumeral" "at" := ⟨RX1, RX2, RX3, He.eqO_ok h5, (He.glo_ok X G (c.d.fact 23 (f := .glo "NoNumeral") rfl)), fdNN, iniF FI ⟨rfl, rfl, rfl, by decide +kernel, rfl, by decide +kernel, by decide +kernel⟩ (Or.inl rfl) (Or.inl rfl), FI.bindsN fun _ _ _ _ _ _ us hl => match us, hl with | [_, _], _ => rfl⟩
  obtain ⟨RT1, RT2, RT3⟩ := oexB_ok h6
  have RT : RsX P w K mg base "NoText" "at" := ⟨RT1, RT2, RT3, He.eqO_ok h7, (He.glo_ok X G (c.d.fact 24 (f := .glo "NoText") rfl)), fdTT, iniF FIT ⟨rfl, rfl, rfl, by decide +kernel, rfl, by decide +kernel, by decide +kernel⟩ (Or.inl rfl) (Or.inl rfl), FIT.bindsN fun _ _ _ _ _ _ us hl => match us, hl with | [_, _], _ => rfl⟩
  have CS : Cst mg := ⟨(He.int_ok X G (c.d.fact 45 (f := .int "LEAST_BASE" 2) rfl)), (He.int_ok X G (c.d.fact 46 (f := .int "GREATEST_BASE" 100) rfl)), (He.int_ok X G (c.d.fact 47 (f := .int "MOST_PLACES" 4) rfl))⟩
  have hA : exAllB K = true := h1
  unfold exAllB at hA
  simp only [Bool.and_eq_true] at hA
  have N : NumK K mg (He.ga K "Numeral") := ⟨(He.glo_ok X G (c.d.fact 28 (f := .glo "Numeral") rfl)), He.cls_ok (c.d.fact 52 (f := .cls "Numeral") rfl), (He.noat_ok (c.d.fact 54 (f := .noat "Numeral" "digits") rfl)), (He.noat_ok (c.d.fact 55 (f := .noat "Numeral" "bases") rfl)), (He.noat_ok (c.d.fact 56 (f := .noat "Numeral" "value") rfl)), He.eqO_ok h18, He.eqO_ok hA.1, of_decide_eq_true hA.2, of_decide_eq_true h19, of_decide_eq_true h20⟩
  have CST : CsT mg := ⟨(He.str_ok X G (c.d.fact 49 (f := .str "FIGURES" "0123456789") rfl)), (He.int_ok X G (c.d.fact 48 (f := .int "MOST_FIGURES" 3) rfl))⟩
  have RF : RfD K mg (He.ga K "NoText") (He.ga K "NoNumeral") (He.ga K "BadText") (He.ga K "Overflow") (He.ga K "Unlike") := ⟨(He.glo_ok X G (c.d.fact 22 (f := .glo "RisingError") rfl)), (He.glo_ok X G (c.d.fact 24 (f := .glo "NoText") rfl)), (He.glo_ok X G (c.d.fact 23 (f := .glo "NoNumeral") rfl)), (He.glo_ok X G (c.d.fact 25 (f := .glo "BadText") rfl)), (He.glo_ok X G (c.d.fact 26 (f := .glo "Overflow") rfl)), (He.glo_ok X G (c.d.fact 27 (f := .glo "Unlike") rfl)), (He.free_ok X G (c.d.fact 29 (f := .free "isinstance") rfl)), He.exm_ok (c.d.fact 51 (f := .exm "NoText" "RisingError" true) rfl), He.exm_ok (c.d.fact 50 (f := .exm "NoNumeral" "RisingError" true) rfl), exKB_ok h1 h3, exKB_ok h1 h2, of_decide_eq_true h8, of_decide_eq_true h9, of_decide_eq_true h10, of_decide_eq_true h11, of_decide_eq_true h12, of_decide_eq_true h14, of_decide_eq_true h13, of_decide_eq_true h15, of_decide_eq_true h16, of_decide_eq_true h17, He.eqO_ok h7, He.eqO_ok h5⟩
  have C1 : Cd P w K mg base CX0 1 "is_sequence" ["thing"] (spSeq K) := ⟨_, _, ok_seq FIsSequence (He.free_ok X G (c.d.fact 29 (f := .free "isinstance") rfl)) (He.free_ok X G (c.d.fact 32 (f := .free "tuple") rfl)) (He.free_ok X G (c.d.fact 33 (f := .free "list") rfl)), (He.glo_ok X G (c.d.fact 1 (f := .glo "is_sequence") rfl)), FIsSequence.kp, FIsSequence.bindsN fun _ _ _ _ _ _ us hl => match us, hl with | [_], _ => rfl⟩
  have C2 : Cd P w K mg base CX0 1 "is_whole" ["thing"] (spWhole K) := ⟨_, _, ok_whole FIsWhole (He.free_ok X G (c.d.fact 29 (f := .free "isinstance") rfl)) (He.free_ok X G (c.d.fact 30 (f := .free "int") rfl)) (He.free_ok X G (c.d.fact 31 (f := .free "bool") rfl)), (He.glo_ok X G (c.d.fact 0 (f := .glo "is_whole") rfl)), FIsWhole.kp, FIsWhole.bindsN fun _ _ _ _ _ _ us hl => match us, hl with | [_], _ => rfl⟩
  have C3 : Cd P w K mg base CX0 2 "is_bases" ["thing"] (spIsB K) := ⟨_, _, ok_isb FIsBases C1 C2 CS (He.free_ok X G (c.d.fact 34 (f := .free "len") rfl)) (He.free_ok X G (c.d.fact 35 (f := .free "all") rfl)), (He.glo_ok X G (c.d.fact 2 (f := .glo "is_bases") rfl)), FIsBases.kp, FIsBases.bindsN fun _ _ _ _ _ _ us hl => match us, hl with | [_], _ => rfl⟩
  have C4 : Cd P w K mg base (L2.CX P w) 3 "_products" ["bases"] (spProds K "NoNumeral") := ⟨_, _, ok_prods FProducts C3 RX, (He.glo_ok X G (c.d.fact 3 (f := .glo "_products") rfl)), FProducts.kp, FProducts.bindsN fun _ _ _ _ _ _ us hl => match us, hl with | [_], _ => rfl⟩
  have C5 : Cd P w K mg base (L2.CX P w) 4 "weights" ["bases"] (spWts K "NoNumeral") := ⟨_, _, ok_wts FWeights C4 (He.free_ok X G (c.d.fact 32 (f := .free "tuple") rfl)), (He.glo_ok X G (c.d.fact 4 (f := .glo "weights") rfl)), FWeights.kp, FWeights.bindsN fun _ _ _ _ _ _ us hl => match us, hl with | [_], _ => rfl⟩
  have C6 : Cd P w K mg base CX0 3 "_is_as_long" ["digits", "bases"] (spLong K) := ⟨_, _, ok_long FIsAsLong C3 C1 (He.free_ok X G (c.d.fact 34 (f := .free "len") rfl)), (He.glo_ok X G (c.d.fact 5 (f := .glo "_is_as_long") rfl)), FIsAsLong.kp, FIsAsLong.bindsN fun _ _ _ _ _ _ us hl => match us, hl with | [_, _], _ => rfl⟩
  have C7 : Cd P w K mg base CX0 2 "_first_wrong" ["digits", "bases"] (spWrongD K) := ⟨_, _, ok_wrong FFirstWrong C2 (He.free_ok X G (c.d.fact 40 (f := .free "enumerate") rfl)), (He.glo_ok X G (c.d.fact 6 (f := .glo "_first_wrong") rfl)), FFirstWrong.kp, FFirstWrong.bindsN fun _ _ _ _ _ _ us hl => match us, hl with | [_, _], _ => rfl⟩
  have C8 : Cd P w K mg base CX0 1 "_dotted" ["numbers"] (spDot K) := ⟨_, _, ok_dot FDotted (He.free_ok X G (c.d.fact 42 (f := .free "str") rfl)), (He.glo_ok X G (c.d.fact 7 (f := .glo "_dotted") rfl)), FDotted.kp, FDotted.bindsN fun _ _ _ _ _ _ us hl => match us, hl with | [_], _ => rfl⟩
  have CE : Cd P w K mg base CX0 1 "_end_of_number" ["text", "at"] spEnd := ⟨_, _, ok_end FEndOfNumber CST (He.free_ok X G (c.d.fact 34 (f := .free "len") rfl)) (He.free_ok X G (c.d.fact 44 (f := .free "min") rfl)), (He.glo_ok X G (c.d.fact 8 (f := .glo "_end_of_number") rfl)), FEndOfNumber.kp, FEndOfNumber.bindsN fun _ _ _ _ _ _ us hl => match us, hl with | [_, _], _ => rfl⟩
  have CR : Cd P w K mg base (L2.CX P w) 3 "_read_numbers" ["text", "at", "most"] (spReadN (He.ga K "NoText")) := ⟨_, _, ok_read FReadNumbers CE RT (He.free_ok X G (c.d.fact 34 (f := .free "len") rfl)) (He.free_ok X G (c.d.fact 30 (f := .free "int") rfl)), (He.glo_ok X G (c.d.fact 9 (f := .glo "_read_numbers") rfl)), FReadNumbers.kp, FReadNumbers.bindsN fun _ _ _ _ _ _ us hl => match us, hl with | [_, _, _], _ => rfl⟩
  have OI : FnOk P w K mg base (L2.CX P w) 5 (He.ma K (He.ga K "Numeral") "__init__") fdM_init ["self", "digits", "bases"] (spInitD K (He.ga K "Numeral") (He.ga K "NoNumeral")) := ok_init FM_init C6 C7 C5 RX N (He.free_ok X G (c.d.fact 32 (f := .free "tuple") rfl)) (He.free_ok X G (c.d.fact 41 (f := .free "sum") rfl)) (He.free_ok X G (c.d.fact 39 (f := .free "zip") rfl))
  have bI : Binds K fdM_init ["self", "digits", "bases"] [] := FM_init.bindsN fun _ _ _ _ _ _ us hl => match us, hl with | [_, _, _], _ => rfl
  have CN : CdC P w K mg base (L2.CX P w) 5 "Numeral" (He.ga K "Numeral") ["self", "digits", "bases"] (spInitD K (He.ga K "Numeral") (He.ga K "NoNumeral")) := ⟨_, _, OI, (He.mkr_ok (c.d.fact 53 (f := .mkr "Numeral") rfl)), (He.glo_ok X G (c.d.fact 28 (f := .glo "Numeral") rfl)), bI⟩
  have ME : CdM P w K mg base CX0 1 (He.ga K "Numeral") "__eq__" ["self", "other"] (spEqN (He.ga K "Numeral")) := ⟨_, _, ok_eq FM_eq N (He.free_ok X G (c.d.fact 29 (f := .free "isinstance") rfl)), (He.meth_ok (c.d.fact 57 (f := .meth "Numeral" "__eq__") rfl)).at_, (He.meth_ok (c.d.fact 57 (f := .meth "Numeral" "__eq__") rfl)).fn, (He.meth_ok (c.d.fact 57 (f := .meth "Numeral" "__eq__") rfl)).kp, FM_eq.bindsN fun _ _ _ _ _ _ us hl => match us, hl with | [_, _], _ => rfl⟩
  have MS : CdM P w K mg base CX0 2 (He.ga K "Numeral") "__str__" ["self"] (spStr (He.ga K "Numeral")) := ⟨_, _, ok_str FM_str N C8, (He.meth_ok (c.d.fact 58 (f := .meth "Numeral" "__str__") rfl)).at_, (He.meth_ok (c.d.fact 58 (f := .meth "Numeral" "__str__") rfl)).fn, (He.meth_ok (c.d.fact 58 (f := .meth "Numeral" "__str__") rfl)).kp, FM_str.bindsN fun _ _ _ _ _ _ us hl => match us, hl with | [_], _ => rfl⟩
  obtain ⟨w1, w2⟩ := He5.wrapB_ok h24
  have CRD : ClX.CRead K (He.ga K "Numeral") (.type "type") := ⟨h22, He.eqO_ok h23⟩
  have CMT : ClX.CMet K (He.ga K "Numeral") (.type "type") "read" _ (He5.wf K (He.ga K "Numeral") "classmethod" "read") := ⟨w1, w2, h25⟩
  obtain ⟨u4, CV⟩ := cv_ok h26
  have FB0 := (ok_rd FRead CR RT CRD CV OI (He.mkr_ok (c.d.fact 53 (f := .mkr "Numeral") rfl)) bI (He.free_ok X G (c.d.fact 29 (f := .free "isinstance") rfl)) (He.free_ok X G (c.d.fact 42 (f := .free "str") rfl)) (He.free_ok X G (c.d.fact 34 (f := .free "len") rfl))).raw (ds := []) (FRead.bindsN fun _ _ _ _ _ _ us hl => match us, hl with | [_, _], _ => rfl) .nil
  simp only [List.append_nil] at FB0
  have FB : FnR P w K mg base (L2.CX P w) 7 (He5.wf K (He.ga K "Numeral") "classmethod" "read") (spRd (He.ga K "Numeral") (He.ga K "NoNumeral") (He.ga K "NoText")) := FB0
  have D1 : Cd P w K mg base CX0 1 "_law_pen" ["_law_script"] (spPenL K) := ⟨_, _, ok_pen FPen (He.free_ok X G (c.d.fact 33 (f := .free "list") rfl)), (He.glo_ok X G (c.d.fact 10 (f := .glo "_law_pen") rfl)), FPen.kp, FPen.bindsN fun _ _ _ _ _ _ us hl => match us, hl with | [_], _ => rfl⟩
  have D2 : Cd P w K mg base CX0 1 "_law_take" ["_law_pen_here", "_law_limit"] spTakeL := ⟨_, _, ok_take FTake (He.free_ok X G (c.d.fact 30 (f := .free "int") rfl)) (He.free_ok X G (c.d.fact 34 (f := .free "len") rfl)) (He.free_ok X G (c.d.fact 36 (f := .free "abs") rfl)), (He.glo_ok X G (c.d.fact 11 (f := .glo "_law_take") rfl)), FTake.kp, FTake.bindsN fun _ _ _ _ _ _ us hl => match us, hl with | [_, _], _ => rfl⟩
  have D3 : Cd P w K mg base CX0 2 "_law_pick" ["_law_pen_here", "_law_some"] (spPickL K) := ⟨_, _, ok_pick FLPick D2 (He.free_ok X G (c.d.fact 34 (f := .free "len") rfl)), (He.glo_ok X G (c.d.fact 12 (f := .glo "_law_pick") rfl)), FLPick.kp, FLPick.bindsN fun _ _ _ _ _ _ us hl => match us, hl with | [_, _], _ => rfl⟩
  have DU : Cd P w K mg base CX0 7 "_law_numeral" ["_law_pen_here"] (spNumL (He.ga K "Numeral")) := ⟨_, _, ok_num FLNumeral D2 D3 CN (He.free_ok X G (c.d.fact 38 (f := .free "range") rfl)), (He.glo_ok X G (c.d.fact 13 (f := .glo "_law_numeral") rfl)), FLNumeral.kp, FLNumeral.bindsN fun _ _ _ _ _ _ us hl => match us, hl with | [_], _ => rfl⟩
  have DF : Cd P w K mg base CX0 1 "_law_face" ["_law_numeral_here"] (spFace (He.ga K "Numeral")) := ⟨_, _, ok_face FLFace N (He.free_ok X G (c.d.fact 33 (f := .free "list") rfl)) (He.free_ok X G (c.d.fact 42 (f := .free "str") rfl)), (He.glo_ok X G (c.d.fact 14 (f := .glo "_law_face") rfl)), FLFace.kp, FLFace.bindsN fun _ _ _ _ _ _ us hl => match us, hl with | [_], _ => rfl⟩
  have DS : Cd P w K mg base CX0 3 "_law_spoilt" ["_law_pen_here", "_law_text"] spSpo := ⟨_, _, ok_spo FLSpoilt D2 D3 (He.free_ok X G (c.d.fact 34 (f := .free "len") rfl)) (He.free_ok X G (c.d.fact 43 (f := .free "max") rfl)), (He.glo_ok X G (c.d.fact 15 (f := .glo "_law_spoilt") rfl)), FLSpoilt.kp, FLSpoilt.bindsN fun _ _ _ _ _ _ us hl => match us, hl with | [_, _], _ => rfl⟩
  have DX : Cd P w K mg base CX0 1 "_law_is_next" ["_law_sign", "_law_state"] spNext := ⟨_, _, ok_next FLIsNext (He.free_ok X G (c.d.fact 34 (f := .free "len") rfl)), (He.glo_ok X G (c.d.fact 16 (f := .glo "_law_is_next") rfl)), FLIsNext.kp, FLIsNext.bindsN fun _ _ _ _ _ _ us hl => match us, hl with | [_, _], _ => rfl⟩
  have DM : Cd P w K mg base CX0 1 "_law_moved_on" ["_law_sign", "_law_state"] spMv := ⟨_, _, ok_mv FLMovedOn (He.free_ok X G (c.d.fact 30 (f := .free "int") rfl)), (He.glo_ok X G (c.d.fact 17 (f := .glo "_law_moved_on") rfl)), FLMovedOn.kp, FLMovedOn.bindsN fun _ _ _ _ _ _ us hl => match us, hl with | [_, _], _ => rfl⟩
  have DC : Cd P w K mg base CX0 2 "_law_scanned" ["_law_text"] spScan := ⟨_, _, ok_scan FLScanned DX DM (He.free_ok X G (c.d.fact 40 (f := .free "enumerate") rfl)) (He.free_ok X G (c.d.fact 34 (f := .free "len") rfl)) (He.free_ok X G (c.d.fact 30 (f := .free "int") rfl)), (He.glo_ok X G (c.d.fact 18 (f := .glo "_law_scanned") rfl)), FLScanned.kp, FLScanned.bindsN fun _ _ _ _ _ _ us hl => match us, hl with | [_], _ => rfl⟩
  have DD : Cd P w K mg base CX0 3 "_law_due" ["_law_text"] spDue := ⟨_, _, ok_due FLDue DC (He.free_ok X G (c.d.fact 40 (f := .free "enumerate") rfl)) (He.free_ok X G (c.d.fact 29 (f := .free "isinstance") rfl)) (He.free_ok X G (c.d.fact 30 (f := .free "int") rfl)) (He.free_ok X G (c.d.fact 32 (f := .free "tuple") rfl)), (He.glo_ok X G (c.d.fact 19 (f := .glo "_law_due") rfl)), FLDue.kp, FLDue.bindsN fun _ _ _ _ _ _ us hl => match us, hl with | [_], _ => rfl⟩
  have DT : Cd P w K mg base CX0 8 "_law_told" ["_law_thing"] spTold := ⟨_, _, ok_told FLTold N RF CRD CMT FB, (He.glo_ok X G (c.d.fact 20 (f := .glo "_law_told") rfl)), FLTold.kp, FLTold.bindsN fun _ _ _ _ _ _ us hl => match us, hl with | [_], _ => rfl⟩
  exact ok_law FLaw N M D1 D2 DU DF DS DD DT MS ME (He.eqO_ok h21) (of_decide_eq_true h19) CRD CMT FB (He.free_ok X G (c.d.fact 42 (f := .free "str") rfl)) (He.free_ok X G (c.d.fact 37 (f := .free "repr") rfl)) (He.free_ok X G (c.d.fact 38 (f := .free "range") rfl))
end
end K06

set_option Elab.async false
set_option linter.all false
set_option maxRecDepth 100000
set_option maxHeartbeats 4000000
open PySem PySem.W PySem.Calls PyProof.Rows
theorem PySem.Challenge.cw_risingread_k06_numerals_read_holds : PySem.Challenge.rw_risingread_k06_numerals_read.Holds := by
  w_on; o_law
  refine HandSHeadRun.head_any (r := OpenLaw.row PySem.Challenge.rw_risingread_k06_numerals_read) (q := view (OpenLaw.row PySem.Challenge.rw_risingread_k06_numerals_read).prog [47]) (H := K06.hk) (ob := K06.ob) (M := 20000) (loose := K06.loose)
    (d := HandSHeadRun.topDef (OpenLaw.row PySem.Challenge.rw_risingread_k06_numerals_read).prog 47) (kwd := []) K06.ob_eq (by kernel_rfl) (fun s => by kernel_rfl) K06.headRun (by kernel_rfl) (by kernel_rfl) (by kernel_rfl) (by rfl)
    (by first | assumption | decide +kernel) (by decide +kernel) ⟨rfl, rfl, rfl, rfl, rfl, by decide +kernel⟩ ?hw ?hc
  case hw => w_witness2
  case hc =>
    refine Ru.walkT (l := PySem.Challenge.rw_risingread_k06_numerals_read) (n := 63) (k := 9) (x := "_law_script") rfl (by decide) (by kernel_rfl) ⟨rfl, by decide, by decide⟩ ?F
    intro w mg fa h Y G hmg0
    obtain ⟨K, KX, c, cw⟩ := Y
    have hmg : mg ("law" : PySem.Str) = some (.ref fa) := by
      have e : (HandSHeadRun.topDef (OpenLaw.row PySem.Challenge.rw_risingread_k06_numerals_read).prog 47).name = ("law" : PySem.Str) := by kernel_rfl
      rw [← e]
      exact hmg0
    obtain ⟨fd, hb, hF⟩ := K06.facts (P := (PySem.Challenge.rw_risingread_k06_numerals_read).prog) (w := w) KX G hmg c cw
    exact ⟨K, [], fd, K06.spLaw K, KX, fun p hp => (List.not_mem_nil hp).elim, fun p hp => (List.not_mem_nil hp).elim, fun p hp => (List.not_mem_nil hp).elim, hb, fun H a ns hl hT hS => ⟨a, ns, rfl, hS, hl, fun _ => rfl⟩, fun base kb nb _ => hF base kb nb⟩

