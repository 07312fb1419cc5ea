import PyProof.Rows.All
import Wide.All
import OpenK.AllK
import Wide.FinOn
import PyProof.ReprRoads
import PyProof.Rows.NestShow
import HandS.ForMost
import HandS.ForExc
import HandS.ExcInit
import HandS.ExcValue
import HandS.ExcIs
import KE.KExcIs
import HandS.ExcField
import HandS.Deep
import HandS.Defaults
import HandS.HeadEnd
import HandS.Lambda
import HandS.Head0
import HandS.Head1
import HandS.Head2
import HandS.HeadHook1
import HandS.HeadHook2
import HandS.HeadHook4
import HandS.EndTab
import HandS.Style
import HandS.IsInst
import HandS.TupLe
import HandS.Small
import HandS.ClsMeth
import PySem.Challenge.RW_risingread_k01_bases_and_weights
set_option Elab.async false
set_option linter.all false
set_option maxRecDepth 100000
set_option maxHeartbeats 2000000
/-! Own rules over the hand layer: repr of data, exceptions as values, counts, defs that lean on an empty row of guards. -/
namespace Ru
open PySem PySem.Spec PyProof.Rows L2

/-! ### repr of data -/
def rRepr (K : PySem.W.Frag) : List V → Hp → VK → Prop := fun xs H Q =>
  ∃ (a : Addr) (d : PyData), xs = [.ref a] ∧ Dp K H (.ref a) d ∧ d.showable = true ∧ d.hasDict = false ∧ d.depth ≤ 40 ∧ d.shown.length ≤ sizeLine ∧ Q (.str d.shown) H
theorem call_reprD {X : Cx} (hg : X.A.guards = some []) (hu : X.A.units + 64 < cLine) : CallR X (.builtin "repr") (rRepr X.K) := by
  intro pins s σ H xs us Q I r h
  obtain ⟨a, d, rfl, hd, hs, hn, hdp, hsz, q⟩ := h
  obtain ⟨u, rfl, ru⟩ := vals1 r
  cases ru
  obtain ⟨as, r1⟩ := Dp.reads I d _ _ hd rfl
  exact repr_of_reads' r1 hs (PyData.noDict_hsm hn) hg (by omega) (fun _ _ e => e) (fun h' u tk hk => ⟨.str d.shown, H, I.kept (t' := tk) hk, ⟨u, rfl⟩, q⟩) hsz

/-! ### how often a flat value stands in a list -/
theorem countP_eqU {x : V} : ∀ {xs : List V} {us : List Value}, Vals xs us → xs.all flatV = true → us.countP (eqU x) = xs.countP fun y => eqV y x
  | _, _, .nil, _ => rfl
  | y :: xs, u :: us, .cons r t, f => by
    rw [List.all_cons, Bool.and_eq_true] at f
    rw [List.countP_cons, List.countP_cons, eqU_of r f.1, countP_eqU t f.2]
def rCntF (K : PySem.W.Frag) : V → List V → Hp → VK → Prop := fun x xs H Q =>
  ∃ (p : Addr) (ys : List V) (k : V), x = .ref p ∧ xs = [k] ∧ SqL K H p ys ∧ flatV k = true ∧ ys.all flatV = true ∧ Q (.int ((ys.countP fun y => eqV y k) : Nat)) H
theorem mt_countF {X : Cx} : MtR X "list.count" (rCntF X.K) := by
  intro pins s σ H x xs v us Q I rx rxs h
  obtain ⟨p, ys, k, rfl, rfl, hs, fk, fy, q⟩ := h
  cases rx
  obtain ⟨u, rfl, ru⟩ := rxs.one
  obtain ⟨its, rv, ⟨⟨cls, dd, data, sl⟩, n, ho, hc, hdn, hd⟩, hlen⟩ := I.list hs
  simp only at hc hd
  subst hc hd
  refine call_meets PySem.F.slot_list_count ⟨_, ho, rfl⟩ PySem.F.entry_list_count (PySem.F.args_list_count_2 _ _)
    (SeqAt.list_countAt p its.toArray n dd sl u (eqU k)) ⟨ho, fun y hy => mem_eqAt ru fk rv fy y (by simpa using hy), ?_⟩
  have ec : its.toArray.toList.countP (eqU k) = ys.countP fun y => eqV y k := countP_eqU rv fy
  refine ⟨.int ((ys.countP fun y => eqV y k) : Nat), H, I.tok _, ⟨s.toks, ?_⟩, q⟩
  show Value.int ((its.toArray.toList.countP (eqU k) : Nat) : Int) s.toks = _
  rw [ec]

/-! ### own exceptions as values -/
/-- at e an exception of the class at C, with these fields of its own -/
def ExAt (H : Hp) (e C : Addr) (fs : List (Str × V)) : Prop := (fs = [] ∧ H e = some (ExO (.ref C) e)) ∨ ∃ d, H e = some (exo e C (some d)) ∧ H d = some (exd d fs)
theorem ExAt.same {H H' : Hp} {e C : Addr} {fs : List (Str × V)} (s : Same H H') (h : ExAt H e C fs) : ExAt H' e C fs := by
  rcases h with ⟨h1, h2⟩ | ⟨d, h1, h2⟩
  · exact .inl ⟨h1, s _ _ h2⟩
  · exact .inr ⟨d, s _ _ h1, s _ _ h2⟩
/-- the object itself, for the library's looks -/
theorem ExAt.inst {X : Cx} {pins : List (Addr × Obj)} {σ : L2.St} {H : Hp} {s : Shared} (I : Inv X pins σ H s) {e C : Addr} {fs : List (Str × V)} (h : ExAt H e C fs) :
    ∃ (ox : Obj) (od : Option Obj), PySem.W.InstAt s.heap e ox C od ∧ ∀ f v, fs.lookup f = some v → ∃ o u, od = some o ∧ PySem.W.lookIn f o = some (some u) ∧ RelV v u := by
  rcases h with ⟨h1, h2⟩ | ⟨d, h1, h2⟩
  · subst h1
    obtain ⟨⟨oe, vs, ho, hz, hd, _⟩, _, _⟩ := I.hok e _ h2
    obtain ⟨oc, odi, oda, osl⟩ := oe
    obtain ⟨z1, z2⟩ := hz
    dsimp only at z1 z2 hd
    subst z1 z2 hd
    exact ⟨_, none, ⟨ho, rfl, rfl, trivial⟩, fun f v q => nomatch q⟩
  · obtain ⟨t1, ho⟩ := exo_at I.hok h1
    obtain ⟨mA, hns, hr⟩ := exd_at I.hok h2
    obtain ⟨od, hod, hl⟩ := lookIn_ns hns
    refine ⟨_, some od, ⟨ho, rfl, rfl, hod⟩, fun f v q => ?_⟩
    obtain ⟨u, hu, ru⟩ := RelO.some_of (v := v) (o := mA f) (by rw [← q]; exact hr f)
    exact ⟨od, u, rfl, by rw [hl, hu], ru⟩

/-- what the written part says of an own exception class whose objects are looked at -/
structure ExK (K : PySem.W.Frag) (D : Addr) : Prop where
  hcl : (PySem.W.clsIn K D).isSome = true
  hga : PySem.W.findIn K (.ref D) "__getattribute__" = some (some (.builtin "BaseException.__getattribute__"))
  hgt : PySem.W.findIn K (.ref D) "__getattr__" = some none
  hsub : PySem.W.subIn K (.ref D) (.type "BaseException") = some true
  hdc : PySem.W.hasDictIn K D = true
  ha : PySem.W.findIn K (.ref D) "__class__" = some (some (.builtin "object.__class__"))
  hn : PySem.W.specialIn K (.builtin "object.__class__") "__get__" = some (some (.builtin "getset_descriptor.__get__"))
  htk : PySem.W.takesIn K (.builtin "object.__class__") = some true
  hm : PySem.W.mroIn K D (.type "object") = some true
/-- isinstance(e, c) -/
def rIsX (K : PySem.W.Frag) : List V → Hp → VK → Prop := fun xs H Q =>
  ∃ (e D : Addr) (fs : List (Str × V)) (c : V) (cv : Value) (b : Bool), xs = [.ref e, c] ∧ ExAt H e D fs ∧ ExK K D ∧ (∀ u, RelV c u → u = cv) ∧ PySem.W.kitOne K (.ref D) cv = some b ∧ Q (.bl b) H
theorem call_isX {X : Cx} : CallR X (.builtin "isinstance") (rIsX X.K) := by
  intro pins s σ H xs us Q I r h
  obtain ⟨e, D, fs, c, cv, b, rfl, he, C, hcv, ek, q⟩ := h
  cases r with
  | cons rx rr =>
    cases rr with
    | cons rt rr =>
      cases rr
      cases rx
      have ec := hcv _ rt
      subst ec
      obtain ⟨ox, od, J, _⟩ := he.inst I
      exact PySem.W.kia_one (PySem.W.kitx_exc C.hcl C.hga C.hgt C.hsub C.ha C.hn C.htk C.hm) I.kIn J ek (fun z => nomatch z) fun tk => ⟨.bl b, H, I.kept (t' := tk) fun _ _ z => z, rfl, q⟩
/-- e.f -/
def tExF (K : PySem.W.Frag) (f : Str) (te : TE) : TE := fun σ H Q => te σ H fun x H1 =>
  ∃ (e D : Addr) (fs : List (Str × V)) (v : V), x = .ref e ∧ ExAt H1 e D fs ∧ ExK K D ∧ PySem.W.findIn K (.ref D) f = some none ∧ fs.lookup f = some v ∧ Q v H1
theorem pe_exf {X : Cx} {e : Expr} {te : TE} {pos : Pos} {n : Str} (he : PE X e te) (hb : attributeBase e n X.env (eval e X.env) = eval e X.env := by rfl) : PE X (.Attribute e n pos) (tExF X.K n te) := by
  refine ⟨fun pins s σ H Q I h => ?_⟩
  refine attr_of hb (thn (he.run pins s σ H _ I h) fun u s1 hh => ?_)
  obtain ⟨x, H1, I1, rx, a, D, fs, v, ex, hx, T, hno, hl, q⟩ := hh
  subst ex
  obtain rfl : u = Value.ref a := rx
  obtain ⟨ox, od, J, hf⟩ := hx.inst I1
  obtain ⟨o, u, rfl, hlk, ru⟩ := hf n v hl
  exact HandSPX.exc_get I1.kIn J T.hga T.hgt T.hsub (PySem.W.findObj_own T.hdc hno rfl hlk) (handed_of ru) ⟨v, H1, I1.tok _, ru, q⟩

/-! ### making them -/
/-- X('u'): a class without an own __init__ -/
def tEx0 (C : Addr) (ta : TE) : TE := fun σ H Q => ta σ H fun _ H1 => ∀ e H2, Same H1 H2 → H1 e = none → ExAt H2 e C [] → Q (.ref e) H2
theorem weaken {X : Cx} {e : Expr} {t t' : TE} (h : PE X e t) (f : ∀ σ H Q, t' σ H Q → t σ H Q) : PE X e t' := ⟨fun pins s σ H Q I q => h.run pins s σ H Q I (f σ H Q q)⟩
theorem pe_ex0 {X : Cx} {C : Addr} {bmB : List Value} {B newId initId : String} {x : Str} {e : Expr} {te : TE} {p pos : Pos} (F : ExcBaseFacts B newId initId bmB) (q : PySem.W.excIn X.K C bmB newId = true)
    (gC : X.mg x = some (.ref C)) (kC : PySem.W.keepIn X.K (.ref C) = true) (hg : Gl X x) (he : PE X e te) (hs : starEach [e] X.env = (false, eval e X.env) :: starEach [] X.env := by rfl) (hdb : (x == ("__debug__" : Str)) = false := by decide)
    (hm : ∀ σ H (Q Q' : VK), (∀ v H', Q v H' → Q' v H') → te σ H Q → te σ H Q') :
    PE X (.Call (.Name x p) [e] [] pos) (tEx0 C te) :=
  weaken (pe_exc1 F q gC kC hg he hs hdb) fun σ H Q h => hm σ H _ _ (fun v H1 h1 a ha => h1 a _ (fun b o z => by rw [upd_ne (ne_of_none z ha)]; exact z) ha (.inl ⟨rfl, upd_same⟩)) h
/-- X(e, ..): the class has an own __init__ that keeps sp -/
def tExI (C : Addr) (sp : Sp) (ta : TA) : TE := fun σ H Q => ta σ H fun vs H1 => vs.length ≤ 1000 ∧ ∀ a, H1 a = none →
  sp (.ref a :: vs) (upd H1 a (exo a C none)) (fun v H2 => v = .non ∧ Q (.ref a) H2) fun _ _ _ => False
theorem pe_exI {X : Cx} {x : Str} {C fI : Addr} {k : Nat} {fd : FuncData} {ps : List Str} {sp : Sp} {e : Expr} {es : List Expr} {ta : TA} {p pos : Pos} (T : OexC X.K C) (iC : PySem.W.findIn X.K (.ref C) "__init__" = some (some (.ref fI)))
    (tI : PySem.W.typeIn X.K (.ref fI) = some (.type "function")) (G : FnOk X.prog X.w X.K X.mg X.base CX0 k fI fd ps sp) (hr : Room (k + 1) X.A) (hb : Binds X.K fd ps []) (hg : Gl X x) (hm : X.mg x = some (.ref C)) (ha : PA X (e :: es) ta)
    (hdb : (x == ("__debug__" : Str)) = false := by decide) (he : starEach (e :: es) X.env = (false, eval e X.env) :: starEach es X.env := by rfl) (hpl : (backTo pos (starEach es X.env)).any (·.1) = false := by rfl) :
    PE X (.Call (.Name x p) (e :: es) [] pos) (tExI C sp ta) := by
  constructor
  intro pins s σ H Q I h
  obtain ⟨nm, q, N, bs, bm, sn, sub, ab, col, dd, k0, k1, k2, k3, k5, hC, hbm⟩ := T.cls
  refine wpAny_Call_Name_kw (ld_glob I hg hm ?_ hdb)
  refine PySem.W.callWith_K (h₀ := X.base) I.ok.mod.kin T.kC ?_ he hpl
  refine thn (ha.run pos pins s σ H _ I h) ?_
  rintro us ⟨hp, g, dr, tk, os⟩ ⟨vs, H1, I1, r1, hz, q1⟩
  refine ⟨I1.kIn, ?_⟩
  show wpAny _ _ (call (.ref C) us) _ _ _
  let a : Addr := hp.objs.size + 1
  have lt1 : hp.objs.size ≤ a := Nat.le_succ _
  have hn : H1 a = none := I1.hok.fresh lt1
  have hq := q1 a hn
  have old : ∀ b o, hp.get? b = some o → ((hp.push (PySem.W.kdv_tup us)).push (PySem.HandSPX.excO C hp.objs.size)).get? b = some o := fun b o z => Heap.get?_push_of_some _ (Heap.get?_push_of_some _ z)
  have new : ((hp.push (PySem.W.kdv_tup us)).push (PySem.HandSPX.excO C hp.objs.size)).get? a = some (PySem.HandSPX.excO C hp.objs.size) := by
    show ((hp.push (PySem.W.kdv_tup us)).push (PySem.HandSPX.excO C hp.objs.size)).get? (hp.objs.size + 1) = _
    heap_get
  have I2 : Inv X pins σ (upd H1 a (exo a C none)) ⟨(hp.push (PySem.W.kdv_tup us)).push (PySem.HandSPX.excO C hp.objs.size), g, dr, tk, os⟩ := I1.laid (t' := tk) old lt1 (exo_ok new)
  have r2 : Vals (V.ref a :: vs) (Value.ref a :: us) := .cons rfl r1
  have hl : (Value.ref a :: us ++ []).length = ps.length := by
    rw [List.append_nil, ← r2.length]
    exact G.len _ _ _ _ hq
  have hus : us.length ≤ sizeLine := by
    rw [← Paired.length r1, sizeLine_eq]
    omega
  refine wpAny_call (PySem.HandSPX.call_own F.excBase_ValueError (fun Y => PySem.HandSPX.refsVE_contains Y bm hbm) (I1.kIn _ _ hC) (PySem.W.looks_findIn I1.kIn iC) (fun self => PySem.W.bind_fn I1.kIn self tI) hus ?_)
  have bd := hb _ (Value.ref a :: us) I2.kIn hl
  rw [List.append_nil] at bd
  refine codeAny_mono (G.run _ X.stack _ _ ⟨Value.ref a :: us, []⟩ (Value.ref a :: us) _ _ (fun _ _ _ => False) (hr.make C us []) (I2.env0.make C us []) bd r2 hq) fun r s' z => ?_
  match r, z with
  | .ok (.ret u), z =>
    obtain ⟨v, H2, J, rv, ev, q2⟩ := I2.after z
    subst ev
    exact ⟨rv, .ref a, H2, J, rfl, q2⟩
  | .error er, z => exact z.elim
end Ru

set_option Elab.async false
set_option linter.all false
set_option maxRecDepth 100000
set_option maxHeartbeats 2000000
namespace Ru
open PySem PySem.Spec PyProof.Rows L2
/-! ### defs that lean on an empty row of guards (repr of containers) -/
structure FnG (P : Program) (w : World) (K : PySem.W.Frag) (mg : Str → Option Value) (base : Heap) (CX : CXT) (k : Nat) (f : Addr) (fd : FuncData) (ps : List Str) (sp : Sp) : Prop where
  len : ∀ vs H Q E, sp vs H Q E → vs.length = ps.length
  run : ∀ (A : Around) (outer : List Env) (s : Shared) (H : Hp) (args : Args) (us : List Value) (vs : List V) (Q : VK) (E : XK), A.guards = some [] → Room k A → Env0 P w K mg base A outer s H →
    BindsTo s fd args (ps.zip us) → Vals vs us → sp vs H Q E → codeAny (model P w) A (.call (.ref f) args) (CR CX outer P w H s Q E) s
section
variable {P : Program} {w : World} {K : PySem.W.Frag} {mg : Str → Option Value} {base : Heap} {CX : CXT} {x qual : Str} {params : Arguments} {body : List Stmt} {scope : Scope} {dvs : List V} {kws : List (Str × V)} {f : Addr} {fd : FuncData} {N ps : List Str} {k : Nat} {sp : Sp}
theorem FnG.of (F : FnOk P w K mg base CX k f fd ps sp) : FnG P w K mg base CX k f fd ps sp := ⟨F.len, fun A o s H a us vs Q E _ hr => F.run A o s H a us vs Q E hr⟩
/-- the rule for such a def -/
theorem okG (F : FunD K x qual params body scope dvs kws f fd) (S : FnScope N ps scope) (len : ∀ vs H Q E, sp vs H Q E → vs.length = ps.length)
    (hb : ∀ (cdv : Value) (A : Around) (outer : List Env) (s : Shared) (H : Hp) (vs : List V) (Q : VK) (E : XK), A.guards = some [] → Room k (A.deeper (envOfC qual scope s.heap.objs.size f cdv)) → sp vs H Q E →
      ∃ t, PSs (cxOf CX P w K mg base N qual scope f cdv A outer s H E) body t ∧ t { nx := fun _ H' => Q .non H', rt := Q } (start N vs) H) : FnG P w K mg base CX (k + 1) f fd ps sp := by
  obtain ⟨_, _, _, _, _, _, _, code, _, _, e, lk, hcd, _⟩ := F.ex
  subst e
  exact ⟨len, fun A outer s H args us vs Q E g r e0 b v h => LamX.run_ofS lk hcd S r e0 b v (len vs H Q E h) fun r' => hb code A outer s H vs Q E g r' h⟩
end
section
variable {X : Cx} {CX : CXT} {k : Nat} {f : Addr} {fd : FuncData} {ps : List Str} {sp : Sp} {dvs : List V} {ds : List Value} {E : XK} {x : Str} {p pos : Pos} {e : Expr} {es : List Expr} {t : TA}
theorem pe_callG (hG : X.A.guards = some []) (F : FnG X.prog X.w X.K X.mg X.base CX k f fd ps sp) (hr : Room k X.A) (hg : Gl X x) (hm : X.mg x = some (.ref f)) (hk : PySem.W.keepIn X.K (.ref f) = true) (hb : Binds X.K fd ps ds) (hd : Vals dvs ds) (hx : Passes CX X E)
    (ha : PA X (e :: es) t) (hdb : (x == ("__debug__" : Str)) = false := by decide) (he : starEach (e :: es) X.env = (false, eval e X.env) :: starEach es X.env := by rfl) (hpl : (backTo pos (starEach es X.env)).any (·.1) = false := by rfl) :
    PE X (.Call (.Name x p) (e :: es) [] pos) (tCall sp dvs E t) := by
  constructor
  intro pins s σ H Q I h
  refine wpAny_Call_Name_kw (ld_glob I hg hm ?_ hdb)
  refine PySem.W.callWith_K (h₀ := X.base) I.ok.mod.kin hk ?_ he hpl
  refine thn (ha.run pos pins s σ H _ I h) ?_
  rintro us s1 ⟨vs, H1, I1, r, q⟩
  have r2 := r.append hd
  have hl : (us ++ ds).length = ps.length := r2.length.symm.trans (F.len _ _ _ _ q)
  refine ⟨I1.kIn, wpAny_call (codeAny_mono (F.run X.A X.stack s1 H1 ⟨us, []⟩ _ _ Q E hG hr I1.env0 (hb s1 us I1.kIn hl) r2 q) ?_)⟩
  intro r s' z
  match r, z with
  | .error er, z => exact hx pins σ H1 s1 er s' I1 z
  | .ok (.ret u), z => exact I1.after z
end

/-! ### the law's entry, at the caller that has no guards -/
section
variable {P : Program} {w : World} {K : PySem.W.Frag} {mg mb : Str → Option Value} {k : Nat} {fa a : Addr} {fd : FuncData} {x : Str} {sp : Sp} {s : Shared} {vs : List Value} {ns : List Int}
/-- the heap in which at most the script is tracked, locked -/
def onlyAt (a : Addr) (o : Obj) (u : HO) : Hp := fun b => if b = a then some (.frz o u) else none
theorem entry (KX : K.In s.heap) (hns : s.heap.Ns mainGlobals mg) (hb : s.heap.Ns builtinsNs mb) (hbb : ∀ x : Str, x ≠ "__name__" → mb x = bootBuiltins x) (hlim : s.heap.NoLimit) (hg : s.gens = #[])
    (ha : s.heap.get? a = some { cls := .type "list", data := .seq vs.toArray }) (hi : IntsAre vs ns) (hl : ns.length ≤ sizeLine) (hr : Room k callerA)
    (F : ∀ base : Heap, K.In base → base.Ns mainGlobals mg → FnG P w K mg base CX0 k fa fd [x] sp) (bd : ∀ (s : Shared) (u : Value), BindsTo s fd ⟨[u], []⟩ [(x, u)])
    (hsp : ∀ H : Hp, Only H → SqL K H a (ns.map V.int) → sp [.ref a] H (fun v _ => v = .bl true) E0) :
    codeAny (model P w) callerA (.call (.ref fa) ⟨[.ref a], []⟩) (fun r s' => r = .ok (.ret (.bool true)) ∧ OldK s.heap s'.heap ∧ s'.os = s.os ∧ AllBare s'.gens) s := by
  have rv := vals_ints hi
  have main : ∀ H : Hp, Only H → SqL K H a (ns.map V.int) → HOk P w H s.heap → (∀ b, H b ≠ none → b = a) → (∀ o, K.lookup a = some o → H a = none) →
      codeAny (model P w) callerA (.call (.ref fa) ⟨[.ref a], []⟩) (fun r s' => r = .ok (.ret (.bool true)) ∧ OldK s.heap s'.heap ∧ s'.os = s.os ∧ AllBare s'.gens) s := by
    intro H only sq hok off kno
    have nod : ∀ {b : Addr} {m : Str → Option Value}, s.heap.Ns b m → (hidT s.heap H).Ns b m := by
      rintro b m ⟨o, es, ep, e, d, r⟩
      refine ⟨o, es, ep, hidT_get e ?_, d, r⟩
      cases q : H b with
      | none => rfl
      | some u =>
        have z := off b (by rw [q]; simp)
        subst z
        rw [ha] at e
        cases e
        cases (show Data.seq vs.toArray _ = Data.dict es ep from d)
    have kin : K.In (hidT s.heap H) := by
      intro b o e
      refine hidT_get (KX b o e) ?_
      cases q : H b with
      | none => rfl
      | some u =>
        have z := off b (by rw [q]; simp)
        subst z
        rw [kno o e] at q
        cases q
    have md : Mod K mg (hidT s.heap H) := ⟨kin, nod hns, ⟨mb, nod hb, hbb⟩, hlim.imp fun mc z => ⟨nod z.1, z.2⟩⟩
    have e0 : Env0 P w K mg (hidT s.heap H) callerA [] s H :=
      { frames := rfl, mod := md, bs := fun b o e => of_hidT e, bsz := Nat.le_of_eq (hidT_size _ _), funs := trivial, frf := fun b z => (List.not_mem_nil z).elim, hok := hok, bare := .of_eq hg }
    refine codeAny_mono ((F _ kin (nod hns)).run callerA [] s H ⟨[.ref a], []⟩ [.ref a] [.ref a] _ _ rfl hr e0 (bd s (.ref a)) (.cons rfl .nil) (hsp H only sq)) ?_
    intro r s' z
    match r, z with
    | .ok (.ret u), ⟨v, H', os, bare, un, hok', r', q⟩ =>
      subst q
      obtain rfl : u = Value.bool true := r'
      refine ⟨rfl, OldK.of_keep fun b o e => ?_, os, bare⟩
      cases hb : H b with
      | none => exact un.keep b o e hb (fun z => (List.not_mem_nil z).elim) (fun z => (List.not_mem_nil z).elim)
      | some u =>
        rcases only b with q | ⟨ob, xs, q⟩
        · rw [hb] at q
          cases q
        · have e1 := (hok b _ q).1
          have e2 := (hok' b _ (un.frzs b ob _ q)).1
          rw [e] at e1
          cases e1
          exact e2
  cases hk : K.lookup a with
  | none =>
    refine main (onlyAt a { cls := .type "list", data := .seq vs.toArray } (.lst (ns.map V.int))) (fun b => ?_) (.inl (.inr ⟨_, if_pos rfl⟩)) (fun b u z => ?_) (fun b z => ?_) fun o z => by rw [hk] at z; cases z
    · by_cases e : b = a
      · exact .inr ⟨_, _, if_pos e⟩
      · exact .inl (if_neg e)
    · by_cases e : b = a
      · rw [show onlyAt a { cls := .type "list", data := .seq vs.toArray } (.lst (ns.map V.int)) b = some _ from if_pos e] at z
        cases z
        subst e
        exact ⟨ha, by rw [List.length_map]; exact hl, vs, _, rv, ha⟩
      · rw [show onlyAt a { cls := .type "list", data := .seq vs.toArray } (.lst (ns.map V.int)) b = none from if_neg e] at z
        cases z
    · by_cases e : b = a
      · exact e
      · exact (z (if_neg e)).elim
  | some o =>
    have e := KX a o hk
    rw [ha] at e
    cases e
    exact main (fun _ => none) (fun _ => .inl rfl) (.inr ⟨_, vs.toArray, _, hk, rfl, rfl, rfl, by rw [List.size_toArray, hi.length]; exact hl, by simpa using rv⟩) (fun b u z => by cases (show (none : Option HO) = some u from z)) (fun b z => (z rfl).elim) fun _ _ => rfl
end
/-- the law, from its def's promise -/
theorem walkG {l : PySem.W.OpenLaw} {n k : Nat} {q : Program} {loose : List Str} {XP : (Str → Option Value) → Heap → Prop} {YP : World → Heap → Prop} {d : DefRec} {x : Str}
    (hn : l.most = some n) (hn2 : n ≤ sizeLine) (hdf : d.params.defaults = []) (hr : Room k callerA)
    (F : ∀ (w : World) (mg : Str → Option Value) (fa : Addr) (h : Heap), YP w h → h.Ns mainGlobals mg → mg d.name = some (.ref fa) →
      ∃ (K : PySem.W.Frag) (fd : FuncData) (sp : Sp), K.In h ∧ (∀ (s : Shared) (u : Value), BindsTo s fd ⟨[u], []⟩ [(x, u)]) ∧
        (∀ (H : Hp) (a : Addr) (ns : List Int), ns.length ≤ n → Only H → SqL K H a (ns.map V.int) → sp [.ref a] H (fun v _ => v = .bl true) E0) ∧
        ∀ base : Heap, K.In base → base.Ns mainGlobals mg → FnG l.prog w K mg base CX0 k fa fd [x] sp) :
    PySem.W.WalkO q loose XP YP l.row.toRowW d [] (fun f vs => PySem.call f vs) := by
  refine Att.attach_call hn hdf fun w s₀ s₁ mg mb fa o pm cd doc a vs ns G Y ho hd hcd hmg hobj hints hlen hg => ?_
  obtain ⟨K, fd, sp, kx, bd, hsp, hF⟩ := F w mg fa _ Y G.T.g hmg
  exact entry kx G.T.g G.T.b G.T.builtins G.T.nolimit hg hobj hints (Nat.le_trans hlen hn2) hr hF bd fun H o sq => hsp H a ns hlen o sq
end Ru

set_option Elab.async false
set_option linter.all false
set_option maxRecDepth 100000
set_option maxHeartbeats 2000000
namespace Ru
open PySem PySem.Spec PyProof.Rows L2
/-! ### a Hook with one more look of one's own -/
abbrev AlX : Type := He.AlD × Bool
def obsX (n : Nat) (fa : List He.Fa) (fn : List He.DefD) (ex : PySem.W.Frag → Bool) (g : Addr → Option Obj) : AlX := (He.obsDG n fa fn g, ex (He.frG g (He.asD g n)))
def hookX (n : Nat) (fa : List He.Fa) (fn : List He.DefD) (ex : PySem.W.Frag → Bool) : PySem.W.Hook where
  α := AlX
  obs := fun s => obsX n fa fn ex s.heap.get?
  val := fun _ => (He.valD fn, true)
  says := fun _ h => ∃ K : PySem.W.Frag, K.In h ∧ He.SaysD fa fn K ∧ ex K = true
  of := fun _ _ e => ⟨_, He.frG_in, congrArg Prod.fst e, congrArg Prod.snd e⟩
  keeps := fun _ _ _ ⟨K, a, b, c⟩ k => ⟨K, PySem.W.Frag.In.keeps a k, b, c⟩
theorem obsX_eq {n : Nat} {fa : List He.Fa} {fn : List He.DefD} {ex : PySem.W.Frag → Bool} {g : Addr → Option Obj} {s : Shared} (h : ∀ a, g a = s.heap.get? a) : obsX n fa fn ex g = (hookX n fa fn ex).obs s := by
  have e : g = s.heap.get? := funext h
  rw [e] <;> rfl

/-! ### own exception classes, as the written part has them -/
def optB (a b : Option Bool) : Bool := decide (a = b)
def exKB (K : PySem.W.Frag) (D : Addr) : Bool :=
  (PySem.W.clsIn K D).isSome && He.eqO (PySem.W.findIn K (.ref D) "__getattribute__") (some (some (.builtin "BaseException.__getattribute__"))) && He.eqO (PySem.W.findIn K (.ref D) "__getattr__") (some none) &&
  optB (PySem.W.subIn K (.ref D) (.type "BaseException")) (some true) && PySem.W.hasDictIn K D && He.eqO (PySem.W.findIn K (.ref D) "__class__") (some (some (.builtin "object.__class__"))) && optB (PySem.W.mroIn K D (.type "object")) (some true)
/-- what is the same for all of them -/
def exAllB (K : PySem.W.Frag) : Bool := He.eqO (PySem.W.specialIn K (.builtin "object.__class__") "__get__") (some (some (.builtin "getset_descriptor.__get__"))) && optB (PySem.W.takesIn K (.builtin "object.__class__")) (some true)
theorem exKB_ok {K : PySem.W.Frag} {D : Addr} (a : exAllB K = true) (h : exKB K D = true) : ExK K D := by
  unfold exKB at h
  unfold exAllB at a
  simp only [Bool.and_eq_true] at h a
  obtain ⟨⟨⟨⟨⟨⟨h1, h2⟩, h3⟩, h4⟩, h5⟩, h6⟩, h7⟩ := h
  exact ⟨h1, He.eqO_ok h2, He.eqO_ok h3, of_decide_eq_true h4, h5, He.eqO_ok h6, He.eqO_ok a.1, of_decide_eq_true a.2, of_decide_eq_true h7⟩
/-- a class with an own __init__ -/
def oexB (K : PySem.W.Frag) (C : Addr) : Bool := (match K.lookup C with
  | some ⟨.type "type", _, .cls cd, sl⟩ => (match cd.mro, sl.toList with
    | .ref C' :: bm, [_, _, _, _, some (.builtin n), _] => C' == C && n == "ValueError.__new__" && !cd.hasDel && cd.hasDict && PySem.HandSPX.refsVE bm
    | _, _ => false)
  | _ => false) && He.eqO (PySem.W.findIn K (.ref C) "__setattr__") (some (some (.builtin "object.__setattr__"))) && optB (PySem.W.subIn K (.ref C) (.type "BaseException")) (some true) &&
  decide (PySem.W.typeIn K (.ref C) = some (.type "type")) && PySem.W.keepIn K (.ref C) && He.eqO (PySem.W.findIn K (.ref C) "__init__") (some (some (.ref (He.ma K C "__init__")))) && decide (PySem.W.typeIn K (.ref (He.ma K C "__init__")) = some (.type "function"))
theorem oexB_ok {K : PySem.W.Frag} {C : Addr} (h : oexB K C = true) :
    OexC K C ∧ PySem.W.findIn K (.ref C) "__init__" = some (some (.ref (He.ma K C "__init__"))) ∧ PySem.W.typeIn K (.ref (He.ma K C "__init__")) = some (.type "function") := by
  unfold oexB at h
  rw [Bool.and_eq_true, Bool.and_eq_true, Bool.and_eq_true, Bool.and_eq_true, Bool.and_eq_true, Bool.and_eq_true] at h
  obtain ⟨⟨⟨⟨⟨⟨h1, h2⟩, h3⟩, h4⟩, h5⟩, h6⟩, h7⟩ := h
  refine ⟨⟨?_, He.eqO_ok h2, of_decide_eq_true h3, of_decide_eq_true h4, h5⟩, He.eqO_ok h6, of_decide_eq_true h7⟩
  split at h1
  · rename_i dd cd sl ho
    split at h1
    · rename_i C' bm k0 k1 k2 k3 n k5 hm hs
      simp only [Bool.and_eq_true, beq_iff_eq, Bool.not_eq_true'] at h1
      obtain ⟨⟨⟨⟨rfl, rfl⟩, hdel⟩, hdc⟩, hb⟩ := h1
      obtain ⟨nm, bs, mro, ns, qn, hd, sn, sub, ab, col, del⟩ := cd
      dsimp only at hm hdel hdc
      subst hm hdel hdc
      obtain ⟨l⟩ := sl
      dsimp only at hs
      subst hs
      exact ⟨nm, qn, ns, bs, bm, sn, sub, ab, col, dd, k0, k1, k2, k3, k5, ho, hb⟩
    · cases h1
  · cases h1
/-- a class right under R, itself right under ValueError -/
def mroB (K : PySem.W.Frag) (R C : Addr) : Bool := decide ((PySem.W.clsIn K C).map (·.mro) = some (.ref C :: .ref R :: He.veBase)) && decide (PySem.W.typeIn K (.ref C) = some (.type "type"))
def mroR (K : PySem.W.Frag) (R : Addr) : Bool := decide ((PySem.W.clsIn K R).map (·.mro) = some (.ref R :: He.veBase)) && decide (PySem.W.typeIn K (.ref R) = some (.type "type"))
theorem kit_at {K : PySem.W.Frag} {C D : Addr} {m md : List Value} (h : (PySem.W.clsIn K C).map (·.mro) = some (.ref C :: m)) (hd : (PySem.W.clsIn K D).map (·.mro) = some md) (ht : PySem.W.typeIn K (.ref D) = some (.type "type")) :
    PySem.W.kitOne K (.ref C) (.ref D) = some ((Value.ref C :: m).contains (.ref D)) := by
  unfold PySem.W.kitOne
  by_cases e : (Value.ref C == Value.ref D) = true
  · rw [if_pos e]
    have e2 := beq_iff_eq.mp e
    rw [← e2]
    simp
  · rw [if_neg e]
    obtain ⟨cd, hc, hm⟩ := Option.map_eq_some_iff.mp h
    obtain ⟨dd, hd1, _⟩ := Option.map_eq_some_iff.mp hd
    unfold PySem.W.kitCls
    dsimp only
    rw [hd1, ht]
    simp only [Option.isSome_some, beq_self_eq_true, Bool.and_self, if_true]
    show PySem.W.mroIn K C (.ref D) = _
    unfold PySem.W.mroIn
    rw [hc, Option.bind_some, hm]
    simp
theorem kit_ve {K : PySem.W.Frag} {C : Addr} {m : List Value} (h : (PySem.W.clsIn K C).map (·.mro) = some (.ref C :: m)) : PySem.W.kitOne K (.ref C) (.type "ValueError") = some ((Value.ref C :: m).contains (.type "ValueError")) := by
  obtain ⟨cd, hc, hm⟩ := Option.map_eq_some_iff.mp h
  have e : (Value.ref C == Value.type "ValueError") = false := by simp
  have k : PySem.W.kitMeta "ValueError" = true := by decide +kernel
  unfold PySem.W.kitOne PySem.W.kitCls
  rw [e]
  simp only [Bool.false_eq_true, if_false, k, if_true]
  show PySem.W.mroIn K C _ = _
  unfold PySem.W.mroIn
  rw [hc, Option.bind_some, hm]
  simp
end Ru

set_option Elab.async false
set_option linter.all false
set_option maxRecDepth 100000
set_option maxHeartbeats 2000000
namespace Ru
open PySem PySem.Spec PyProof.Rows L2
theorem weakenA {X : Cx} {es : List Expr} {t t' : TA} (h : PA X es t) (f : ∀ σ H Q, t' σ H Q → t σ H Q) : PA X es t' := ⟨fun pos pins s σ H Q I q => h.run pos pins s σ H Q I (f σ H Q q)⟩
theorem weakenS {X : Cx} {st : Stmt} {t t' : TS} (h : PS X st t) (f : ∀ D σ H, t' D σ H → t D σ H) : PS X st t' := ⟨fun pins s σ H D I q => h.run pins s σ H D I (f D σ H q)⟩
theorem upd_new {H : Hp} {a : Addr} {o : HO} (h : H a = none) : Same H (upd H a o) := fun b u z => by rw [upd_ne (ne_of_none z h)]; exact z

/-! ### what __init__ of an exception with one, two, three fields does -/
/-- self.f = v for each field, in order -/
def spIni (K : PySem.W.Frag) (C : Addr) (fs : List Str) : Sp := fun vs H Q _ => ∃ (a : Addr) (us : List V), vs = .ref a :: us ∧ us.length = fs.length ∧ OexC K C ∧ (∀ f ∈ fs, PySem.W.findIn K (.ref C) f = some none) ∧ H a = some (exo a C none) ∧
  ∀ H', (∀ b o, H b = some o → b ≠ a → H' b = some o) → ExAt H' a C (fs.zip us).reverse → Q .non H'
theorem exd_lst {d : Addr} {fs : List (Str × V)} {xs : List V} : exd d fs ≠ .lst xs := fun z => by cases (show HO.ext _ = HO.lst xs from z)
/-- one field -/
theorem ini1 {P : Program} {w : World} {K : PySem.W.Frag} {mg : Str → Option Value} {base : Heap} {f C : Addr} {fd : FuncData} {qual g : Str} {pa : Arguments} {sc : Scope} {q1 q2 q3 q4 : Pos}
    (F : FunD K "__init__" qual pa [.Assign [.Attribute (.Name "self" q1) g q2] (.Name g q3) q4] sc [] [] f fd) (S : FnScope ["self", g] ["self", g] sc) (v0 : Vis sc "self") (v1 : Vis sc g)
    (e1 : (g == ("__debug__" : Str)) = false := by decide) (e2 : (g == ("__classdict__" : Str)) = false := by decide) : FnOk P w K mg base CX0 1 f fd ["self", g] (spIni K C [g]) := by
  refine F.ok S (fun vs H Q E h => ?_) (fun cdv A outer s H vs Q E hr h => ?_)
  · obtain ⟨a, us, rfl, hl, _⟩ := h
    simp [hl]
  · obtain ⟨a, us, rfl, hl, T, hno, ha, k⟩ := h
    match us, hl with
    | [v], _ =>
      refine ⟨_, PSs.nox (pss_one (ps_ost (pe_var (i := 0) rfl v0) (pe_var (i := 1) rfl v1 e1 e2))), ?_⟩
      refine ⟨v, rfl, .ref a, rfl, a, C, rfl, T, hno g List.mem_cons_self, .inl ⟨ha, fun dx hn ne => ?_⟩⟩
      refine k _ (fun b o z hb => ?_) (.inr ⟨dx, upd_same, ?_⟩)
      · rw [upd_ne hb, upd_ne (ne_of_none z hn)]
        exact z
      · rw [upd_ne ne, upd_same]
        rfl
/-- two fields -/
theorem ini2 {P : Program} {w : World} {K : PySem.W.Frag} {mg : Str → Option Value} {base : Heap} {f C : Addr} {fd : FuncData} {qual g g' : Str} {pa : Arguments} {sc : Scope} {q1 q2 q3 q4 r1 r2 r3 r4 : Pos}
    (F : FunD K "__init__" qual pa [.Assign [.Attribute (.Name "self" q1) g q2] (.Name g q3) q4, .Assign [.Attribute (.Name "self" r1) g' r2] (.Name g' r3) r4] sc [] [] f fd) (S : FnScope ["self", g, g'] ["self", g, g'] sc)
    (v0 : Vis sc "self") (v1 : Vis sc g) (v2 : Vis sc g')
    (e1 : (g == ("__debug__" : Str)) = false := by decide) (e2 : (g == ("__classdict__" : Str)) = false := by decide) (e3 : (g' == ("__debug__" : Str)) = false := by decide) (e4 : (g' == ("__classdict__" : Str)) = false := by decide) :
    FnOk P w K mg base CX0 1 f fd ["self", g, g'] (spIni K C [g, g']) := by
  refine F.ok S (fun vs H Q E h => ?_) (fun cdv A outer s H vs Q E hr h => ?_)
  · obtain ⟨a, us, rfl, hl, _⟩ := h
    simp [hl]
  · obtain ⟨a, us, rfl, hl, T, hno, ha, k⟩ := h
    match us, hl with
    | [v, u], _ =>
      refine ⟨_, PSs.nox (pss_cons (ps_ost (pe_var (i := 0) rfl v0) (pe_var (i := 1) rfl v1 e1 e2)) (pss_one (ps_ost (pe_var (i := 0) rfl v0) (pe_var (i := 2) rfl v2 e3 e4)))), ?_⟩
      refine ⟨v, rfl, .ref a, rfl, a, C, rfl, T, hno g List.mem_cons_self, .inl ⟨ha, fun dx hn ne => ?_⟩⟩
      refine ⟨u, rfl, .ref a, rfl, a, C, rfl, T, hno g' (List.mem_cons_of_mem _ List.mem_cons_self), .inr ⟨dx, _, upd_same, by rw [upd_ne ne, upd_same], by show 1 ≤ 900; decide, ?_⟩⟩
      refine k _ (fun b o z hb => ?_) (.inr ⟨dx, ?_, upd_same⟩)
      · rw [upd_ne (ne_of_none z hn), upd_ne hb, upd_ne (ne_of_none z hn)]
        exact z
      · rw [upd_ne (Ne.symm ne), upd_same]
/-- three fields -/
theorem ini3 {P : Program} {w : World} {K : PySem.W.Frag} {mg : Str → Option Value} {base : Heap} {f C : Addr} {fd : FuncData} {qual g g' g'' : Str} {pa : Arguments} {sc : Scope} {q1 q2 q3 q4 r1 r2 r3 r4 t1 t2 t3 t4 : Pos}
    (F : FunD K "__init__" qual pa [.Assign [.Attribute (.Name "self" q1) g q2] (.Name g q3) q4, .Assign [.Attribute (.Name "self" r1) g' r2] (.Name g' r3) r4, .Assign [.Attribute (.Name "self" t1) g'' t2] (.Name g'' t3) t4] sc [] [] f fd)
    (S : FnScope ["self", g, g', g''] ["self", g, g', g''] sc) (v0 : Vis sc "self") (v1 : Vis sc g) (v2 : Vis sc g') (v3 : Vis sc g'')
    (e1 : (g == ("__debug__" : Str)) = false := by decide) (e2 : (g == ("__classdict__" : Str)) = false := by decide) (e3 : (g' == ("__debug__" : Str)) = false := by decide) (e4 : (g' == ("__classdict__" : Str)) = false := by decide)
    (e5 : (g'' == ("__debug__" : Str)) = false := by decide) (e6 : (g'' == ("__classdict__" : Str)) = false := by decide) : FnOk P w K mg base CX0 1 f fd ["self", g, g', g''] (spIni K C [g, g', g'']) := by
  refine F.ok S (fun vs H Q E h => ?_) (fun cdv A outer s H vs Q E hr h => ?_)
  · obtain ⟨a, us, rfl, hl, _⟩ := h
    simp [hl]
  · obtain ⟨a, us, rfl, hl, T, hno, ha, k⟩ := h
    match us, hl with
    | [v, u, t], _ =>
      refine ⟨_, PSs.nox (pss_cons (ps_ost (pe_var (i := 0) rfl v0) (pe_var (i := 1) rfl v1 e1 e2)) (pss_cons (ps_ost (pe_var (i := 0) rfl v0) (pe_var (i := 2) rfl v2 e3 e4)) (pss_one (ps_ost (pe_var (i := 0) rfl v0) (pe_var (i := 3) rfl v3 e5 e6))))), ?_⟩
      refine ⟨v, rfl, .ref a, rfl, a, C, rfl, T, hno g List.mem_cons_self, .inl ⟨ha, fun dx hn ne => ?_⟩⟩
      refine ⟨u, rfl, .ref a, rfl, a, C, rfl, T, hno g' (List.mem_cons_of_mem _ List.mem_cons_self), .inr ⟨dx, _, upd_same, by rw [upd_ne ne, upd_same], by show 1 ≤ 900; decide, ?_⟩⟩
      refine ⟨t, rfl, .ref a, rfl, a, C, rfl, T, hno g'' (List.mem_cons_of_mem _ (List.mem_cons_of_mem _ List.mem_cons_self)), .inr ⟨dx, _, by rw [upd_ne (Ne.symm ne), upd_same], upd_same, by show 2 ≤ 900; decide, ?_⟩⟩
      refine k _ (fun b o z hb => ?_) (.inr ⟨dx, ?_, upd_same⟩)
      · rw [upd_ne (ne_of_none z hn), upd_ne (ne_of_none z hn), upd_ne hb, upd_ne (ne_of_none z hn)]
        exact z
      · rw [upd_ne (Ne.symm ne), upd_ne (Ne.symm ne), upd_same]

/-! ### rows of exceptions -/
inductive AllEx (H : Hp) : List V → List (Addr × List (Str × V)) → Prop
  | nil : AllEx H [] []
  | cons {e C : Addr} {fs : List (Str × V)} {es : List V} {ts : List (Addr × List (Str × V))} : ExAt H e C fs → AllEx H es ts → AllEx H (.ref e :: es) ((C, fs) :: ts)
theorem AllEx.same {H H' : Hp} (s : Same H H') : ∀ {es : List V} {ts : List (Addr × List (Str × V))}, AllEx H es ts → AllEx H' es ts
  | _, _, .nil => .nil
  | _, _, .cons a b => .cons (a.same s) (AllEx.same s b)
theorem AllEx.length {H : Hp} : ∀ {es : List V} {ts : List (Addr × List (Str × V))}, AllEx H es ts → es.length = ts.length
  | _, _, .nil => rfl
  | _, _, .cons _ b => congrArg Nat.succ b.length
theorem AllEx.app {H : Hp} {es' : List V} {ts' : List (Addr × List (Str × V))} (b : AllEx H es' ts') : ∀ {es : List V} {ts : List (Addr × List (Str × V))}, AllEx H es ts → AllEx H (es ++ es') (ts ++ ts')
  | _, _, .nil => b
  | _, _, .cons a r => .cons a (AllEx.app b r)
theorem AllEx.at {H : Hp} : ∀ {es : List V} {ts : List (Addr × List (Str × V))} {i : Nat} {C : Addr} {fs : List (Str × V)}, AllEx H es ts → ts[i]? = some (C, fs) → ∃ e, es[i]? = some (.ref e) ∧ ExAt H e C fs
  | _, _, _, _, _, .nil, h => by simp at h
  | _, _, 0, _, _, .cons a _, h => by
    simp only [List.getElem?_cons_zero, Option.some.injEq, Prod.mk.injEq] at h
    obtain ⟨rfl, rfl⟩ := h
    exact ⟨_, rfl, a⟩
  | _, _, i + 1, C, fs, .cons _ b, h => by
    obtain ⟨e, h1, h2⟩ := AllEx.at (i := i) (C := C) (fs := fs) b (by simpa using h)
    exact ⟨e, by simpa using h1, h2⟩
/-- three names hold v1, v2, v3 -/
def C3 (v1 v2 v3 : V) (σ : L2.St) : Prop := σ[0]? = some (some v1) ∧ σ[1]? = some (some v2) ∧ σ[2]? = some (some v3)
def tV (v1 v2 v3 : V) (C : Addr) (fs : List (Str × V)) : TE := fun σ H Q => C3 v1 v2 v3 σ ∧ ∀ e H', Same H H' → ExAt H' e C fs → Q (.ref e) H'
def tVs (v1 v2 v3 : V) (ts : List (Addr × List (Str × V))) : TA := fun σ H Q => C3 v1 v2 v3 σ ∧ ∀ es H', Same H H' → AllEx H' es ts → Q es H'
section
variable {X : Cx} {v1 v2 v3 : V} {C : Addr} {fs : List (Str × V)} {ts : List (Addr × List (Str × V))} {e : Expr} {es : List Expr}
theorem pv_nil : PA X [] (tVs v1 v2 v3 []) := weakenA pa_nil fun σ H Q h => h.2 [] H (Same.refl H) .nil
theorem pv_cons (a : PE X e (tV v1 v2 v3 C fs)) (b : PA X es (tVs v1 v2 v3 ts)) (hs : starEach (e :: es) X.env = (false, eval e X.env) :: starEach es X.env := by rfl) : PA X (e :: es) (tVs v1 v2 v3 ((C, fs) :: ts)) :=
  weakenA (pa_cons a b hs) fun σ H Q h => ⟨h.1, fun x H1 s1 ex => ⟨h.1, fun xs H2 s2 all => h.2 _ H2 (s1.trans s2) (.cons (ex.same s2) all)⟩⟩
theorem v_bare {te : TE} (a : PE X e (tEx0 C te)) (h : ∀ σ H (Q : VK), (∀ v, Q v H) → te σ H Q) : PE X e (tV v1 v2 v3 C []) :=
  weaken a fun σ H Q q => h σ H _ fun v e H2 s1 _ ex => q.2 e H2 s1 ex
theorem v_own {ta : TA} {gs : List Str} {us : List V} (T : OexC X.K C) (hno : ∀ f ∈ gs, PySem.W.findIn X.K (.ref C) f = some none) (hl : us.length = gs.length) (h3 : us.length ≤ 1000) (a : PE X e (tExI C (spIni X.K C gs) ta)) (h : ∀ σ H (Q : List V → Hp → Prop), C3 v1 v2 v3 σ → Q us H → ta σ H Q) :
    PE X e (tV v1 v2 v3 C (gs.zip us).reverse) :=
  weaken a fun σ H Q q => h σ H _ q.1 ⟨h3, fun x hx => ⟨x, us, rfl, hl, T, hno, upd_same, fun H' k ex => ⟨rfl, q.2 x H' (fun b o z => k b o (by rw [upd_ne (ne_of_none z hx)]; exact z) (ne_of_none z hx)) ex⟩⟩⟩
end
end Ru

set_option Elab.async false
set_option linter.all false
set_option maxRecDepth 100000
set_option maxHeartbeats 4000000
namespace Ru
open PySem PySem.Spec PyProof.Rows L2
/-! ### an exception that is kept behind its try -/
/-- a caught exception: its class, its own dict -/
def ExC2 (a : Addr) (cls : Value) (d : Option Addr) : HO := .ext fun h => ∃ (oe : Obj) (vs : Array Value), h.get? a = some oe ∧ Zc cls d oe ∧ oe.data = .fields vs
theorem exC2_ok {P : Program} {w : World} {H : Hp} {h : Heap} {a : Addr} {cls : Value} {d : Option Addr} {oe : Obj} {vs : Array Value} (e : h.get? a = some oe) (z : Zc cls d oe) (hd : oe.data = .fields vs) : ObjOk P w H h a (ExC2 a cls d) :=
  ⟨⟨oe, vs, e, z, hd⟩, ⟨oe, e⟩, fun _ _ ⟨o, v, q, r⟩ k => ⟨o, v, k o q, r⟩⟩
section
variable {X : Cx} {pins : List (Addr × Obj)} {σ : L2.St} {H : Hp} {s : Shared} {a : Addr} {oe : Obj} {o : HO}
/-- what was pinned is tracked from now on -/
theorem promote (I : Inv X ((a, oe) :: pins) σ H s) (n0 : X.s_0.heap.get? a = none) (hp : ∀ p ∈ X.pn ++ pins, p.1 ≠ a) (ob : ObjOk X.prog X.w (upd H a o) s.heap a o) : Inv X pins σ (upd H a o) s := by
  obtain ⟨ha, na, nL, nF, nc⟩ := I.pin (a, oe) (List.mem_append_right _ List.mem_cons_self)
  have ne : ∀ {b : Addr} {u : HO}, H b = some u → b ≠ a := fun {b u} e => ne_of_none e na
  refine ⟨I.ok, I.os, I.bare, ⟨I.base.keep, I.base.slot, fun b u e n hx => ?_, I.base.there, fun b xs e => ?_, fun b u v e => ?_, fun b ps e => ?_⟩, I.loc, I.cell, ?_, fun x c e => ?_, fun p h => ?_, I.hok.laidN (fun _ _ z => z) na ob, I.len⟩
  · rw [upd_ne (fun z => by rw [z, n0] at e; cases e)]
    exact I.base.free b u e n hx
  · have q := I.base.tups b xs e
    rw [upd_ne (ne q)]
    exact q
  · have q := I.base.frzs b u v e
    rw [upd_ne (ne q)]
    exact q
  · obtain ⟨m, q⟩ := I.base.tbls b ps e
    exact ⟨m, by rw [upd_ne (ne q)]; exact q⟩
  · rw [upd_ne (Ne.symm nL)]
    exact I.free
  · obtain ⟨v, oc, hc, hd⟩ := I.cell x c e
    have nca : c ≠ a := fun z => by
      rw [z, ha] at hc
      cases hc
      exact nc v hd
    rw [upd_ne nca]
    exact I.freeC x c e
  · obtain ⟨q1, q2, q3, q4, q5⟩ := I.pin p (by
      rcases List.mem_append.mp h with h | h
      · exact List.mem_append_left _ h
      · exact List.mem_append_right _ (List.mem_cons_of_mem _ h))
    exact ⟨q1, by rw [upd_ne (hp p h)]; exact q2, q3, q4, q5⟩
/-- behind an except suite, its exception still pinned -/
theorem unsuiteP (I : Inv (X.suite a ((a, oe) :: (X.pn ++ pins))) [] σ H s) (ok : X.Ok) : Inv X ((a, oe) :: pins) σ H s :=
  ⟨ok, I.os, I.bare, I.base, I.loc, I.cell, I.free, I.freeC, fun p hp => I.pin p (by
    show p ∈ ((a, oe) :: (X.pn ++ pins)) ++ []
    rw [List.append_nil]
    rcases List.mem_append.mp hp with h | h
    · exact List.mem_cons_of_mem _ (List.mem_append_left _ h)
    · rcases List.mem_cons.mp h with h | h
      · rw [h]
        exact List.mem_cons_self
      · exact List.mem_cons_of_mem _ (List.mem_append_right _ h)), I.hok, I.len⟩
end
/-- what the clause wishes: behind its suite the name (slot i) is gone, the exception is an object like others -/
def wKeep (K : PySem.W.Frag) (c : Value) (i : Nat) (ts : Addr → Value → Option Addr → TS) (Wout : WX) (D : Ends) : WX := fun cls d σ H =>
  ∃ b, PySem.W.exmOne K cls c = some b ∧ (b = true → ∀ a, H a = none → ts a cls d
      { nx := fun σ' H' => D.nx (σ'.set i none) (upd H' a (ExC2 a cls d)), rt := fun v H' => D.rt v (upd H' a (ExC2 a cls d)), bk := fun σ' H' => D.bk (σ'.set i none) (upd H' a (ExC2 a cls d)), ct := fun σ' H' => D.ct (σ'.set i none) (upd H' a (ExC2 a cls d)) }
      (σ.set i (some (.ref a))) H) ∧ (b = false → Wout cls d σ H)
section
variable {X : Cx} {x n : Str} {c : Value} {i : Nat} {body suite : List Stmt} {b₀ : Stmt} {np pos pos' : Pos} {tb : WX → TS} {ts : Addr → Value → Option Addr → TS} {Wout : WX}
theorem ps_try_keep (hs : X.stack = X.env :: X.outer) (hf : X.env.frame = some X.env.locals) (hex : X.ex = []) (hN : X.N.Nodup) (hi : X.N[i]? = some n) (hln : X.env.kindOf n = some .local) (hc : Names X x c) (tk : Takes X Wout)
    (hb : ∀ (W : WX) (pn : List (Addr × Obj)) (xe : Value → Shared → Prop), Takes (X.tr pn xe) W → PassesOwn (model X.prog X.w) X.A X.env xe → PSs (X.tr pn xe) body (tb W))
    (hsu : ∀ (a : Addr) (oe : Obj) (cls : Value) (d : Option Addr) (pn : List (Addr × Obj)), Zc cls d oe → (∃ vs, oe.data = .fields vs) → PSs (X.suite a ((a, oe) :: pn)) (b₀ :: suite) (ts a cls d)) :
    PS X (.Try body [.ExceptHandler (some (.Name x np)) (some n) (b₀ :: suite) pos'] [] [] pos) (fun D σ H => tb (wKeep X.K c i ts Wout D) D σ H) := by
  constructor
  intro pins s σ H D I h
  have ok := I.ok
  have hfr : X.A.frames = some (X.env :: X.outer) := ok.frames.trans (by rw [hs])
  refine wpAny_Try_except ?_
  have bodyRun := hb (wKeep X.K c i ts Wout D) (X.pn ++ pins)
    (fun e s₁ => wpAny (model X.prog X.w) X.A (noteFrame e X.env) (fun _ s₂ => wpAny (model X.prog X.w) X.A (setFlight e none)
      (fun _ s₃ => wpAny (model X.prog X.w) X.A (handleBy e X.env [.ExceptHandler (some (.Name x np)) (some n) (b₀ :: suite) pos']) (SP X pins D) X.xe s₃) X.xe s₂) X.xe s₁)
  refine wpAny_mono ((bodyRun ?cau PassesOwn.looking).run [] s σ H D (I.toTry _) h) ?fine (fun e s1 z => z)
  case fine =>
    intro f s1 z
    match f, z with
    | .next, ⟨σ', H', J, q⟩ => exact wpAny_execs_nil ⟨σ', H', J.ofTry ok, q⟩
    | .brk, ⟨σ', H', J, q⟩ => exact ⟨σ', H', J.ofTry ok, q⟩
    | .cont, ⟨σ', H', J, q⟩ => exact ⟨σ', H', J.ofTry ok, q⟩
    | .ret u, ⟨v, σ', H', J, r, q⟩ => exact ⟨v, σ', H', J.ofTry ok, r, q⟩
  case cau =>
    rintro u s' ⟨a, B, sI, pins', σ', H', cls, d, rfl, J', nb, up, sky, na, os, ag, b, hb1, hyes, hno⟩
    have J : Inv X pins σ' H' sI := J'.ofTry ok
    have sky2 : Sky B (X.env :: X.outer) a (Zc cls d) X.env.locals s'.heap := hs ▸ sky
    have nB : B.get? a = none := by
      rcases sky2 with ⟨_, z, _⟩ | ⟨_, z, _⟩ | ⟨_, z, _⟩
      · exact z
      · exact z
      · exact z
    show wpAny _ X.A (noteFrame (.ref a) X.env) _ _ _
    refine Sky.land Zc.steady hfr hf sky2 ?_
    intro h3 fl3 up3
    have J3 : Inv X pins σ' H' { s' with heap := h3 } := J.landed nb fl3.1 (up.trans up3) os ag
    obtain ⟨oe3, vs3, he3, hz3, hd3⟩ := fl3.there
    have nfr : a ∉ frs (X.env :: X.outer) := by
      intro hm
      obtain ⟨_, o', e', hnf⟩ := fl3.2.2.1.mem hm
      rw [he3] at e'
      cases e'
      exact hnf _ hd3
    have nL : a ≠ X.env.locals := by
      intro z
      exact nfr (List.mem_filterMap.mpr ⟨X.env, List.mem_cons_self, hf.trans (by rw [z])⟩)
    have nF : a ∉ X.fs := by
      intro hm
      obtain ⟨e, he, q⟩ := List.mem_filterMap.mp hm
      exact nfr (List.mem_filterMap.mpr ⟨e, List.mem_cons_of_mem _ he, q⟩)
    have nI : sI.heap.get? a = none := by
      cases q : sI.heap.get? a with
      | none => rfl
      | some u =>
        have z := nb a u q (by
          show a ∉ frs X.stack
          rw [hs]
          exact nfr)
        rw [nB] at z
        cases z
    have n0 : X.s_0.heap.get? a = none := by
      cases q : X.s_0.heap.get? a with
      | none => rfl
      | some u =>
        obtain ⟨o', z⟩ := J.base.there a u q (by rw [hex]; exact List.not_mem_nil)
        rw [nI] at z
        cases z
    have nps : ∀ p ∈ X.pn ++ pins, p.1 ≠ a := by
      intro p hp z
      have q := (J.pin p hp).1
      rw [z, nI] at q
      cases q
    have S3 := J3.suite he3 hd3 na nL nF
    refine wpAny_handleBy_cons (codeAny_handlers_test ?_) (by intro q; cases q)
    have LT : PySem.W.Looks (model X.prog X.w) h3 (typeOf (.ref a)) cls := fun A Q E s k q => wpAny_typeOf_ref (k _ _ he3) (by rw [hz3.1]; exact q)
    have LM := PySem.W.exm_one (M := model X.prog X.w) (J3.kIn) LT hb1
    have test : ∀ {Q : Value → Shared → Prop} {E : Value → Shared → Prop}, Q c { s' with heap := h3 } → wpAny (model X.prog X.w) (X.A.mark (some (.ref a))) (eval (.Name x np) X.env) Q E { s' with heap := h3 } := by
      intro Q E q
      obtain ⟨hg, hdbg, hm⟩ := hc
      rcases hm with hm | ⟨hm, hv, hnn⟩
      · exact ld_glob (X := X.suite a ((a, oe3) :: (X.pn ++ pins))) S3 hg hm q hdbg
      · exact ld_blt (X := X.suite a ((a, oe3) :: (X.pn ++ pins))) S3 hg hm hv q hnn hdbg
    refine test (LM.here ?_)
    cases b with
    | false =>
      show wpAny _ X.A (handleBy (.ref a) X.env []) _ _ _
      refine wpAny_handleBy_nil ?_
      obtain ⟨k1, k2, k3, oe, vs, T, oT, ts', he, hz, hd, h1, hr⟩ := id fl3
      have go : wpAny (model X.prog X.w) X.A (setFlight (.ref a) X.env.frame) (fun _ s4 => wpAny (model X.prog X.w) X.A (throw (.ref a) : Sem Flow) (SP X pins D) X.xe s4) X.xe { s' with heap := h3 } := by
        rw [hf]
        refine HandSPX.setFlight_upZ fl3 ?_
        intro h4 hh4 up4
        exact wpAny_throw (tk _ _ ⟨a, B, sI, pins, σ', H', cls, d, rfl, J, nb, (up.trans up3).trans up4, .inr (.inr (hs.symm ▸ hh4)), na, os, ag, hno rfl⟩)
      unfold PySem.passOn
      refine wpAny_bind (wpAny_field he hd h1 ?_)
      have nT : ¬ ((Value.ref T == Value.none) = true) := by simp
      rw [if_neg nT]
      first
        | exact wpAny_bind go
        | exact wpAny_bind (wpAny_pure (wpAny_bind go))
    | true =>
      refine codeAny_handlers_suite_as ?_
      refine HandSPX.lands_againZ fl3 ?_
      intro h4 fl4 up4
      have J4 : Inv X pins σ' H' { s' with heap := h4 } := J.landed nb fl4.1 ((up.trans up3).trans up4) os ag
      obtain ⟨oe4, vs4, he4, hz4, hd4⟩ := fl4.there
      refine store_ok (X := X.suite a ((a, oe4) :: (X.pn ++ pins))) (v := .ref a) (J4.suite he4 hd4 na nL nF) hN hi (.inl hln) rfl ?_ (.inr hln)
      intro s5 S5
      refine wpAny_mono ((hsu a oe4 cls d (X.pn ++ pins) hz4 ⟨_, hd4⟩).run [] s5 _ H' _ S5 (hyes rfl a na)) ?_ (fun _ _ z => z.elim)
      intro f s6 z
      have leave : ∀ {σ6 : L2.St} {H6 : Hp} {Q : Shared → Prop}, Inv (X.suite a ((a, oe4) :: (X.pn ++ pins))) [] σ6 H6 s6 → (∀ s7, Inv X pins (σ6.set i none) (upd H6 a (ExC2 a cls d)) s7 → Q s7) →
          wpAny (model X.prog X.w) X.A (do bindName X.env n .none; unbindBehindTheSuite X.env n pos') (fun _ s7 => Q s7) X.xe s6 := by
        intro σ6 H6 Q S6 hq
        refine gone_ok (unsuiteP S6 ok) hN hi hln ?_
        intro s7 J7
        refine hq s7 (promote J7 n0 nps ?_)
        obtain ⟨e7, _⟩ := J7.pin (a, oe4) (List.mem_append_right _ List.mem_cons_self)
        exact exC2_ok e7 hz4 hd4
      match f, z with
      | .next, ⟨σ6, H6, S6, q6⟩ => exact leave S6 fun s7 J7 => ⟨_, _, J7, q6⟩
      | .brk, ⟨σ6, H6, S6, q6⟩ => exact leave S6 fun s7 J7 => ⟨_, _, J7, q6⟩
      | .cont, ⟨σ6, H6, S6, q6⟩ => exact leave S6 fun s7 J7 => ⟨_, _, J7, q6⟩
      | .ret u, ⟨v6, σ6, H6, S6, r6, q6⟩ => exact leave S6 fun s7 J7 => ⟨_, _, _, J7, r6, q6⟩
end
end Ru

set_option Elab.async false
set_option linter.all false
set_option maxRecDepth 100000
set_option maxHeartbeats 2000000
namespace Ru
open PySem PySem.Spec PyProof.Rows L2
theorem ifC {c A B : Prop} [Decidable c] (h1 : c → A) (h2 : ¬ c → B) : if decide c = true then A else B := by
  by_cases h : c
  · rw [if_pos (decide_eq_true h)]
    exact h1 h
  · rw [if_neg (by rw [decide_eq_false h]; exact Bool.false_ne_true)]
    exact h2 h
/-- the state of the draws as a list: the script's numbers, the next one's place, what is left of a great one -/
structure PenL (H : Hp) (d l : Addr) (cells : List Int) (a r : Int) : Prop where
  dk : H d = some (.lst [.ref l, .int a, .int r])
  cl : H l = some (.lst (cells.map V.int))
  len : cells.length ≤ 63
  a0 : 0 ≤ a
  r0 : 0 ≤ r
section
variable {H H' : Hp} {d l : Addr} {cells : List Int} {a r z : Int}
theorem PenL.ne (P : PenL H d l cells a r) : l ≠ d := fun e => by
  have h1 := P.dk
  rw [← e, P.cl] at h1
  have h2 : cells.map V.int = [.ref l, .int a, .int r] := by injection (Option.some.inj h1)
  cases cells with
  | nil => cases h2
  | cons x xs => cases h2
theorem PenL.same (s : Same H H') (P : PenL H d l cells a r) : PenL H' d l cells a r := ⟨s _ _ P.dk, s _ _ P.cl, P.len, P.a0, P.r0⟩
theorem PenL.but (P : PenL H d l cells a r) {a' r' : Int} (h1 : 0 ≤ a') (h2 : 0 ≤ r') : PenL (upd H d (.lst [.ref l, .int a', .int r'])) d l cells a' r' :=
  ⟨upd_same, by rw [upd_ne P.ne]; exact P.cl, P.len, h1, h2⟩
end
/-- all but what stands at d stays -/
def Bt (d : Addr) (H H' : Hp) : Prop := ∀ b o, H b = some o → b ≠ d → H' b = some o
theorem Bt.refl {d : Addr} {H : Hp} : Bt d H H := fun _ _ e _ => e
theorem Bt.trans {d : Addr} {H H1 H2 : Hp} (x : Bt d H H1) (y : Bt d H1 H2) : Bt d H H2 := fun b o e n => y b o (x b o e n) n
theorem Bt.of {d : Addr} {H H' : Hp} (s : Same H H') : Bt d H H' := fun b o e _ => s b o e
theorem Bt.put {d : Addr} {H : Hp} {u : HO} : Bt d H (upd H d u) := fun b o e n => by rw [upd_ne n]; exact e
/-- a number from 0 to m - 1 is drawn; nothing but the pen's list changes -/
def spTakeL : Sp := fun vs H Q _ => ∃ (d l : Addr) (cells : List Int) (a r m : Int), vs = [.ref d, .int m] ∧ PenL H d l cells a r ∧ a ≤ 100000 ∧ 0 < m ∧ m < 1073741824 ∧
  ∀ (z a' r' : Int) (H' : Hp), 0 ≤ z → z < m → a' ≤ a + 1 → Bt d H H' → PenL H' d l cells a' r' → Q (.int z) H'
/-- a pen over the script -/
def spPenL (K : PySem.W.Frag) : Sp := fun vs H Q _ => ∃ (a : Addr) (ns : List Int), vs = [.ref a] ∧ SqL K H a (ns.map V.int) ∧ ns.length ≤ 63 ∧ ∀ (d l : Addr) (H' : Hp), Same H H' → PenL H' d l ns 0 0 → Q (.ref d) H'
theorem sq_leL {c : Int} {a : Int} (h0 : 0 ≤ a) (h1 : a ≤ 100000) (hc : c = 61051) : 0 ≤ c * a * a ∧ c * a * a ≤ 610510000000000 := by
  subst hc
  have h2 : 0 ≤ a * a := Int.mul_nonneg h0 h0
  have h3 : a * a ≤ 100000 * 100000 := Int.mul_le_mul h1 h1 h0 (by omega)
  have e : 61051 * a * a = 61051 * (a * a) := Int.mul_assoc _ _ _
  omega
/-- a product within two bounds -/
theorem mul_leL {x a : Int} {k : Int} (h0 : 0 ≤ x) (h1 : x < 2147483587) (h2 : 0 ≤ a) (h3 : a ≤ 100000) (k0 : 0 ≤ k) (k1 : k ≤ 1000) : 0 ≤ x * (2 * a + k) ∧ x * (2 * a + k) ≤ 2147483587 * 201000 := by
  refine ⟨Int.mul_nonneg h0 (by omega), Int.mul_le_mul (by omega) (by omega) (by omega) (by omega)⟩
theorem cutL63 {xs : List V} (h : xs.length ≤ 63) : cutV xs none (some 63) = xs := by
  show (xs.drop 0).take (min 63 xs.length - 0) = xs
  rw [Nat.min_eq_right h]
  simp
/-- an item of the numbers -/
theorem cellAt {cells : List Int} {k : Int} (h0 : 0 ≤ k) (h1 : k < cells.length) : ∃ c : Int, atI (cells.map V.int) k = some (.int c) := by
  obtain ⟨n, hn⟩ := Int.eq_ofNat_of_zero_le h0
  have hlt : n < cells.length := by omega
  exact ⟨cells[n], at_of hn (by rw [List.getElem?_map, List.getElem?_eq_getElem hlt]; rfl)⟩
def intsD (cells : List Int) : List PyData := cells.map PyData.int
theorem dp_ints {K : PySem.W.Frag} {H : Hp} : ∀ {cells : List Int}, DpAll K H (cells.map V.int) (intsD cells)
  | [] => .nil
  | _ :: _ => .cons (.int _) dp_ints
theorem lay_ints : ∀ {cells : List Int}, PyData.canLayAll0 (intsD cells) = true
  | [] => by simp [intsD, PyData.canLayAll0]
  | z :: zs => by
    have h := lay_ints (cells := zs)
    simp only [intsD, List.map_cons, PyData.canLayAll0, PyData.canLay0, Bool.true_and] at h ⊢
    exact h
theorem deep_ints : ∀ {cells : List Int}, PyData.depthAll (intsD cells) ≤ 1
  | [] => by simp [intsD, PyData.depthAll]
  | z :: zs => by
    have h := deep_ints (cells := zs)
    simp only [intsD, List.map_cons, PyData.depthAll, PyData.depth] at h ⊢
    omega
theorem shaped_ints {cells : List Int} : SeqAt.shaped (.list (intsD cells)) = true := by
  have h1 := deep_ints (cells := cells)
  unfold SeqAt.shaped
  rw [Bool.and_eq_true]
  refine ⟨by rw [PyData.canLay0]; exact lay_ints, decide_eq_true ?_⟩
  rw [PyData.depth]
  omega
theorem shaped_nil : SeqAt.shaped (.list []) = true := shaped_ints (cells := [])
theorem eqv_nil {cells : List Int} : (!PyData.eqv (.list (intsD cells)) (.list [])) = !cells.isEmpty := by
  cases cells with
  | nil => simp [intsD, PyData.eqv, PyData.eqvAll]
  | cons z zs => simp [intsD, PyData.eqv, PyData.eqvAll]
end Ru

set_option Elab.async false
set_option linter.all false
set_option maxRecDepth 100000
set_option maxHeartbeats 2000000
namespace Ru
open PySem PySem.Spec PyProof.Rows L2
/-! ### a Hook over the globals' reach and sys.modules, without the code objects' empty tables, with one more look -/
/-- sys.modules stands in the written part as a dict -/
def smB (K : PySem.W.Frag) : Bool := match K.lookup sysModules with
  | some ⟨_, _, .dict _ _, _⟩ => true
  | _ => false
def SmK (K : PySem.W.Frag) : Prop := ∃ (o : Obj) (es : Array DictEntry) (n : Nat), K.lookup sysModules = some o ∧ o.data = .dict es n
theorem smB_ok {K : PySem.W.Frag} (h : smB K = true) : SmK K := by
  unfold smB at h
  split at h
  · rename_i a b es n sl e
    exact ⟨_, es, n, e, rfl⟩
  · cases h
structure SaysY (fa : List He.Fa) (fn : List He.DefD) (tf : List He.Defn) (ex : PySem.W.Frag → Bool) (h : Heap) (K : PySem.W.Frag) : Prop where
  d : He.SaysD fa fn K
  sm : smB K = true
  more : ex K = true
  hd : ∀ p ∈ tf, PySem.W.codeHdIn K (He.cT K p).1 (He.cT K p).2 = true
  out : ∀ p ∈ tf, K.lookup (He.cT K p).2 = none
  empty : ∀ p ∈ tf, h.get? (He.cT K p).2 = some { cls := .none, data := .fields #[] }
def kY (g : Addr → Option Obj) (n : Nat) : PySem.W.Frag := He.frT g (cStatics :: sysModules :: He.asD g n)
def obsY (n : Nat) (fa : List He.Fa) (fn : List He.DefD) (tf : List He.Defn) (ex : PySem.W.Frag → Bool) (g : Addr → Option Obj) : AlX := (He.obsD fa fn (kY g n), smB (kY g n) && (ex (kY g n) && He.tabsB g tf (kY g n)))
theorem saysY_of {n : Nat} {fa : List He.Fa} {fn : List He.DefD} {tf : List He.Defn} {ex : PySem.W.Frag → Bool} {h : Heap} (e : obsY n fa fn tf ex h.get? = (He.valD fn, true)) : SaysY fa fn tf ex h (kY h.get? n) := by
  have e1 : He.obsD fa fn (kY h.get? n) = He.valD fn := congrArg Prod.fst e
  have e2 : (smB (kY h.get? n) && (ex (kY h.get? n) && He.tabsB h.get? tf (kY h.get? n))) = true := congrArg Prod.snd e
  rw [Bool.and_eq_true, Bool.and_eq_true] at e2
  obtain ⟨h0, h1, h2⟩ := e2
  have key : ∀ p ∈ tf, PySem.W.codeHdIn (kY h.get? n) (He.cT (kY h.get? n) p).1 (He.cT (kY h.get? n) p).2 = true ∧ ∃ o, h.get? (He.cT (kY h.get? n) p).2 = some o ∧ He.emptyTab o = true := fun p hp => by
    have z := List.all_eq_true.mp h2 p hp
    rw [Bool.and_eq_true] at z
    refine ⟨z.1, ?_⟩
    have z2 := z.2
    cases q : h.get? (He.cT (kY h.get? n) p).2 with
    | none =>
      rw [q] at z2
      cases z2
    | some o =>
      rw [q] at z2
      exact ⟨o, rfl, z2⟩
  exact ⟨e1, h0, h1, fun p hp => (key p hp).1, fun p hp => by
    obtain ⟨_, o, q, z⟩ := key p hp
    exact He.frT_none q z, fun p hp => by
    obtain ⟨_, o, q, z⟩ := key p hp
    rw [q, He.emptyTab_eq z]⟩
def hookY (n : Nat) (fa : List He.Fa) (fn : List He.DefD) (tf : List He.Defn) (ex : PySem.W.Frag → Bool) : PySem.W.Hook where
  α := AlX
  obs := fun s => obsY n fa fn tf ex s.heap.get?
  val := fun _ => (He.valD fn, true)
  says := fun _ h => ∃ K : PySem.W.Frag, K.In h ∧ SaysY fa fn tf ex h K
  of := fun _ _ e => ⟨_, He.frT_in, saysY_of e⟩
  keeps := fun _ _ _ ⟨K, a, c⟩ k => ⟨K, PySem.W.Frag.In.keeps a k, ⟨c.d, c.sm, c.more, c.hd, c.out, fun p hp => k _ _ (c.empty p hp)⟩⟩
theorem obsY_eq {n : Nat} {fa : List He.Fa} {fn : List He.DefD} {tf : List He.Defn} {ex : PySem.W.Frag → Bool} {g : Addr → Option Obj} {s : Shared} (h : ∀ a, g a = s.heap.get? a) : obsY n fa fn tf ex g = (hookY n fa fn tf ex).obs s := by
  have e : g = s.heap.get? := funext h
  rw [e] <;> rfl
/-! ### the law's entry with tables, at the caller that has no guards -/
section
variable {P : Program} {w : World} {K : PySem.W.Frag} {mg mb : Str → Option Value} {k : Nat} {fa a : Addr} {fd : FuncData} {x : Str} {sp : Sp} {s : Shared} {vs : List Value} {ns : List Int} {cs : List (Addr × Addr)}
/-- where the tables and, if it is not written, the script are tracked -/
def trk (cs : List (Addr × Addr)) (scr : Option (Addr × HO)) : Hp := fun b => match scr with
  | some (a, u) => if b = a then some u else if b ∈ cs.map (·.2) then some (.tbl #[]) else none
  | none => if b ∈ cs.map (·.2) then some (.tbl #[]) else none
/-- what the start heap must grant -/
structure Head (K : PySem.W.Frag) (mg mb : Str → Option Value) (cs : List (Addr × Addr)) (h : Heap) : Prop where
  kin : K.In h
  ns : h.Ns mainGlobals mg
  b : h.Ns builtinsNs mb
  bb : ∀ x : Str, x ≠ "__name__" → mb x = bootBuiltins x
  lim : h.NoLimit
  hT : ∀ p ∈ cs, h.get? p.2 = some { cls := .none, data := .fields #[] }
  nT : ∀ p ∈ cs, K.lookup p.2 = none
  C : ∀ p ∈ cs, PySem.W.CodeHd h p.1 p.2
  bm : ∃ (bm : Addr) (ob : Obj), mg "__builtins__" = some (.ref bm) ∧ bm ≠ builtinsNs ∧ h.get? bm = some ob ∧ ob.cls = .type "module" ∧ ob.dict = some builtinsNs ∧ ob.data = .plain
/-- a tracked thing of the start: the script or an empty table -/
def StartH (cs : List (Addr × Addr)) (a : Addr) (scr : Obj) (xs : List V) (H : Hp) : Prop := ∀ b u, H b = some u → (b = a ∧ u = .frz scr (.lst xs)) ∨ (b ∈ cs.map (·.2) ∧ u = .tbl #[])
theorem entryT (Z : Head K mg mb cs s.heap) (hg : s.gens = #[]) (ha : s.heap.get? a = some { cls := .type "list", data := .seq vs.toArray }) (hi : IntsAre vs ns) (hl : ns.length ≤ sizeLine) (hr : Room k callerA)
    (F : ∀ base : Heap, K.In base → base.Ns mainGlobals mg → (∀ p ∈ cs, LamX.TabB base mg p.1 p.2) → FnG P w K mg base CX0 k fa fd [x] sp) (bd : ∀ (s : Shared) (u : Value), BindsTo s fd ⟨[u], []⟩ [(x, u)])
    (hsp : ∀ H : Hp, (∀ p ∈ cs, H p.2 = some (.tbl #[])) → SqL K H a (ns.map V.int) → sp [.ref a] H (fun v _ => v = .bl true) E0) :
    codeAny (model P w) callerA (.call (.ref fa) ⟨[.ref a], []⟩) (fun r s' => r = .ok (.ret (.bool true)) ∧ OldK s.heap s'.heap ∧ s'.os = s.os ∧ AllBare s'.gens) s := by
  have rv := vals_ints hi
  have tab : ∀ b : Addr, b ∈ cs.map (·.2) → s.heap.get? b = some { cls := .none, data := .fields #[] } := fun b hb => by
    obtain ⟨p, hp, e⟩ := List.mem_map.mp hb
    rw [← e]
    exact Z.hT p hp
  have tabK : ∀ b : Addr, b ∈ cs.map (·.2) → K.lookup b = none := fun b hb => by
    obtain ⟨p, hp, e⟩ := List.mem_map.mp hb
    rw [← e]
    exact Z.nT p hp
  have aT : a ∉ cs.map (·.2) := fun z => by
    have q := (tab a z).symm.trans ha
    cases q
  have main : ∀ H : Hp, (∀ p ∈ cs, H p.2 = some (.tbl #[])) → SqL K H a (ns.map V.int) → StartH cs a { cls := .type "list", data := .seq vs.toArray } (ns.map V.int) H → (H a ≠ none → K.lookup a = none) →
      codeAny (model P w) callerA (.call (.ref fa) ⟨[.ref a], []⟩) (fun r s' => r = .ok (.ret (.bool true)) ∧ OldK s.heap s'.heap ∧ s'.os = s.os ∧ AllBare s'.gens) s := by
    intro H hH hS st hK
    have hok : HOk P w H s.heap := fun b u e => by
      rcases st b u e with ⟨e1, e2⟩ | ⟨e1, e2⟩
      · subst e1 e2
        exact ⟨ha, by rw [List.length_map]; exact hl, vs, _, rv, ha⟩
      · subst e2
        exact tab b e1
    -- what is neither a plain list nor an empty table of the start is not tracked
    have off : ∀ {b : Addr} {o : Obj}, s.heap.get? b = some o → (∀ us n, o.data ≠ .seq us n) → o.data ≠ .fields #[] → H b = none := fun {b o} e n1 n2 => by
      cases q : H b with
      | none => rfl
      | some u =>
        rcases st b u q with ⟨e1, _⟩ | ⟨e1, _⟩
        · subst e1
          rw [ha] at e
          cases e
          exact (n1 _ _ rfl).elim
        · rw [tab b e1] at e
          cases e
          exact (n2 rfl).elim
    have kept : ∀ {b : Addr} {o : Obj}, s.heap.get? b = some o → (∀ us n, o.data ≠ .seq us n) → o.data ≠ .fields #[] → (hidT s.heap H).get? b = some o := fun e n1 n2 => hidT_get e (off e n1 n2)
    have nod : ∀ {b : Addr} {m : Str → Option Value}, s.heap.Ns b m → (hidT s.heap H).Ns b m := by
      rintro b m ⟨o, es, ep, e, d, r⟩
      refine ⟨o, es, ep, kept e (fun us n z => ?_) (fun z => ?_), d, r⟩
      · rw [d] at z
        cases z
      · rw [d] at z
        cases z
    have kin : K.In (hidT s.heap H) := by
      intro b o e
      refine hidT_get (Z.kin b o e) ?_
      cases q : H b with
      | none => rfl
      | some u =>
        rcases st b u q with ⟨e1, _⟩ | ⟨e1, _⟩
        · subst e1
          rw [hK (by rw [q]; exact Option.some_ne_none _)] at e
          cases e
        · rw [tabK b e1] at e
          cases e
    have md : Mod K mg (hidT s.heap H) := ⟨kin, nod Z.ns, ⟨mb, nod Z.b, Z.bb⟩, Z.lim.imp fun mc z => ⟨nod z.1, z.2⟩⟩
    have tb : ∀ p ∈ cs, LamX.TabB (hidT s.heap H) mg p.1 p.2 := fun p hp => by
      refine ⟨?_, ?_, fun z => ?_⟩
      · obtain ⟨o, us, file, tf, flags, tg, inF, text, tt, e1, r1, r2, r3, r⟩ := Z.C p hp
        refine ⟨o, us, file, tf, flags, tg, inF, text, tt, kept e1 (fun vs n z => ?_) (fun z => ?_), r1, r2, r3, r⟩
        · rw [r2] at z
          cases z
        · rw [r2] at z
          cases z
          simp at r3
      · obtain ⟨bm, ob, b1, b2, b3, b4, b5, b6⟩ := Z.bm
        have e2 := kept b3 (fun us n z => by rw [b6] at z; cases z) (fun z => by rw [b6] at z; cases z)
        refine ⟨bm, ob, b1, b2, fun q => ?_, fun q => ?_, e2, b4, b5, b6⟩
        · obtain ⟨o, es, ep, e, hd, _⟩ := Z.ns
          rw [q, e] at b3
          cases b3
          rw [hd] at b6
          cases b6
        · rw [q, Z.hT p hp] at b3
          cases b3
          cases b6
      · obtain ⟨o, es, ep, e, hd, _⟩ := Z.ns
        rw [z, Z.hT p hp] at e
        cases e
        cases hd
    have e0 : Env0 P w K mg (hidT s.heap H) callerA [] s H :=
      { frames := rfl, mod := md, bs := fun b o e => of_hidT e, bsz := Nat.le_of_eq (hidT_size _ _), funs := trivial, frf := fun b z => (List.not_mem_nil z).elim, hok := hok, bare := .of_eq hg }
    refine codeAny_mono ((F _ kin (nod Z.ns) tb).run callerA [] s H ⟨[.ref a], []⟩ [.ref a] [.ref a] _ _ rfl hr e0 (bd s (.ref a)) (.cons rfl .nil) (hsp H hH hS)) ?_
    intro r s' z
    match r, z with
    | .ok (.ret u), ⟨v, H', os, bare, un, hok', r', q⟩ =>
      subst q
      obtain rfl : u = Value.bool true := r'
      have row : ∀ b ∈ cs.map (·.2), ∃ more : Array Value, s'.heap.get? b = some { cls := .none, data := .fields more } := fun b hb => by
        obtain ⟨p, hp, e⟩ := List.mem_map.mp hb
        obtain ⟨more, z⟩ := un.tbls p.2 #[] (hH p hp)
        rw [← e]
        exact ⟨_, hok' p.2 _ z⟩
      have rest : ∀ b o, b ∉ cs.map (·.2) → s.heap.get? b = some o → s'.heap.get? b = some o := fun b o nb e => by
        cases hb : H b with
        | none => exact un.keep b o e hb (fun z => (List.not_mem_nil z).elim) (fun z => (List.not_mem_nil z).elim)
        | some u =>
          rcases st b u hb with ⟨_, e2⟩ | ⟨e1, _⟩
          · subst e2
            have e1 := (hok b _ hb).1
            have e2 := (hok' b _ (un.frzs b _ _ hb)).1
            rw [e] at e1
            cases e1
            exact e2
          · exact (nb e1).elim
      refine ⟨rfl, ⟨fun b o e => ?_, fun b o e => ?_⟩, os, bare⟩
      · by_cases hb : b ∈ cs.map (·.2)
        · obtain ⟨more, z⟩ := row b hb
          obtain ⟨p, hp, ep⟩ := List.mem_map.mp hb
          rw [tab b hb] at e
          cases e
          refine .inr (.inl ⟨?_, rfl, #[], more, rfl, by rw [Array.empty_append]; exact z⟩)
          rw [← ep]
          exact ((Z.C p hp).tab (Z.hT p hp)).isCodeTable
        · exact .inl (rest b o hb e)
      · by_cases hb : b ∈ cs.map (·.2)
        · obtain ⟨more, z⟩ := row b hb
          exact ⟨_, z⟩
        · exact ⟨o, rest b o hb e⟩
  have tin : ∀ (scr : Option (Addr × HO)) (b : Addr), b ∈ cs.map (·.2) → (∀ u, scr ≠ some (b, u)) → trk cs scr b = some (.tbl #[]) := fun scr b hb hn => by
    unfold trk
    cases scr with
    | none => exact if_pos hb
    | some q =>
      obtain ⟨c, u⟩ := q
      show (if b = c then some u else if b ∈ cs.map (·.2) then some (HO.tbl #[]) else none) = _
      rw [if_neg (fun e => hn u (by rw [e])), if_pos hb]
  cases hk : K.lookup a with
  | some o =>
    have e := Z.kin a o hk
    rw [ha] at e
    cases e
    refine main (trk cs none) (fun p hp => tin none _ (List.mem_map.mpr ⟨p, hp, rfl⟩) (fun u z => nomatch z)) (.inr ⟨_, vs.toArray, _, hk, rfl, rfl, rfl, by rw [List.size_toArray, hi.length]; exact hl, by simpa using rv⟩) (fun b u q => ?_) (fun z => ?_)
    · by_cases hb : b ∈ cs.map (·.2)
      · rw [tin none b hb (fun u z => nomatch z)] at q
        cases q
        exact .inr ⟨hb, rfl⟩
      · cases (if_neg hb).symm.trans (show (if b ∈ cs.map (·.2) then some (HO.tbl #[]) else none) = some u from q)
    · exact (z (if_neg aT)).elim
  | none =>
    have nA : ∀ b ∈ cs.map (·.2), b ≠ a := fun b hb e => aT (by rw [← e]; exact hb)
    refine main (trk cs (some (a, .frz { cls := .type "list", data := .seq vs.toArray } (.lst (ns.map V.int))))) (fun p hp => ?_) (.inl (.inr ⟨_, if_pos rfl⟩)) (fun b u q => ?_) (fun _ => hk)
    · have hb : p.2 ∈ cs.map (·.2) := List.mem_map.mpr ⟨p, hp, rfl⟩
      exact tin _ _ hb fun u z => nA _ hb (by cases z; rfl)
    · have q' : (if b = a then some (HO.frz { cls := .type "list", data := .seq vs.toArray } (.lst (ns.map V.int))) else if b ∈ cs.map (·.2) then some (HO.tbl #[]) else none) = some u := q
      by_cases hb : b = a
      · rw [if_pos hb] at q'
        cases q'
        exact .inl ⟨hb, rfl⟩
      · rw [if_neg hb] at q'
        by_cases hc : b ∈ cs.map (·.2)
        · rw [if_pos hc] at q'
          cases q'
          exact .inr ⟨hc, rfl⟩
        · rw [if_neg hc] at q'
          cases q'
end
/-- the law, from its def's promise, with tables -/
theorem walkT {l : PySem.W.OpenLaw} {n k : Nat} {q : Program} {loose : List Str} {XP : (Str → Option Value) → Heap → Prop} {YP : World → Heap → Prop} {d : DefRec} {x : Str}
    (hn : l.most = some n) (hn2 : n ≤ sizeLine) (hdf : d.params.defaults = []) (hr : Room k callerA)
    (F : ∀ (w : World) (mg : Str → Option Value) (fa : Addr) (h : Heap), YP w h → h.Ns mainGlobals mg → mg d.name = some (.ref fa) →
      ∃ (K : PySem.W.Frag) (cs : List (Addr × Addr)) (fd : FuncData) (sp : Sp), K.In h ∧ (∀ p ∈ cs, h.get? p.2 = some { cls := .none, data := .fields #[] }) ∧ (∀ p ∈ cs, K.lookup p.2 = none) ∧ (∀ p ∈ cs, PySem.W.CodeHd h p.1 p.2) ∧
        (∀ (s : Shared) (u : Value), BindsTo s fd ⟨[u], []⟩ [(x, u)]) ∧
        (∀ (H : Hp) (a : Addr) (ns : List Int), ns.length ≤ n → (∀ p ∈ cs, H p.2 = some (.tbl #[])) → SqL K H a (ns.map V.int) → sp [.ref a] H (fun v _ => v = .bl true) E0) ∧
        ∀ base : Heap, K.In base → base.Ns mainGlobals mg → (∀ p ∈ cs, LamX.TabB base mg p.1 p.2) → FnG l.prog w K mg base CX0 k fa fd [x] sp) :
    PySem.W.WalkO q loose XP YP l.row.toRowW d [] (fun f vs => PySem.call f vs) := by
  refine Att.attach_call hn hdf fun w s₀ s₁ mg mb fa o pm cd doc a vs ns G Y ho hd hcd hmg hobj hints hlen hg => ?_
  obtain ⟨K, cs, fd, sp, kx, hT, nT, C, bd, hsp, hF⟩ := F w mg fa _ Y G.T.g hmg
  exact entryT ⟨kx, G.T.g, G.T.b, G.T.builtins, G.T.nolimit, hT, nT, C, G.T.bmain⟩ hg hobj hints (Nat.le_trans hlen hn2) hr hF bd fun H hH sq => hsp H a ns hlen hH sq
end Ru

set_option Elab.async false
set_option linter.all false
set_option maxRecDepth 100000
set_option maxHeartbeats 2000000
namespace Ru
open PySem PySem.Spec PyProof.Rows L2
/-! ### data with small dicts of ints in it -/
mutual
inductive Dq (K : PySem.W.Frag) (d : Addr) (H : Hp) : V → PyData → Prop
  | non : Dq K d H .non .none
  | bl (b : Bool) : Dq K d H (.bl b) (.bool b)
  | int (i : Int) : Dq K d H (.int i) (.int i)
  | str (x : Str) : Dq K d H (.str x) (.str x)
  | lst {a : Addr} {xs : List V} {ds : List PyData} : SqL K H a xs → a ≠ d → DqA K d H xs ds → Dq K d H (.ref a) (.list ds)
  | tup {a : Addr} {xs : List V} {ds : List PyData} : Rd H a (.tup xs) → a ≠ d → DqA K d H xs ds → Dq K d H (.ref a) (.tuple ds)
  | d0 {a : Addr} : H a = some (.dK []) → a ≠ d → Dq K d H (.ref a) (.dict [])
  | d1 {a : Addr} {i j : Int} : H a = some (.dK [(Sum.inl i, .int j)]) → a ≠ d → Dq K d H (.ref a) (.dict [(.int i, .int j)])
inductive DqA (K : PySem.W.Frag) (d : Addr) (H : Hp) : List V → List PyData → Prop
  | nil : DqA K d H [] []
  | cons {v : V} {vs : List V} {x : PyData} {ds : List PyData} : Dq K d H v x → DqA K d H vs ds → DqA K d H (v :: vs) (x :: ds)
end
theorem Bt.rd {d a : Addr} {H H' : Hp} {u : HO} (s : Bt d H H') (n : a ≠ d) (h : Rd H a u) : Rd H' a u := by
  rcases h with h | ⟨o, h⟩
  · exact .inl (s _ _ h n)
  · exact .inr ⟨o, s _ _ h n⟩
theorem Bt.seq {d a : Addr} {K : PySem.W.Frag} {H H' : Hp} {xs : List V} (s : Bt d H H') (n : a ≠ d) (h : SqL K H a xs) : SqL K H' a xs := h.imp (s.rd n) id
theorem Bt.seqT {d a : Addr} {K : PySem.W.Frag} {H H' : Hp} {xs : List V} (s : Bt d H H') (n : a ≠ d) (h : SqT K H a xs) : SqT K H' a xs := h.imp (s.rd n) id
mutual
theorem Dq.bt {K : PySem.W.Frag} {d : Addr} {H H' : Hp} (s : Bt d H H') : ∀ {v : V} {x : PyData}, Dq K d H v x → Dq K d H' v x
  | _, _, .non => .non
  | _, _, .bl b => .bl b
  | _, _, .int i => .int i
  | _, _, .str x => .str x
  | _, _, .lst h n a => .lst (s.seq n h) n (DqA.bt s a)
  | _, _, .tup h n a => .tup (s.rd n h) n (DqA.bt s a)
  | _, _, .d0 h n => .d0 (s _ _ h n) n
  | _, _, .d1 h n => .d1 (s _ _ h n) n
theorem DqA.bt {K : PySem.W.Frag} {d : Addr} {H H' : Hp} (s : Bt d H H') : ∀ {vs : List V} {ds : List PyData}, DqA K d H vs ds → DqA K d H' vs ds
  | _, _, .nil => .nil
  | _, _, .cons a b => .cons (Dq.bt s a) (DqA.bt s b)
end
theorem Dq.same {K : PySem.W.Frag} {d : Addr} {H H' : Hp} (s : Same H H') {v : V} {x : PyData} (h : Dq K d H v x) : Dq K d H' v x := Dq.bt (.of s) h
theorem DqA.same {K : PySem.W.Frag} {d : Addr} {H H' : Hp} (s : Same H H') {v : List V} {x : List PyData} (h : DqA K d H v x) : DqA K d H' v x := DqA.bt (.of s) h
theorem DqA.app {K : PySem.W.Frag} {d : Addr} {H : Hp} : ∀ {vs : List V} {ds : List PyData} {us : List V} {es : List PyData}, DqA K d H vs ds → DqA K d H us es → DqA K d H (vs ++ us) (ds ++ es)
  | _, _, _, _, .nil, b => b
  | _, _, _, _, .cons a r, b => .cons a (r.app b)
theorem dq_ints {K : PySem.W.Frag} {d : Addr} {H : Hp} : ∀ {zs : List Int}, DqA K d H (zs.map V.int) (intsD zs)
  | [] => .nil
  | _ :: _ => .cons (.int _) dq_ints
section
variable {X : Cx} {pins : List (Addr × Obj)} {σ : L2.St} {H : Hp} {s : Shared} {dp : Addr}
theorem SmK.off (M : SmK X.K) (I : Inv X pins σ H s) {a : Addr} {o : Obj} (h : s.heap.get? a = some o) (hn : ∀ es n, o.data ≠ .dict es n) : sysModules ≠ a := fun e => by
  obtain ⟨o', es, n, h1, h2⟩ := M
  have h3 := I.kIn _ _ h1
  rw [e, h] at h3
  cases h3
  exact hn _ _ h2
theorem kv_nil {vs : List (Key × Value)} (r : KV ([] : List (Key × V)) vs) : vs = [] := by
  cases vs with
  | nil => rfl
  | cons z zs => cases r
theorem kv_one {k : Key} {v : V} {vs : List (Key × Value)} (r : KV [(k, v)] vs) : ∃ u, vs = [(k, u)] ∧ RelV v u := by
  cases r with
  | cons h t =>
    cases t
    rename_i y
    obtain ⟨a, b⟩ := y
    obtain ⟨h1, h2⟩ := h
    exact ⟨b, by rw [show a = k from by first | exact h1.symm | exact h1], by first | exact h2 | exact h2.2⟩
theorem pairs_one {P : Program} {w : World} {es : List DictEntry} {k : Int} {u : Value} (h : Pairs (mixKind P w) es [(Sum.inl k, u)]) : ∃ e, es = [e] ∧ e.key.isInt k = true ∧ e.val = u := by
  cases h with
  | cons h1 h2 t =>
    cases t
    exact ⟨_, rfl, h1, h2⟩
mutual
theorem Dq.reads (I : Inv X pins σ H s) (M : SmK X.K) : ∀ (d : PyData) (v : V) (u : Value), Dq X.K dp H v d → RelV v u → ∃ as, Reads s.heap u d as ∧ sysModules ∉ as
  | .none, _, _, h, r => by
    cases h
    cases r
    exact ⟨_, Reads.none, List.not_mem_nil⟩
  | .bool b, _, _, h, r => by
    cases h
    cases r
    exact ⟨_, Reads.bool b, List.not_mem_nil⟩
  | .int i, _, _, h, r => by
    cases h
    obtain ⟨t, rfl⟩ := r
    exact ⟨_, Reads.int i t, List.not_mem_nil⟩
  | .str x, _, _, h, r => by
    cases h
    obtain ⟨t, rfl⟩ := r
    exact ⟨_, Reads.str x t, List.not_mem_nil⟩
  | .list ds, _, _, h, r => by
    cases h with
    | lst hs _ ha =>
      cases r
      obtain ⟨its, rv, ⟨o, n, ho, hc, _, hd⟩, _⟩ := I.list hs
      obtain ⟨as, hr, hn⟩ := Dq.readsA I M ds _ its ha rv
      refine ⟨_, Reads.list ho hc hd hr, fun z => ?_⟩
      rcases List.mem_cons.mp z with z | z
      · exact M.off I ho (fun es n q => by rw [hd] at q; cases q) z
      · exact hn z
  | .tuple ds, _, _, h, r => by
    cases h with
    | tup hs _ ha =>
      cases r
      obtain ⟨its, rv, ⟨o, ho, hc, n, hd⟩, _⟩ := I.tuple (Or.inl hs)
      obtain ⟨as, hr, hn⟩ := Dq.readsA I M ds _ its ha rv
      exact ⟨_, Reads.tuple ho hc hd hr, hn⟩
  | .dict kvs, _, _, h, r => by
    cases h with
    | d0 h _ =>
      cases r
      obtain ⟨_, hsm, vs, kv, o, es, ep, ho, hx, hd, _, hp, _⟩ := dk_of I.hok h
      have e := kv_nil kv
      subst e
      have e2 : es.toList = [] := by
        have z := hp.length
        exact List.eq_nil_of_length_eq_zero z
      refine ⟨_, Reads.dict (as := []) (bs := []) ho hx.1 hd (by rw [e2]; exact ReadsAll.nil) (by rw [e2]; exact ReadsAll.nil), fun z => ?_⟩
      rcases List.mem_cons.mp z with z | z
      · rw [← z] at hsm
        simp at hsm
      · exact List.not_mem_nil z
    | d1 h _ =>
      cases r
      obtain ⟨_, hsm, vs, kv, o, es, ep, ho, hx, hd, _, hp, _⟩ := dk_of I.hok h
      obtain ⟨u, e, ru⟩ := kv_one kv
      subst e
      obtain ⟨en, e2, k1, k2⟩ := pairs_one hp
      obtain ⟨t, ek⟩ := Value.isInt_shape k1
      obtain ⟨t2, ev⟩ := ru
      refine ⟨_, Reads.dict (as := []) (bs := []) ho hx.1 hd ?_ ?_, fun z => ?_⟩
      · rw [e2]
        show ReadsAll s.heap [en.key] [PyData.int _] []
        rw [ek]
        exact ReadsAll.cons (as := []) (bs := []) (Reads.int _ _) .nil
      · rw [e2]
        show ReadsAll s.heap [en.val] [PyData.int _] []
        rw [k2, ev]
        exact ReadsAll.cons (as := []) (bs := []) (Reads.int _ _) .nil
      · rcases List.mem_cons.mp z with z | z
        · rw [← z] at hsm
          simp at hsm
        · exact List.not_mem_nil z
theorem Dq.readsA (I : Inv X pins σ H s) (M : SmK X.K) : ∀ (ds : List PyData) (vs : List V) (us : List Value), DqA X.K dp H vs ds → Vals vs us → ∃ as, ReadsAll s.heap us ds as ∧ sysModules ∉ as
  | [], _, _, h, r => by
    cases h
    cases r
    exact ⟨_, ReadsAll.nil, List.not_mem_nil⟩
  | d :: ds, _, _, h, r => by
    cases h with
    | cons h1 h2 =>
      cases r with
      | cons r1 r2 =>
        obtain ⟨as, q1, n1⟩ := Dq.reads I M d _ _ h1 r1
        obtain ⟨bs, q2, n2⟩ := Dq.readsA I M ds _ _ h2 r2
        exact ⟨_, ReadsAll.cons q1 q2, fun z => (List.mem_append.mp z).elim n1 n2⟩
end
end
/-- a datum that can be shown -/
structure Sh (d : PyData) : Prop where
  s : d.showable = true
  dp : d.depth ≤ 40
  l : d.shown.length ≤ sizeLine
/-- repr of such data -/
def rReprQ (K : PySem.W.Frag) : List V → Hp → VK → Prop := fun xs H Q => ∃ (v : V) (dp : Addr) (d : PyData), xs = [v] ∧ Dq K dp H v d ∧ Sh d ∧ Q (.str d.shown) H
theorem call_reprQ {X : Cx} (M : SmK X.K) (hg : X.A.guards = some []) (hu : X.A.units + 64 < cLine) : CallR X (.builtin "repr") (rReprQ X.K) := by
  intro pins s σ H xs us Q I r h
  obtain ⟨v, dp, d, rfl, hd, ⟨hs, hdp, hsz⟩, q⟩ := h
  obtain ⟨u, rfl, ru⟩ := vals1 r
  have obj : ∀ a : Addr, v = .ref a → wpAny (model X.prog X.w) X.A (call (.builtin "repr") [u]) (fun u s' => ∃ v H', Inv X pins σ H' s' ∧ RelV v u ∧ Q v H') X.xe s := fun a e => by
    subst e
    cases ru
    obtain ⟨as, r1, n1⟩ := Dq.reads I M d _ _ hd rfl
    exact repr_of_reads' r1 hs (fun _ => n1) hg (by omega) (fun _ _ e => e) (fun h' u tk hk => ⟨.str d.shown, H, I.kept (t' := tk) hk, ⟨u, rfl⟩, q⟩) hsz
  cases hd with
  | non =>
    cases ru
    exact PySem.P.repr_of_none ⟨.str "None", H, I.tok _, ⟨s.toks, rfl⟩, by simpa only [PyData.shown] using q⟩
  | bl b =>
    cases ru
    have e : (PyData.bool b).shown = if b = true then Str.ofString "True" else Str.ofString "False" := by cases b <;> rfl
    rw [e] at q
    exact PySem.P.repr_of_bool ⟨.str (if b = true then Str.ofString "True" else Str.ofString "False"), H, I.tok _, ⟨s.toks, rfl⟩, q⟩
  | int i =>
    obtain ⟨t, rfl⟩ := ru
    refine PySem.P.repr_of_int (by simpa only [PyData.showable, decide_eq_true_eq] using hs) ⟨.str (toString i), H, I.tok _, ⟨s.toks, rfl⟩, by simpa only [PyData.shown] using q⟩
  | str x =>
    obtain ⟨t, rfl⟩ := ru
    refine PySem.P.repr_of_str ⟨.str (reprText x), H, I.tok _, ⟨s.toks, rfl⟩, by simpa only [PyData.shown] using q⟩ (by simpa only [PyData.shown] using hsz)
  | lst _ _ _ => exact obj _ rfl
  | tup _ _ _ => exact obj _ rfl
  | d0 _ _ => exact obj _ rfl
  | d1 _ _ => exact obj _ rfl
end Ru

set_option Elab.async false
set_option linter.all false
set_option maxRecDepth 100000
set_option maxHeartbeats 2000000
namespace Ru
open PySem PySem.Spec PyProof.Rows L2
/-! ### t[::-1] of a tuple -/
theorem fm_congr {α β : Type} {f g : α → Option β} : ∀ {l : List α}, (∀ x ∈ l, f x = g x) → l.filterMap f = l.filterMap g
  | [], _ => rfl
  | x :: l, h => by
    rw [List.filterMap_cons, List.filterMap_cons, h x List.mem_cons_self, fm_congr fun y hy => h y (List.mem_cons_of_mem _ hy)]
theorem pick_rev (xs : Array Value) : ((List.range xs.size).filterMap fun (m : Nat) => xs[(((xs.size : Int) - 1) + (m : Int) * (-1)).toNat]?).toArray = xs.toList.reverse.toArray := by
  have e : ((List.range xs.size).map fun k => xs.size - 1 - k).filterMap (xs[·]?) = xs.toList.reverse := by
    rw [PySem.W.krv_range, List.filterMap_reverse, PySem.W.krv_all]
  rw [← e, List.filterMap_map]
  congr 1
  refine fm_congr fun m hm => ?_
  have := List.mem_range.mp hm
  show xs[(((xs.size : Int) - 1) + (m : Int) * (-1)).toNat]? = xs[xs.size - 1 - m]?
  congr 1
  omega
theorem places_rev (n : Nat) (h : 0 < n) : Builtin.Slice.slicePlaces ((n : Int) - 1) (-1) (-1) = n := by
  unfold Builtin.Slice.slicePlaces
  rw [if_neg (by decide), if_pos (by omega), show (- -1 : Int) = 1 by decide, Int.ediv_one]
  omega
section
variable {prog : Program} {w : World} {A : Around} {E : Value → Shared → Prop} {s : Shared}
/-- the three parts of [::-1] -/
theorem fields_rev {sl : Addr} {tk : Tok} {Q : Value × Value × Value → Shared → Prop} (hs : s.heap.IsSliceOf sl .none .none (.int (-1) tk)) (q : Q (.none, .none, .int (-1) tk) s) : wpAny (model prog w) A (Builtin.Slice.sliceFields (.ref sl)) Q E s := by
  obtain ⟨o, ho, _, hd⟩ := hs
  unfold Builtin.Slice.sliceFields
  refine wpAny_bind (wpAny_field (x := Value.none) ho hd rfl ?_)
  refine wpAny_bind (wpAny_field (x := Value.none) ho hd rfl ?_)
  refine wpAny_bind (wpAny_field (x := Value.int (-1) tk) ho hd rfl ?_)
  exact wpAny_pure q
/-- how [::-1] is applied to n items -/
theorem applied_rev {sl : Addr} {tk : Tok} {n : Nat} {Q : Int × Int × Nat → Shared → Prop} (hs : s.heap.IsSliceOf sl .none .none (.int (-1) tk)) (hn : 0 < n) (q : Q ((n : Int) - 1, -1, n) s) :
    wpAny (model prog w) A (Builtin.Slice.sliceApplied (.ref sl) (pure (n : Int))) Q E s := by
  have fin : wpAny (model prog w) A (pure ((n : Int) - 1, (-1 : Int), Builtin.Slice.slicePlaces ((n : Int) - 1) (-1) (-1))) Q E s := by
    rw [places_rev n hn]
    exact wpAny_pure q
  unfold Builtin.Slice.sliceApplied
  refine wpAny_bind (fields_rev hs ?_)
  refine wpAny_bind (HT.slicePart_ (.int (-1) tk) ?_)
  show wpAny _ _ (if ((-1 : Int) == 0) = true then _ else _) _ _ s
  rw [if_neg (by decide)]
  exact wpAny_bind (HT.slicePart_ .none (wpAny_bind (HT.slicePart_ .none (wpAny_bind (wpAny_pure fin)))))
end
/-- t[::-1], what the built-in does -/
theorem meets_rev {t sl : Addr} {its : Array Value} {tk : Tok} : Meets (Builtin.«tuple.__getitem__» ⟨[.ref t, .ref sl], []⟩) fun _ R s =>
    IsTup s.heap t its ∧ s.heap.IsSliceOf sl .none .none (.int (-1) tk) ∧ 0 < its.size ∧ its.size ≤ sizeLine ∧ R (.ok (.ret (.ref s.heap.objs.size))) { s with heap := s.heap.push { cls := .type "tuple", data := .seq its.toList.reverse.toArray } } := by
  intro prog w A R s ⟨ht, hs, h0, h1, q⟩
  have fits : sizeOk (.seq its.toList.reverse.toArray) := by
    show its.toList.reverse.toArray.size ≤ sizeLine
    simpa using h1
  have kind : s.TypeIs (.ref sl) "slice" := hs.elim fun o h => ⟨o, h.1, h.2.1⟩
  have other : ¬ ((((its.size : Int) - 1) == 0 && (-1 : Int) == 1 && its.size == its.size) = true) := fun e => by simp at e
  have last : wpAny (model prog w) A.in1 (Builtin.Tuple.tupleExact its.toList.reverse.toArray >>= fun x => ret x)
      (fun fin s' => match fin with | .done f => R (.ok f) s' | .again c' => c'.quiet = true ∧ codeAny (model prog w) A c' R s') (fun e s' => R (.error e) s') s :=
    wpAny_bind (wpAny_newObj_type (wpAny_pure q) fits)
  have cut : wpAny (model prog w) A.in1 (Builtin.Slice.sliceApplied (.ref sl) (pure ((its.size : Nat) : Int))) (fun r s' => r = ((its.size : Int) - 1, -1, its.size) ∧ s' = s) (fun e s' => R (.error e) s') s := applied_rev hs h0 ⟨rfl, rfl⟩
  show wpAny _ _ (Builtin.Tuple.tupleItemsOf (.ref t) >>= fun xs => _) _ _ s
  refine wpAny_bind (tupleItemsOf_ ht (wpAny_bind (wpAny_typeOf kind ?_)))
  rw [if_pos (beq_self_eq_true _)]
  refine wpAny_bind (wpAny_mono cut ?_ fun _ _ e => e)
  rintro r s' ⟨rfl, rfl⟩
  show wpAny _ _ (if (((its.size : Int) - 1) == 0 && (-1 : Int) == 1 && its.size == its.size) = true then _ else _) _ _ _
  rw [if_neg other, pick_rev]
  exact last
/-- t[sl] -/
theorem item_rev {prog : Program} {w : World} {A : Around} {E : Value → Shared → Prop} {s : Shared} {t sl : Addr} {its : Array Value} {tk : Tok} {Q : Value → Shared → Prop} (ht : IsTup s.heap t its) (hs : s.heap.IsSliceOf sl .none .none (.int (-1) tk)) (h0 : 0 < its.size) (h1 : its.size ≤ sizeLine)
    (q : Q (.ref s.heap.objs.size) { s with heap := s.heap.push { cls := .type "tuple", data := .seq its.toList.reverse.toArray } }) : wpAny (model prog w) A (getItem (.ref t) (.ref sl)) Q E s :=
  getItem_meets ht.typeIs (by decide) PySem.F.slot_tuple_getitem PySem.F.entry_tuple_getitem (PySem.F.args_tuple_getitem_2 _ _) meets_rev ⟨ht, hs, h0, h1, q⟩
/-- x[::-1] of a tuple that is not empty -/
def tRevT (K : PySem.W.Frag) (te : TE) : TE := fun σ H Q => te σ H fun x H1 => ∃ a xs, x = .ref a ∧ SqT K H1 a xs ∧ xs ≠ [] ∧ ∀ p, H1 p = none → Q (.ref p) (upd H1 p (.tup xs.reverse))
/-- the slice [::-1] is laid -/
theorem laid_rev {X : Cx} {pins : List (Addr × Obj)} {σ : L2.St} {H : Hp} {s : Shared} {k : Nat} {p1 p2 p3 : Pos} {R : Value → Shared → Prop} (I : Inv X pins σ H s)
    (h : ∀ (tk : Tok) (s' : Shared), Inv X pins σ H { s' with heap := s'.heap.push { cls := .type "slice", data := .fields #[.none, .none, .int (-1) tk] } } → R (.ref s'.heap.objs.size) { s' with heap := s'.heap.push { cls := .type "slice", data := .fields #[.none, .none, .int (-1) tk] } }) :
    wpAny (model X.prog X.w) X.A (eval (.Slice none none (some (.UnaryOp .USub (.Constant (.int 1) k p1) p2)) p3) X.env) R X.xe s := by
  have none_ : ∀ {s : Shared} {R : Value → Shared → Prop}, Inv X pins σ H s → (∀ s', Inv X pins σ H s' → R .none s') → wpAny (model X.prog X.w) X.A (evalPart none X.env) R X.xe s := fun {s R} J r =>
    wpAny_mono ((po_none (X := X)).run pins s σ H (fun o H2 => o = none ∧ H2 = H) J ⟨rfl, rfl⟩) (fun u s' ⟨o, H2, J2, pt, e1, e2⟩ => by
      subst e1 e2
      cases pt
      exact r s' J2) fun _ _ e => e
  refine wpAny_Slice (none_ I fun s1 I1 => none_ I1 fun s2 I2 => ?_)
  have neg : PO X (some (.UnaryOp .USub (.Constant (.int 1) k p1) p2)) _ := po_some (pe_un un_neg pe_int)
  refine wpAny_mono (neg.run pins s2 σ H (fun o H2 => o = some (-1) ∧ H2 = H) I2 ⟨1, rfl, -1, rfl, rfl, rfl⟩) (fun u s3 z => ?_) fun _ _ e => e
  obtain ⟨o, H3, I3, pt, e1, e2⟩ := z
  subst e1 e2
  cases pt
  exact h _ s3 (I3.kept (t' := s3.toks) fun _ _ q => Heap.get?_push_of_some _ q)
theorem pe_revT {X : Cx} {e : Expr} {te : TE} {k : Nat} {p1 p2 p3 pos : Pos} (he : PE X e te) : PE X (.Subscript e (.Slice none none (some (.UnaryOp .USub (.Constant (.int 1) k p1) p2)) p3) pos) (tRevT X.K te) := by
  constructor
  intro pins s σ H Q I h
  refine Subscript_ (wpAny_mono (he.run pins s σ H _ I h) ?_ fun _ _ e => e)
  rintro v s1 ⟨x, H1, I1, r1, a, xs, rfl, hx, hne, q⟩
  cases r1
  refine laid_rev I1 fun tk s2 I2 => ?_
  obtain ⟨its, rv, ht, hz⟩ := I2.tuple hx
  have size : its.toArray.size = xs.length := List.size_toArray.trans rv.length.symm
  have pos_ : 0 < xs.length := List.length_pos_iff.mpr hne
  refine tail_any (ops := [.ref a, .ref s2.heap.objs.size]) ht.typeIs PyProof.Rows.slot_tuple_getitem.lookup (item_rev ht (Heap.IsSliceOf.new _ _ _ _) (by omega) (by omega) ?_) (by with_unfolding_all rfl)
  refine ⟨.ref _, upd H1 _ (.tup xs.reverse), I2.laid (t' := s2.toks) (fun _ _ z => Heap.get?_push_of_some _ z) (Nat.le_refl _) ⟨by rw [List.length_reverse]; omega, _, rv.reverse, IsTup.new _ _⟩, rfl, q _ (I2.hok.fresh (Nat.le_refl _))⟩
end Ru

set_option Elab.async false
set_option linter.all false
set_option maxRecDepth 100000
set_option maxHeartbeats 2000000
namespace Ru
open PySem PySem.Spec PyProof.Rows L2
/-! ### a caught exception as a value -/
/-- at e a caught exception of the class at C, with these fields of its own -/
def CxAt (H : Hp) (e C : Addr) (fs : List (Str × V)) : Prop := (fs = [] ∧ H e = some (ExC2 e (.ref C) none)) ∨ ∃ d, H e = some (ExC2 e (.ref C) (some d)) ∧ H d = some (.xd fs)
theorem CxAt.same {H H' : Hp} {e C : Addr} {fs : List (Str × V)} (s : Same H H') (h : CxAt H e C fs) : CxAt H' e C fs := by
  rcases h with ⟨h1, h2⟩ | ⟨d, h1, h2⟩
  · exact .inl ⟨h1, s _ _ h2⟩
  · exact .inr ⟨d, s _ _ h1, s _ _ h2⟩
theorem CxAt.inst {X : Cx} {pins : List (Addr × Obj)} {σ : L2.St} {H : Hp} {s : Shared} (I : Inv X pins σ H s) {e C : Addr} {fs : List (Str × V)} (h : CxAt H e C fs) :
    ∃ (ox : Obj) (od : Option Obj), PySem.W.InstAt s.heap e ox C od ∧ ∀ f v, fs.lookup f = some v → ∃ o u, od = some o ∧ PySem.W.lookIn f o = some (some u) ∧ RelV v u := by
  rcases h with ⟨h1, h2⟩ | ⟨d, h1, h2⟩
  · subst h1
    obtain ⟨⟨oe, vs, ho, hz, hd⟩, _, _⟩ := I.hok e _ h2
    obtain ⟨oc, odi, oda, osl⟩ := oe
    obtain ⟨z1, z2⟩ := hz
    dsimp only at z1 z2 hd
    subst z1 z2 hd
    exact ⟨_, none, ⟨ho, rfl, rfl, trivial⟩, fun f v q => nomatch q⟩
  · obtain ⟨⟨oe, vs, ho, hz, hd⟩, _, _⟩ := I.hok e _ h1
    obtain ⟨oc, odi, oda, osl⟩ := oe
    obtain ⟨z1, z2⟩ := hz
    dsimp only at z1 z2 hd
    subst z1 z2 hd
    have hx : ObjOk X.prog X.w H s.heap d (.xd fs) := I.hok d _ h2
    obtain ⟨mA, hns, hr⟩ := hx
    obtain ⟨od, hod, hl⟩ := lookIn_ns hns
    refine ⟨_, some od, ⟨ho, rfl, rfl, hod⟩, fun f v q => ?_⟩
    obtain ⟨u, hu, ru⟩ := RelO.some_of (v := v) (o := mA f) (by rw [← q]; exact hr f)
    exact ⟨od, u, rfl, by rw [hl, hu], ru⟩
/-- isinstance(e, c) -/
def rIsC (K : PySem.W.Frag) : List V → Hp → VK → Prop := fun xs H Q =>
  ∃ (e D : Addr) (fs : List (Str × V)) (c : V) (cv : Value) (b : Bool), xs = [.ref e, c] ∧ CxAt H e D fs ∧ ExK K D ∧ ClsV c cv ∧ PySem.W.kitOne K (.ref D) cv = some b ∧ Q (.bl b) H
theorem call_isCx {X : Cx} : CallR X (.builtin "isinstance") (rIsC X.K) := by
  intro pins s σ H xs us Q I r h
  obtain ⟨e, D, fs, c, cv, b, rfl, he, C, hcv, ek, q⟩ := h
  cases r with
  | cons rx rr =>
    cases rr with
    | cons rt rr =>
      cases rr
      cases rx
      have ec := hcv.eq rt
      subst ec
      obtain ⟨ox, od, J, _⟩ := he.inst I
      exact PySem.W.kia_one (PySem.W.kitx_exc C.hcl C.hga C.hgt C.hsub C.ha C.hn C.htk C.hm) I.kIn J ek (fun z => nomatch z) fun tk => ⟨.bl b, H, I.kept (t' := tk) fun _ _ z => z, rfl, q⟩
/-- isinstance(e, (c1, c2, ..)) -/
def rIsCT (K : PySem.W.Frag) : List V → Hp → VK → Prop := fun xs H Q =>
  ∃ (e D : Addr) (fs : List (Str × V)) (tp : Addr) (cs : List V) (us : List Value) (b : Bool), xs = [.ref e, .ref tp] ∧ CxAt H e D fs ∧ ExK K D ∧ H tp = some (.tup cs) ∧ Paired ClsV cs us ∧ PySem.W.kitAny K (.ref D) us = some b ∧ Q (.bl b) H
theorem call_isCxT {X : Cx} : CallR X (.builtin "isinstance") (rIsCT X.K) := by
  intro pins s σ H xs us Q I r h
  obtain ⟨e, D, fs, tp, cs, ws, b, rfl, he, C, hT, k, ek, q⟩ := h
  obtain ⟨u1, u2, rfl, r1, r2⟩ := vals2 r
  cases r1
  cases (show u2 = Value.ref tp from r2)
  obtain ⟨ox, od, J, _⟩ := he.inst I
  obtain ⟨_, its, rv, o, h1, h2, n, h3⟩ := (show ObjOk X.prog X.w H s.heap tp (.tup cs) from I.hok tp _ hT)
  have e3 := ClsV.all k rv
  subst e3
  obtain ⟨oc, od2, dt, sl⟩ := o
  simp only at h2 h3
  subst h2 h3
  exact PySem.W.kia_tup (PySem.W.kitx_exc C.hcl C.hga C.hgt C.hsub C.ha C.hn C.htk C.hm) I.kIn J h1 ek (fun z => nomatch z) fun tk => ⟨.bl b, H, I.tok tk, rfl, q⟩
/-- e.f -/
def tCxF (K : PySem.W.Frag) (f : Str) (te : TE) : TE := fun σ H Q => te σ H fun x H1 =>
  ∃ (e D : Addr) (fs : List (Str × V)) (v : V), x = .ref e ∧ CxAt H1 e D fs ∧ ExK K D ∧ PySem.W.findIn K (.ref D) f = some none ∧ fs.lookup f = some v ∧ Q v H1
theorem pe_cxf {X : Cx} {e : Expr} {te : TE} {pos : Pos} {n : Str} (he : PE X e te) (hb : attributeBase e n X.env (eval e X.env) = eval e X.env := by rfl) : PE X (.Attribute e n pos) (tCxF X.K n te) := by
  refine ⟨fun pins s σ H Q I h => ?_⟩
  refine attr_of hb (thn (he.run pins s σ H _ I h) fun u s1 hh => ?_)
  obtain ⟨x, H1, I1, rx, a, D, fs, v, ex, hx, T, hno, hl, q⟩ := hh
  subst ex
  obtain rfl : u = Value.ref a := rx
  obtain ⟨ox, od, J, hf⟩ := hx.inst I1
  obtain ⟨o, u, rfl, hlk, ru⟩ := hf n v hl
  exact HandSPX.exc_get I1.kIn J T.hga T.hgt T.hsub (PySem.W.findObj_own T.hdc hno rfl hlk) (handed_of ru) ⟨v, H1, I1.tok _, ru, q⟩
end Ru

set_option Elab.async false
set_option linter.all false
set_option maxRecDepth 100000
set_option maxHeartbeats 2000000
namespace Ru
open PySem PySem.Spec PyProof.Rows L2
/-! ### what the first looks at a value say of a datum -/
def tyD : PyData → String
  | .none => "NoneType"
  | .bool _ => "bool"
  | .int _ => "int"
  | .str _ => "str"
  | .list _ => "list"
  | .tuple _ => "tuple"
  | .dict _ => "dict"
theorem tyX_lst {K : PySem.W.Frag} {H : Hp} {a : Addr} {xs : List V} (h : SqL K H a xs) : TyX K H (.ref a) (.type "list") := by
  rcases h with (h | ⟨o, h⟩) | ⟨o, its, n, h, c, _⟩
  · exact .base (.lst h)
  · exact .base (.frz h)
  · exact .kList h c
theorem tyX_tup {K : PySem.W.Frag} {H : Hp} {a : Addr} {xs : List V} (h : SqT K H a xs) : TyX K H (.ref a) (.type "tuple") := by
  rcases h with (h | ⟨o, h⟩) | ⟨o, its, n, h, c, _⟩
  · exact .base (.tup h)
  · exact .fTuple h
  · exact .kTuple h c
theorem Dq.ty {K : PySem.W.Frag} {d : Addr} {H : Hp} {v : V} {x : PyData} (h : Dq K d H v x) : TyX K H v (.type (tyD x)) := by
  cases h with
  | non => exact .base .non
  | bl b => exact .base (.bl b)
  | int i => exact .base (.int i)
  | str x => exact .base (.str x)
  | lst h _ _ => exact tyX_lst h
  | tup h _ _ => exact tyX_tup (K := K) (.inl h)
  | d0 h _ => exact .base (.dK h)
  | d1 h _ => exact .base (.dK h)
def wholeD : PyData → Bool
  | .int _ => true
  | _ => false
def seqD : PyData → Bool
  | .list _ => true
  | .tuple _ => true
  | _ => false
def baseD : PyData → Bool
  | .int i => decide (2 ≤ i) && decide (i ≤ 100)
  | _ => false
def basesD : PyData → Bool
  | .list ds => decide (1 ≤ ds.length) && decide (ds.length ≤ 4) && ds.all baseD
  | .tuple ds => decide (1 ≤ ds.length) && decide (ds.length ≤ 4) && ds.all baseD
  | _ => false
theorem kit_int : ∀ x : PyData, kitB (tyD x) "int" = some (wholeD x || decide (tyD x = "bool"))
  | .none => by decide +kernel
  | .bool _ => by show kitB "bool" "int" = some true; decide +kernel
  | .int _ => by show kitB "int" "int" = some true; decide +kernel
  | .str _ => by show kitB "str" "int" = some false; decide +kernel
  | .list _ => by show kitB "list" "int" = some false; decide +kernel
  | .tuple _ => by show kitB "tuple" "int" = some false; decide +kernel
  | .dict _ => by show kitB "dict" "int" = some false; decide +kernel
theorem kit_bool : ∀ x : PyData, kitB (tyD x) "bool" = some (decide (tyD x = "bool"))
  | .none => by decide +kernel
  | .bool _ => by show kitB "bool" "bool" = some true; decide +kernel
  | .int _ => by show kitB "int" "bool" = some false; decide +kernel
  | .str _ => by show kitB "str" "bool" = some false; decide +kernel
  | .list _ => by show kitB "list" "bool" = some false; decide +kernel
  | .tuple _ => by show kitB "tuple" "bool" = some false; decide +kernel
  | .dict _ => by show kitB "dict" "bool" = some false; decide +kernel
theorem kit_seq {K : PySem.W.Frag} : ∀ x : PyData, PySem.W.kitAny K (.type (tyD x)) [.type "tuple", .type "list"] = some (seqD x)
  | .none => kitAny_cons (kit_ty (show kitB "NoneType" "tuple" = some false by decide +kernel)) (fun _ => kitAny_cons (kit_ty (show kitB "NoneType" "list" = some false by decide +kernel)) (fun _ => kitAny_nil) nofun) nofun
  | .bool _ => kitAny_cons (kit_ty (show kitB "bool" "tuple" = some false by decide +kernel)) (fun _ => kitAny_cons (kit_ty (show kitB "bool" "list" = some false by decide +kernel)) (fun _ => kitAny_nil) nofun) nofun
  | .int _ => kitAny_cons (kit_ty (show kitB "int" "tuple" = some false by decide +kernel)) (fun _ => kitAny_cons (kit_ty (show kitB "int" "list" = some false by decide +kernel)) (fun _ => kitAny_nil) nofun) nofun
  | .str _ => kitAny_cons (kit_ty (show kitB "str" "tuple" = some false by decide +kernel)) (fun _ => kitAny_cons (kit_ty (show kitB "str" "list" = some false by decide +kernel)) (fun _ => kitAny_nil) nofun) nofun
  | .dict _ => kitAny_cons (kit_ty (show kitB "dict" "tuple" = some false by decide +kernel)) (fun _ => kitAny_cons (kit_ty (show kitB "dict" "list" = some false by decide +kernel)) (fun _ => kitAny_nil) nofun) nofun
  | .tuple _ => kitAny_cons (b := true) (kit_ty (show kitB "tuple" "tuple" = some true by decide +kernel)) nofun (fun _ => rfl)
  | .list _ => kitAny_cons (b := false) (kit_ty (show kitB "list" "tuple" = some false by decide +kernel)) (fun _ => kitAny_cons (b := true) (kit_ty (show kitB "list" "list" = some true by decide +kernel)) nofun (fun _ => rfl)) nofun
/-- is it a whole number -/
def spWhole (K : PySem.W.Frag) : Sp := fun vs H Q _ => ∃ (v : V) (d : Addr) (x : PyData), vs = [v] ∧ Dq K d H v x ∧ Q (.bl (wholeD x)) H
/-- is it a tuple or a list -/
def spSeq (K : PySem.W.Frag) : Sp := fun vs H Q _ => ∃ (v : V) (d : Addr) (x : PyData), vs = [v] ∧ Dq K d H v x ∧ ∀ H', Same H H' → Q (.bl (seqD x)) H'
/-- is it bases -/
def spIsB (K : PySem.W.Frag) : Sp := fun vs H Q _ => ∃ (v : V) (d : Addr) (x : PyData), vs = [v] ∧ Dq K d H v x ∧ ∀ H', Same H H' → Q (.bl (basesD x)) H'
theorem DqA.length {K : PySem.W.Frag} {d : Addr} {H : Hp} : ∀ {vs : List V} {ds : List PyData}, DqA K d H vs ds → vs.length = ds.length
  | _, _, .nil => rfl
  | _, _, .cons _ r => congrArg (· + 1) r.length
theorem DqA.get {K : PySem.W.Frag} {d : Addr} {H : Hp} : ∀ {vs : List V} {ds : List PyData} {i : Nat} {v : V}, DqA K d H vs ds → vs[i]? = some v → ∃ x, ds[i]? = some x ∧ Dq K d H v x
  | _, _, _, _, .nil, e => by cases e
  | _, _, 0, _, .cons a _, e => by
    cases e
    exact ⟨_, rfl, a⟩
  | _, _, i + 1, _, .cons _ r, e => by
    obtain ⟨x, h1, h2⟩ := r.get (i := i) e
    exact ⟨x, h1, h2⟩
/-! ### a def that can be called by its name -/
structure Cd (P : Program) (w : World) (K : PySem.W.Frag) (mg : Str → Option Value) (base : Heap) (CX : CXT) (k : Nat) (x : Str) (ps : List Str) (sp : Sp) : Prop where
  ex : ∃ (f : Addr) (fd : FuncData), FnOk P w K mg base CX k f fd ps sp ∧ mg x = some (.ref f) ∧ PySem.W.keepIn K (.ref f) = true ∧ Binds K fd ps []
structure CdG (P : Program) (w : World) (K : PySem.W.Frag) (mg : Str → Option Value) (base : Heap) (CX : CXT) (k : Nat) (x : Str) (ps : List Str) (sp : Sp) : Prop where
  ex : ∃ (f : Addr) (fd : FuncData), FnG P w K mg base CX k f fd ps sp ∧ mg x = some (.ref f) ∧ PySem.W.keepIn K (.ref f) = true ∧ Binds K fd ps []
section
variable {X : Cx} {CX : CXT} {k : Nat} {ps : List Str} {sp : Sp} {E : XK} {x : Str} {p pos : Pos} {e : Expr} {es : List Expr} {t : TA}
theorem pe_cd (C : Cd X.prog X.w X.K X.mg X.base CX k x ps sp) (hr : Room k X.A) (hg : Gl X x) (hx : Passes CX X E) (ha : PA X (e :: es) t) (hdb : (x == ("__debug__" : Str)) = false := by decide)
    (he : starEach (e :: es) X.env = (false, eval e X.env) :: starEach es X.env := by rfl) (hpl : (backTo pos (starEach es X.env)).any (·.1) = false := by rfl) : PE X (.Call (.Name x p) (e :: es) [] pos) (tCall sp [] E t) := by
  obtain ⟨f, fd, G, m, kp, b⟩ := C.ex
  exact pe_call G hr hg m kp b .nil hx ha hdb he hpl
theorem pe_cdG (hG : X.A.guards = some []) (C : CdG X.prog X.w X.K X.mg X.base CX k x ps sp) (hr : Room k X.A) (hg : Gl X x) (hx : Passes CX X E) (ha : PA X (e :: es) t) (hdb : (x == ("__debug__" : Str)) = false := by decide)
    (he : starEach (e :: es) X.env = (false, eval e X.env) :: starEach es X.env := by rfl) (hpl : (backTo pos (starEach es X.env)).any (·.1) = false := by rfl) : PE X (.Call (.Name x p) (e :: es) [] pos) (tCall sp [] E t) := by
  obtain ⟨f, fd, G, m, kp, b⟩ := C.ex
  exact pe_callG hG G hr hg m kp b .nil hx ha hdb he hpl
end
end Ru

set_option Elab.async false
set_option linter.all false
set_option maxRecDepth 100000
set_option maxHeartbeats 2000000
namespace Ru
open PySem PySem.Spec PyProof.Rows L2
/-! ### an own exception with one field, raised -/
def spIniF (K : PySem.W.Frag) (C : Addr) (g : Str) : Sp := fun vs H Q _ => ∃ (a : Addr) (u : V), vs = [.ref a, u] ∧ OexC K C ∧ PySem.W.findIn K (.ref C) g = some none ∧ H a = some (exo a C none) ∧
  ∀ dx, H dx = none → dx ≠ a → Q .non (upd (upd H dx (exd dx [(g, u)])) a (exo a C (some dx)))
theorem iniF {P : Program} {w : World} {K : PySem.W.Frag} {mg : Str → Option Value} {base : Heap} {f C : Addr} {fd : FuncData} {qual g : Str} {pa : Arguments} {sc : Scope} {q1 q2 q3 q4 : Pos}
    (F : FunD K "__init__" qual pa [.Assign [.Attribute (.Name "self" q1) g q2] (.Name g q3) q4] sc [] [] f fd) (S : FnScope ["self", g] ["self", g] sc) (v0 : Vis sc "self") (v1 : Vis sc g)
    (e1 : (g == ("__debug__" : Str)) = false := by decide) (e2 : (g == ("__classdict__" : Str)) = false := by decide) : FnOk P w K mg base CX0 1 f fd ["self", g] (spIniF K C g) := by
  refine F.ok S (fun vs H Q E h => ?_) (fun cdv A outer s H vs Q E hr h => ?_)
  · obtain ⟨a, u, rfl, _⟩ := h
    rfl
  · obtain ⟨a, u, rfl, T, hno, ha, k⟩ := h
    refine ⟨_, PSs.nox (pss_one (ps_ost (pe_var (i := 0) rfl v0) (pe_var (i := 1) rfl v1 e1 e2))), ?_⟩
    exact ⟨u, rfl, .ref a, rfl, a, C, rfl, T, hno, .inl ⟨ha, fun dx hn ne => k dx hn ne⟩⟩
/-- what raising such an own exception leans on -/
structure RsX (P : Program) (w : World) (K : PySem.W.Frag) (mg : Str → Option Value) (base : Heap) (n g : Str) : Prop where
  T : OexC K (He.ga K n)
  iC : PySem.W.findIn K (.ref (He.ga K n)) "__init__" = some (some (.ref (He.ma K (He.ga K n) "__init__")))
  tI : PySem.W.typeIn K (.ref (He.ma K (He.ga K n) "__init__")) = some (.type "function")
  hno : PySem.W.findIn K (.ref (He.ga K n)) g = some none
  gm : mg n = some (.ref (He.ga K n))
  fn : ∃ fd, FnOk P w K mg base CX0 1 (He.ma K (He.ga K n) "__init__") fd ["self", g] (spIniF K (He.ga K n) g) ∧ Binds K fd ["self", g] []
/-- n(e) is made to be raised: its one field is e's value -/
def tRs (C : Addr) (g : Str) (te : TE) : L2.St → Hp → XK → Prop := fun σ H Q => te σ H fun v H1 => ∀ dd H2, Same H1 H2 → H1 dd = none → H2 dd = some (.xd [(g, v)]) → Q (.ref C) (some dd) H2
theorem pmk_rs {X : Cx} {n g : Str} {e : Expr} {te : TE} {p pos : Pos} (R : RsX X.prog X.w X.K X.mg X.base n g) (hr : Room 2 X.A) (hg : Gl X n) (he : PE X e te) (hm : ∀ σ H (Q Q' : VK), (∀ v H', Q v H' → Q' v H') → te σ H Q → te σ H Q')
    (hdb : (n == ("__debug__" : Str)) = false := by decide) (hs : starEach [e] X.env = (false, eval e X.env) :: starEach [] X.env := by rfl) :
    PMk X (.Call (.Name n p) [e] [] pos) (tRs (He.ga X.K n) g te) := by
  obtain ⟨fd, G, b⟩ := R.fn
  intro pins s σ H Q I h
  refine pmk_oex R.T R.iC R.tI G hr b .nil pass0 hg R.gm (pa_cons he pa_nil hs) hdb hs (by rfl) pins s σ H Q I ?_
  refine hm σ H _ _ (fun v H1 q => ?_) h
  refine ⟨by show 1 ≤ 1000; decide, fun a ha => ⟨a, v, rfl, R.T, R.hno, upd_same, fun dx hn ne => ⟨rfl, dx, [(g, v)], upd_same, by rw [upd_ne ne, upd_same], ?_, ?_⟩⟩⟩
  · have z := hn
    rwa [upd_ne ne] at z
  · have hd1 : H1 dx = none := by
      have z := hn
      rwa [upd_ne ne] at z
    refine q dx _ (fun b o e => ?_) hd1 upd_same
    have n1 : b ≠ a := ne_of_none e ha
    have n2 : b ≠ dx := ne_of_none e hd1
    rw [upd_ne n2, del_ne n1, upd_ne n1, upd_ne n2, upd_ne n1]
    exact e
end Ru

set_option Elab.async false
set_option linter.all false
set_option maxRecDepth 100000
set_option maxHeartbeats 2000000
namespace Ru
open PySem PySem.Spec PyProof.Rows L2
/-! ### products of the lower ends of a row -/
def prodL : List Int → Int
  | [] => 1
  | z :: zs => prodL zs * z
theorem prodL_foldl : ∀ (zs : List Int) (c : Int), zs.foldl (· * ·) c = c * prodL zs
  | [], c => by
    show c = c * 1
    rw [Int.mul_one]
  | z :: zs, c => by
    show zs.foldl (· * ·) (c * z) = c * (prodL zs * z)
    rw [prodL_foldl zs (c * z), Int.mul_assoc, Int.mul_comm z]
/-- a row of bases -/
def Bss (zs : List Int) : Prop := 1 ≤ zs.length ∧ zs.length ≤ 4 ∧ ∀ z ∈ zs, 2 ≤ z ∧ z ≤ 100
theorem prodL_le : ∀ {zs : List Int} {n : Nat}, (∀ z ∈ zs, 2 ≤ z ∧ z ≤ 100) → zs.length ≤ n → 1 ≤ prodL zs ∧ prodL zs ≤ 100 ^ n
  | [], n, _, _ => by
    refine ⟨Int.le_refl _, ?_⟩
    show (1 : Int) ≤ 100 ^ n
    have h : (0 : Int) < 100 ^ n := Int.pow_pos (by decide)
    omega
  | z :: zs, 0, _, h => by cases h
  | z :: zs, n + 1, h, hl => by
    obtain ⟨h1, h2⟩ := prodL_le (zs := zs) (n := n) (fun y hy => h y (List.mem_cons_of_mem _ hy)) (Nat.le_of_succ_le_succ hl)
    obtain ⟨h3, h4⟩ := h z List.mem_cons_self
    show 1 ≤ prodL zs * z ∧ prodL zs * z ≤ 100 ^ n * 100
    refine ⟨?_, Int.mul_le_mul h2 h4 (by omega) (by omega)⟩
    have := Int.mul_le_mul h1 (show (1 : Int) ≤ z by omega) (by decide) (by omega)
    omega
/-- 1, the lowest base, the two lowest multiplied, .. -/
def prods (zs : List Int) (k : Nat) : List Int := (List.range k).map fun i => prodL (zs.drop (zs.length - i))
theorem prods_succ (zs : List Int) (k : Nat) : prods zs (k + 1) = prods zs k ++ [prodL (zs.drop (zs.length - k))] := by
  unfold prods
  rw [List.range_succ, List.map_append]
  rfl
theorem rev_at {zs : List Int} {i : Nat} {z : Int} (h : zs.reverse[i]? = some z) : prodL (zs.drop (zs.length - (i + 1))) = prodL (zs.drop (zs.length - i)) * z := by
  obtain ⟨hi, e⟩ := List.getElem?_eq_some_iff.mp h
  have hi' : i < zs.length := by rw [List.length_reverse] at hi; exact hi
  have hlt : zs.length - (i + 1) < zs.length := by omega
  rw [List.drop_eq_getElem_cons hlt, show zs.length - (i + 1) + 1 = zs.length - i by omega]
  rw [List.getElem_reverse] at e
  show prodL _ * zs[zs.length - (i + 1)] = _
  congr 1
  rw [← e]
  congr 1
  omega
theorem prods_len (zs : List Int) (k : Nat) : (prods zs k).length = k := by
  unfold prods
  rw [List.length_map, List.length_range]
/-- the weights: for each place the product of the lower bases -/
def wts (zs : List Int) : List Int := (List.range zs.length).map fun i => prodL (zs.drop (i + 1))
theorem wts_eq (zs : List Int) : (prods zs zs.length).reverse = wts zs := by
  apply List.ext_getElem
  · rw [List.length_reverse, prods_len]
    unfold wts
    rw [List.length_map, List.length_range]
  · intro i h1 h2
    rw [List.length_reverse, prods_len] at h1
    have e : zs.length - (zs.length - 1 - i) = i + 1 := by omega
    simp only [prods, wts, List.getElem_reverse, List.getElem_map, List.getElem_range, List.length_map, List.length_range, e]
/-- a datum that is bases -/
theorem basesD_ints : ∀ {x : PyData}, basesD x = true → ∃ zs, Bss zs ∧ (x = .list (intsD zs) ∨ x = .tuple (intsD zs)) := by
  have rowI : ∀ ds : List PyData, ds.all baseD = true → ∃ zs : List Int, ds = intsD zs ∧ ∀ z ∈ zs, 2 ≤ z ∧ z ≤ 100 := by
    intro ds
    induction ds with
    | nil => exact fun _ => ⟨[], rfl, fun z hz => (List.not_mem_nil hz).elim⟩
    | cons d ds ih =>
      intro h
      rw [List.all_cons, Bool.and_eq_true] at h
      obtain ⟨zs, e, hz⟩ := ih h.2
      match d, h.1 with
      | .int z, hb =>
        have hb' : (decide (2 ≤ z) && decide (z ≤ 100)) = true := hb
        rw [Bool.and_eq_true, decide_eq_true_eq, decide_eq_true_eq] at hb'
        refine ⟨z :: zs, by rw [e]; rfl, fun y hy => ?_⟩
        rcases List.mem_cons.mp hy with hy | hy
        · rw [hy]
          exact hb'
        · exact hz y hy
  have go : ∀ ds : List PyData, (decide (1 ≤ ds.length) && decide (ds.length ≤ 4) && ds.all baseD) = true → ∃ zs, Bss zs ∧ ds = intsD zs := by
    intro ds h
    rw [Bool.and_eq_true, Bool.and_eq_true, decide_eq_true_eq, decide_eq_true_eq] at h
    obtain ⟨zs, e, hz⟩ := rowI ds h.2
    have hl : ds.length = zs.length := by rw [e]; exact List.length_map _
    exact ⟨zs, ⟨by omega, by omega, hz⟩, e⟩
  intro x h
  match x, h with
  | .list ds, h =>
    obtain ⟨zs, b, e⟩ := go ds h
    exact ⟨zs, b, .inl (by rw [e])⟩
  | .tuple ds, h =>
    obtain ⟨zs, b, e⟩ := go ds h
    exact ⟨zs, b, .inr (by rw [e])⟩
theorem basesD_of {zs : List Int} (b : Bss zs) : basesD (.list (intsD zs)) = true ∧ basesD (.tuple (intsD zs)) = true := by
  have h1 : (intsD zs).length = zs.length := List.length_map _
  have h2 : (intsD zs).all baseD = true := by
    rw [List.all_eq_true]
    intro d hd
    obtain ⟨z, hz, e⟩ := List.mem_map.mp hd
    rw [← e]
    obtain ⟨h3, h4⟩ := b.2.2 z hz
    show (decide (2 ≤ z) && decide (z ≤ 100)) = true
    rw [decide_eq_true h3, decide_eq_true h4]
    rfl
  have h : (decide (1 ≤ (intsD zs).length) && decide ((intsD zs).length ≤ 4) && (intsD zs).all baseD) = true := by
    rw [h1, h2, decide_eq_true b.1, decide_eq_true b.2.1]
    rfl
  exact ⟨h, h⟩
theorem DqA.toInts {K : PySem.W.Frag} {d : Addr} {H : Hp} : ∀ {zs : List Int} {vs : List V}, DqA K d H vs (intsD zs) → vs = zs.map V.int
  | [], _, h => by cases h; rfl
  | z :: zs, _, h => by
    cases h with
    | cons a r =>
      cases a
      rw [DqA.toInts r]
      rfl
/-- the products, or what is raised of what is no bases -/
def spProds (K : PySem.W.Frag) (n : Str) : Sp := fun vs H Q E => ∃ (v : V) (d : Addr) (x : PyData), vs = [v] ∧ Dq K d H v x ∧
  (∀ zs, Bss zs → (x = .list (intsD zs) ∨ x = .tuple (intsD zs)) → ∀ p H', Same H H' → H p = none → H' p = some (.lst ((prods zs (zs.length + 1)).map V.int)) → Q (.ref p) H') ∧
  (basesD x = false → ∀ dd H', Same H H' → H dd = none → H' dd = some (.xd [("at", .non)]) → E (.ref (He.ga K n)) (some dd) H')
/-- the weights -/
def spWts (K : PySem.W.Frag) (n : Str) : Sp := fun vs H Q E => ∃ (v : V) (d : Addr) (x : PyData), vs = [v] ∧ Dq K d H v x ∧
  (∀ zs, Bss zs → (x = .list (intsD zs) ∨ x = .tuple (intsD zs)) → ∀ p H', Same H H' → H p = none → H' p = some (.tup ((wts zs).map V.int)) → Q (.ref p) H') ∧
  (basesD x = false → ∀ dd H', Same H H' → H dd = none → H' dd = some (.xd [("at", .non)]) → E (.ref (He.ga K n)) (some dd) H')
/-- how many there are -/
def spCnt (K : PySem.W.Frag) (n : Str) : Sp := fun vs H Q E => ∃ (v : V) (d : Addr) (x : PyData), vs = [v] ∧ Dq K d H v x ∧
  (∀ zs, Bss zs → (x = .list (intsD zs) ∨ x = .tuple (intsD zs)) → ∀ H', Same H H' → Q (.int (prodL zs)) H') ∧
  (basesD x = false → ∀ dd H', Same H H' → H dd = none → H' dd = some (.xd [("at", .non)]) → E (.ref (He.ga K n)) (some dd) H')
end Ru

set_option Elab.async false
set_option linter.all false
set_option maxRecDepth 100000
set_option maxHeartbeats 2000000
namespace Ru
open PySem PySem.Spec PyProof.Rows L2
/-! ### what a call with a table behind it keeps -/
/-- all but what stands at d and the tables of code objects stays -/
def Ki (d : Addr) (H H' : Hp) : Prop := ∀ b o, H b = some o → b ≠ d → (∀ ps, o ≠ .tbl ps) → H' b = some o
theorem Ki.of {d : Addr} {H H' : Hp} (s : Bt d H H') : Ki d H H' := fun b o e n _ => s b o e n
theorem Ki.same {d : Addr} {H H' : Hp} (s : Same H H') : Ki d H H' := fun b o e _ _ => s b o e
theorem Ki.ext {d : Addr} {H H' : Hp} (s : LamX.ExtN H H') : Ki d H H' := fun b o e _ t => s b o e t
theorem Ki.refl {d : Addr} {H : Hp} : Ki d H H := fun _ _ e _ _ => e
theorem Ki.trans {d : Addr} {H H1 H2 : Hp} (x : Ki d H H1) (y : Ki d H1 H2) : Ki d H H2 := fun b o e n t => y b o (x b o e n t) n t
theorem Ki.rd {d a : Addr} {H H' : Hp} {u : HO} (s : Ki d H H') (n : a ≠ d) (hu : ∀ ps, u ≠ .tbl ps) (h : Rd H a u) : Rd H' a u := by
  rcases h with h | ⟨o, h⟩
  · exact .inl (s _ _ h n hu)
  · exact .inr ⟨o, s _ _ h n fun _ z => by cases z⟩
theorem Ki.seq {d a : Addr} {K : PySem.W.Frag} {H H' : Hp} {xs : List V} (s : Ki d H H') (n : a ≠ d) (h : SqL K H a xs) : SqL K H' a xs := h.imp (s.rd n fun _ z => by cases z) id
mutual
theorem Dq.ki {K : PySem.W.Frag} {d : Addr} {H H' : Hp} (s : Ki d H H') : ∀ {v : V} {x : PyData}, Dq K d H v x → Dq K d H' v x
  | _, _, .non => .non
  | _, _, .bl b => .bl b
  | _, _, .int i => .int i
  | _, _, .str x => .str x
  | _, _, .lst h n a => .lst (s.seq n h) n (DqA.ki s a)
  | _, _, .tup h n a => .tup (s.rd n (fun _ z => by cases z) h) n (DqA.ki s a)
  | _, _, .d0 h n => .d0 (s _ _ h n fun _ z => by cases z) n
  | _, _, .d1 h n => .d1 (s _ _ h n fun _ z => by cases z) n
theorem DqA.ki {K : PySem.W.Frag} {d : Addr} {H H' : Hp} (s : Ki d H H') : ∀ {vs : List V} {ds : List PyData}, DqA K d H vs ds → DqA K d H' vs ds
  | _, _, .nil => .nil
  | _, _, .cons a b => .cons (Dq.ki s a) (DqA.ki s b)
end
/-- a datum is read whatever address is set apart, if it doesn't meet it: here, one that holds no datum -/
theorem takes_len {X : Cx} {W : WX} (t : Takes X W) : Takes X fun cls d σ H => σ.length = X.N.length → W cls d σ H := fun u s' ⟨a, B, sI, pins, σ, H, cls, d, e, I, nb, up, sky, na, os, ag, w⟩ =>
  t u s' ⟨a, B, sI, pins, σ, H, cls, d, e, I, nb, up, sky, na, os, ag, w I.len⟩
/-- the classes that a law of refusals looks at -/
structure RfK (K : PySem.W.Frag) (mg : Str → Option Value) : Prop where
  gR : mg "RisingError" = some (.ref (He.ga K "RisingError"))
  gN : mg "NoNumeral" = some (.ref (He.ga K "NoNumeral"))
  gO : mg "Overflow" = some (.ref (He.ga K "Overflow"))
  gU : mg "Unlike" = some (.ref (He.ga K "Unlike"))
  g_isi : mg "isinstance" = none
  g_VE : mg "ValueError" = none
  ex : PySem.W.exmOne K (.ref (He.ga K "NoNumeral")) (.ref (He.ga K "RisingError")) = some true
  xk : ExK K (He.ga K "NoNumeral")
  kN : PySem.W.kitOne K (.ref (He.ga K "NoNumeral")) (.ref (He.ga K "NoNumeral")) = some true
  kO : PySem.W.kitOne K (.ref (He.ga K "NoNumeral")) (.ref (He.ga K "Overflow")) = some false
  kU : PySem.W.kitOne K (.ref (He.ga K "NoNumeral")) (.ref (He.ga K "Unlike")) = some false
  kV : PySem.W.kitOne K (.ref (He.ga K "NoNumeral")) (.type "ValueError") = some true
  no : PySem.W.findIn K (.ref (He.ga K "NoNumeral")) "at" = some none
/-- asked: it raises NoNumeral(None) -/
def TTref (K : PySem.W.Frag) : (XK → Hp → VK → Prop) → Hp → VK → Prop := fun tl H Q =>
  ∀ Qn : VK, tl (fun cls d H' => cls = .ref (He.ga K "NoNumeral") ∧ ∃ dd, d = some dd ∧ H' dd = some (.xd [("at", .non)]) ∧ ∀ H'', Same H' H'' → Q (.bl true) H'') H Qn
/-- okG, for a def that makes lambdas: which code object it has -/
theorem okGT {P : Program} {w : World} {K : PySem.W.Frag} {mg : Str → Option Value} {base : Heap} {CX : CXT} {x qual : Str} {params : Arguments} {body : List Stmt} {scope : Scope} {dvs : List V} {kws : List (Str × V)} {f : Addr} {fd : FuncData} {N ps : List Str} {k : Nat} {sp : Sp}
    (F : FunD K x qual params body scope dvs kws f fd) (S : FnScope N ps scope) (len : ∀ vs H Q E, sp vs H Q E → vs.length = ps.length)
    (hb : ∀ (c : Addr) (A : Around) (outer : List Env) (s : Shared) (H : Hp) (vs : List V) (Q : VK) (E : XK), (∀ p : Str × Option Str, He.fAd K p = f → He.codeOf K p = c) → A.guards = some [] → Room k (A.deeper (envOfC qual scope s.heap.objs.size f (.ref c))) → sp vs H Q E →
      ∃ t, PSs (cxOf CX P w K mg base N qual scope f (.ref c) A outer s H E) body t ∧ t { nx := fun _ H' => Q .non H', rt := Q } (start N vs) H) : FnG P w K mg base CX (k + 1) f fd ps sp := by
  obtain ⟨_, _, _, _, _, _, _, code, _, _, e, lk, hcd, _⟩ := F.ex
  subst e
  obtain ⟨c, e⟩ := He.codeIn_ref hcd
  subst e
  exact ⟨len, fun A outer s H args us vs Q E g r e0 b v h => LamX.run_ofS lk hcd S r e0 b v (len vs H Q E h) fun r' => hb c A outer s H vs Q E (fun p e => He.codeOf_eq (by rw [e]; exact lk) rfl) g r' h⟩
end Ru

set_option Elab.async false
set_option linter.all false
set_option maxRecDepth 100000
set_option maxHeartbeats 2000000
namespace Ru
open PySem PySem.Spec PyProof.Rows L2
/-! ### how long a list's text is -/
theorem len_app (a b : Str) : (a ++ b).length = a.length + b.length := by
  show (a.cps ++ b.cps).size = _
  rw [Array.size_append]
  rfl
theorem textFrom_le : ∀ (ts : List Str) (k : Nat) (acc : Str) (n : Nat), (∀ t ∈ ts, t.length ≤ n) → (textFrom k acc ts).length ≤ acc.length + ts.length * (n + 2)
  | [], k, acc, n, _ => by
    show acc.length ≤ _
    exact Nat.le_add_right _ _
  | t :: ts, k, acc, n, h => by
    have ih := textFrom_le ts (k + 1) (acc ++ (if k > 0 then ", " else "" : String) ++ t) n fun x hx => h x (List.mem_cons_of_mem _ hx)
    have h1 := h t List.mem_cons_self
    have h2 : ((if k > 0 then ", " else "" : String) : Str).length ≤ 2 := by
      by_cases c : k > 0
      · rw [if_pos c]
        decide
      · rw [if_neg c]
        decide
    rw [len_app, len_app] at ih
    show (textFrom (k + 1) (acc ++ (if k > 0 then ", " else "" : String) ++ t) ts).length ≤ _
    have e : (t :: ts).length * (n + 2) = ts.length * (n + 2) + (n + 2) := by rw [List.length_cons, Nat.succ_mul]
    omega
theorem listText_le {ts : List Str} {n : Nat} (h : ∀ t ∈ ts, t.length ≤ n) : (listText ts).length ≤ 2 + ts.length * (n + 2) := by
  have h1 := textFrom_le ts 0 ("[" : String) n h
  have h2 : (("[" : String) : Str).length = 1 := by decide
  have h3 : (("]" : String) : Str).length = 1 := by decide
  show (textFrom 0 ("[" : String) ts ++ ("]" : String)).length ≤ _
  rw [len_app]
  omega
theorem join_le {n : Nat} : ∀ {ts : List Str}, (∀ t ∈ ts, t.length ≤ n) → (Str.join ", " ts).length ≤ ts.length * (n + 2)
  | [], _ => by
    show (0 : Nat) ≤ _
    exact Nat.zero_le _
  | [x], h => by
    have h1 := h x List.mem_cons_self
    show x.length ≤ 1 * (n + 2)
    omega
  | x :: y :: r, h => by
    have ih := join_le (n := n) (ts := y :: r) fun t ht => h t (List.mem_cons_of_mem _ ht)
    have h1 := h x List.mem_cons_self
    have h2 : ((", " : String) : Str).length = 2 := by decide
    show (x ++ ", " ++ Str.join ", " (y :: r)).length ≤ _
    rw [len_app, len_app, h2]
    have e : (x :: y :: r).length * (n + 2) = (y :: r).length * (n + 2) + (n + 2) := by rw [List.length_cons, Nat.succ_mul]
    omega
theorem tupleText_le {ts : List Str} {n : Nat} (h : ∀ t ∈ ts, t.length ≤ n) : (tupleText ts).length ≤ 3 + ts.length * (n + 2) := by
  have h1 := join_le h
  have h2 : (("(" : String) : Str).length = 1 := by decide
  have h3 : ((if ts.length == 1 then ",)" else ")" : String) : Str).length ≤ 2 := by
    by_cases c : (ts.length == 1) = true
    · rw [if_pos c]
      decide
    · rw [if_neg c]
      decide
  unfold tupleText
  rw [len_app, len_app, h2]
  omega
/-- a datum that is shown in at most L signs -/
structure Md (D L : Nat) (d : PyData) : Prop where
  s : d.showable = true
  dp : d.depth ≤ D
  l : d.shown.length ≤ L
theorem Md.mono {D D' L L' : Nat} {d : PyData} (h : Md D L d) (h1 : D ≤ D') (h2 : L ≤ L') : Md D' L' d := ⟨h.s, Nat.le_trans h.dp h1, Nat.le_trans h.l h2⟩
theorem Md.sh {D L : Nat} {d : PyData} (h : Md D L d) (h1 : D ≤ 40) (h2 : L ≤ 100000) : Sh d := ⟨h.s, Nat.le_trans h.dp h1, Nat.le_trans h.l (Nat.le_trans h2 (by decide))⟩
theorem Md.all {D L : Nat} : ∀ {ds : List PyData}, (∀ d ∈ ds, Md D L d) → PyData.showableAll ds = true ∧ PyData.depthAll ds ≤ D ∧ (∀ t ∈ PyData.shownAll ds, t.length ≤ L) ∧ (PyData.shownAll ds).length = ds.length
  | [], _ => ⟨by simp [PyData.showableAll], by simp [PyData.depthAll], by simp [PyData.shownAll], by simp [PyData.shownAll]⟩
  | d :: ds, h => by
    obtain ⟨i1, i2, i3, i4⟩ := Md.all fun x hx => h x (List.mem_cons_of_mem _ hx)
    have hd := h d List.mem_cons_self
    refine ⟨by rw [PyData.showableAll, hd.s, i1]; rfl, by rw [PyData.depthAll]; exact Nat.max_le.mpr ⟨hd.dp, i2⟩, ?_, by rw [PyData.shownAll, List.length_cons, List.length_cons, i4]⟩
    intro t ht
    rw [PyData.shownAll] at ht
    rcases List.mem_cons.mp ht with e | ht
    · rw [e]
      exact hd.l
    · exact i3 t ht
theorem Md.list {D L : Nat} {ds : List PyData} (h : ∀ d ∈ ds, Md D L d) : Md (D + 1) (3 + ds.length * (L + 2)) (.list ds) := by
  obtain ⟨i1, i2, i3, i4⟩ := Md.all h
  refine ⟨by rw [PyData.showable]; exact i1, by rw [PyData.depth]; omega, ?_⟩
  rw [PyData.shown]
  have z := listText_le i3
  rw [i4] at z
  omega
theorem Md.tuple {D L : Nat} {ds : List PyData} (h : ∀ d ∈ ds, Md D L d) : Md (D + 1) (3 + ds.length * (L + 2)) (.tuple ds) := by
  obtain ⟨i1, i2, i3, i4⟩ := Md.all h
  refine ⟨by rw [PyData.showable]; exact i1, by rw [PyData.depth]; omega, ?_⟩
  rw [PyData.shown]
  have z := tupleText_le i3
  rw [i4] at z
  omega
theorem Md.int {z : Int} (h : z.natAbs.log2 < 140) : Md 1 141 (.int z) := by
  refine ⟨by rw [PyData.showable]; exact decide_eq_true (by omega), by rw [PyData.depth]; omega, ?_⟩
  rw [PyData.shown]
  show (Str.ofString (toString z)).length ≤ 141
  rw [PySem.ofString_length]
  exact int_text_length_le (k := 140) (by decide) h
theorem log2_small {z : Int} (h0 : 0 ≤ z) (h1 : z ≤ 100 ^ 4) : z.natAbs.log2 < 140 := by
  have h : z.natAbs < 2 ^ 140 := by omega
  by_cases hz : z.natAbs = 0
  · rw [hz]
    decide
  · exact (Nat.log2_lt hz).mpr h
end Ru

set_option Elab.async false
set_option linter.all false
set_option maxRecDepth 100000
set_option maxHeartbeats 2000000
namespace Ru
open PySem PySem.Spec PyProof.Rows L2
/-! ### a menu of values beside a pen and a row of numbers -/
structure Bag (K : PySem.W.Frag) (d l p : Addr) (cells zs : List Int) (a r : Int) (H0 H : Hp) (vs : List V) (ds : List PyData) : Prop where
  bt : Bt d H0 H
  pen : PenL H d l cells a r
  row : H p = some (.lst (zs.map V.int))
  ne : p ≠ d
  all : DqA K d H vs ds
section
variable {K : PySem.W.Frag} {d l p : Addr} {cells zs : List Int} {a r : Int} {H0 H H' : Hp} {vs : List V} {ds : List PyData}
theorem Bag.same (s : Same H H') (b : Bag K d l p cells zs a r H0 H vs ds) : Bag K d l p cells zs a r H0 H' vs ds := ⟨b.bt.trans (.of s), b.pen.same s, s _ _ b.row, b.ne, b.all.same s⟩
theorem Bag.add (b : Bag K d l p cells zs a r H0 H vs ds) (s : Same H H') {v : V} {x : PyData} (h : Dq K d H' v x) : Bag K d l p cells zs a r H0 H' (vs ++ [v]) (ds ++ [x]) :=
  ⟨b.bt.trans (.of s), b.pen.same s, s _ _ b.row, b.ne, (b.all.same s).app (.cons h .nil)⟩
theorem Bag.put (b : Bag K d l p cells zs a r H0 H vs ds) {v : V} {x : PyData} (h : Dq K d H v x) : Bag K d l p cells zs a r H0 H (vs ++ [v]) (ds ++ [x]) := b.add (Same.refl _) h
theorem Bag.off (b : Bag K d l p cells zs a r H0 H vs ds) {q : Addr} (h : H q = none) : q ≠ d := (ne_of_none b.pen.dk h).symm
theorem Bag.rowD (b : Bag K d l p cells zs a r H0 H vs ds) : Dq K d H (.ref p) (.list (intsD zs)) := .lst (SqL.of b.row) b.ne dq_ints
/-- one of the menu is picked -/
theorem Bag.pick (b : Bag K d l p cells zs a r H0 H vs ds) (s : Bt d H H') {j : Nat} {v : V} (hj : vs[j]? = some v) : ∃ x, x ∈ ds ∧ Dq K d H' v x := by
  obtain ⟨x, h1, h2⟩ := b.all.get hj
  exact ⟨x, List.mem_of_getElem? h1, h2.bt s⟩
end
theorem cutTo {xs : List V} {n : Nat} (h : n ≤ xs.length) : cutV xs none (some (n : Int)) = xs.take n := by
  unfold cutV
  rw [show HT.sIx xs.length 0 none = 0 from rfl, HT.sIx_nat, Nat.min_eq_left h, List.drop_zero, Nat.sub_zero]
theorem cutFrom {xs : List V} {n : Nat} (h : n ≤ xs.length) : cutV xs (some (n : Int)) none = xs.drop n := by
  unfold cutV
  rw [HT.sIx_nat, Nat.min_eq_left h, show HT.sIx xs.length xs.length none = xs.length from rfl, List.take_of_length_le (by rw [List.length_drop]; exact Nat.le_refl _)]
theorem cutTop {xs : List V} {n : Nat} (h : xs.length ≤ n) : cutV xs none (some (n : Int)) = xs := by
  unfold cutV
  rw [show HT.sIx xs.length 0 none = 0 from rfl, HT.sIx_nat, Nat.min_eq_right h, List.drop_zero, Nat.sub_zero, List.take_length]
theorem basesD_long {ds : List PyData} (h : 4 < ds.length) : basesD (.list ds) = false ∧ basesD (.tuple ds) = false := by
  have e : (decide (1 ≤ ds.length) && decide (ds.length ≤ 4) && ds.all baseD) = false := by
    rw [decide_eq_false (by omega : ¬ ds.length ≤ 4), Bool.and_false, Bool.false_and]
  exact ⟨e, e⟩
theorem basesD_odd {ds : List PyData} {x : PyData} (hm : x ∈ ds) (h : baseD x = false) : basesD (.list ds) = false ∧ basesD (.tuple ds) = false := by
  have e0 : ds.all baseD = false := by
    cases q : ds.all baseD with
    | false => rfl
    | true =>
      have z := List.all_eq_true.mp q x hm
      rw [h] at z
      cases z
  have e : (decide (1 ≤ ds.length) && decide (ds.length ≤ 4) && ds.all baseD) = false := by rw [e0, Bool.and_false]
  exact ⟨e, e⟩
end Ru

set_option Elab.async false
set_option linter.all false
set_option maxRecDepth 100000
set_option maxHeartbeats 0
namespace K01
open PySem PySem.Spec PyProof.Rows L2 Ru
def top (i : Nat) : Stmt := PySem.Challenge.pw_risingread_k01_bases_and_weights.main.body.getD i (.Pass ⟨0, 0, 0, 0⟩)
abbrev sNoNumeral : Stmt := inClass (top 7) 0
abbrev sWhole : Stmt := top 3
abbrev sSeq : Stmt := top 4
abbrev sIsB : Stmt := top 17
abbrev sProds : Stmt := top 18
abbrev sWts : Stmt := top 19
abbrev sCnt : Stmt := top 20
abbrev sPen : Stmt := top 35
abbrev sTake : Stmt := top 36
abbrev sPick : Stmt := top 37
abbrev sBase : Stmt := top 38
abbrev sBent : Stmt := top 39
abbrev sRef : Stmt := top 40
abbrev sProd : Stmt := top 41
abbrev sRight : Stmt := top 42
abbrev sOddR : Stmt := top 43
abbrev sLaw : Stmt := top 44
def dWhole : He.DefD := ⟨("is_whole", none), "is_whole", "is_whole", defArgs sWhole, defBody sWhole, defScope sWhole, [], []⟩
def dSeq : He.DefD := ⟨("is_sequence", none), "is_sequence", "is_sequence", defArgs sSeq, defBody sSeq, defScope sSeq, [], []⟩
def dIsB : He.DefD := ⟨("is_bases", none), "is_bases", "is_bases", defArgs sIsB, defBody sIsB, defScope sIsB, [], []⟩
def dProds : He.DefD := ⟨("_products", none), "_products", "_products", defArgs sProds, defBody sProds, defScope sProds, [], []⟩
def dWts : He.DefD := ⟨("weights", none), "weights", "weights", defArgs sWts, defBody sWts, defScope sWts, [], []⟩
def dCnt : He.DefD := ⟨("count_of", none), "count_of", "count_of", defArgs sCnt, defBody sCnt, defScope sCnt, [], []⟩
def dPen : He.DefD := ⟨("_law_pen", none), "_law_pen", "_law_pen", defArgs sPen, defBody sPen, defScope sPen, [], []⟩
def dTake : He.DefD := ⟨("_law_take", none), "_law_take", "_law_take", defArgs sTake, defBody sTake, defScope sTake, [], []⟩
def dPick : He.DefD := ⟨("_law_pick", none), "_law_pick", "_law_pick", defArgs sPick, defBody sPick, defScope sPick, [], []⟩
def dBase : He.DefD := ⟨("_law_base", none), "_law_base", "_law_base", defArgs sBase, defBody sBase, defScope sBase, [], []⟩
def dBent : He.DefD := ⟨("_law_bent", none), "_law_bent", "_law_bent", defArgs sBent, defBody sBent, defScope sBent, [], []⟩
def dRef : He.DefD := ⟨("_law_refused", none), "_law_refused", "_law_refused", defArgs sRef, defBody sRef, defScope sRef, [], []⟩
def dProd : He.DefD := ⟨("_law_product", none), "_law_product", "_law_product", defArgs sProd, defBody sProd, defScope sProd, [], []⟩
def dRight : He.DefD := ⟨("_law_right", none), "_law_right", "_law_right", defArgs sRight, defBody sRight, defScope sRight, [], []⟩
def dOddR : He.DefD := ⟨("_law_odd_right", none), "_law_odd_right", "_law_odd_right", defArgs sOddR, defBody sOddR, defScope sOddR, [], []⟩
def dLaw : He.DefD := ⟨("law", none), "law", "law", defArgs sLaw, defBody sLaw, defScope sLaw, [], []⟩
def dNoNumeral : He.DefD := ⟨("NoNumeral", some "__init__"), "__init__", "NoNumeral.__init__", defArgs sNoNumeral, defBody sNoNumeral, defScope sNoNumeral, [], []⟩
def fn : List He.DefD := [dWhole, dSeq, dIsB, dProds, dWts, dCnt, dPen, dTake, dPick, dBase, dBent, dRef, dProd, dRight, dOddR, dLaw, dNoNumeral]
end K01

set_option Elab.async false
set_option linter.all false
set_option maxRecDepth 100000
set_option maxHeartbeats 4000000
namespace K01
open PySem PySem.Spec PyProof.Rows L2 Ru
theorem sc_take : FnScope ["_law_pen_here", "_law_limit", "_law_digit", "_law_at", "_law_cell", "_law_great", "_law_mixed"] ["_law_pen_here", "_law_limit"] (defScope sTake) := ⟨rfl, rfl, rfl, by decide +kernel, rfl, by decide +kernel, by decide +kernel⟩
theorem qo1 : (0 : Int) < 2147483629 := by decide
theorem qo2 : (0 : Int) < 2147483587 := by decide
theorem qo3 : (0 : Int) < 2147483563 := by decide
section
variable {P : Program} {w : World} {K : PySem.W.Frag} {mg : Str → Option Value} {base : Heap}
theorem ok_take {f : Addr} {fd : FuncData} (F : FunD K "_law_take" "_law_take" (defArgs sTake) (defBody sTake) (defScope sTake) [] [] f fd) (g_int : mg "int" = none) (g_len : mg "len" = none) (g_abs : mg "abs" = none) :
    FnOk P w K mg base CX0 1 f fd ["_law_pen_here", "_law_limit"] spTakeL := by
  refine F.ok sc_take (fun vs H Q E h => ?_) (fun cdv A outer s H vs Q E hr h => ?_)
  · obtain ⟨d, l, cells, a, r, m, rfl, _⟩ := h
    rfl
  · obtain ⟨d, l, cells, a, r, m, rfl, PA, ha, hm0, hm1, k⟩ := h
    have hu := hu_of hr
    have hu64 := hr.units
    have sc := sc_take
    refine ⟨_, PSs.nox (pss_cons (ps_if (pt_cmpR op_gt (pe_ix ix_list (pv 0) pe_int (fun _ _ => rfl)) pe_int (nomark _))
        (pss_cons (ps_set (i := 2) sc.nd rfl (Or.inl rfl) (pe_op op_mod (pe_callTy call_int1 (by rfl) g_int boot_int (pa_cons (pe_ix ix_list (pv 0) pe_int (fun _ _ => rfl)) pa_nil)) (pv 1)))
        (pss_cons (ps_asg (pe_op op_fdiv (pe_ix ix_list (pv 0) pe_int (fun _ _ => rfl)) (pv 1)) (pg_sub (pv 0) pe_int set_list))
        (pss_one (ps_ret (pv 2)))))
        pss_nil)
      (pss_cons (ps_set (i := 3) sc.nd rfl (Or.inl rfl) (pe_ix ix_list (pv 0) pe_int (fun _ _ => rfl)))
      (pss_cons (ps_asg (pe_op op_add (pv 3) pe_int) (pg_sub (pv 0) pe_int set_list))
      (pss_cons (ps_set (i := 4) sc.nd rfl (Or.inl rfl) (pe_op op_add (pe_op op_mul pe_int (pv 3)) pe_int))
      (pss_cons (ps_if (pt_cmpR (op_neD hu64) (pe_ix ix_list (pv 0) pe_int (fun _ _ => rfl)) (pe_lst pa_nil) (nomark _))
        (pss_one (ps_set (i := 4) sc.nd rfl (Or.inl rfl) (pe_ix ix_list (pe_ix ix_list (pv 0) pe_int (fun _ _ => rfl)) (pe_op op_mod (pe_callTy call_int1 (by rfl) g_int boot_int (pa_cons (pv 3) pa_nil)) (pe_callB call_len_seq (by rfl) g_len PySem.boot_len (pa_cons (pe_ix ix_list (pv 0) pe_int (fun _ _ => rfl)) pa_nil))) (fun _ _ => rfl))))
        pss_nil)
      (pss_cons (ps_if (PW.pt (pw_and (pt_cmpR op_lt (pv 3) (pe_callB call_len_seq (by rfl) g_len PySem.boot_len (pa_cons (pe_ix ix_list (pv 0) pe_int (fun _ _ => rfl)) pa_nil)) (nomark _)) (pw_and1 (pt_cmpR op_ge (pe_callB call_abs (by rfl) g_abs boot_abs (pa_cons (pv 4) pa_nil)) (pe_op op_pow pe_int pe_int) (nomark _)))))
        (pss_cons (ps_set (i := 5) sc.nd rfl (Or.inl rfl) (pe_op op_add (pe_op op_mul pe_int (pe_callB call_abs (by rfl) g_abs boot_abs (pa_cons (pv 4) pa_nil))) (pe_callTy call_int1 (by rfl) g_int boot_int (pa_cons (pe_cmpR op_lt (pv 4) pe_int (nomark _)) pa_nil))))
        (pss_cons (ps_asg (pe_op op_fdiv (pv 5) (pv 1)) (pg_sub (pv 0) pe_int set_list))
        (pss_one (ps_ret (pe_op op_mod (pe_callTy call_int1 (by rfl) g_int boot_int (pa_cons (pv 5) pa_nil)) (pv 1))))))
        pss_nil)
      (pss_cons (ps_set (i := 6) sc.nd rfl (Or.inl rfl) (pe_op op_mod (pe_callTy call_int1 (by rfl) g_int boot_int (pa_cons (pe_op op_pow (pe_op op_add (pe_op op_add (pe_op op_mod (pe_callTy call_int1 (by rfl) g_int boot_int (pa_cons (pv 4) pa_nil)) pe_int) (pe_op op_mul pe_int (pv 3))) pe_int) pe_int) pa_nil)) pe_int))
      (pss_cons (ps_set (i := 6) sc.nd rfl (Or.inl rfl) (pe_op op_mod (pe_callTy call_int1 (by rfl) g_int boot_int (pa_cons (pe_op op_pow (pe_op op_add (pe_op op_add (pe_op op_mul (pv 6) (pe_op op_add (pe_op op_mul pe_int (pv 3)) pe_int)) (pe_op op_mul (pe_op op_mul pe_int (pv 3)) (pv 3))) pe_int) pe_int) pa_nil)) pe_int))
      (pss_one (ps_ret (pe_op op_mod (pe_callTy call_int1 (by rfl) g_int boot_int (pa_cons (pe_op op_fdiv (pv 6) pe_int) pa_nil)) (pv 1)))))))))))), ?_⟩
    have a0 := PA.a0
    have sq := sq_leL a0 ha rfl
    refine ⟨_, rfl, d, _, _, _, rfl, rfl, SqL.of PA.dk, rfl, _, _, rfl, rfl, _, rfl, ?_⟩
    refine ifC (fun h0 => ?_) (fun h0 => ?_)
    · refine ⟨_, rfl, d, _, _, _, rfl, rfl, SqL.of PA.dk, rfl, .inl ⟨_, rfl, _, rfl, _, _, rfl, rfl, hm0, ?_⟩⟩
      refine ⟨_, rfl, d, _, _, _, rfl, rfl, SqL.of PA.dk, rfl, _, rfl, _, _, rfl, rfl, ⟨hm0, hm1⟩, _, rfl, d, _, _, _, rfl, rfl, PA.dk, rfl, ?_⟩
      exact ⟨_, rfl, k _ a _ _ (Int.emod_nonneg _ (by omega)) (Int.emod_lt_of_pos _ hm0) (by omega) .put (PA.but PA.a0 (Int.ediv_nonneg PA.r0 (by omega)))⟩
    · refine ⟨_, rfl, d, _, _, _, rfl, rfl, SqL.of PA.dk, rfl, ?_⟩
      refine ⟨_, rfl, _, _, rfl, rfl, _, rfl, d, _, _, _, rfl, rfl, PA.dk, rfl, ?_⟩
      have P1 : PenL (upd H d (.lst [.ref l, .int (a + 1), .int r])) d l cells (a + 1) r := PA.but (by omega) PA.r0
      have k1 : Bt d H (upd H d (.lst [.ref l, .int (a + 1), .int r])) := .put
      refine ⟨_, rfl, _, _, rfl, rfl, .inl ⟨by decide, by decide⟩, _, _, rfl, rfl, ?_⟩
      refine ⟨_, rfl, d, _, _, _, rfl, rfl, SqL.of P1.dk, rfl, by show 0 ≤ sizeLine; decide, fun q hq => ?_⟩
      have P2 := P1.same (upd_new (o := .lst []) hq)
      have k2 := k1.trans (.of (upd_new (o := .lst []) hq))
      refine ⟨.list (intsD cells), .list [], .lst (SqL.of P2.cl) dp_ints, .lst (SqL.of upd_same) .nil, ?_, ?_, _, rfl, ?_⟩
      · exact shaped_ints
      · exact shaped_nil
      rw [eqv_nil]
      cases he : cells.isEmpty with
      | true =>
        refine iteF ?_
        refine ⟨_, rfl, _, rfl, d, _, _, _, rfl, rfl, SqL.of P2.dk, rfl, l, _, rfl, .inl (SqL.of P2.cl), _, _, rfl, rfl, _, rfl, ?_⟩
        refine ifC (fun h1 => ?_) (fun h1 => ?_)
        · refine ⟨_, rfl, _, rfl, _, _, rfl, rfl, ⟨by decide, by decide, by decide⟩, _, _, rfl, rfl, _, rfl, ?_⟩
          refine ifC (fun h2 => ?_) (fun h2 => ?_)
          · have g0 : 0 ≤ 2 * (if (50021 * a + 311) < 0 then -(50021 * a + 311) else (50021 * a + 311)) + (if decide ((50021 * a + 311) < 0) = true then 1 else 0) := by
              by_cases h : (50021 * a + 311) < 0
              · rw [if_pos h, if_pos (decide_eq_true h)]
                omega
              · rw [if_neg h, if_neg (by rw [decide_eq_false h]; exact Bool.false_ne_true)]
                omega
            refine ⟨_, rfl, _, rfl, _, _, rfl, rfl, .inl ⟨by decide, by decide⟩, _, rfl, _, _, rfl, rfl, .inr ⟨_, rfl, _, _, rfl, rfl, ?_⟩⟩
            refine ⟨_, rfl, _, rfl, _, _, rfl, rfl, ⟨hm0, hm1⟩, _, rfl, d, _, _, _, rfl, rfl, P2.dk, rfl, ?_⟩
            refine ⟨_, rfl, .inl ⟨_, rfl, _, rfl, _, _, rfl, rfl, hm0, ?_⟩⟩
            refine k _ (a + 1) _ _ (Int.emod_nonneg _ (by omega)) (Int.emod_lt_of_pos _ hm0) (Int.le_refl _) (k2.trans .put) (P2.but (by omega) (Int.ediv_nonneg g0 (by omega)))
          · have c0 := Int.emod_nonneg (50021 * a + 311) (show (2147483629 : Int) ≠ 0 by decide)
            have c1 := Int.emod_lt_of_pos (50021 * a + 311) (show (0 : Int) < 2147483629 by decide)
            refine ⟨_, rfl, .inl ⟨_, rfl, _, _, rfl, rfl, qo1, _, rfl, _, _, rfl, rfl, .inl ⟨by decide, by decide⟩, _, _, rfl, rfl, _, _, rfl, rfl, ?_⟩⟩
            refine ⟨_, _, rfl, rfl, ⟨by decide, by decide, by omega⟩, .inl ⟨_, rfl, _, _, rfl, rfl, qo2, ?_⟩⟩
            obtain ⟨y0, y1⟩ := mul_leL (x := (((50021 * a + 311) % 2147483629 + 40009 * a + 733) ^ Int.toNat 5) % 2147483587) (k := 3) (Int.emod_nonneg _ (by decide)) (Int.emod_lt_of_pos _ (by decide)) a0 ha (by decide) (by decide)
            refine ⟨_, rfl, _, rfl, _, _, rfl, rfl, .inl ⟨by decide, by decide⟩, _, _, rfl, rfl, _, _, rfl, rfl, .inl ⟨by omega, by omega⟩, ?_⟩
            refine ⟨_, rfl, _, _, rfl, rfl, .inl ⟨by decide, by decide⟩, _, rfl, _, _, rfl, rfl, .inl ⟨by omega, by omega⟩, _, _, rfl, rfl, _, _, rfl, rfl, ?_⟩
            refine ⟨_, _, rfl, rfl, ⟨by decide, by decide, by omega⟩, .inl ⟨_, rfl, _, _, rfl, rfl, qo3, ?_⟩⟩
            refine ⟨_, rfl, _, _, rfl, rfl, ⟨by decide, by decide⟩, .inl ⟨_, rfl, _, rfl, _, _, rfl, rfl, hm0, ?_⟩⟩
            exact k _ (a + 1) r _ (Int.emod_nonneg _ (by omega)) (Int.emod_lt_of_pos _ hm0) (Int.le_refl _) k2 P2
        · have c0 := Int.emod_nonneg (50021 * a + 311) (show (2147483629 : Int) ≠ 0 by decide)
          have c1 := Int.emod_lt_of_pos (50021 * a + 311) (show (0 : Int) < 2147483629 by decide)
          refine ⟨_, rfl, .inl ⟨_, rfl, _, _, rfl, rfl, qo1, _, rfl, _, _, rfl, rfl, .inl ⟨by decide, by decide⟩, _, _, rfl, rfl, _, _, rfl, rfl, ?_⟩⟩
          refine ⟨_, _, rfl, rfl, ⟨by decide, by decide, by omega⟩, .inl ⟨_, rfl, _, _, rfl, rfl, qo2, ?_⟩⟩
          obtain ⟨y0, y1⟩ := mul_leL (x := (((50021 * a + 311) % 2147483629 + 40009 * a + 733) ^ Int.toNat 5) % 2147483587) (k := 3) (Int.emod_nonneg _ (by decide)) (Int.emod_lt_of_pos _ (by decide)) a0 ha (by decide) (by decide)
          refine ⟨_, rfl, _, rfl, _, _, rfl, rfl, .inl ⟨by decide, by decide⟩, _, _, rfl, rfl, _, _, rfl, rfl, .inl ⟨by omega, by omega⟩, ?_⟩
          refine ⟨_, rfl, _, _, rfl, rfl, .inl ⟨by decide, by decide⟩, _, rfl, _, _, rfl, rfl, .inl ⟨by omega, by omega⟩, _, _, rfl, rfl, _, _, rfl, rfl, ?_⟩
          refine ⟨_, _, rfl, rfl, ⟨by decide, by decide, by omega⟩, .inl ⟨_, rfl, _, _, rfl, rfl, qo3, ?_⟩⟩
          refine ⟨_, rfl, _, _, rfl, rfl, ⟨by decide, by decide⟩, .inl ⟨_, rfl, _, rfl, _, _, rfl, rfl, hm0, ?_⟩⟩
          exact k _ (a + 1) r _ (Int.emod_nonneg _ (by omega)) (Int.emod_lt_of_pos _ hm0) (Int.le_refl _) k2 P2
      | false =>
        have hpos : 0 < cells.length := by
          cases cells with
          | nil => cases he
          | cons z zs => exact Nat.succ_pos _
        have m0 := Int.emod_nonneg a (show (cells.length : Int) ≠ 0 by omega)
        have m1 := Int.emod_lt_of_pos a (show (0 : Int) < cells.length by omega)
        obtain ⟨c, hc⟩ := cellAt m0 m1
        refine iteT ?_
        refine ⟨_, rfl, d, _, _, _, rfl, rfl, SqL.of P2.dk, rfl, _, rfl, .inl ⟨_, rfl, _, rfl, d, _, _, _, rfl, rfl, SqL.of P2.dk, rfl, l, _, rfl, .inl (SqL.of P2.cl), _, _, rfl, rfl, by rw [List.length_map]; omega, l, _, _, .int c, rfl, rfl, SqL.of P2.cl, by rw [List.length_map]; exact hc, ?_⟩⟩
        refine ⟨_, rfl, _, rfl, d, _, _, _, rfl, rfl, SqL.of P2.dk, rfl, l, _, rfl, .inl (SqL.of P2.cl), _, _, rfl, rfl, _, rfl, ?_⟩
        refine ifC (fun h1 => ?_) (fun h1 => ?_)
        · refine ⟨_, rfl, _, rfl, _, _, rfl, rfl, ⟨by decide, by decide, by decide⟩, _, _, rfl, rfl, _, rfl, ?_⟩
          refine ifC (fun h2 => ?_) (fun h2 => ?_)
          · have g0 : 0 ≤ 2 * (if c < 0 then -c else c) + (if decide (c < 0) = true then 1 else 0) := by
              by_cases h : c < 0
              · rw [if_pos h, if_pos (decide_eq_true h)]
                omega
              · rw [if_neg h, if_neg (by rw [decide_eq_false h]; exact Bool.false_ne_true)]
                omega
            refine ⟨_, rfl, _, rfl, _, _, rfl, rfl, .inl ⟨by decide, by decide⟩, _, rfl, _, _, rfl, rfl, .inr ⟨_, rfl, _, _, rfl, rfl, ?_⟩⟩
            refine ⟨_, rfl, _, rfl, _, _, rfl, rfl, ⟨hm0, hm1⟩, _, rfl, d, _, _, _, rfl, rfl, P2.dk, rfl, ?_⟩
            refine ⟨_, rfl, .inl ⟨_, rfl, _, rfl, _, _, rfl, rfl, hm0, ?_⟩⟩
            refine k _ (a + 1) _ _ (Int.emod_nonneg _ (by omega)) (Int.emod_lt_of_pos _ hm0) (Int.le_refl _) (k2.trans .put) (P2.but (by omega) (Int.ediv_nonneg g0 (by omega)))
          · have c0 := Int.emod_nonneg c (show (2147483629 : Int) ≠ 0 by decide)
            have c1 := Int.emod_lt_of_pos c (show (0 : Int) < 2147483629 by decide)
            refine ⟨_, rfl, .inl ⟨_, rfl, _, _, rfl, rfl, qo1, _, rfl, _, _, rfl, rfl, .inl ⟨by decide, by decide⟩, _, _, rfl, rfl, _, _, rfl, rfl, ?_⟩⟩
            refine ⟨_, _, rfl, rfl, ⟨by decide, by decide, by omega⟩, .inl ⟨_, rfl, _, _, rfl, rfl, qo2, ?_⟩⟩
            obtain ⟨y0, y1⟩ := mul_leL (x := ((c % 2147483629 + 40009 * a + 733) ^ Int.toNat 5) % 2147483587) (k := 3) (Int.emod_nonneg _ (by decide)) (Int.emod_lt_of_pos _ (by decide)) a0 ha (by decide) (by decide)
            refine ⟨_, rfl, _, rfl, _, _, rfl, rfl, .inl ⟨by decide, by decide⟩, _, _, rfl, rfl, _, _, rfl, rfl, .inl ⟨by omega, by omega⟩, ?_⟩
            refine ⟨_, rfl, _, _, rfl, rfl, .inl ⟨by decide, by decide⟩, _, rfl, _, _, rfl, rfl, .inl ⟨by omega, by omega⟩, _, _, rfl, rfl, _, _, rfl, rfl, ?_⟩
            refine ⟨_, _, rfl, rfl, ⟨by decide, by decide, by omega⟩, .inl ⟨_, rfl, _, _, rfl, rfl, qo3, ?_⟩⟩
            refine ⟨_, rfl, _, _, rfl, rfl, ⟨by decide, by decide⟩, .inl ⟨_, rfl, _, rfl, _, _, rfl, rfl, hm0, ?_⟩⟩
            exact k _ (a + 1) r _ (Int.emod_nonneg _ (by omega)) (Int.emod_lt_of_pos _ hm0) (Int.le_refl _) k2 P2
        · have c0 := Int.emod_nonneg c (show (2147483629 : Int) ≠ 0 by decide)
          have c1 := Int.emod_lt_of_pos c (show (0 : Int) < 2147483629 by decide)
          refine ⟨_, rfl, .inl ⟨_, rfl, _, _, rfl, rfl, qo1, _, rfl, _, _, rfl, rfl, .inl ⟨by decide, by decide⟩, _, _, rfl, rfl, _, _, rfl, rfl, ?_⟩⟩
          refine ⟨_, _, rfl, rfl, ⟨by decide, by decide, by omega⟩, .inl ⟨_, rfl, _, _, rfl, rfl, qo2, ?_⟩⟩
          obtain ⟨y0, y1⟩ := mul_leL (x := ((c % 2147483629 + 40009 * a + 733) ^ Int.toNat 5) % 2147483587) (k := 3) (Int.emod_nonneg _ (by decide)) (Int.emod_lt_of_pos _ (by decide)) a0 ha (by decide) (by decide)
          refine ⟨_, rfl, _, rfl, _, _, rfl, rfl, .inl ⟨by decide, by decide⟩, _, _, rfl, rfl, _, _, rfl, rfl, .inl ⟨by omega, by omega⟩, ?_⟩
          refine ⟨_, rfl, _, _, rfl, rfl, .inl ⟨by decide, by decide⟩, _, rfl, _, _, rfl, rfl, .inl ⟨by omega, by omega⟩, _, _, rfl, rfl, _, _, rfl, rfl, ?_⟩
          refine ⟨_, _, rfl, rfl, ⟨by decide, by decide, by omega⟩, .inl ⟨_, rfl, _, _, rfl, rfl, qo3, ?_⟩⟩
          refine ⟨_, rfl, _, _, rfl, rfl, ⟨by decide, by decide⟩, .inl ⟨_, rfl, _, rfl, _, _, rfl, rfl, hm0, ?_⟩⟩
          exact k _ (a + 1) r _ (Int.emod_nonneg _ (by omega)) (Int.emod_lt_of_pos _ hm0) (Int.le_refl _) k2 P2
/-- list(script[:63]), 0, 0 -/
theorem sc_pen : FnScope ["_law_script"] ["_law_script"] (defScope sPen) := ⟨rfl, rfl, rfl, by decide +kernel, rfl, by decide +kernel, by decide +kernel⟩
theorem ok_pen {f : Addr} {fd : FuncData} (F : FunD K "_law_pen" "_law_pen" (defArgs sPen) (defBody sPen) (defScope sPen) [] [] f fd) (g_list : mg "list" = none) :
    FnOk P w K mg base CX0 1 f fd ["_law_script"] (spPenL K) := by
  refine F.ok sc_pen (fun vs H Q E h => ?_) (fun cdv A outer s H vs Q E hr h => ?_)
  · obtain ⟨a, ns, rfl, _⟩ := h
    rfl
  · obtain ⟨a, ns, rfl, hS, hlen, k⟩ := h
    have sc := sc_pen
    have hl2 : (ns.map V.int).length ≤ 63 := by rw [List.length_map]; exact hlen
    refine ⟨_, PSs.nox (pss_one (ps_ret (pe_lst (pa_cons (pe_callTy call_list_of (by rfl) g_list boot_list (pa_cons (pe_slice sl_list (pv 0) po_none (po_some pe_int)) pa_nil)) (pa_cons pe_int (pa_cons pe_int pa_nil)))))), ?_⟩
    refine ⟨_, rfl, _, rfl, a, _, rfl, hS, fun p hp => ⟨p, _, rfl, .inl (SqL.of upd_same), fun l hl => ?_⟩⟩
    rw [cutL63 hl2] at hl ⊢
    refine ⟨by show 3 ≤ sizeLine; decide, fun d hd => ?_⟩
    have n2 : l ≠ d := ne_of_none upd_same hd
    refine k d l _ (fun b o e => ?_) ⟨upd_same, by rw [upd_ne n2]; exact upd_same, hlen, by decide, by decide⟩
    have n3 := ne_of_none e hp
    rw [upd_ne (ne_of_none (H := upd (upd H p (.lst (ns.map V.int))) l (.lst (ns.map V.int))) (by rw [upd_ne (ne_of_none (H := upd H p (.lst (ns.map V.int))) (by rw [upd_ne n3]; exact e) hl), upd_ne n3]; exact e) hd), upd_ne (ne_of_none (H := upd H p (.lst (ns.map V.int))) (by rw [upd_ne n3]; exact e) hl), upd_ne n3]
    exact e
end
end K01

set_option Elab.async false
set_option linter.all false
set_option maxRecDepth 100000
set_option maxHeartbeats 4000000
namespace K01
open PySem PySem.Spec PyProof.Rows L2 Ru
theorem sc_whole : FnScope ["thing"] ["thing"] (defScope sWhole) := ⟨rfl, rfl, rfl, by decide +kernel, rfl, by decide +kernel, by decide +kernel⟩
theorem sc_seq : FnScope ["thing"] ["thing"] (defScope sSeq) := ⟨rfl, rfl, rfl, by decide +kernel, rfl, by decide +kernel, by decide +kernel⟩
theorem sc_isb : FnScope ["thing", "base"] ["thing"] (defScope sIsB) := ⟨rfl, rfl, rfl, by decide +kernel, rfl, by decide +kernel, by decide +kernel⟩
theorem wb_and (x : PyData) : (if (wholeD x || decide (tyD x = "bool")) = true then !decide (tyD x = "bool") else false) = wholeD x := by
  cases x <;> simp [wholeD, tyD]
section
variable {P : Program} {w : World} {K : PySem.W.Frag} {mg : Str → Option Value} {base : Heap}
theorem ok_whole {f : Addr} {fd : FuncData} (F : FunD K "is_whole" "is_whole" (defArgs sWhole) (defBody sWhole) (defScope sWhole) [] [] f fd) (g_isi : mg "isinstance" = none) (g_int : mg "int" = none) (g_bool : mg "bool" = none) :
    FnOk P w K mg base CX0 1 f fd ["thing"] (spWhole K) := by
  refine F.ok sc_whole (fun vs H Q E h => ?_) (fun cdv A outer s H vs Q E hr h => ?_)
  · obtain ⟨v, d, x, rfl, _⟩ := h
    rfl
  · obtain ⟨v, d, x, rfl, hx, q⟩ := h
    have sc := sc_whole
    refine ⟨_, PSs.nox (pss_one (ps_ret (pe_and (pe_callB call_isi (by rfl) g_isi boot_isinstance (pa_cons (pv 0) (pa_cons (pe_bltn (v := V.ty "int") (by rfl) g_int boot_int rfl) pa_nil)))
      (pe_one (pe_not (pe_callB call_isi (by rfl) g_isi boot_isinstance (pa_cons (pv 0) (pa_cons (pe_bltn (v := V.ty "bool") (by rfl) g_bool boot_bool rfl) pa_nil)))))))), ?_⟩
    refine ⟨_, rfl, _, _, _, _, _, rfl, .ty "int", hx.ty, kit_ty (kit_int x), _, rfl, ?_⟩
    have e := wb_and x
    cases hb : (wholeD x || decide (tyD x = "bool")) with
    | true =>
      rw [hb] at e
      refine iteT ⟨_, rfl, _, _, _, _, _, rfl, .ty "bool", hx.ty, kit_ty (kit_bool x), _, rfl, ?_⟩
      rw [show (!decide (tyD x = "bool")) = wholeD x from e]
      exact q
    | false =>
      rw [hb] at e
      refine iteF ?_
      rw [show false = wholeD x from e]
      exact q
theorem ok_seq {f : Addr} {fd : FuncData} (F : FunD K "is_sequence" "is_sequence" (defArgs sSeq) (defBody sSeq) (defScope sSeq) [] [] f fd) (g_isi : mg "isinstance" = none) (g_tuple : mg "tuple" = none) (g_list : mg "list" = none) :
    FnOk P w K mg base CX0 1 f fd ["thing"] (spSeq K) := by
  refine F.ok sc_seq (fun vs H Q E h => ?_) (fun cdv A outer s H vs Q E hr h => ?_)
  · obtain ⟨v, d, x, rfl, _⟩ := h
    rfl
  · obtain ⟨v, d, x, rfl, hx, q⟩ := h
    have sc := sc_seq
    refine ⟨_, PSs.nox (pss_one (ps_ret (pe_callB call_isiT (by rfl) g_isi boot_isinstance (pa_cons (pv 0) (pa_cons (pe_tup (pa_cons (pe_bltn (v := V.ty "tuple") (by rfl) g_tuple boot_tuple rfl) (pa_cons (pe_bltn (v := V.ty "list") (by rfl) g_list boot_list rfl) pa_nil))) pa_nil))))), ?_⟩
    refine ⟨_, rfl, by show 2 ≤ sizeLine; decide, fun t ht => ⟨_, t, _, _, _, _, rfl, upd_same, .cons (.ty "tuple") (.cons (.ty "list") .nil), (hx.same (upd_new ht)).ty, kit_seq x, q _ (upd_new ht)⟩⟩
/-- each item's answer, in order -/
theorem all_map (ds : List PyData) : (ds.map baseD).all id = ds.all baseD := by
  induction ds with
  | nil => rfl
  | cons d ds ih =>
    rw [List.map_cons, List.all_cons, List.all_cons, ih]
    rfl
structure Cst (mg : Str → Option Value) : Prop where
  lo : ∃ t, mg "LEAST_BASE" = some (.int 2 t)
  hi : ∃ t, mg "GREATEST_BASE" = some (.int 100 t)
  mp : ∃ t, mg "MOST_PLACES" = some (.int 4 t)
theorem yes_ {A B : Prop} (h : A) : if true = true then A else B := by
  rw [if_pos rfl]
  exact h
theorem yesT {σ : L2.St} {H : Hp} {k : Bool → Hp → Prop} (h : k true H) : tYes σ H k := h
theorem take_snoc {ds : List PyData} {i : Nat} {x : PyData} (h : ds[i]? = some x) : (ds.take i).map (fun x => V.bl (baseD x)) ++ [V.bl (baseD x)] = (ds.take (i + 1)).map fun x => V.bl (baseD x) := by
  obtain ⟨hi, e⟩ := List.getElem?_eq_some_iff.mp h
  rw [List.take_succ, h, List.map_append]
  rfl
theorem ok_isb {f : Addr} {fd : FuncData} (F : FunD K "is_bases" "is_bases" (defArgs sIsB) (defBody sIsB) (defScope sIsB) [] [] f fd) (CS : Cd P w K mg base CX0 1 "is_sequence" ["thing"] (spSeq K)) (CW : Cd P w K mg base CX0 1 "is_whole" ["thing"] (spWhole K)) (C : Cst mg)
    (g_len : mg "len" = none) (g_all : mg "all" = none) :
    FnOk P w K mg base CX0 2 f fd ["thing"] (spIsB K) := by
  obtain ⟨t1, mlo⟩ := C.lo
  obtain ⟨t2, mhi⟩ := C.hi
  obtain ⟨t3, mmp⟩ := C.mp
  refine F.ok sc_isb (fun vs H Q E h => ?_) (fun cdv A outer s H vs Q E hr h => ?_)
  · obtain ⟨v, d, x, rfl, _⟩ := h
    rfl
  · obtain ⟨v, d, x, rfl, hx, q⟩ := h
    have sc := sc_isb
    have turn : ∀ {D : Addr} {xs : List V} {ds : List PyData}, ds.length ≤ 4 → DqA K d H xs ds → ∀ (i : Nat) (y : V) (H' : Hp), xs[i]? = some y → (Same H H' ∧ H' D = some (.lst ((ds.take i).map fun x => V.bl (baseD x))) ∧ H D = none) →
        tAndV (tCall (spWhole K) [] E0 (tCons (tVar 1) tNil)) (tChain (rI0 fun i j => .bl (decide (i ≤ j))) (rI0 fun i j => .bl (decide (i ≤ j))) (tC (.int 2)) (tVar 1) (tC (.int 100))) [some v, some y] H' fun z H4 => ∃ acc, H4 D = some (.lst acc) ∧ acc.length < sizeLine ∧
          (Same H (upd H4 D (.lst (acc ++ [z]))) ∧ (upd H4 D (.lst (acc ++ [z]))) D = some (.lst ((ds.take (i + 1)).map fun x => V.bl (baseD x))) ∧ H D = none) := by
      intro D xs ds hl ha i y H' hy ⟨s1, h1, n1⟩
      obtain ⟨x, hi, hd⟩ := ha.get hy
      have fin : ∀ z, z = V.bl (baseD x) → ∃ acc, H' D = some (.lst acc) ∧ acc.length < sizeLine ∧
          (Same H (upd H' D (.lst (acc ++ [z]))) ∧ (upd H' D (.lst (acc ++ [z]))) D = some (.lst ((ds.take (i + 1)).map fun x => V.bl (baseD x))) ∧ H D = none) := by
        rintro z rfl
        refine ⟨_, h1, ?_, fun b o e => ?_, by rw [upd_same, take_snoc hi], n1⟩
        · rw [List.length_map, List.length_take, sizeLine_eq]
          omega
        · rw [upd_ne (ne_of_none e n1)]
          exact s1 b o e
      refine ⟨_, rfl, y, d, x, rfl, hd.same s1, _, rfl, ?_⟩
      cases hw : wholeD x with
      | false =>
        refine iteF (fin _ ?_)
        cases x <;> first | rfl | cases hw
      | true =>
        refine iteT ?_
        cases hd with
        | int z =>
          refine ⟨_, rfl, _, _, rfl, rfl, _, rfl, ?_⟩
          by_cases h2 : (2 : Int) ≤ z
          · rw [decide_eq_true h2]
            refine iteT ⟨_, _, rfl, rfl, fin _ ?_⟩
            show V.bl (decide (z ≤ 100)) = V.bl (decide (2 ≤ z) && decide (z ≤ 100))
            rw [decide_eq_true h2, Bool.true_and]
          · rw [decide_eq_false h2]
            refine iteF (fin _ ?_)
            show V.bl false = V.bl (decide (2 ≤ z) && decide (z ≤ 100))
            rw [decide_eq_false h2, Bool.false_and]
        | _ => cases hw
    have done : ∀ {ds : List PyData} {D : Addr} {H' : Hp}, (Same H H' ∧ H' D = some (.lst ((ds.take ds.length).map fun x => V.bl (baseD x))) ∧ H D = none) →
        ∃ (a : Addr) (bs : List Bool), [V.ref D] = [V.ref a] ∧ SqL K H' a (bs.map V.bl) ∧ bs.all id = ds.all baseD := by
      intro ds D H' ⟨s1, h1, _⟩
      refine ⟨D, ds.map baseD, rfl, SqL.of ?_, all_map ds⟩
      rw [h1, List.take_length, List.map_map]
      rfl
    have small : ∀ {n : Nat}, n ≤ 4 → n < sizeLine := fun h => Nat.lt_of_le_of_lt h (by decide)
    have hx0 := hx
    cases hx with
    | lst hs hn ha =>
      rename_i a xs ds
      refine ⟨_, PSs.nox (pss_cons (ps_if (PW.pt (pw_or (pt_not (pt_val (pe_cd CS (hr.mono (by decide)) (by rfl) pass0 (pa_cons (pv 0) pa_nil)))) (pw_or1 (pt_not (pt_chain op_le op_le pe_int (pe_callB call_len_seq (by rfl) g_len PySem.boot_len (pa_cons (pv 0) pa_nil)) (pe_glob (v := V.int 4) (by rfl) mmp ⟨_, rfl⟩))))))
          (pss_one (ps_ret pe_bl))
          pss_nil)
        (pss_one (ps_ret (pe_callB (cr_all rfl) (by rfl) g_all boot_all (pa_cons (pe_lc (own := [("base", 1)]) (g := gName 1) (tt := tYes) rfl sc.nd (pi_list (pv 0)) (blkOk_by (N := ["thing", "base"]) (sc := defScope sIsB) (by decide +kernel))
          (fun _ _ _ _ _ => pg_name (i := 1) sc.nd rfl (Or.inl rfl)) (fun _ _ _ _ _ => pts_nil)
          (fun _ _ _ _ _ => pe_and (pe_cd CW (hr.mono (by decide)) (by rfl) pass0 (pa_cons (pv 1) pa_nil)) (pe_one (pe_chain op_le op_le (pe_glob (v := V.int 2) (by rfl) mlo ⟨_, rfl⟩) (pv 1) (pe_glob (v := V.int 100) (by rfl) mhi ⟨_, rfl⟩))))) pa_nil))))), ?_⟩
      refine ⟨_, rfl, _, d, _, rfl, hx0, fun H1 s1 => ⟨_, rfl, ?_⟩⟩
      refine iteF ?_
      refine ⟨_, rfl, a, _, rfl, .inl (s1.seq hs), _, _, rfl, rfl, _, rfl, ?_⟩
      have hl := ha.length
      rw [hl]
      have eb : basesD (.list ds) = (decide (1 ≤ ds.length) && decide (ds.length ≤ 4) && ds.all baseD) := rfl
      have out : (1 ≤ ds.length ∧ ds.length ≤ 4) ∨ basesD (.list ds) = false := by
        by_cases h1 : 1 ≤ ds.length
        · by_cases h2 : ds.length ≤ 4
          · exact .inl ⟨h1, h2⟩
          · rw [eb, decide_eq_false h2, Bool.and_false, Bool.false_and]
            exact .inr rfl
        · rw [eb, decide_eq_false h1, Bool.false_and, Bool.false_and]
          exact .inr rfl
      have bad : basesD (.list ds) = false → Q (.bl false) H1 := fun e => by
        have z := q H1 s1
        rw [e] at z
        exact z
      rcases out with ⟨h1, h2⟩ | e
      · rw [decide_eq_true (show (1 : Int) ≤ (ds.length : Nat) by omega)]
        refine iteT ?_
        refine ⟨_, _, rfl, rfl, _, rfl, ?_⟩
        rw [decide_eq_true (show ((ds.length : Nat) : Int) ≤ 4 by omega)]
        refine iteF ?_
        refine ⟨_, rfl, a, rfl, ⟨_, s1.seq hs⟩, fun D hD => lc_list (xs := xs) (fun i H' => Same H H' ∧ H' D = some (.lst ((ds.take i).map fun x => V.bl (baseD x))) ∧ H D = none) ?_ ?_ ?_ ?_⟩
        · have n1 : H D = none := Same.free s1 hD
          exact ⟨s1.trans (upd_new hD), upd_same, n1⟩
        · exact fun i H' _ p => p.1.seq hs
        · exact fun i y H' hy p => (by refine ⟨rfl, yesT ?_⟩; refine yes_ ?_; exact turn h2 ha i y H' hy p)
        · intro H' p
          rw [hl] at p
          obtain ⟨a', bs, e1, e2, e3⟩ := done p
          refine ⟨a', bs, e1, e2, ?_⟩
          rw [e3]
          have z := q H' p.1
          rw [eb, decide_eq_true h1, decide_eq_true h2, Bool.true_and, Bool.true_and] at z
          exact z
      · have z := bad e
        by_cases h1 : 1 ≤ ds.length
        · rw [decide_eq_true (show (1 : Int) ≤ (ds.length : Nat) by omega)]
          refine iteT ?_
          refine ⟨_, _, rfl, rfl, _, rfl, ?_⟩
          by_cases h2 : ds.length ≤ 4
          · rw [decide_eq_true (show ((ds.length : Nat) : Int) ≤ 4 by omega)]
            refine iteF ?_
            refine ⟨_, rfl, a, rfl, ⟨_, s1.seq hs⟩, fun D hD => lc_list (xs := xs) (fun i H' => Same H H' ∧ H' D = some (.lst ((ds.take i).map fun x => V.bl (baseD x))) ∧ H D = none) ?_ ?_ ?_ ?_⟩
            · have n1 : H D = none := Same.free s1 hD
              exact ⟨s1.trans (upd_new hD), upd_same, n1⟩
            · exact fun i H' _ p => p.1.seq hs
            · exact fun i y H' hy p => (by refine ⟨rfl, yesT ?_⟩; refine yes_ ?_; exact turn h2 ha i y H' hy p)
            · intro H' p
              rw [hl] at p
              obtain ⟨a', bs, e1, e2, e3⟩ := done p
              refine ⟨a', bs, e1, e2, ?_⟩
              rw [e3]
              have z := q H' p.1
              rw [eb, decide_eq_true h1, decide_eq_true h2, Bool.true_and, Bool.true_and] at z
              exact z
          · rw [decide_eq_false (show ¬ ((ds.length : Nat) : Int) ≤ 4 by omega)]
            exact iteT z
        · rw [decide_eq_false (show ¬ (1 : Int) ≤ (ds.length : Nat) by omega)]
          refine iteF ⟨_, rfl, ?_⟩
          exact iteT z
    | tup hs hn ha =>
      rename_i a xs ds
      refine ⟨_, PSs.nox (pss_cons (ps_if (PW.pt (pw_or (pt_not (pt_val (pe_cd CS (hr.mono (by decide)) (by rfl) pass0 (pa_cons (pv 0) pa_nil)))) (pw_or1 (pt_not (pt_chain op_le op_le pe_int (pe_callB call_len_seq (by rfl) g_len PySem.boot_len (pa_cons (pv 0) pa_nil)) (pe_glob (v := V.int 4) (by rfl) mmp ⟨_, rfl⟩))))))
          (pss_one (ps_ret pe_bl))
          pss_nil)
        (pss_one (ps_ret (pe_callB (cr_all rfl) (by rfl) g_all boot_all (pa_cons (pe_lc (own := [("base", 1)]) (g := gName 1) (tt := tYes) rfl sc.nd (pi_tup (pv 0)) (blkOk_by (N := ["thing", "base"]) (sc := defScope sIsB) (by decide +kernel))
          (fun _ _ _ _ _ => pg_name (i := 1) sc.nd rfl (Or.inl rfl)) (fun _ _ _ _ _ => pts_nil)
          (fun _ _ _ _ _ => pe_and (pe_cd CW (hr.mono (by decide)) (by rfl) pass0 (pa_cons (pv 1) pa_nil)) (pe_one (pe_chain op_le op_le (pe_glob (v := V.int 2) (by rfl) mlo ⟨_, rfl⟩) (pv 1) (pe_glob (v := V.int 100) (by rfl) mhi ⟨_, rfl⟩))))) pa_nil))))), ?_⟩
      refine ⟨_, rfl, _, d, _, rfl, hx0, fun H1 s1 => ⟨_, rfl, ?_⟩⟩
      refine iteF ?_
      refine ⟨_, rfl, a, _, rfl, .inr (.inl ((Bt.of s1 (d := d)).rd hn hs)), _, _, rfl, rfl, _, rfl, ?_⟩
      have hl := ha.length
      rw [hl]
      have eb : basesD (.tuple ds) = (decide (1 ≤ ds.length) && decide (ds.length ≤ 4) && ds.all baseD) := rfl
      have out : (1 ≤ ds.length ∧ ds.length ≤ 4) ∨ basesD (.tuple ds) = false := by
        by_cases h1 : 1 ≤ ds.length
        · by_cases h2 : ds.length ≤ 4
          · exact .inl ⟨h1, h2⟩
          · rw [eb, decide_eq_false h2, Bool.and_false, Bool.false_and]
            exact .inr rfl
        · rw [eb, decide_eq_false h1, Bool.false_and, Bool.false_and]
          exact .inr rfl
      have bad : basesD (.tuple ds) = false → Q (.bl false) H1 := fun e => by
        have z := q H1 s1
        rw [e] at z
        exact z
      rcases out with ⟨h1, h2⟩ | e
      · rw [decide_eq_true (show (1 : Int) ≤ (ds.length : Nat) by omega)]
        refine iteT ?_
        refine ⟨_, _, rfl, rfl, _, rfl, ?_⟩
        rw [decide_eq_true (show ((ds.length : Nat) : Int) ≤ 4 by omega)]
        refine iteF ?_
        refine ⟨_, rfl, a, rfl, ⟨_, (Or.inl ((Bt.of s1 (d := d)).rd hn hs))⟩, fun D hD => lc_tup (xs := xs) (fun i H' => Same H H' ∧ H' D = some (.lst ((ds.take i).map fun x => V.bl (baseD x))) ∧ H D = none) ?_ ?_ ?_ ?_⟩
        · have n1 : H D = none := Same.free s1 hD
          exact ⟨s1.trans (upd_new hD), upd_same, n1⟩
        · exact fun i H' _ p => Or.inl ((Bt.of p.1 (d := d)).rd hn hs)
        · exact fun i y H' hy p => (by refine ⟨rfl, yesT ?_⟩; refine yes_ ?_; exact turn h2 ha i y H' hy p)
        · intro H' p
          rw [hl] at p
          obtain ⟨a', bs, e1, e2, e3⟩ := done p
          refine ⟨a', bs, e1, e2, ?_⟩
          rw [e3]
          have z := q H' p.1
          rw [eb, decide_eq_true h1, decide_eq_true h2, Bool.true_and, Bool.true_and] at z
          exact z
      · have z := bad e
        by_cases h1 : 1 ≤ ds.length
        · rw [decide_eq_true (show (1 : Int) ≤ (ds.length : Nat) by omega)]
          refine iteT ?_
          refine ⟨_, _, rfl, rfl, _, rfl, ?_⟩
          by_cases h2 : ds.length ≤ 4
          · rw [decide_eq_true (show ((ds.length : Nat) : Int) ≤ 4 by omega)]
            refine iteF ?_
            refine ⟨_, rfl, a, rfl, ⟨_, (Or.inl ((Bt.of s1 (d := d)).rd hn hs))⟩, fun D hD => lc_tup (xs := xs) (fun i H' => Same H H' ∧ H' D = some (.lst ((ds.take i).map fun x => V.bl (baseD x))) ∧ H D = none) ?_ ?_ ?_ ?_⟩
            · have n1 : H D = none := Same.free s1 hD
              exact ⟨s1.trans (upd_new hD), upd_same, n1⟩
            · exact fun i H' _ p => Or.inl ((Bt.of p.1 (d := d)).rd hn hs)
            · exact fun i y H' hy p => (by refine ⟨rfl, yesT ?_⟩; refine yes_ ?_; exact turn h2 ha i y H' hy p)
            · intro H' p
              rw [hl] at p
              obtain ⟨a', bs, e1, e2, e3⟩ := done p
              refine ⟨a', bs, e1, e2, ?_⟩
              rw [e3]
              have z := q H' p.1
              rw [eb, decide_eq_true h1, decide_eq_true h2, Bool.true_and, Bool.true_and] at z
              exact z
          · rw [decide_eq_false (show ¬ ((ds.length : Nat) : Int) ≤ 4 by omega)]
            exact iteT z
        · rw [decide_eq_false (show ¬ (1 : Int) ≤ (ds.length : Nat) by omega)]
          refine iteF ⟨_, rfl, ?_⟩
          exact iteT z
    | non =>
      refine ⟨_, PSs.nox (pss_cons (ps_if (PW.pt (pw_or (pt_not (pt_val (pe_cd CS (hr.mono (by decide)) (by rfl) pass0 (pa_cons (pv 0) pa_nil)))) (pw_or1 (pt_not (pt_chain op_le op_le pe_int (pe_callB call_len_seq (by rfl) g_len PySem.boot_len (pa_cons (pv 0) pa_nil)) (pe_glob (v := V.int 4) (by rfl) mmp ⟨_, rfl⟩))))))
          (pss_one (ps_ret pe_bl))
          pss_nil)
        (pss_one (ps_ret (pe_callB (cr_all rfl) (by rfl) g_all boot_all (pa_cons (pe_lc (own := [("base", 1)]) (g := gName 1) (tt := tYes) rfl sc.nd (pi_list (pv 0)) (blkOk_by (N := ["thing", "base"]) (sc := defScope sIsB) (by decide +kernel))
          (fun _ _ _ _ _ => pg_name (i := 1) sc.nd rfl (Or.inl rfl)) (fun _ _ _ _ _ => pts_nil)
          (fun _ _ _ _ _ => pe_and (pe_cd CW (hr.mono (by decide)) (by rfl) pass0 (pa_cons (pv 1) pa_nil)) (pe_one (pe_chain op_le op_le (pe_glob (v := V.int 2) (by rfl) mlo ⟨_, rfl⟩) (pv 1) (pe_glob (v := V.int 100) (by rfl) mhi ⟨_, rfl⟩))))) pa_nil))))), ?_⟩
      refine ⟨_, rfl, _, d, _, rfl, hx0, fun H1 s1 => ⟨_, rfl, ?_⟩⟩
      exact iteT (q H1 s1)
    | bl _ =>
      refine ⟨_, PSs.nox (pss_cons (ps_if (PW.pt (pw_or (pt_not (pt_val (pe_cd CS (hr.mono (by decide)) (by rfl) pass0 (pa_cons (pv 0) pa_nil)))) (pw_or1 (pt_not (pt_chain op_le op_le pe_int (pe_callB call_len_seq (by rfl) g_len PySem.boot_len (pa_cons (pv 0) pa_nil)) (pe_glob (v := V.int 4) (by rfl) mmp ⟨_, rfl⟩))))))
          (pss_one (ps_ret pe_bl))
          pss_nil)
        (pss_one (ps_ret (pe_callB (cr_all rfl) (by rfl) g_all boot_all (pa_cons (pe_lc (own := [("base", 1)]) (g := gName 1) (tt := tYes) rfl sc.nd (pi_list (pv 0)) (blkOk_by (N := ["thing", "base"]) (sc := defScope sIsB) (by decide +kernel))
          (fun _ _ _ _ _ => pg_name (i := 1) sc.nd rfl (Or.inl rfl)) (fun _ _ _ _ _ => pts_nil)
          (fun _ _ _ _ _ => pe_and (pe_cd CW (hr.mono (by decide)) (by rfl) pass0 (pa_cons (pv 1) pa_nil)) (pe_one (pe_chain op_le op_le (pe_glob (v := V.int 2) (by rfl) mlo ⟨_, rfl⟩) (pv 1) (pe_glob (v := V.int 100) (by rfl) mhi ⟨_, rfl⟩))))) pa_nil))))), ?_⟩
      refine ⟨_, rfl, _, d, _, rfl, hx0, fun H1 s1 => ⟨_, rfl, ?_⟩⟩
      exact iteT (q H1 s1)
    | int _ =>
      refine ⟨_, PSs.nox (pss_cons (ps_if (PW.pt (pw_or (pt_not (pt_val (pe_cd CS (hr.mono (by decide)) (by rfl) pass0 (pa_cons (pv 0) pa_nil)))) (pw_or1 (pt_not (pt_chain op_le op_le pe_int (pe_callB call_len_seq (by rfl) g_len PySem.boot_len (pa_cons (pv 0) pa_nil)) (pe_glob (v := V.int 4) (by rfl) mmp ⟨_, rfl⟩))))))
          (pss_one (ps_ret pe_bl))
          pss_nil)
        (pss_one (ps_ret (pe_callB (cr_all rfl) (by rfl) g_all boot_all (pa_cons (pe_lc (own := [("base", 1)]) (g := gName 1) (tt := tYes) rfl sc.nd (pi_list (pv 0)) (blkOk_by (N := ["thing", "base"]) (sc := defScope sIsB) (by decide +kernel))
          (fun _ _ _ _ _ => pg_name (i := 1) sc.nd rfl (Or.inl rfl)) (fun _ _ _ _ _ => pts_nil)
          (fun _ _ _ _ _ => pe_and (pe_cd CW (hr.mono (by decide)) (by rfl) pass0 (pa_cons (pv 1) pa_nil)) (pe_one (pe_chain op_le op_le (pe_glob (v := V.int 2) (by rfl) mlo ⟨_, rfl⟩) (pv 1) (pe_glob (v := V.int 100) (by rfl) mhi ⟨_, rfl⟩))))) pa_nil))))), ?_⟩
      refine ⟨_, rfl, _, d, _, rfl, hx0, fun H1 s1 => ⟨_, rfl, ?_⟩⟩
      exact iteT (q H1 s1)
    | str _ =>
      refine ⟨_, PSs.nox (pss_cons (ps_if (PW.pt (pw_or (pt_not (pt_val (pe_cd CS (hr.mono (by decide)) (by rfl) pass0 (pa_cons (pv 0) pa_nil)))) (pw_or1 (pt_not (pt_chain op_le op_le pe_int (pe_callB call_len_seq (by rfl) g_len PySem.boot_len (pa_cons (pv 0) pa_nil)) (pe_glob (v := V.int 4) (by rfl) mmp ⟨_, rfl⟩))))))
          (pss_one (ps_ret pe_bl))
          pss_nil)
        (pss_one (ps_ret (pe_callB (cr_all rfl) (by rfl) g_all boot_all (pa_cons (pe_lc (own := [("base", 1)]) (g := gName 1) (tt := tYes) rfl sc.nd (pi_list (pv 0)) (blkOk_by (N := ["thing", "base"]) (sc := defScope sIsB) (by decide +kernel))
          (fun _ _ _ _ _ => pg_name (i := 1) sc.nd rfl (Or.inl rfl)) (fun _ _ _ _ _ => pts_nil)
          (fun _ _ _ _ _ => pe_and (pe_cd CW (hr.mono (by decide)) (by rfl) pass0 (pa_cons (pv 1) pa_nil)) (pe_one (pe_chain op_le op_le (pe_glob (v := V.int 2) (by rfl) mlo ⟨_, rfl⟩) (pv 1) (pe_glob (v := V.int 100) (by rfl) mhi ⟨_, rfl⟩))))) pa_nil))))), ?_⟩
      refine ⟨_, rfl, _, d, _, rfl, hx0, fun H1 s1 => ⟨_, rfl, ?_⟩⟩
      exact iteT (q H1 s1)
    | d0 _ _ =>
      refine ⟨_, PSs.nox (pss_cons (ps_if (PW.pt (pw_or (pt_not (pt_val (pe_cd CS (hr.mono (by decide)) (by rfl) pass0 (pa_cons (pv 0) pa_nil)))) (pw_or1 (pt_not (pt_chain op_le op_le pe_int (pe_callB call_len_seq (by rfl) g_len PySem.boot_len (pa_cons (pv 0) pa_nil)) (pe_glob (v := V.int 4) (by rfl) mmp ⟨_, rfl⟩))))))
          (pss_one (ps_ret pe_bl))
          pss_nil)
        (pss_one (ps_ret (pe_callB (cr_all rfl) (by rfl) g_all boot_all (pa_cons (pe_lc (own := [("base", 1)]) (g := gName 1) (tt := tYes) rfl sc.nd (pi_list (pv 0)) (blkOk_by (N := ["thing", "base"]) (sc := defScope sIsB) (by decide +kernel))
          (fun _ _ _ _ _ => pg_name (i := 1) sc.nd rfl (Or.inl rfl)) (fun _ _ _ _ _ => pts_nil)
          (fun _ _ _ _ _ => pe_and (pe_cd CW (hr.mono (by decide)) (by rfl) pass0 (pa_cons (pv 1) pa_nil)) (pe_one (pe_chain op_le op_le (pe_glob (v := V.int 2) (by rfl) mlo ⟨_, rfl⟩) (pv 1) (pe_glob (v := V.int 100) (by rfl) mhi ⟨_, rfl⟩))))) pa_nil))))), ?_⟩
      refine ⟨_, rfl, _, d, _, rfl, hx0, fun H1 s1 => ⟨_, rfl, ?_⟩⟩
      exact iteT (q H1 s1)
    | d1 _ _ =>
      refine ⟨_, PSs.nox (pss_cons (ps_if (PW.pt (pw_or (pt_not (pt_val (pe_cd CS (hr.mono (by decide)) (by rfl) pass0 (pa_cons (pv 0) pa_nil)))) (pw_or1 (pt_not (pt_chain op_le op_le pe_int (pe_callB call_len_seq (by rfl) g_len PySem.boot_len (pa_cons (pv 0) pa_nil)) (pe_glob (v := V.int 4) (by rfl) mmp ⟨_, rfl⟩))))))
          (pss_one (ps_ret pe_bl))
          pss_nil)
        (pss_one (ps_ret (pe_callB (cr_all rfl) (by rfl) g_all boot_all (pa_cons (pe_lc (own := [("base", 1)]) (g := gName 1) (tt := tYes) rfl sc.nd (pi_list (pv 0)) (blkOk_by (N := ["thing", "base"]) (sc := defScope sIsB) (by decide +kernel))
          (fun _ _ _ _ _ => pg_name (i := 1) sc.nd rfl (Or.inl rfl)) (fun _ _ _ _ _ => pts_nil)
          (fun _ _ _ _ _ => pe_and (pe_cd CW (hr.mono (by decide)) (by rfl) pass0 (pa_cons (pv 1) pa_nil)) (pe_one (pe_chain op_le op_le (pe_glob (v := V.int 2) (by rfl) mlo ⟨_, rfl⟩) (pv 1) (pe_glob (v := V.int 100) (by rfl) mhi ⟨_, rfl⟩))))) pa_nil))))), ?_⟩
      refine ⟨_, rfl, _, d, _, rfl, hx0, fun H1 s1 => ⟨_, rfl, ?_⟩⟩
      exact iteT (q H1 s1)
end
end K01

set_option Elab.async false
set_option linter.all false
set_option maxRecDepth 100000
set_option maxHeartbeats 4000000
namespace K01
open PySem PySem.Spec PyProof.Rows L2 Ru
theorem sc_prods : FnScope ["bases", "found", "base"] ["bases"] (defScope sProds) := ⟨rfl, rfl, rfl, by decide +kernel, rfl, by decide +kernel, by decide +kernel⟩
theorem sc_wts : FnScope ["bases"] ["bases"] (defScope sWts) := ⟨rfl, rfl, rfl, by decide +kernel, rfl, by decide +kernel, by decide +kernel⟩
theorem sc_cnt : FnScope ["bases"] ["bases"] (defScope sCnt) := ⟨rfl, rfl, rfl, by decide +kernel, rfl, by decide +kernel, by decide +kernel⟩
section
variable {P : Program} {w : World} {K : PySem.W.Frag} {mg : Str → Option Value} {base : Heap}
theorem ok_prods {f : Addr} {fd : FuncData} (F : FunD K "_products" "_products" (defArgs sProds) (defBody sProds) (defScope sProds) [] [] f fd) (CB : Cd P w K mg base CX0 2 "is_bases" ["thing"] (spIsB K)) (R : RsX P w K mg base "NoNumeral" "at") :
    FnOk P w K mg base (L2.CX P w) 3 f fd ["bases"] (spProds K "NoNumeral") := by
  refine F.ok sc_prods (fun vs H Q E h => ?_) (fun cdv A outer s H vs Q E hr h => ?_)
  · obtain ⟨v, d, x, rfl, _⟩ := h
    rfl
  · obtain ⟨v, d, x, rfl, hx, q1, q2⟩ := h
    have sc := sc_prods
    cases hb : basesD x with
    | false =>
      refine ⟨_, pss_cons (ps_if (pt_not (pt_val (pe_cd CB hr (by rfl) pass0 (pa_cons (pv 0) pa_nil))))
        (pss_one (ps_raise rfl (takes_of rfl rfl rfl rfl) (pmk_rs R (hr.mono (by decide)) (by rfl) pe_non (fun _ _ _ _ f q => f _ _ q))))
        pss_nil)
      (pss_cons (ps_set (i := 1) sc.nd rfl (Or.inl rfl) (pe_lst (pa_cons pe_int pa_nil)))
      (pss_cons (ps_for (passes_of rfl) rfl (pi_list (pe_revL (pv 0))) (pg_name (i := 2) sc.nd rfl (Or.inl rfl))
        (pss_one (ps_expr (pe_bm PySem.F.plainAttrs_list PySem.F.slot_list_append PySem.F.type_list_append mt_append (pv 1) (pa_cons (pe_op op_mul (pe_ix ix_list (pv 1) (pe_un un_neg pe_int) (fun _ _ => rfl)) (pv 2)) pa_nil)))))
      (pss_one (ps_ret (pv 1))))), ?_⟩
      refine ⟨_, rfl, _, d, _, rfl, hx, fun H1 s1 => ⟨_, rfl, ?_⟩⟩
      rw [hb]
      refine iteT ?_
      exact fun dd H2 s2 n2 e2 => q2 hb dd H2 (s1.trans s2) (Same.free s1 n2) e2
    | true =>
      obtain ⟨zs, hB, e | e⟩ := basesD_ints hb
      · subst e
        cases hx with
        | lst hs hn ha =>
        rename_i a xs
        have ex := ha.toInts
        subst ex
        have hx := Dq.lst (K := K) hs hn ha
        refine ⟨_, pss_cons (ps_if (pt_not (pt_val (pe_cd CB hr (by rfl) pass0 (pa_cons (pv 0) pa_nil))))
        (pss_one (ps_raise rfl (takes_of rfl rfl rfl rfl) (pmk_rs R (hr.mono (by decide)) (by rfl) pe_non (fun _ _ _ _ f q => f _ _ q))))
        pss_nil)
      (pss_cons (ps_set (i := 1) sc.nd rfl (Or.inl rfl) (pe_lst (pa_cons pe_int pa_nil)))
      (pss_cons (ps_for (passes_of rfl) rfl (pi_list (pe_revL (pv 0))) (pg_name (i := 2) sc.nd rfl (Or.inl rfl))
        (pss_one (ps_expr (pe_bm PySem.F.plainAttrs_list PySem.F.slot_list_append PySem.F.type_list_append mt_append (pv 1) (pa_cons (pe_op op_mul (pe_ix ix_list (pv 1) (pe_un un_neg pe_int) (fun _ _ => rfl)) (pv 2)) pa_nil)))))
      (pss_one (ps_ret (pv 1))))), ?_⟩
        refine ⟨_, rfl, _, d, _, rfl, hx, fun H1 s1 => ⟨_, rfl, ?_⟩⟩
        rw [hb]
        refine iteF ?_
        refine ⟨by show 1 ≤ sizeLine; decide, fun p hp => ?_⟩
        have n0 : H p = none := Same.free s1 hp
        have s2 : Same H (upd H1 p (.lst [.int 1])) := s1.trans (upd_new hp)
        refine ⟨_, rfl, a, _, rfl, s2.seq hs, ?_⟩
        intro r hnr
        have npr : p ≠ r := ne_of_none upd_same hnr
        refine ⟨r, rfl, ⟨_, SqL.of upd_same⟩, for_list (K := K) (a := r) (xs := (zs.map V.int).reverse) (fun i σ H3 => ∃ u : Option V, σ = [some (.ref a), some (.ref p), u] ∧ Same H H3 ∧ H3 p = some (.lst ((prods zs (i + 1)).map V.int)) ∧ H3 r = some (.lst (zs.map V.int).reverse)) ?_ (fun i σ H3 _ ⟨_, _, _, _, q⟩ => SqL.of q) ?_ ?_⟩
        · refine ⟨_, rfl, s2.trans (upd_new hnr), ?_, upd_same⟩
          rw [upd_ne npr, upd_same]
          show some (HO.lst [V.int 1]) = some (HO.lst [V.int (prodL (zs.drop (zs.length - 0)))])
          rw [Nat.sub_zero, List.drop_length]
          rfl
        · rintro i y σ H3 hi ⟨u, rfl, s3, h3, h4⟩
          rw [← List.map_reverse, List.getElem?_map] at hi
          cases ez : zs.reverse[i]? with
          | none => rw [ez] at hi; cases hi
          | some z =>
            rw [ez] at hi
            cases hi
            have hz : 2 ≤ z ∧ z ≤ 100 := hB.2.2 z (List.mem_reverse.mp (List.mem_of_getElem? ez))
            have hil : i < zs.length := by
              have := (List.getElem?_eq_some_iff.mp ez).1
              rwa [List.length_reverse] at this
            obtain ⟨b1, b2⟩ := prodL_le (zs := zs.drop (zs.length - i)) (n := 4) (fun y hy => hB.2.2 y (List.mem_of_mem_drop hy)) (by rw [List.length_drop]; have := hB.2.1; omega)
            have hat : atI ((prods zs (i + 1)).map V.int) (-1) = some (.int (prodL (zs.drop (zs.length - i)))) := by
              rw [prods_succ, List.map_append]
              exact atI_last _ _
            refine ⟨_, rfl, .inl ⟨rfl, _, .inl (.inl h3)⟩, _, rfl, _, rfl, p, _, _, _, rfl, rfl, SqL.of h3, hat, _, rfl, _, _, rfl, rfl, .inl ⟨by omega, by omega⟩, ?_⟩
            refine ⟨p, _, _, rfl, rfl, h3, ?_, ?_⟩
            · rw [List.length_map, prods_len, sizeLine_eq]
              have := hB.2.1
              omega
            · refine ⟨_, rfl, fun b o e => ?_, ?_, by rw [upd_ne (Ne.symm npr)]; exact h4⟩
              · rw [upd_ne (ne_of_none e n0)]
                exact s3 b o e
              · rw [upd_same, prods_succ zs (i + 1), List.map_append, rev_at ez]
                rfl
        · rintro σ H3 ⟨u, rfl, s3, h3, _⟩
          rw [List.length_reverse, List.length_map] at h3
          exact ⟨_, rfl, q1 zs hB (.inl rfl) p H3 s3 n0 h3⟩
      · subst e
        cases hx with
        | tup hs hn ha =>
        rename_i a xs
        have ex := ha.toInts
        subst ex
        have hx := Dq.tup (K := K) hs hn ha
        have ne0 : zs.map V.int ≠ [] := fun e => by
          have h := hB.1
          rw [List.map_eq_nil_iff] at e
          rw [e] at h
          cases h
        refine ⟨_, pss_cons (ps_if (pt_not (pt_val (pe_cd CB hr (by rfl) pass0 (pa_cons (pv 0) pa_nil))))
        (pss_one (ps_raise rfl (takes_of rfl rfl rfl rfl) (pmk_rs R (hr.mono (by decide)) (by rfl) pe_non (fun _ _ _ _ f q => f _ _ q))))
        pss_nil)
      (pss_cons (ps_set (i := 1) sc.nd rfl (Or.inl rfl) (pe_lst (pa_cons pe_int pa_nil)))
      (pss_cons (ps_for (passes_of rfl) rfl (pi_tup (pe_revT (pv 0))) (pg_name (i := 2) sc.nd rfl (Or.inl rfl))
        (pss_one (ps_expr (pe_bm PySem.F.plainAttrs_list PySem.F.slot_list_append PySem.F.type_list_append mt_append (pv 1) (pa_cons (pe_op op_mul (pe_ix ix_list (pv 1) (pe_un un_neg pe_int) (fun _ _ => rfl)) (pv 2)) pa_nil)))))
      (pss_one (ps_ret (pv 1))))), ?_⟩
        refine ⟨_, rfl, _, d, _, rfl, hx, fun H1 s1 => ⟨_, rfl, ?_⟩⟩
        rw [hb]
        refine iteF ?_
        refine ⟨by show 1 ≤ sizeLine; decide, fun p hp => ?_⟩
        have n0 : H p = none := Same.free s1 hp
        have s2 : Same H (upd H1 p (.lst [.int 1])) := s1.trans (upd_new hp)
        refine ⟨_, rfl, a, _, rfl, Or.inl ((Bt.of s2 (d := d)).rd hn hs), ne0, ?_⟩
        intro r hnr
        have npr : p ≠ r := ne_of_none upd_same hnr
        refine ⟨r, rfl, ⟨_, Or.inl (Or.inl upd_same)⟩, for_tup (K := K) (a := r) (xs := (zs.map V.int).reverse) (fun i σ H3 => ∃ u : Option V, σ = [some (.ref a), some (.ref p), u] ∧ Same H H3 ∧ H3 p = some (.lst ((prods zs (i + 1)).map V.int)) ∧ H3 r = some (.tup (zs.map V.int).reverse)) ?_ (fun i σ H3 _ ⟨_, _, _, _, q⟩ => Or.inl (Or.inl q)) ?_ ?_⟩
        · refine ⟨_, rfl, s2.trans (upd_new hnr), ?_, upd_same⟩
          rw [upd_ne npr, upd_same]
          show some (HO.lst [V.int 1]) = some (HO.lst [V.int (prodL (zs.drop (zs.length - 0)))])
          rw [Nat.sub_zero, List.drop_length]
          rfl
        · rintro i y σ H3 hi ⟨u, rfl, s3, h3, h4⟩
          rw [← List.map_reverse, List.getElem?_map] at hi
          cases ez : zs.reverse[i]? with
          | none => rw [ez] at hi; cases hi
          | some z =>
            rw [ez] at hi
            cases hi
            have hz : 2 ≤ z ∧ z ≤ 100 := hB.2.2 z (List.mem_reverse.mp (List.mem_of_getElem? ez))
            have hil : i < zs.length := by
              have := (List.getElem?_eq_some_iff.mp ez).1
              rwa [List.length_reverse] at this
            obtain ⟨b1, b2⟩ := prodL_le (zs := zs.drop (zs.length - i)) (n := 4) (fun y hy => hB.2.2 y (List.mem_of_mem_drop hy)) (by rw [List.length_drop]; have := hB.2.1; omega)
            have hat : atI ((prods zs (i + 1)).map V.int) (-1) = some (.int (prodL (zs.drop (zs.length - i)))) := by
              rw [prods_succ, List.map_append]
              exact atI_last _ _
            refine ⟨_, rfl, .inl ⟨rfl, _, .inl (.inl h3)⟩, _, rfl, _, rfl, p, _, _, _, rfl, rfl, SqL.of h3, hat, _, rfl, _, _, rfl, rfl, .inl ⟨by omega, by omega⟩, ?_⟩
            refine ⟨p, _, _, rfl, rfl, h3, ?_, ?_⟩
            · rw [List.length_map, prods_len, sizeLine_eq]
              have := hB.2.1
              omega
            · refine ⟨_, rfl, fun b o e => ?_, ?_, by rw [upd_ne (Ne.symm npr)]; exact h4⟩
              · rw [upd_ne (ne_of_none e n0)]
                exact s3 b o e
              · rw [upd_same, prods_succ zs (i + 1), List.map_append, rev_at ez]
                rfl
        · rintro σ H3 ⟨u, rfl, s3, h3, _⟩
          rw [List.length_reverse, List.length_map] at h3
          exact ⟨_, rfl, q1 zs hB (.inr rfl) p H3 s3 n0 h3⟩
theorem cut_last {zs : List Int} {n : Nat} : cutV ((prods zs (n + 1)).map V.int) none (some (-1)) = (prods zs n).map V.int := by
  have e : ((prods zs (n + 1)).map V.int).length = n + 1 := by rw [List.length_map, prods_len]
  have h1 : HT.sIx (n + 1) 0 none = 0 := rfl
  have h2 : HT.sIx (n + 1) (n + 1) (some (-1)) = n := by
    show (if (-1 : Int) < 0 then ((-1 : Int) + ((n + 1 : Nat) : Int)).toNat else min (-1 : Int).toNat (n + 1)) = n
    rw [if_pos (by decide)]
    omega
  unfold cutV
  rw [e, h1, h2, List.drop_zero, Nat.sub_zero, prods_succ, List.map_append, List.take_append_of_le_length (by rw [List.length_map, prods_len]; exact Nat.le_refl _), List.take_of_length_le (by rw [List.length_map, prods_len]; exact Nat.le_refl _)]
theorem ok_wts {f : Addr} {fd : FuncData} (F : FunD K "weights" "weights" (defArgs sWts) (defBody sWts) (defScope sWts) [] [] f fd) (CP : Cd P w K mg base (L2.CX P w) 3 "_products" ["bases"] (spProds K "NoNumeral")) (g_tuple : mg "tuple" = none) :
    FnOk P w K mg base (L2.CX P w) 4 f fd ["bases"] (spWts K "NoNumeral") := by
  refine F.ok sc_wts (fun vs H Q E h => ?_) (fun cdv A outer s H vs Q E hr h => ?_)
  · obtain ⟨v, d, x, rfl, _⟩ := h
    rfl
  · obtain ⟨v, d, x, rfl, hx, q1, q2⟩ := h
    have sc := sc_wts
    refine ⟨_, pss_one (ps_ret (pe_callTy call_tuple_of (by rfl) g_tuple boot_tuple (pa_cons (pe_revL (pe_slice sl_list (pe_cd CP hr (by rfl) (passes_call (takes_of rfl rfl rfl rfl) (fun _ _ _ _ h => h)) (pa_cons (pv 0) pa_nil)) po_none (po_some (pe_un un_neg pe_int)))) pa_nil))), ?_⟩
    refine ⟨_, rfl, _, d, _, rfl, hx, fun zs hB hz p H1 s1 n1 h1 => ?_, q2⟩
    refine ⟨_, rfl, _, rfl, p, _, rfl, SqL.of h1, fun t ht => ?_⟩
    rw [cut_last]
    refine ⟨t, _, rfl, SqL.of upd_same, fun u hu => ⟨u, _, rfl, .inl ⟨SqL.of upd_same, fun l hl => ?_⟩⟩⟩
    have s2 : Same H (upd (upd (upd H1 t (.lst ((prods zs zs.length).map V.int))) u (.lst ((prods zs zs.length).map V.int).reverse)) l (.tup ((prods zs zs.length).map V.int).reverse)) := s1.trans ((upd_new ht).trans ((upd_new hu).trans (upd_new hl)))
    refine q1 zs hB hz l _ s2 (Same.free (s1.trans ((upd_new ht).trans (upd_new hu))) hl) ?_
    rw [upd_same, ← List.map_reverse, wts_eq]
theorem ok_cnt {f : Addr} {fd : FuncData} (F : FunD K "count_of" "count_of" (defArgs sCnt) (defBody sCnt) (defScope sCnt) [] [] f fd) (CP : Cd P w K mg base (L2.CX P w) 3 "_products" ["bases"] (spProds K "NoNumeral")) :
    FnOk P w K mg base (L2.CX P w) 4 f fd ["bases"] (spCnt K "NoNumeral") := by
  refine F.ok sc_cnt (fun vs H Q E h => ?_) (fun cdv A outer s H vs Q E hr h => ?_)
  · obtain ⟨v, d, x, rfl, _⟩ := h
    rfl
  · obtain ⟨v, d, x, rfl, hx, q1, q2⟩ := h
    have sc := sc_cnt
    refine ⟨_, pss_one (ps_ret (pe_ix ix_list (pe_cd CP hr (by rfl) (passes_call (takes_of rfl rfl rfl rfl) (fun _ _ _ _ h => h)) (pa_cons (pv 0) pa_nil)) (pe_un un_neg pe_int) (fun _ _ => rfl))), ?_⟩
    refine ⟨_, rfl, _, d, _, rfl, hx, fun zs hB hz p H1 s1 n1 h1 => ?_, q2⟩
    refine ⟨_, rfl, p, _, _, .int (prodL zs), rfl, rfl, SqL.of h1, ?_, q1 zs hB hz H1 s1⟩
    rw [prods_succ, List.map_append, Nat.sub_self, List.drop_zero]
    exact atI_last _ _
end
end K01

set_option Elab.async false
set_option linter.all false
set_option maxRecDepth 100000
set_option maxHeartbeats 4000000
namespace K01
open PySem PySem.Spec PyProof.Rows L2 Ru
abbrev nRef : List Str := ["_law_ask", "_law_caught", "error"]
theorem sc_ref : FnScope nRef ["_law_ask"] (defScope sRef) := ⟨rfl, rfl, rfl, by decide +kernel, rfl, by decide +kernel, by decide +kernel⟩
theorem gives_ref {X : Cx} {g : Addr} {cdg : Value} {q : Str} (R : RfK X.K X.mg) : LamX.GivesTo X nRef "_law_refused" (defScope sRef) g cdg (defBody sRef) "_law_ask" q (TTref X.K) := by
  intro f c' s H Q tl act hc h
  have sc := sc_ref
  refine ⟨_, pss_cons (ps_set (i := 1) sc.nd rfl (Or.inl rfl) pe_non)
    (pss_cons (ps_try_keep (X := (cxOf C8.CX0 X.prog X.w X.K X.mg X.base nRef "_law_refused" (defScope sRef) g cdg X.A X.stack s H C8.E0).nox) (c := .ref (He.ga X.K "RisingError")) (i := 2)
      (tb := fun W D σ H => ∃ Ech : XK, (∀ cls d σ' H', Ech cls d H' → σ'.length = 3 → W cls d σ' H') ∧ σ[0]? = some (some (.ref f)) ∧ H c' = some (LamX.CodeO c' q) ∧ tl Ech H fun _ H' => D.nx σ H')
      rfl rfl rfl sc.nd rfl rfl ⟨rfl, by decide, .inl R.gR⟩ LamX.takes0 (fun W pn xe tk _ => ?_) (fun a oe cls d pn _ _ => pss_one (ps_set (i := 1) sc.nd rfl (Or.inl rfl) (pv 2))))
    (pss_cons (ps_if (PW.pt (pw_or (pt_cmpR op_isN (pv 1) pe_non (nomark _))
        (pw_or (pt_not (pt_val (pe_callB call_isCx (by rfl) R.g_isi boot_isinstance (pa_cons (pv 1) (pa_cons (pe_glob (v := V.ref (He.ga X.K "NoNumeral")) (by rfl) R.gN rfl) pa_nil)))))
        (pw_or1 (pt_val (pe_callB call_isCxT (by rfl) R.g_isi boot_isinstance (pa_cons (pv 1) (pa_cons (pe_tup (pa_cons (pe_glob (v := V.ref (He.ga X.K "Overflow")) (by rfl) R.gO rfl) (pa_cons (pe_glob (v := V.ref (He.ga X.K "Unlike")) (by rfl) R.gU rfl) pa_nil))) pa_nil))))))))
      (pss_one (ps_ret pe_bl)) pss_nil)
    (pss_one (ps_ret (pe_and (pe_cmpR op_isN (pe_cxf (pv 1)) pe_non (nomark _)) (pe_one (pe_callB call_isCx (by rfl) R.g_isi boot_isinstance (pa_cons (pv 1) (pa_cons (pe_bltn (v := V.ty "ValueError") (by rfl) R.g_VE PyProof.Rows.Boot.«ValueError» rfl) pa_nil))))))))), ?_⟩
  · refine ⟨fun pins s' σ H' D I h' => ?_⟩
    obtain ⟨Ech, hW, h1, h2, h3⟩ := h'
    exact (pss_one (ps_expr (act (fun cls d σ' H' => σ'.length = 3 → W cls d σ' H') pn xe Ech _ _ (takes_len tk) (fun cls d σ' H' e => hW cls d σ' H' e)))).run pins s' σ H' D I ⟨h1, h2, h3⟩
  · refine ⟨fun cls d H' => cls = .ref (He.ga X.K "NoNumeral") ∧ ∃ dd, d = some dd ∧ H' dd = some (.xd [("at", .non)]) ∧ ∀ H'', Same H' H'' → Q (.bl true) H'', ?_, rfl, hc, ?_⟩
    · rintro cls d σ' H' ⟨rfl, dd, rfl, h1, k⟩ hl
      match σ', hl with
      | [x0, x1, x2], _ =>
      refine ⟨true, R.ex, fun _ a ha => ?_, nofun⟩
      have nda : dd ≠ a := ne_of_none h1 ha
      have sa : Same H' (upd H' a (ExC2 a (.ref (He.ga X.K "NoNumeral")) (some dd))) := upd_new ha
      have cx : CxAt (upd H' a (ExC2 a (.ref (He.ga X.K "NoNumeral")) (some dd))) a (He.ga X.K "NoNumeral") [("at", .non)] := .inr ⟨dd, upd_same, by rw [upd_ne nda]; exact h1⟩
      refine ⟨_, rfl, _, rfl, rfl, _, rfl, ?_⟩
      refine iteF ?_
      refine ⟨_, rfl, a, _, _, _, _, _, rfl, cx, R.xk, .own _, R.kN, _, rfl, ?_⟩
      refine iteF ?_
      refine ⟨_, rfl, by show 2 ≤ sizeLine; decide, fun t ht => ?_⟩
      have st := sa.trans (upd_new (o := .tup [V.ref (He.ga X.K "Overflow"), V.ref (He.ga X.K "Unlike")]) ht)
      have cx2 := cx.same (upd_new (o := .tup [V.ref (He.ga X.K "Overflow"), V.ref (He.ga X.K "Unlike")]) ht)
      refine ⟨a, _, _, t, _, _, _, rfl, cx2, R.xk, upd_same, .cons (.own _) (.cons (.own _) .nil), kitAny_cons R.kO (fun _ => kitAny_cons R.kU (fun _ => kitAny_nil) nofun) nofun, _, rfl, ?_⟩
      refine iteF ?_
      refine ⟨_, rfl, a, _, _, .non, rfl, cx2, R.xk, R.no, rfl, rfl, _, rfl, ?_⟩
      refine iteT ?_
      exact ⟨_, rfl, a, _, _, _, _, _, rfl, cx2, R.xk, .ty _, R.kV, k _ st⟩
    · exact h _
end K01

set_option Elab.async false
set_option linter.all false
set_option maxRecDepth 100000
set_option maxHeartbeats 4000000
namespace K01
open PySem PySem.Spec PyProof.Rows L2 Ru
abbrev nOdd : List Str := ["_law_thing", "_law_face"]
theorem sc_odd : FnScope nOdd ["_law_thing"] (defScope sOddR) := ⟨rfl, rfl, rfl, by decide +kernel, rfl, by decide +kernel, by decide +kernel⟩
def qLam : Str := (envOfC "_law_odd_right" (defScope sOddR) 0 0 .none).qual ++ "<lambda>"
/-- what is no bases is told and refused -/
def spOddR (K : PySem.W.Frag) (T : List (Addr × Str)) : Sp := fun vs H Q _ => ∃ (v : V) (dp : Addr) (x : PyData), vs = [v] ∧ Dq K dp H v x ∧ Sh x ∧ basesD x = false ∧ LamX.Tabs T H ∧ ∀ H', LamX.ExtN H H' → LamX.Tabs T H' → Q (.bl true) H'
section
variable {P : Program} {w : World} {K : PySem.W.Frag} {mg : Str → Option Value} {base : Heap}
theorem ok_odd {f fR : Addr} {fd fdR : FuncData} (F : FunD K "_law_odd_right" "_law_odd_right" (defArgs sOddR) (defBody sOddR) (defScope sOddR) [] [] f fd) (FR : FunD K "_law_refused" "_law_refused" (defArgs sRef) (defBody sRef) (defScope sRef) [] [] fR fdR)
    (mR : mg "_law_refused" = some (.ref fR)) (CB : Cd P w K mg base CX0 2 "is_bases" ["thing"] (spIsB K)) (CW : Cd P w K mg base (L2.CX P w) 4 "weights" ["bases"] (spWts K "NoNumeral")) (CC : Cd P w K mg base (L2.CX P w) 4 "count_of" ["bases"] (spCnt K "NoNumeral"))
    (R : RfK K mg) (M : SmK K) (hf : He.fAd K ("_law_odd_right", none) = f) (TB : LamX.TabB base mg (He.cT K ("_law_odd_right", none)).1 (He.cT K ("_law_odd_right", none)).2) (g_repr : mg "repr" = none) :
    FnG P w K mg base CX0 7 f fd ["_law_thing"] (spOddR K [((He.cT K ("_law_odd_right", none)).2, qLam)]) := by
  obtain ⟨ocR, odR, dVR, kVR, docR, pmR, anR, cdvR, ctR, oslR, eR, lkR, hcdR, _, _⟩ := FR.ex
  have bR : Binds K fdR ["_law_ask"] [] := FR.bindsN fun _ _ _ _ _ _ us hl => match us, hl with | [_], _ => rfl
  subst eR
  refine okGT F sc_odd (fun vs H Q E h => ?_) (fun c A outer s H vs Q E hco hG hr h => ?_)
  · obtain ⟨v, d, x, rfl, _⟩ := h
    rfl
  · obtain ⟨v, dp, x, rfl, hx, sh, hb, hT, k⟩ := h
    have sc := sc_odd
    have e1 := hco _ hf
    have TB' : LamX.TabB base mg c (He.cT K ("_law_odd_right", none)).2 := by
      have e2 : (He.cT K ("_law_odd_right", none)).1 = c := e1
      rw [← e2]
      exact TB
    have un : ∀ p ∈ [((He.cT K ("_law_odd_right", none)).2, qLam)], p.1 = (He.cT K ("_law_odd_right", none)).2 → p.2 = qLam := fun p hp _ => by
      rw [List.mem_singleton.mp hp]
    have r2 : Room 2 (A.deeper (envOfC "_law_odd_right" (defScope sOddR) s.heap.objs.size f (.ref c))) := hr.mono (by decide)
    refine ⟨_, PSs.nox (pss_cons (ps_set (i := 1) sc.nd rfl (Or.inl rfl) (pe_callB (call_reprQ M hG hr.units) (by rfl) g_repr boot_repr (pa_cons (pv 0) pa_nil)))
      (pss_cons (ps_if (pt_cmpR op_isnot_bl (pe_cd CB r2 (by rfl) pass0 (pa_cons (pv 0) pa_nil)) pe_bl (nomark _)) (pss_one (ps_ret pe_bl)) pss_nil)
      (pss_cons (ps_if (pt_not (pt_val (LamX.pe_lamcall (k := 4) (T := [((He.cT K ("_law_odd_right", none)).2, qLam)]) (TT := TTref K) (by rfl) mR FR.kp lkR hcdR bR sc_ref rfl (Or.inl rfl) (gives_ref R) TB' rfl List.mem_cons_self un hr (LamX.lamS_by (sc := defScope sOddR) (by decide +kernel)) rfl (fun _ _ _ _ _ => rfl)
          (fun A outer s H E f c' hrA => pe_cd CW hrA (by rfl) (passes_call (takes_of rfl rfl rfl rfl) (fun _ _ _ _ h => h)) (pa_cons (pv 0) pa_nil))))) (pss_one (ps_ret pe_bl)) pss_nil)
      (pss_cons (ps_if (pt_not (pt_val (LamX.pe_lamcall (k := 4) (T := [((He.cT K ("_law_odd_right", none)).2, qLam)]) (TT := TTref K) (by rfl) mR FR.kp lkR hcdR bR sc_ref rfl (Or.inl rfl) (gives_ref R) TB' rfl List.mem_cons_self un hr (LamX.lamS_by (sc := defScope sOddR) (by decide +kernel)) rfl (fun _ _ _ _ _ => rfl)
          (fun A outer s H E f c' hrA => pe_cd CC hrA (by rfl) (passes_call (takes_of rfl rfl rfl rfl) (fun _ _ _ _ h => h)) (pa_cons (pv 0) pa_nil))))) (pss_one (ps_ret pe_bl)) pss_nil)
      (pss_one (ps_ret (pe_cmpR op_eq (pe_callB (call_reprQ M hG hr.units) (by rfl) g_repr boot_repr (pa_cons (pv 0) pa_nil)) (pv 1) (nomark _)))))))), ?_⟩
    have no : ∀ zs, Bss zs → (x = .list (intsD zs) ∨ x = .tuple (intsD zs)) → False := fun zs hB e => by
      rcases e with e | e
      · rw [e, (basesD_of hB).1] at hb
        cases hb
      · rw [e, (basesD_of hB).2] at hb
        cases hb
    refine ⟨_, rfl, _, _, _, rfl, hx, sh, ?_⟩
    refine ⟨_, rfl, v, dp, x, rfl, hx, fun H1 s1 => ⟨_, _, rfl, rfl, _, rfl, ?_⟩⟩
    rw [hb]
    refine iteF ?_
    refine ⟨hT.ext s1, fun H2 x2 T2 Qn => ⟨_, rfl, v, dp, x, rfl, (hx.same s1).ki (.ext x2), fun zs hB e => (no zs hB e).elim, fun _ dd H3 s3 _ e3 => ⟨rfl, dd, rfl, e3, fun H4 s4 => ⟨_, rfl, ?_⟩⟩⟩⟩
    refine iteF ?_
    have T4 := (T2.ext s3).ext s4
    have x4 : LamX.ExtN H H4 := (LamX.ExtN.of s1).trans (x2.trans ((LamX.ExtN.of s3).trans (LamX.ExtN.of s4)))
    refine ⟨T4, fun H5 x5 T5 Qn => ⟨_, rfl, v, dp, x, rfl, hx.ki (.ext (x4.trans x5)), fun zs hB e => (no zs hB e).elim, fun _ dd H6 s6 _ e6 => ⟨rfl, dd, rfl, e6, fun H7 s7 => ⟨_, rfl, ?_⟩⟩⟩⟩
    refine iteF ?_
    have x7 : LamX.ExtN H H7 := x4.trans (x5.trans ((LamX.ExtN.of s6).trans (LamX.ExtN.of s7)))
    refine ⟨_, rfl, _, _, _, rfl, hx.ki (.ext x7), sh, _, rfl, rfl, ?_⟩
    show Q (V.bl (decide (V.str x.shown = V.str x.shown))) H7
    rw [decide_eq_true rfl]
    exact k H7 x7 ((T5.ext s6).ext s7)
end
end K01

set_option Elab.async false
set_option linter.all false
set_option maxRecDepth 100000
set_option maxHeartbeats 4000000
namespace K01
open PySem PySem.Spec PyProof.Rows L2 Ru
theorem sc_pick : FnScope ["_law_pen_here", "_law_some"] ["_law_pen_here", "_law_some"] (defScope sPick) := ⟨rfl, rfl, rfl, by decide +kernel, rfl, by decide +kernel, by decide +kernel⟩
theorem sc_base : FnScope ["_law_pen_here"] ["_law_pen_here"] (defScope sBase) := ⟨rfl, rfl, rfl, by decide +kernel, rfl, by decide +kernel, by decide +kernel⟩
theorem sc_prod : FnScope ["_law_row", "_law_found", "_law_item"] ["_law_row"] (defScope sProd) := ⟨rfl, rfl, rfl, by decide +kernel, rfl, by decide +kernel, by decide +kernel⟩
/-- a drawn item -/
def spPickL (K : PySem.W.Frag) : Sp := fun vs H Q _ => ∃ (d l p : Addr) (cells : List Int) (a r : Int) (xs : List V), vs = [.ref d, .ref p] ∧ PenL H d l cells a r ∧ a ≤ 100000 ∧ p ≠ d ∧ SqL K H p xs ∧ 0 < xs.length ∧ xs.length ≤ 1000 ∧
  ∀ (j : Nat) (v : V) (a' r' : Int) (H' : Hp), xs[j]? = some v → a' ≤ a + 1 → Bt d H H' → PenL H' d l cells a' r' → Q v H'
/-- a base -/
def spBaseL : Sp := fun vs H Q _ => ∃ (d l : Addr) (cells : List Int) (a r : Int), vs = [.ref d] ∧ PenL H d l cells a r ∧ a ≤ 99990 ∧
  ∀ (z a' r' : Int) (H' : Hp), 2 ≤ z → z ≤ 100 → a' ≤ a + 3 → Bt d H H' → PenL H' d l cells a' r' → Q (.int z) H'
/-- the product of a row -/
def spProdL (K : PySem.W.Frag) : Sp := fun vs H Q _ => ∃ (p : Addr) (zs : List Int), vs = [.ref p] ∧ SqL K H p (zs.map V.int) ∧ zs.length ≤ 4 ∧ (∀ z ∈ zs, 2 ≤ z ∧ z ≤ 100) ∧ Q (.int (prodL zs)) H
section
variable {P : Program} {w : World} {K : PySem.W.Frag} {mg : Str → Option Value} {base : Heap}
theorem ok_pick {f : Addr} {fd : FuncData} (F : FunD K "_law_pick" "_law_pick" (defArgs sPick) (defBody sPick) (defScope sPick) [] [] f fd) (CT : Cd P w K mg base CX0 1 "_law_take" ["_law_pen_here", "_law_limit"] spTakeL) (g_len : mg "len" = none) :
    FnOk P w K mg base CX0 2 f fd ["_law_pen_here", "_law_some"] (spPickL K) := by
  refine F.ok sc_pick (fun vs H Q E h => ?_) (fun cdv A outer s H vs Q E hr h => ?_)
  · obtain ⟨d, l, p, cells, a, r, xs, rfl, _⟩ := h
    rfl
  · obtain ⟨d, l, p, cells, a, r, xs, rfl, PA, ha, hpd, hS, h0, h1, k⟩ := h
    refine ⟨_, PSs.nox (pss_one (ps_ret (pe_ix ix_list (pv 1) (pe_cd CT hr (by rfl) pass0 (pa_cons (pv 0) (pa_cons (pe_callB call_len_seq (by rfl) g_len PySem.boot_len (pa_cons (pv 1) pa_nil)) pa_nil))) (fun _ _ => rfl)))), ?_⟩
    refine ⟨_, rfl, _, rfl, _, rfl, p, _, rfl, .inl hS, d, l, cells, a, r, _, rfl, PA, ha, by omega, by omega, fun z a' r' H' z0 z1 h2 bt P' => ?_⟩
    obtain ⟨n, hn⟩ := Int.eq_ofNat_of_zero_le z0
    have hlt : n < xs.length := by omega
    exact ⟨p, xs, _, xs[n], rfl, rfl, bt.seq hpd hS, at_of hn (List.getElem?_eq_getElem hlt), k n _ a' r' H' (List.getElem?_eq_getElem hlt) h2 bt P'⟩
theorem ok_base {f : Addr} {fd : FuncData} (F : FunD K "_law_base" "_law_base" (defArgs sBase) (defBody sBase) (defScope sBase) [] [] f fd) (CT : Cd P w K mg base CX0 1 "_law_take" ["_law_pen_here", "_law_limit"] spTakeL)
    (CP : Cd P w K mg base CX0 2 "_law_pick" ["_law_pen_here", "_law_some"] (spPickL K)) : FnOk P w K mg base CX0 3 f fd ["_law_pen_here"] spBaseL := by
  refine F.ok sc_base (fun vs H Q E h => ?_) (fun cdv A outer s H vs Q E hr h => ?_)
  · obtain ⟨d, l, cells, a, r, rfl, _⟩ := h
    rfl
  · obtain ⟨d, l, cells, a, r, rfl, PA, ha, k⟩ := h
    have hr1 := hr.mono (show 1 ≤ 2 by decide)
    refine ⟨_, PSs.nox (pss_one (ps_ret (pe_cd CP hr (by rfl) pass0 (pa_cons (pv 0) (pa_cons (pe_lst (pa_cons pe_int (pa_cons pe_int (pa_cons pe_int (pa_cons pe_int (pa_cons (pe_op op_add pe_int (pe_cd CT hr1 (by rfl) pass0 (pa_cons (pv 0) (pa_cons pe_int pa_nil))))
      (pa_cons (pe_op op_add pe_int (pe_cd CT hr1 (by rfl) pass0 (pa_cons (pv 0) (pa_cons pe_int pa_nil)))) pa_nil))))))) pa_nil))))), ?_⟩
    refine ⟨_, rfl, _, rfl, d, l, cells, a, r, 99, rfl, PA, by omega, by decide, by decide, fun z1 a1 r1 H1 y0 y1 l1 b1 P1 => ?_⟩
    refine ⟨_, _, rfl, rfl, _, rfl, d, l, cells, a1, r1, 99, rfl, P1, by omega, by decide, by decide, fun z2 a2 r2 H2 y2 y3 l2 b2 P2 => ?_⟩
    refine ⟨_, _, rfl, rfl, by show 6 ≤ sizeLine; decide, fun p hp => ?_⟩
    refine ⟨d, l, p, cells, a2, r2, _, rfl, P2.same (upd_new hp), by omega, (ne_of_none P2.dk hp).symm, SqL.of upd_same, by show 0 < 6; decide, by show 6 ≤ 1000; decide, fun j v a' r' H' hj l3 b3 P3 => ?_⟩
    have hb : Bt d H H' := b1.trans (b2.trans ((Bt.of (upd_new hp)).trans b3))
    have fin : ∀ z : Int, v = .int z → 2 ≤ z → z ≤ 100 → Q v H' := fun z e c1 c2 => by
      rw [e]
      exact k z a' r' H' c1 c2 (by omega) hb P3
    match j, hj with
    | 0, hj => exact fin 2 (Option.some.inj hj).symm (by decide) (by decide)
    | 1, hj => exact fin 100 (Option.some.inj hj).symm (by decide) (by decide)
    | 2, hj => exact fin 10 (Option.some.inj hj).symm (by decide) (by decide)
    | 3, hj => exact fin 3 (Option.some.inj hj).symm (by decide) (by decide)
    | 4, hj => exact fin (2 + z1) (Option.some.inj hj).symm (by omega) (by omega)
    | 5, hj => exact fin (2 + z2) (Option.some.inj hj).symm (by omega) (by omega)
    | j + 6, hj => cases hj
theorem ok_prod {f : Addr} {fd : FuncData} (F : FunD K "_law_product" "_law_product" (defArgs sProd) (defBody sProd) (defScope sProd) [] [] f fd) : FnOk P w K mg base CX0 1 f fd ["_law_row"] (spProdL K) := by
  refine F.ok sc_prod (fun vs H Q E h => ?_) (fun cdv A outer s H vs Q E hr h => ?_)
  · obtain ⟨p, zs, rfl, _⟩ := h
    rfl
  · obtain ⟨p, zs, rfl, hS, hl, hz, q⟩ := h
    have sc := sc_prod
    refine ⟨_, PSs.nox (pss_cons (ps_set (i := 1) sc.nd rfl (Or.inl rfl) pe_int)
      (pss_cons (ps_for PassesOwn.never rfl (pi_list (pv 0)) (pg_name (i := 2) sc.nd rfl (Or.inl rfl)) (pss_one (ps_set (i := 1) sc.nd rfl (Or.inl rfl) (pe_op op_mul (pv 1) (pv 2)))))
      (pss_one (ps_ret (pv 1))))), ?_⟩
    refine ⟨_, rfl, p, rfl, ⟨_, hS⟩, for_list (K := K) (a := p) (xs := zs.map V.int) (fun i σ H2 => H2 = H ∧ ∃ u, σ = [some (.ref p), some (.int ((zs.take i).foldl (· * ·) 1)), u]) ⟨rfl, _, rfl⟩ (fun i σ H2 _ h => by rw [h.1]; exact hS) ?_ ?_⟩
    · rintro i y σ H2 hi ⟨rfl, u, rfl⟩
      rw [List.getElem?_map] at hi
      cases ez : zs[i]? with
      | none => rw [ez] at hi; cases hi
      | some z =>
        rw [ez] at hi
        cases hi
        obtain ⟨b1, b2⟩ := prodL_le (zs := zs.take i) (n := 4) (fun y hy => hz y (List.mem_of_mem_take hy)) (by rw [List.length_take]; omega)
        have e : (zs.take i).foldl (· * ·) 1 = prodL (zs.take i) := by rw [prodL_foldl, Int.one_mul]
        refine ⟨_, rfl, _, rfl, _, _, rfl, rfl, .inl ⟨by rw [e]; omega, by rw [e]; omega⟩, ?_⟩
        refine ⟨rfl, some (.int z), ?_⟩
        rw [List.take_succ, ez, List.foldl_append]
        rfl
    · rintro σ H2 ⟨rfl, u, rfl⟩
      refine ⟨_, rfl, ?_⟩
      rw [List.length_map, List.take_length, prodL_foldl, Int.one_mul]
      exact q
end
end K01

set_option Elab.async false
set_option linter.all false
set_option maxRecDepth 100000
set_option maxHeartbeats 4000000
namespace K01
open PySem PySem.Spec PyProof.Rows L2 Ru
abbrev nRight : List Str := ["_law_bases", "_law_due", "_law_passed", "_law_face", "_law_told", "_law_at"]
theorem sc_right : FnScope nRight ["_law_bases"] (defScope sRight) := ⟨rfl, rfl, rfl, by decide +kernel, rfl, by decide +kernel, by decide +kernel⟩
/-- weights and the number of numerals are told of a row of bases -/
def spRight (K : PySem.W.Frag) : Sp := fun vs H Q _ => ∃ (p : Addr) (zs : List Int), vs = [.ref p] ∧ SqL K H p (zs.map V.int) ∧ Bss zs ∧ ∀ H', Same H H' → Q (.bl true) H'
theorem wts_snoc (zs : List Int) (i : Nat) : ((List.range i).map fun k => V.int (prodL (zs.drop (k + 1)))) ++ [V.int (prodL (zs.drop (i + 1)))] = (List.range (i + 1)).map fun k => V.int (prodL (zs.drop (k + 1))) := by
  rw [List.range_succ, List.map_append]
  rfl
theorem cut_from {zs : List Int} {i : Nat} (h : i < zs.length) : cutV (zs.map V.int) (some (((0 : Int) + (i : Nat)) + 1)) none = (zs.drop (i + 1)).map V.int := by
  have h1 : HT.sIx zs.length 0 (some (((0 : Int) + (i : Nat)) + 1)) = i + 1 := by
    show (if ((0 : Int) + (i : Nat)) + 1 < 0 then (((0 : Int) + (i : Nat)) + 1 + (zs.length : Int)).toNat else min (((0 : Int) + (i : Nat)) + 1).toNat zs.length) = i + 1
    rw [if_neg (by omega)]
    omega
  unfold cutV
  rw [List.length_map, h1, show HT.sIx zs.length zs.length none = zs.length from rfl, ← List.map_drop, List.take_of_length_le (by rw [List.length_map, List.length_drop]; exact Nat.le_refl _)]
theorem md_ints {zs : List Int} (h : ∀ z ∈ zs, z.natAbs.log2 < 140) : ∀ d ∈ intsD zs, Md 1 141 d := fun d hd => by
  obtain ⟨z, hz, e⟩ := List.mem_map.mp hd
  rw [← e]
  exact Md.int (h z hz)
theorem wts_log {zs : List Int} (B : Bss zs) : ∀ z ∈ wts zs, z.natAbs.log2 < 140 := fun z hz => by
  obtain ⟨i, hi, e⟩ := List.mem_map.mp hz
  obtain ⟨b1, b2⟩ := prodL_le (zs := zs.drop (i + 1)) (n := 4) (fun y hy => B.2.2 y (List.mem_of_mem_drop hy)) (by rw [List.length_drop]; have := B.2.1; omega)
  rw [← e]
  exact log2_small (by omega) b2
theorem bss_log {zs : List Int} (B : Bss zs) : ∀ z ∈ zs, z.natAbs.log2 < 140 := fun z hz => log2_small (by have := (B.2.2 z hz).1; omega) (by have := (B.2.2 z hz).2; omega)
def toldD (zs : List Int) : PyData := .list [.bool true, .tuple (intsD (wts zs)), .int (prodL zs)]
theorem wts_len (zs : List Int) : (wts zs).length = zs.length := by
  unfold wts
  rw [List.length_map, List.length_range]
theorem toldD_sh {zs : List Int} (B : Bss zs) : Sh (toldD zs) := by
  obtain ⟨b1, b2⟩ := prodL_le (zs := zs) (n := 4) B.2.2 B.2.1
  have h : ∀ d ∈ [PyData.bool true, .tuple (intsD (wts zs)), .int (prodL zs)], Md 2 1000 d := by
    intro d hd
    rcases List.mem_cons.mp hd with e | hd
    · rw [e]
      exact ⟨by decide +kernel, by decide +kernel, by decide +kernel⟩
    · rcases List.mem_cons.mp hd with e | hd
      · rw [e]
        refine (Md.tuple (md_ints (wts_log B))).mono (Nat.le_refl _) ?_
        rw [show (intsD (wts zs)).length = zs.length from (List.length_map _).trans (wts_len zs)]
        have := B.2.1
        omega
      · rcases List.mem_cons.mp hd with e | hd
        · rw [e]
          exact (Md.int (log2_small (by omega) b2)).mono (by decide) (by decide)
        · exact (List.not_mem_nil hd).elim
  exact (Md.list h).sh (by decide) (by show 3 + 3 * (1000 + 2) ≤ 100000; decide)
theorem ints_sh {zs : List Int} (B : Bss zs) : Sh (.list (intsD zs)) ∧ Sh (.tuple (intsD zs)) := by
  have hl : (intsD zs).length ≤ 4 := by rw [show (intsD zs).length = zs.length from List.length_map _]; exact B.2.1
  exact ⟨(Md.list (md_ints (bss_log B))).sh (by decide) (by omega), (Md.tuple (md_ints (bss_log B))).sh (by decide) (by omega)⟩
theorem ad1 (a b : Nat) : a ≠ a + b + 1 := by omega
theorem ad2 (a b : Nat) : b ≠ a + b + 1 := by omega
theorem ints_inj : ∀ {xs ys : List Int}, intsD xs = intsD ys → xs = ys
  | [], [], _ => rfl
  | [], _ :: _, e => by cases e
  | _ :: _, [], e => by cases e
  | x :: xs, y :: ys, e => by
    have h : PyData.int x :: intsD xs = PyData.int y :: intsD ys := e
    injection h with h1 h2
    injection h1 with h3
    rw [h3, ints_inj h2]
theorem same_row {x : PyData} {zs ys : List Int} (h : x = .list (intsD zs) ∨ x = .tuple (intsD zs)) (e : x = .list (intsD ys) ∨ x = .tuple (intsD ys)) : ys = zs := by
  rcases h with h | h <;> rcases e with e | e <;> rw [h] at e
  · injection e with e
    exact ints_inj e.symm
  · cases e
  · cases e
  · injection e with e
    exact ints_inj e.symm
section
variable {P : Program} {w : World} {K : PySem.W.Frag} {mg : Str → Option Value} {base : Heap}
theorem ok_right {f : Addr} {fd : FuncData} (F : FunD K "_law_right" "_law_right" (defArgs sRight) (defBody sRight) (defScope sRight) [] [] f fd) (CB : Cd P w K mg base CX0 2 "is_bases" ["thing"] (spIsB K)) (CW : Cd P w K mg base (L2.CX P w) 4 "weights" ["bases"] (spWts K "NoNumeral"))
    (CC : Cd P w K mg base (L2.CX P w) 4 "count_of" ["bases"] (spCnt K "NoNumeral")) (CP : Cd P w K mg base CX0 1 "_law_product" ["_law_row"] (spProdL K)) (M : SmK K)
    (g_repr : mg "repr" = none) (g_tuple : mg "tuple" = none) (g_list : mg "list" = none) (g_range : mg "range" = none) (g_len : mg "len" = none) :
    FnG P w K mg base CX0 5 f fd ["_law_bases"] (spRight K) := by
  refine okG F sc_right (fun vs H Q E h => ?_) (fun cdv A outer s H vs Q E hG hr h => ?_)
  · obtain ⟨p, zs, rfl, _⟩ := h
    rfl
  · obtain ⟨p, zs, rfl, hS, B, k⟩ := h
    have sc := sc_right
    have r1 : Room 1 (A.deeper (envOfC "_law_right" (defScope sRight) s.heap.objs.size f cdv)) := hr.mono (by decide)
    have r2 : Room 2 (A.deeper (envOfC "_law_right" (defScope sRight) s.heap.objs.size f cdv)) := hr.mono (by decide)
    refine ⟨_, PSs.nox (pss_cons (ps_set (i := 1) sc.nd rfl (Or.inl rfl) (pe_callTy call_tuple_of (by rfl) g_tuple boot_tuple (pa_cons (pe_lc (own := [("_law_at", 5)]) (g := gName 5) (tt := tYes) (te := tCall (spProdL K) [] E0 (tCons (tSl (rSlL K) (tVar 0) (tPart (tOp (rI0 fun i j => .int (i + j)) (tVar 5) (tC (.int 1)))) tNoPart) tNil)) rfl sc.nd (pi_range1 rfl g_range (pa_cons (pe_callB call_len_seq (by rfl) g_len PySem.boot_len (pa_cons (pv 0) pa_nil)) pa_nil))
        (blkOk_by (N := nRight) (sc := defScope sRight) (by decide +kernel)) (fun _ _ _ _ _ => pg_name (i := 5) sc.nd rfl (Or.inl rfl)) (fun _ _ _ _ _ => pts_nil)
        (fun _ _ _ _ _ => pe_cd CP r1 (by rfl) pass0 (pa_cons (pe_slice sl_list (pv 0) (po_some (pe_op op_add (pv 5) pe_int)) po_none) pa_nil))) pa_nil)))
      (pss_cons (ps_for PassesOwn.never rfl (pi_list (pe_lst (pa_cons (pe_callTy call_list_of (by rfl) g_list boot_list (pa_cons (pv 0) pa_nil)) (pa_cons (pe_callTy call_tuple_of (by rfl) g_tuple boot_tuple (pa_cons (pv 0) pa_nil)) pa_nil)))) (pg_name (i := 2) sc.nd rfl (Or.inl rfl))
        (pss_cons (ps_set (i := 3) sc.nd rfl (Or.inl rfl) (pe_callB (call_reprQ M hG hr.units) (by rfl) g_repr boot_repr (pa_cons (pv 2) pa_nil)))
        (pss_cons (ps_set (i := 4) sc.nd rfl (Or.inl rfl) (pe_lst (pa_cons (pe_cd CB r2 (by rfl) pass0 (pa_cons (pv 2) pa_nil)) (pa_cons (pe_cd CW hr (by rfl) (passes_call (E := E0) LamX.takes0 (fun _ _ _ _ h => h.elim)) (pa_cons (pv 2) pa_nil)) (pa_cons (pe_cd CC hr (by rfl) (passes_call (E := E0) LamX.takes0 (fun _ _ _ _ h => h.elim)) (pa_cons (pv 2) pa_nil)) pa_nil)))))
        (pss_one (ps_if (PW.pt (pw_or (pt_cmpR op_ne (pe_callB (call_reprQ M hG hr.units) (by rfl) g_repr boot_repr (pa_cons (pv 4) pa_nil)) (pe_callB (call_reprQ M hG hr.units) (by rfl) g_repr boot_repr (pa_cons (pe_lst (pa_cons pe_bl (pa_cons (pv 1) (pa_cons (pe_cd CP r1 (by rfl) pass0 (pa_cons (pv 0) pa_nil)) pa_nil)))) pa_nil)) (nomark _))
            (pw_or1 (pt_cmpR op_ne (pe_callB (call_reprQ M hG hr.units) (by rfl) g_repr boot_repr (pa_cons (pv 2) pa_nil)) (pv 3) (nomark _)))))
          (pss_one (ps_ret pe_bl)) pss_nil)))))
      (pss_one (ps_ret pe_bl)))), ?_⟩
    have hlen : (zs.map V.int).length = zs.length := List.length_map _
    have hl4 := B.2.1
    refine ⟨_, rfl, p, _, rfl, .inl hS, _, rfl, by omega, by omega, fun D hD => lc_range (lo := 0) (n := ((zs.map V.int).length : Int).toNat) (fun i H' => Same H H' ∧ H' D = some (.lst ((List.range i).map fun k => V.int (prodL (zs.drop (k + 1))))) ∧ H D = none)
      ⟨upd_new hD, upd_same, hD⟩ (fun i H' hi hp => ?_) (fun H1 hp => ?_)⟩
    · obtain ⟨s1, h1, n1⟩ := hp
      have hi' : i < zs.length := by omega
      refine ⟨rfl, yesT ?_⟩
      refine yes_ ?_
      refine ⟨_, rfl, _, rfl, _, _, rfl, rfl, _, rfl, p, _, rfl, s1.seq hS, fun q hq => ?_⟩
      rw [cut_from hi']
      have ndq : D ≠ q := ne_of_none h1 hq
      refine ⟨q, zs.drop (i + 1), rfl, SqL.of upd_same, by rw [List.length_drop]; omega, fun z hz => B.2.2 z (List.mem_of_mem_drop hz), _, by rw [upd_ne ndq]; exact h1, ?_, ?_, ?_, n1⟩
      · rw [List.length_map, List.length_range, sizeLine_eq]
        omega
      · exact fun b o e => by
          rw [upd_ne (ne_of_none e n1)]
          exact (s1.trans (upd_new hq)) b o e
      · rw [upd_same, wts_snoc]
    · obtain ⟨s1, h1, n1⟩ := hp
      have ew : (List.range ((zs.map V.int).length : Int).toNat).map (fun k => V.int (prodL (zs.drop (k + 1)))) = (wts zs).map V.int := by
        unfold wts
        rw [List.map_map, hlen, Int.toNat_natCast]
        rfl
      rw [ew] at h1
      refine ⟨D, _, rfl, .inl ⟨SqL.of h1, fun t ht => ?_⟩⟩
      have st : Same H (upd H1 t (.tup ((wts zs).map V.int))) := s1.trans (upd_new ht)
      have h2 : (upd H1 t (.tup ((wts zs).map V.int))) t = some (.tup ((wts zs).map V.int)) := upd_same
      generalize upd H1 t (.tup ((wts zs).map V.int)) = H2 at st h2 ⊢
      refine ⟨_, rfl, p, _, rfl, .inl (st.seq hS), fun q hq => ?_⟩
      refine ⟨_, rfl, p, _, rfl, .inl ⟨(st.trans (upd_new hq)).seq hS, fun u hu => ?_⟩⟩
      refine ⟨by show 2 ≤ sizeLine; decide, fun l hl => ?_⟩
      have nqu : q ≠ u := ne_of_none upd_same hu
      have nul : u ≠ l := ne_of_none upd_same hl
      have nql : q ≠ l := ne_of_none (H := upd (upd H2 q (.lst (zs.map V.int))) u (.tup (zs.map V.int))) (by rw [upd_ne nqu]; exact upd_same) hl
      have s3 : Same H2 (upd (upd (upd H2 q (.lst (zs.map V.int))) u (.tup (zs.map V.int))) l (.lst [.ref q, .ref u])) := (upd_new hq).trans ((upd_new hu).trans (upd_new hl))
      have b1 : (upd (upd (upd H2 q (.lst (zs.map V.int))) u (.tup (zs.map V.int))) l (.lst [.ref q, .ref u])) q = some (.lst (zs.map V.int)) := by rw [upd_ne nql, upd_ne nqu]; exact upd_same
      have b2 : (upd (upd (upd H2 q (.lst (zs.map V.int))) u (.tup (zs.map V.int))) l (.lst [.ref q, .ref u])) u = some (.tup (zs.map V.int)) := by rw [upd_ne nul]; exact upd_same
      have b3 : (upd (upd (upd H2 q (.lst (zs.map V.int))) u (.tup (zs.map V.int))) l (.lst [.ref q, .ref u])) l = some (.lst [.ref q, .ref u]) := upd_same
      generalize upd (upd (upd H2 q (.lst (zs.map V.int))) u (.tup (zs.map V.int))) l (.lst [.ref q, .ref u]) = Hb at s3 b1 b2 b3 ⊢
      refine ⟨l, rfl, ⟨_, SqL.of b3⟩, for_list (K := K) (a := l) (xs := [.ref q, .ref u]) (fun i σ H3 => ∃ x2 x3 x4 : Option V, σ = [some (.ref p), some (.ref t), x2, x3, x4, none] ∧ Same Hb H3) ⟨none, none, none, rfl, Same.refl _⟩ (fun i σ H3 _ ⟨_, _, _, _, q⟩ => SqL.of (q _ _ b3)) ?_ ?_⟩
      · rintro i y σ H3 hi ⟨x2, x3, x4, rfl, s4⟩
        have hy : ∃ x dp, Dq K dp Hb y x ∧ (x = .list (intsD zs) ∨ x = .tuple (intsD zs)) := by
          match i, hi with
          | 0, hi =>
            cases hi
            exact ⟨_, q + 0 + 1, .lst (SqL.of b1) (ad1 q 0) dq_ints, .inl rfl⟩
          | 1, hi =>
            cases hi
            exact ⟨_, u + 0 + 1, .tup (.inl b2) (ad1 u 0) dq_ints, .inr rfl⟩
          | i + 2, hi => cases hi
        obtain ⟨x, dp, hd, hx⟩ := hy
        have hxt : basesD x = true := by
          rcases hx with e | e
          · rw [e]; exact (basesD_of B).1
          · rw [e]; exact (basesD_of B).2
        have shx : Sh x := by
          rcases hx with e | e
          · rw [e]; exact (ints_sh B).1
          · rw [e]; exact (ints_sh B).2
        have nob : basesD x = false → False := fun e => by rw [hxt] at e; cases e
        refine ⟨_, rfl, y, dp, x, rfl, hd.same s4, shx, ?_⟩
        refine ⟨_, rfl, y, dp, x, rfl, hd.same s4, fun H4 s5 => ?_⟩
        rw [hxt]
        refine ⟨_, rfl, y, dp, x, rfl, (hd.same s4).same s5, fun zs' B' e' w1 H5 s6 n6 h6 => ?_, fun e => (nob e).elim⟩
        obtain rfl := (same_row hx e').symm
        refine ⟨_, rfl, y, dp, x, rfl, ((hd.same s4).same s5).same s6, fun zs'' B'' e'' H6 s7 => ?_, fun e => (nob e).elim⟩
        obtain rfl := (same_row hx e'').symm
        refine ⟨by show 3 ≤ sizeLine; decide, fun l2 hl2 => ?_⟩
        have s8 : Same H3 H6 := s5.trans (s6.trans s7)
        have w6 : H6 w1 = some (.tup ((wts zs).map V.int)) := s7 _ _ h6
        have d7 : Dq K (l2 + w1 + 1) (upd H6 l2 (.lst [.bl true, .ref w1, .int (prodL zs)])) (.ref l2) (toldD zs) :=
          .lst (SqL.of upd_same) (ad1 _ _) (.cons (.bl true) (.cons (.tup (.inl (by rw [upd_ne (ne_of_none w6 hl2)]; exact w6)) (ad2 _ _) dq_ints) (.cons (.int _) .nil)))
        have s9 : Same H6 (upd H6 l2 (.lst [.bl true, .ref w1, .int (prodL zs)])) := upd_new hl2
        generalize upd H6 l2 (.lst [.bl true, .ref w1, .int (prodL zs)]) = H7 at d7 s9 ⊢
        have t7 : H7 t = some (.tup ((wts zs).map V.int)) := s9 _ _ (s8 _ _ (s4 _ _ (s3 _ _ h2)))
        have p7 : SqL K H7 p (zs.map V.int) := s9.seq (s8.seq (s4.seq (s3.seq (st.seq hS))))
        refine ⟨_, rfl, _, _, toldD zs, rfl, d7, toldD_sh B, ?_⟩
        refine ⟨_, rfl, _, rfl, p, zs, rfl, p7, B.2.1, B.2.2, by show 3 ≤ sizeLine; decide, fun l3 hl3 => ?_⟩
        have d8 : Dq K (l3 + t + 1) (upd H7 l3 (.lst [.bl true, .ref t, .int (prodL zs)])) (.ref l3) (toldD zs) :=
          .lst (SqL.of upd_same) (ad1 _ _) (.cons (.bl true) (.cons (.tup (.inl (by rw [upd_ne (ne_of_none t7 hl3)]; exact t7)) (ad2 _ _) dq_ints) (.cons (.int _) .nil)))
        have s10 : Same H7 (upd H7 l3 (.lst [.bl true, .ref t, .int (prodL zs)])) := upd_new hl3
        generalize upd H7 l3 (.lst [.bl true, .ref t, .int (prodL zs)]) = H8 at d8 s10 ⊢
        refine ⟨_, _, toldD zs, rfl, d8, toldD_sh B, rfl, _, rfl, ?_⟩
        have s11 : Same H3 H8 := s8.trans (s9.trans s10)
        have eT : ∀ a : Str, (!decide (V.str a = V.str a)) = false := fun a => by rw [decide_eq_true rfl]; rfl
        rw [eT]
        refine iteF ?_
        refine ⟨_, rfl, _, _, x, rfl, (hd.same s4).same s11, shx, _, rfl, rfl, _, rfl, ?_⟩
        rw [eT]
        refine iteF ?_
        exact ⟨_, _, _, rfl, s4.trans s11⟩
      · rintro σ H3 ⟨x2, x3, x4, rfl, s4⟩
        exact k H3 (st.trans (s3.trans s4))
end
end K01

set_option Elab.async false
set_option linter.all false
set_option maxRecDepth 100000
set_option maxHeartbeats 4000000
namespace K01
open PySem PySem.Spec PyProof.Rows L2 Ru
abbrev nBent : List Str := ["_law_pen_here", "_law_bases", "_law_way", "_law_at", "_law_odd", "_law_found"]
theorem sc_bent : FnScope nBent ["_law_pen_here", "_law_bases"] (defScope sBent) := ⟨rfl, rfl, rfl, by decide +kernel, rfl, by decide +kernel, by decide +kernel⟩
/-- a value that is no bases -/
def spBent (K : PySem.W.Frag) : Sp := fun vs H Q _ => ∃ (d l p : Addr) (cells : List Int) (a r : Int) (zs : List Int), vs = [.ref d, .ref p] ∧ PenL H d l cells a r ∧ a ≤ 99990 ∧ p ≠ d ∧ H p = some (.lst (zs.map V.int)) ∧ Bss zs ∧
  ∀ (v : V) (x : PyData) (a' r' : Int) (H' : Hp), Dq K d H' v x → Sh x → basesD x = false → a' ≤ a + 3 → Bt d H H' → PenL H' d l cells a' r' → Q v H'
theorem tail4 : ∀ y ∈ ([2, 3, 4, 5] : List Int), 0 ≤ y ∧ y ≤ 100 ^ 4 := by decide
theorem intsD_len {zs : List Int} : (intsD zs).length = zs.length := List.length_map _
def menu1 (zs : List Int) : List PyData := [.none, .tuple [], .list [], .str "2", .int 2, .dict [], .dict [(.int 2, .int 2)], .bool true, .tuple [.list (intsD zs)], .list [.list (intsD zs)], .str "ab"]
theorem menu1_ok {zs : List Int} (B : Bss zs) : ∀ x ∈ menu1 zs, Sh x ∧ basesD x = false := by
  have hl : (intsD zs).length ≤ 4 := by rw [show (intsD zs).length = zs.length from List.length_map _]; exact B.2.1
  have one : ∀ d ∈ [PyData.list (intsD zs)], Md 2 1000 d := fun d hd => by
    rw [List.mem_singleton.mp hd]
    exact (Md.list (md_ints (bss_log B))).mono (Nat.le_refl _) (by omega)
  intro x hx
  unfold menu1 at hx
  rcases List.mem_cons.mp hx with e | hx
  · rw [e]; exact ⟨⟨by decide +kernel, by decide +kernel, by decide +kernel⟩, rfl⟩
  rcases List.mem_cons.mp hx with e | hx
  · rw [e]; exact ⟨⟨by decide +kernel, by decide +kernel, by decide +kernel⟩, rfl⟩
  rcases List.mem_cons.mp hx with e | hx
  · rw [e]; exact ⟨⟨by decide +kernel, by decide +kernel, by decide +kernel⟩, rfl⟩
  rcases List.mem_cons.mp hx with e | hx
  · rw [e]; exact ⟨⟨by decide +kernel, by decide +kernel, by decide +kernel⟩, rfl⟩
  rcases List.mem_cons.mp hx with e | hx
  · rw [e]; exact ⟨⟨by decide +kernel, by decide +kernel, by decide +kernel⟩, rfl⟩
  rcases List.mem_cons.mp hx with e | hx
  · rw [e]; exact ⟨⟨by decide +kernel, by decide +kernel, by decide +kernel⟩, rfl⟩
  rcases List.mem_cons.mp hx with e | hx
  · rw [e]; exact ⟨⟨by decide +kernel, by decide +kernel, by decide +kernel⟩, rfl⟩
  rcases List.mem_cons.mp hx with e | hx
  · rw [e]; exact ⟨⟨by decide +kernel, by decide +kernel, by decide +kernel⟩, rfl⟩
  rcases List.mem_cons.mp hx with e | hx
  · rw [e]; exact ⟨(Md.tuple one).sh (by decide) (by show 3 + 1 * (1000 + 2) ≤ 100000; decide), (basesD_odd List.mem_cons_self rfl).2⟩
  rcases List.mem_cons.mp hx with e | hx
  · rw [e]; exact ⟨(Md.list one).sh (by decide) (by show 3 + 1 * (1000 + 2) ≤ 100000; decide), (basesD_odd List.mem_cons_self rfl).1⟩
  rcases List.mem_cons.mp hx with e | hx
  · rw [e]; exact ⟨⟨by decide +kernel, by decide +kernel, by decide +kernel⟩, rfl⟩
  exact (List.not_mem_nil hx).elim
def menu2 : List PyData := [.int 1, .int 0, .int (-2), .int 101, .int (10 ^ 40), .bool true, .bool false, .str "7", .none, .tuple [.int 7], .list [.int 7], .dict []]
def md2B (x : PyData) : Bool := x.showable && decide (x.depth ≤ 2) && decide (x.shown.length ≤ 141) && !baseD x
theorem menu2_ok : ∀ x ∈ menu2, Md 2 141 x ∧ baseD x = false := by
  have h : menu2.all md2B = true := by decide +kernel
  intro x hx
  have z := List.all_eq_true.mp h x hx
  unfold md2B at z
  simp only [Bool.and_eq_true, decide_eq_true_eq, Bool.not_eq_true'] at z
  exact ⟨⟨z.1.1.1, z.1.1.2, z.1.2⟩, z.2⟩
section
variable {P : Program} {w : World} {K : PySem.W.Frag} {mg : Str → Option Value} {base : Heap}
theorem ok_bent {f : Addr} {fd : FuncData} (F : FunD K "_law_bent" "_law_bent" (defArgs sBent) (defBody sBent) (defScope sBent) [] [] f fd) (CT : Cd P w K mg base CX0 1 "_law_take" ["_law_pen_here", "_law_limit"] spTakeL)
    (CP : Cd P w K mg base CX0 2 "_law_pick" ["_law_pen_here", "_law_some"] (spPickL K)) (g_len : mg "len" = none) (g_tuple : mg "tuple" = none) : FnOk P w K mg base CX0 3 f fd ["_law_pen_here", "_law_bases"] (spBent K) := by
  refine F.ok sc_bent (fun vs H Q E h => ?_) (fun cdv A outer s H vs Q E hr h => ?_)
  · obtain ⟨d, l, p, cells, a, r, zs, rfl, _⟩ := h
    rfl
  · obtain ⟨d, l, p, cells, a, r, zs, rfl, PA, ha, hpd, hS, B, k⟩ := h
    have sc := sc_bent
    have hu := hu_of hr
    have r1 : Room 1 (A.deeper (envOfC "_law_bent" (defScope sBent) s.heap.objs.size f cdv)) := hr.mono (by decide)
    refine ⟨_, PSs.nox (pss_cons (ps_set (i := 2) sc.nd rfl (Or.inl rfl) (pe_cd CT r1 (by rfl) pass0 (pa_cons (pv 0) (pa_cons pe_int pa_nil))))
      (pss_cons (ps_if (pt_cmpR op_eq (pv 2) pe_int (nomark _))
        (pss_one (ps_ret (pe_cd CP hr (by rfl) pass0 (pa_cons (pv 0) (pa_cons (pe_lst (pa_cons pe_non (pa_cons (pe_tup pa_nil) (pa_cons (pe_lst pa_nil) (pa_cons pe_str (pa_cons pe_int (pa_cons pe_dnewK (pa_cons (pe_disp (pps_cons pe_int pe_int pps_nil) rfl rfl (by simp) (by decide)) (pa_cons pe_bl (pa_cons (pe_tup (pa_cons (pv 1) pa_nil)) (pa_cons (pe_lst (pa_cons (pv 1) pa_nil)) (pa_cons pe_str pa_nil)))))))))))) pa_nil)))))
        pss_nil)
      (pss_cons (ps_if (pt_cmpR op_eq (pv 2) pe_int (nomark _))
        (pss_one (ps_ret (pe_slice sl_list (pe_op op_cat (pv 1) (pe_lst (pa_cons pe_int (pa_cons pe_int (pa_cons pe_int (pa_cons pe_int pa_nil)))))) po_none (po_some (pe_op op_add pe_int (pe_cd CT r1 (by rfl) pass0 (pa_cons (pv 0) (pa_cons (pe_callB call_len_seq (by rfl) g_len PySem.boot_len (pa_cons (pv 1) pa_nil)) pa_nil))))))))
        pss_nil)
      (pss_cons (ps_set (i := 3) sc.nd rfl (Or.inl rfl) (pe_cd CT r1 (by rfl) pass0 (pa_cons (pv 0) (pa_cons (pe_callB call_len_seq (by rfl) g_len PySem.boot_len (pa_cons (pv 1) pa_nil)) pa_nil))))
      (pss_cons (ps_set (i := 4) sc.nd rfl (Or.inl rfl) (pe_cd CP hr (by rfl) pass0 (pa_cons (pv 0) (pa_cons (pe_lst (pa_cons pe_int (pa_cons pe_int (pa_cons (pe_un un_neg pe_int) (pa_cons pe_int (pa_cons (pe_op op_pow pe_int pe_int) (pa_cons pe_bl (pa_cons pe_bl (pa_cons pe_str (pa_cons pe_non (pa_cons (pe_tup (pa_cons pe_int pa_nil)) (pa_cons (pe_lst (pa_cons pe_int pa_nil)) (pa_cons pe_dnewK pa_nil))))))))))))) pa_nil))))
      (pss_cons (ps_set (i := 5) sc.nd rfl (Or.inl rfl) (pe_op op_cat (pe_op op_cat (pe_slice sl_list (pv 1) po_none (po_some (pv 3))) (pe_lst (pa_cons (pv 4) pa_nil))) (pe_slice sl_list (pv 1) (po_some (pe_op op_add (pv 3) pe_int)) po_none)))
      (pss_one (ps_ret (pe_ifExp (pt_cmpR op_eq (pv 2) pe_int (nomark _)) (pe_callTy call_tuple_of (by rfl) g_tuple boot_tuple (pa_cons (pv 5) pa_nil)) (pv 5)))))))))), ?_⟩
    refine ⟨_, rfl, d, l, cells, a, r, 4, rfl, PA, by omega, by decide, by decide, fun z a1 r1' H1 y0 y1 l1 b1 P1 => ?_⟩
    have hS1 : H1 p = some (.lst (zs.map V.int)) := b1 _ _ hS hpd
    have hlen : (zs.map V.int).length = zs.length := List.length_map _
    obtain ⟨hB1, hB4, hBz⟩ := id B
    refine ⟨_, rfl, rfl, _, rfl, ?_⟩
    by_cases hz0 : z = 0
    · subst hz0
      rw [decide_eq_true rfl]
      refine iteT ?_
      have g0 : Bag K d l p cells zs a1 r1' H H1 [.non] [.none] := ⟨b1, P1, hS1, hpd, .cons .non .nil⟩
      refine ⟨_, rfl, by show 0 ≤ sizeLine; decide, fun q1 n1 => ?_⟩
      have g1 := g0.add (upd_new n1) (.tup (.inl upd_same) (g0.off n1) .nil)
      generalize upd H1 q1 (.tup []) = H2 at g1 ⊢
      refine ⟨by show 0 ≤ sizeLine; decide, fun q2 n2 => ?_⟩
      have g2 := (g1.add (upd_new n2) (.lst (SqL.of upd_same) (g1.off n2) .nil)).put (.str "2")
      generalize upd H2 q2 (.lst []) = H3 at g2 ⊢
      have g2 := g2.put (.int 2)
      intro q3 n3
      have g3 := g2.add (upd_new n3) (.d0 upd_same (g2.off n3))
      generalize upd H3 q3 (.dK []) = H4 at g3 ⊢
      intro q4 n4
      refine ⟨upd_same, [(Sum.inl 2, .int 2)], rfl, by show 1 ≤ 15; decide, ?_⟩
      have s4 : Same H4 (upd (upd H4 q4 (.dK [])) q4 (.dK (mergeK [] [(Sum.inl 2, .int 2)]))) := fun b o e => by
        have n := ne_of_none e n4
        rw [upd_ne n, upd_ne n]
        exact e
      have g4 := (g3.add s4 (.d1 (i := 2) (j := 2) (by rw [upd_same]; rfl) (g3.off n4))).put (.bl true)
      generalize upd (upd H4 q4 (.dK [])) q4 (.dK (mergeK [] [(Sum.inl 2, .int 2)])) = H5 at g4 ⊢
      refine ⟨_, rfl, by show 1 ≤ sizeLine; decide, fun q5 n5 => ?_⟩
      have g5 := g4.add (upd_new n5) (.tup (.inl upd_same) (g4.off n5) (.cons (g4.rowD.same (upd_new n5)) .nil))
      generalize upd H5 q5 (.tup [.ref p]) = H6 at g5 ⊢
      refine ⟨_, rfl, by show 1 ≤ sizeLine; decide, fun q6 n6 => ?_⟩
      have g6 := (g5.add (upd_new n6) (.lst (SqL.of upd_same) (g5.off n6) (.cons (g5.rowD.same (upd_new n6)) .nil))).put (.str "ab")
      generalize upd H6 q6 (.lst [.ref p]) = H7 at g6 ⊢
      refine ⟨by show 11 ≤ sizeLine; decide, fun q7 n7 => ?_⟩
      refine ⟨d, l, q7, cells, a1, r1', _, rfl, g6.pen.same (upd_new n7), by omega, g6.off n7, SqL.of upd_same, by show 0 < 11; decide, by show 11 ≤ 1000; decide, fun j v a2 r2 H' hj l3 b3 P3 => ?_⟩
      obtain ⟨x, hx, hd⟩ := g6.pick ((Bt.of (upd_new n7)).trans b3) (v := v) (j := j) hj
      obtain ⟨m1, m2⟩ := menu1_ok B x hx
      exact k v x a2 r2 H' hd m1 m2 (by omega) (g6.bt.trans ((Bt.of (upd_new n7)).trans b3)) P3
    · rw [decide_eq_false (fun e => hz0 (by injection e))]
      refine iteF ?_
      refine ⟨_, rfl, rfl, _, rfl, ?_⟩
      by_cases hz1 : z = 1
      · subst hz1
        rw [decide_eq_true rfl]
        refine iteT ?_
        refine ⟨_, rfl, by show 4 ≤ sizeLine; decide, fun q1 n1 => ?_⟩
        have g1 : Bag K d l p cells zs a1 r1' H (upd H1 q1 (.lst [.int 2, .int 3, .int 4, .int 5])) [] [] := ⟨b1.trans (.of (upd_new n1)), P1.same (upd_new n1), (upd_new n1) _ _ hS1, hpd, .nil⟩
        refine ⟨p, q1, _, _, rfl, rfl, g1.row, upd_same, ?_, fun q2 n2 => ?_⟩
        · rw [hlen, sizeLine_eq]
          show zs.length + 4 ≤ _
          omega
        · have e1 : zs.map V.int ++ [V.int 2, .int 3, .int 4, .int 5] = (zs ++ [2, 3, 4, 5]).map V.int := by rw [List.map_append]; rfl
          rw [e1]
          have g2 := g1.same (upd_new (o := .lst ((zs ++ [2, 3, 4, 5]).map V.int)) n2)
          have hq2 : (upd (upd H1 q1 (.lst [.int 2, .int 3, .int 4, .int 5])) q2 (.lst ((zs ++ [2, 3, 4, 5]).map V.int))) q2 = some (.lst ((zs ++ [2, 3, 4, 5]).map V.int)) := upd_same
          have nq2 := g1.off n2
          generalize upd (upd H1 q1 (.lst [.int 2, .int 3, .int 4, .int 5])) q2 (.lst ((zs ++ [2, 3, 4, 5]).map V.int)) = H2 at g2 hq2 ⊢
          refine ⟨_, rfl, _, rfl, p, _, rfl, .inl (SqL.of g2.row), d, l, cells, a1, r1', _, rfl, g2.pen, by omega, by omega, by omega, fun z2 a2 r2 H3 w0 w1 l3 b3 P3 => ?_⟩
          obtain ⟨m, hm⟩ := Int.eq_ofNat_of_zero_le w0
          subst hm
          refine ⟨_, _, rfl, rfl, _, rfl, q2, _, rfl, SqL.of (b3 _ _ hq2 nq2), fun q3 n3 => ?_⟩
          have hml : 5 + m ≤ ((zs ++ [2, 3, 4, 5]).map V.int).length := by
            rw [List.length_map, List.length_append]
            show 5 + m ≤ zs.length + 4
            omega
          have hcut : cutV ((zs ++ [2, 3, 4, 5]).map V.int) none (some (5 + (m : Int))) = ((zs ++ [2, 3, 4, 5]).take (5 + m)).map V.int := by
            rw [show (5 : Int) + (m : Int) = ((5 + m : Nat) : Int) by omega, cutTo hml, List.map_take]
          show Q (V.ref q3) (upd H3 q3 (.lst (cutV ((zs ++ [2, 3, 4, 5]).map V.int) none (some (5 + (m : Int))))))
          rw [hcut]
          have hws : ∀ y ∈ (zs ++ [2, 3, 4, 5]).take (5 + m), y.natAbs.log2 < 140 := fun y hy => by
            have hy := List.mem_of_mem_take hy
            rcases List.mem_append.mp hy with h | h
            · exact bss_log B y h
            · exact log2_small (tail4 y h).1 (tail4 y h).2
          have hwl : (intsD ((zs ++ [2, 3, 4, 5]).take (5 + m))).length = 5 + m := by
            rw [intsD_len, List.length_take]
            rw [List.length_map] at hml
            omega
          refine k _ (.list (intsD ((zs ++ [2, 3, 4, 5]).take (5 + m)))) a2 r2 _ (.lst (SqL.of upd_same) (ne_of_none P3.dk n3).symm dq_ints) ?_ (basesD_long (by rw [hwl]; omega)).1 (by omega) (g2.bt.trans (b3.trans (.of (upd_new n3)))) (P3.same (upd_new n3))
          exact (Md.list (md_ints hws)).sh (by decide) (by rw [hwl]; omega)
      · rw [decide_eq_false (fun e => hz1 (by injection e))]
        refine iteF ?_
        refine ⟨_, rfl, _, rfl, p, _, rfl, .inl (SqL.of hS1), d, l, cells, a1, r1', _, rfl, P1, by omega, by omega, by omega, fun z2 a2 r2 H2 w0 w1 l2 b2 P2 => ?_⟩
        obtain ⟨m, hm⟩ := Int.eq_ofNat_of_zero_le w0
        subst hm
        have hml : m < zs.length := by omega
        have g0 : Bag K d l p cells zs a2 r2 H H2 [.int 1, .int 0] [.int 1, .int 0] := ⟨b1.trans b2, P2, b2 _ _ hS1 hpd, hpd, .cons (.int 1) (.cons (.int 0) .nil)⟩
        have g0 := ((g0.put (.int (-2))).put (.int 101)).put (.int (10 ^ 40))
        have g0 := (((g0.put (.bl true)).put (.bl false)).put (.str "7")).put .non
        refine ⟨_, rfl, 2, rfl, _, _, rfl, rfl, ⟨by decide, by decide, by decide⟩, by show 1 ≤ sizeLine; decide, fun q1 n1 => ?_⟩
        have g1 := g0.add (upd_new n1) (.tup (.inl upd_same) (g0.off n1) (.cons (.int 7) .nil))
        generalize upd H2 q1 (.tup [.int 7]) = H3 at g1 ⊢
        refine ⟨by show 1 ≤ sizeLine; decide, fun q2 n2 => ?_⟩
        have g2 := g1.add (upd_new n2) (.lst (SqL.of upd_same) (g1.off n2) (.cons (.int 7) .nil))
        generalize upd H3 q2 (.lst [.int 7]) = H4 at g2 ⊢
        intro q3 n3
        have g3 := g2.add (upd_new n3) (.d0 upd_same (g2.off n3))
        generalize upd H4 q3 (.dK []) = H5 at g3 ⊢
        refine ⟨by show 12 ≤ sizeLine; decide, fun q4 n4 => ?_⟩
        refine ⟨d, l, q4, cells, a2, r2, _, rfl, g3.pen.same (upd_new n4), by omega, g3.off n4, SqL.of upd_same, by show 0 < 12; decide, by show 12 ≤ 1000; decide, fun j v a3 r3 H6 hj l3 b3 P3 => ?_⟩
        obtain ⟨x, hx, hd⟩ := g3.pick ((Bt.of (upd_new n4)).trans b3) (v := v) (j := j) hj
        obtain ⟨m1, m2⟩ := menu2_ok x hx
        have b4 := g3.bt.trans ((Bt.of (upd_new n4)).trans b3)
        have hS6 : H6 p = some (.lst (zs.map V.int)) := b4 _ _ hS hpd
        refine ⟨_, rfl, _, rfl, _, rfl, p, _, rfl, SqL.of hS6, fun c1 f1 => ?_⟩
        have e1 : cutV (zs.map V.int) none (some (m : Int)) = (zs.take m).map V.int := by rw [cutTo (by omega), List.map_take]
        rw [e1]
        have t1 : Same H6 (upd H6 c1 (.lst ((zs.take m).map V.int))) := upd_new f1
        have h1 : (upd H6 c1 (.lst ((zs.take m).map V.int))) c1 = some (.lst ((zs.take m).map V.int)) := upd_same
        generalize upd H6 c1 (.lst ((zs.take m).map V.int)) = H7 at t1 h1 ⊢
        refine ⟨_, rfl, by show 1 ≤ sizeLine; decide, fun c2 f2 => ?_⟩
        have t2 : Same H7 (upd H7 c2 (.lst [v])) := upd_new f2
        refine ⟨c1, c2, _, _, rfl, rfl, t2 _ _ h1, upd_same, ?_, fun c3 f3 => ?_⟩
        · rw [List.length_map, List.length_take, sizeLine_eq]
          show min m zs.length + 1 ≤ _
          omega
        · have t3 : Same H7 (upd (upd H7 c2 (.lst [v])) c3 (.lst ((zs.take m).map V.int ++ [v]))) := t2.trans (upd_new f3)
          have h3 : (upd (upd H7 c2 (.lst [v])) c3 (.lst ((zs.take m).map V.int ++ [v]))) c3 = some (.lst ((zs.take m).map V.int ++ [v])) := upd_same
          generalize upd (upd H7 c2 (.lst [v])) c3 (.lst ((zs.take m).map V.int ++ [v])) = H8 at t3 h3 ⊢
          refine ⟨_, rfl, _, rfl, _, _, rfl, rfl, _, rfl, p, _, rfl, SqL.of (t3 _ _ (t1 _ _ hS6)), fun c4 f4 => ?_⟩
          have e2 : cutV (zs.map V.int) (some ((m : Int) + 1)) none = (zs.drop (m + 1)).map V.int := by
            rw [show (m : Int) + 1 = ((m + 1 : Nat) : Int) by omega, cutFrom (by omega), List.map_drop]
          show ∃ l b xs zs_1, _
          rw [e2]
          have t4 : Same H8 (upd H8 c4 (.lst ((zs.drop (m + 1)).map V.int))) := upd_new f4
          refine ⟨c3, c4, _, _, rfl, rfl, t4 _ _ h3, upd_same, ?_, fun c5 f5 => ?_⟩
          · rw [List.length_append, List.length_map, List.length_map, List.length_take, List.length_drop, sizeLine_eq]
            show min m zs.length + 1 + _ ≤ _
            omega
          · have t5 : Same H8 (upd (upd H8 c4 (.lst ((zs.drop (m + 1)).map V.int))) c5 (.lst ((zs.take m).map V.int ++ [v] ++ (zs.drop (m + 1)).map V.int))) := t4.trans (upd_new f5)
            have h5 : (upd (upd H8 c4 (.lst ((zs.drop (m + 1)).map V.int))) c5 (.lst ((zs.take m).map V.int ++ [v] ++ (zs.drop (m + 1)).map V.int))) c5 = some (.lst ((zs.take m).map V.int ++ [v] ++ (zs.drop (m + 1)).map V.int)) := upd_same
            generalize upd (upd H8 c4 (.lst ((zs.drop (m + 1)).map V.int))) c5 (.lst ((zs.take m).map V.int ++ [v] ++ (zs.drop (m + 1)).map V.int)) = H9 at t5 h5 ⊢
            have t6 : Same H6 H9 := t1.trans (t3.trans t5)
            have P9 := P3.same t6
            have b9 : Bt d H H9 := b4.trans (.of t6)
            have dF : DqA K d H9 ((zs.take m).map V.int ++ [v] ++ (zs.drop (m + 1)).map V.int) (intsD (zs.take m) ++ [x] ++ intsD (zs.drop (m + 1))) := (dq_ints.app (.cons (hd.same t6) .nil)).app dq_ints
            have hmem : x ∈ intsD (zs.take m) ++ [x] ++ intsD (zs.drop (m + 1)) := List.mem_append_left _ (List.mem_append_right _ List.mem_cons_self)
            have hmd : ∀ y ∈ intsD (zs.take m) ++ [x] ++ intsD (zs.drop (m + 1)), Md 2 141 y := fun y hy => by
              rcases List.mem_append.mp hy with hy | hy
              · rcases List.mem_append.mp hy with hy | hy
                · exact (md_ints (fun z hz => bss_log B z (List.mem_of_mem_take hz)) y hy).mono (by decide) (Nat.le_refl _)
                · rw [List.mem_singleton.mp hy]
                  exact m1
              · exact (md_ints (fun z hz => bss_log B z (List.mem_of_mem_drop hz)) y hy).mono (by decide) (Nat.le_refl _)
            have hle : (intsD (zs.take m) ++ [x] ++ intsD (zs.drop (m + 1))).length ≤ 10 := by
              rw [List.length_append, List.length_append, intsD_len, intsD_len, List.length_take, List.length_drop]
              show min m zs.length + 1 + _ ≤ _
              omega
            have n5 : c5 ≠ d := (ne_of_none ((P3.same (t1.trans (t3.trans t4))).dk) f5).symm
            have o1 := basesD_odd hmem m2
            refine ⟨_, rfl, rfl, _, rfl, ?_⟩
            by_cases hz2 : z = 2
            · subst hz2
              rw [decide_eq_true rfl]
              refine iteT ?_
              refine ⟨_, rfl, c5, _, rfl, .inl ⟨SqL.of h5, fun c6 f6 => ?_⟩⟩
              exact k _ (.tuple (intsD (zs.take m) ++ [x] ++ intsD (zs.drop (m + 1)))) a3 r3 _ (.tup (.inl upd_same) (ne_of_none P9.dk f6).symm (dF.same (upd_new f6))) ((Md.tuple hmd).sh (by decide) (by omega)) o1.2 (by omega) (b9.trans (.of (upd_new f6))) (P9.same (upd_new f6))
            · rw [decide_eq_false (fun e => hz2 (by injection e))]
              refine iteF ?_
              exact ⟨_, rfl, k _ (.list (intsD (zs.take m) ++ [x] ++ intsD (zs.drop (m + 1)))) a3 r3 H9 (.lst (SqL.of h5) n5 dF) ((Md.list hmd).sh (by decide) (by omega)) o1.1 (by omega) b9 P9⟩
end
end K01

set_option Elab.async false
set_option linter.all false
set_option maxRecDepth 100000
set_option maxHeartbeats 4000000
namespace Ru
open PySem PySem.Spec PyProof.Rows L2
/-- the tables don't stand where a list stands -/
theorem tabs_bt {T : List (Addr × Str)} {d : Addr} {H H' : Hp} {xs : List V} (hd : H d = some (.lst xs)) (s : Bt d H H') (t : LamX.Tabs T H) : LamX.Tabs T H' := by
  intro p hp
  obtain ⟨ps, h1, h2, h3⟩ := t p hp
  refine ⟨ps, s _ _ h1 (fun e => ?_), h2, fun pos cv hc => ?_⟩
  · rw [e, hd] at h1
    cases h1
  · obtain ⟨c, e1, e2⟩ := h3 pos cv hc
    refine ⟨c, e1, s _ _ e2 (fun e => ?_)⟩
    rw [e, hd] at e2
    cases (show HO.lst xs = HO.ext _ from Option.some.inj e2)
theorem PenL.ext {H H' : Hp} {d l : Addr} {cells : List Int} {a r : Int} (s : LamX.ExtN H H') (P : PenL H d l cells a r) : PenL H' d l cells a r :=
  ⟨s _ _ P.dk (fun _ z => by cases z), s _ _ P.cl (fun _ z => by cases z), P.len, P.a0, P.r0⟩
end Ru
namespace K01
open PySem PySem.Spec PyProof.Rows L2 Ru
abbrev nLaw : List Str := ["_law_script", "_law_pen_here", "_law_turn", "_law_bases", "_law_again", "_law_at"]
theorem sc_law : FnScope nLaw ["_law_script"] (defScope sLaw) := ⟨rfl, rfl, rfl, by decide +kernel, rfl, by decide +kernel, by decide +kernel⟩
/-- it answers True -/
def spLaw (K : PySem.W.Frag) (T : List (Addr × Str)) : Sp := fun vs H Q _ => ∃ (a : Addr) (ns : List Int), vs = [.ref a] ∧ SqL K H a (ns.map V.int) ∧ ns.length ≤ 63 ∧ LamX.Tabs T H ∧ ∀ H', Q (.bl true) H'
structure Nm (K : PySem.W.Frag) (mg : Str → Option Value) : Prop where
  g : mg "Numeral" = some (.ref (He.ga K "Numeral"))
  rd : ClX.CRead K (He.ga K "Numeral") (.type "type")
  lim : ∃ u, ClX.CVal K (He.ga K "Numeral") (.type "type") "LIMIT" (.int 100) u
  plc : ∃ u, ClX.CVal K (He.ga K "Numeral") (.type "type") "PLACES" (.int 4) u
section
variable {P : Program} {w : World} {K : PySem.W.Frag} {mg : Str → Option Value} {base : Heap}
theorem ok_law {f : Addr} {fd : FuncData} (F : FunD K "law" "law" (defArgs sLaw) (defBody sLaw) (defScope sLaw) [] [] f fd) (CN : Cd P w K mg base CX0 1 "_law_pen" ["_law_script"] (spPenL K)) (CT : Cd P w K mg base CX0 1 "_law_take" ["_law_pen_here", "_law_limit"] spTakeL)
    (CB : Cd P w K mg base CX0 3 "_law_base" ["_law_pen_here"] spBaseL) (CE : Cd P w K mg base CX0 3 "_law_bent" ["_law_pen_here", "_law_bases"] (spBent K)) (CR : CdG P w K mg base CX0 5 "_law_right" ["_law_bases"] (spRight K))
    (CO : CdG P w K mg base CX0 7 "_law_odd_right" ["_law_thing"] (spOddR K [((He.cT K ("_law_odd_right", none)).2, qLam)])) (N : Nm K mg) (g_range : mg "range" = none) : FnG P w K mg base CX0 8 f fd ["_law_script"] (spLaw K [((He.cT K ("_law_odd_right", none)).2, qLam)]) := by
  obtain ⟨uL, vL⟩ := N.lim
  obtain ⟨uP, vP⟩ := N.plc
  refine okG F sc_law (fun vs H Q E h => ?_) (fun cdv A outer s H vs Q E hG hr h => ?_)
  · obtain ⟨a, ns, rfl, _⟩ := h
    rfl
  · obtain ⟨a, ns, rfl, hS, hlen, hT, k⟩ := h
    have sc := sc_law
    have r1 : Room 1 (A.deeper (envOfC "law" (defScope sLaw) s.heap.objs.size f cdv)) := hr.mono (by decide)
    have r3 : Room 3 (A.deeper (envOfC "law" (defScope sLaw) s.heap.objs.size f cdv)) := hr.mono (by decide)
    have r5 : Room 5 (A.deeper (envOfC "law" (defScope sLaw) s.heap.objs.size f cdv)) := hr.mono (by decide)
    refine ⟨_, PSs.nox (pss_cons (ps_set (i := 1) sc.nd rfl (Or.inr rfl) (pe_cd CN r1 (by rfl) pass0 (pa_cons (pv 0) pa_nil)))
      (pss_cons (ps_for PassesOwn.never rfl (pi_range1 rfl g_range (pa_cons pe_int pa_nil)) (pg_name (i := 2) sc.nd rfl (Or.inl rfl))
        (pss_cons (ps_setLc (i := 3) (own := [("_law_at", 5)]) (g := gName 5) (tt := tYes) (te := tCall spBaseL [] E0 (tCons (tVar 1) tNil)) rfl sc.nd rfl rfl (sw_true rfl rfl rfl (by decide +kernel))
          (pi_range1 rfl g_range (pa_cons (pe_op op_add pe_int (pe_cd CT r1 (by rfl) pass0 (pa_cons (pv 1) (pa_cons pe_int pa_nil)))) pa_nil)) (blkOk_by (N := nLaw) (sc := defScope sLaw) (by decide +kernel))
          (fun _ _ _ _ _ => pg_name (i := 5) sc.nd rfl (Or.inl rfl)) (fun _ _ _ _ _ => pts_nil) (fun _ _ _ _ _ => pe_cd CB r3 (by rfl) pass0 (pa_cons (pv 1) pa_nil)))
        (pss_cons (ps_if (pt_not (pt_val (pe_cdG hG CR r5 (by rfl) pass0 (pa_cons (pv 3) pa_nil)))) (pss_one (ps_ret pe_bl)) pss_nil)
        (pss_one (ps_for PassesOwn.never rfl (pi_range1 rfl g_range (pa_cons pe_int pa_nil)) (pg_name (i := 4) sc.nd rfl (Or.inl rfl))
          (pss_one (ps_if (pt_not (pt_val (pe_cdG hG CO hr (by rfl) pass0 (pa_cons (pe_cd CE r3 (by rfl) pass0 (pa_cons (pv 1) (pa_cons (pv 3) pa_nil))) pa_nil)))) (pss_one (ps_ret pe_bl)) pss_nil)))))))
      (pss_one (ps_ret (pe_and (pe_cmpR op_eq (ClX.pe_cval (pe_glob (v := V.ref (He.ga K "Numeral")) (by rfl) N.g rfl)) pe_int (nomark _)) (pe_one (pe_cmpR op_eq (ClX.pe_cval (pe_glob (v := V.ref (He.ga K "Numeral")) (by rfl) N.g rfl)) pe_int (nomark _)))))))), ?_⟩
    refine ⟨_, rfl, a, ns, rfl, hS, hlen, fun d l H1 s1 P1 => ?_⟩
    refine ⟨8, rfl, by decide, by decide, for_range (n := 8) (fun i σ H => ∃ (x2 x3 x4 : Option V) (b r : Int), σ = [some (.ref a), some (.ref d), x2, x3, x4, none] ∧ PenL H d l ns b r ∧ b ≤ 25 * (i : Int) ∧ LamX.Tabs [((He.cT K ("_law_odd_right", none)).2, qLam)] H)
      ⟨none, none, none, 0, 0, rfl, P1, by decide, hT.ext s1⟩ ?_ ?_⟩
    · rintro i σ H2 hi ⟨x2, x3, x4, b, r, rfl, P2, hb, T2⟩
      refine ⟨_, rfl, d, l, ns, b, r, 4, rfl, P2, by omega, by decide, by decide, fun z b1 q1 H3 z0 z1 l3 t3 P3 => ?_⟩
      refine ⟨_, _, rfl, rfl, _, rfl, by omega, by omega, fun D hD => ?_⟩
      have T3 := tabs_bt P2.dk t3 T2
      have nDd : D ≠ d := (ne_of_none P3.dk hD).symm
      have nDl : D ≠ l := (ne_of_none P3.cl hD).symm
      refine lc_range (lo := 0) (n := (1 + z).toNat) (fun j H' => ∃ (zs : List Int) (b' r' : Int), zs.length = j ∧ (∀ y ∈ zs, 2 ≤ y ∧ y ≤ 100) ∧ PenL H' d l ns b' r' ∧ b' ≤ 25 * (i : Int) + 1 + 3 * (j : Int) ∧ H' D = some (.lst (zs.map V.int)) ∧ LamX.Tabs [((He.cT K ("_law_odd_right", none)).2, qLam)] H') ?_ ?_ ?_
      · exact ⟨[], b1, q1, rfl, fun y hy => (List.not_mem_nil hy).elim, P3.same (upd_new hD), by omega, upd_same, T3.ext (upd_new hD)⟩
      · rintro j H4 hj ⟨zs, b2, q2, e2, hz, P4, l4, h4, T4⟩
        refine ⟨rfl, yesT ?_⟩
        refine yes_ ?_
        refine ⟨_, rfl, d, l, ns, b2, q2, rfl, P4, by omega, fun y b3 q3 H5 y0 y1 l5 t5 P5 => ?_⟩
        have h5 : H5 D = some (.lst (zs.map V.int)) := t5 _ _ h4 nDd
        have T5 := tabs_bt P4.dk t5 T4
        refine ⟨_, h5, by rw [List.length_map, e2, sizeLine_eq]; omega, zs ++ [y], b3, q3, by rw [List.length_append, e2]; rfl, fun x hx => ?_, ?_, by omega, ?_, tabs_bt h5 .put T5⟩
        · rcases List.mem_append.mp hx with hx | hx
          · exact hz x hx
          · rw [List.mem_singleton.mp hx]
            exact ⟨y0, y1⟩
        · exact ⟨by rw [upd_ne (Ne.symm nDd)]; exact P5.dk, by rw [upd_ne (Ne.symm nDl)]; exact P5.cl, P5.len, P5.a0, P5.r0⟩
        · rw [upd_same, List.map_append]
          rfl
      · rintro H4 ⟨zs, b2, q2, e2, hz, P4, l4, h4, T4⟩
        have B : Bss zs := ⟨by omega, by omega, hz⟩
        refine ⟨_, rfl, D, zs, rfl, SqL.of h4, B, fun H5 s5 => ⟨_, rfl, ?_⟩⟩
        refine iteF ?_
        refine ⟨3, rfl, by decide, by decide, for_range (n := 3) (fun j σ H => ∃ (x4 : Option V) (b' r' : Int), σ = [some (.ref a), some (.ref d), some (.int (0 + (i : Int))), some (.ref D), x4, none] ∧ PenL H d l ns b' r' ∧ b' ≤ 25 * (i : Int) + 13 + 3 * (j : Int) ∧ H D = some (.lst (zs.map V.int)) ∧ LamX.Tabs [((He.cT K ("_law_odd_right", none)).2, qLam)] H)
          ⟨x4, b2, q2, rfl, P4.same s5, by omega, s5 _ _ h4, T4.ext s5⟩ ?_ ?_⟩
        · rintro j σ H6 hj ⟨x5, b3, q3, rfl, P6, l6, h6, T6⟩
          refine ⟨_, rfl, _, rfl, d, l, D, ns, b3, q3, zs, rfl, P6, by omega, nDd, h6, B, fun v x b4 q4 H7 dq sh nb l7 t7 P7 => ?_⟩
          refine ⟨v, d, x, rfl, dq, sh, nb, tabs_bt P6.dk t7 T6, fun H8 x8 T8 => ⟨_, rfl, ?_⟩⟩
          refine iteF ?_
          exact ⟨_, b4, q4, rfl, P7.ext x8, by omega, x8 _ _ (t7 _ _ h6 nDd) (fun _ z => by cases z), T8⟩
        · rintro σ H6 ⟨x5, b3, q3, rfl, P6, l6, h6, T6⟩
          exact ⟨_, _, _, b3, q3, rfl, P6, by omega, T6⟩
    · rintro σ H2 ⟨x2, x3, x4, b, r, rfl, _⟩
      refine ⟨_, _, _, _, rfl, N.rd, vL, rfl, _, rfl, ?_⟩
      rw [decide_eq_true rfl]
      refine iteT ?_
      refine ⟨_, _, _, _, rfl, N.rd, vP, rfl, ?_⟩
      rw [decide_eq_true rfl]
      exact k H2
end
end K01

set_option Elab.async false
set_option linter.all false
set_option maxRecDepth 100000
set_option maxHeartbeats 0
namespace K01
open PySem PySem.Spec PyProof.Rows L2 Ru
def fa : List He.Fa := [.glo "is_whole", .glo "is_sequence", .glo "is_bases", .glo "_products", .glo "weights", .glo "count_of", .glo "_law_pen", .glo "_law_take", .glo "_law_pick", .glo "_law_base", .glo "_law_bent", .glo "_law_refused", .glo "_law_product", .glo "_law_right", .glo "_law_odd_right", .glo "law", .glo "RisingError", .glo "NoNumeral", .glo "Overflow", .glo "Unlike", .glo "Numeral", .free "isinstance", .free "int", .free "bool", .free "tuple", .free "list", .free "len", .free "all", .free "abs", .free "repr", .free "range", .free "ValueError", .int "LEAST_BASE" 2, .int "GREATEST_BASE" 100, .int "MOST_PLACES" 4, .exm "NoNumeral" "RisingError" true]
def tf : List He.Defn := [("_law_odd_right", none)]
def cvB (K : PySem.W.Frag) (f : Str) (i : Int) : Bool := match PySem.W.findCls K (.ref (He.ga K "Numeral")) (.type "type") f with
  | some (.val (.int j _)) => decide (j = i)
  | _ => false
def ex (K : PySem.W.Frag) : Bool := exAllB K && exKB K (He.ga K "NoNumeral") && oexB K (He.ga K "NoNumeral") && He.eqO (PySem.W.findIn K (.ref (He.ga K "NoNumeral")) "at") (some none) &&
  optB (PySem.W.kitOne K (.ref (He.ga K "NoNumeral")) (.ref (He.ga K "NoNumeral"))) (some true) && optB (PySem.W.kitOne K (.ref (He.ga K "NoNumeral")) (.ref (He.ga K "Overflow"))) (some false) &&
  optB (PySem.W.kitOne K (.ref (He.ga K "NoNumeral")) (.ref (He.ga K "Unlike"))) (some false) && optB (PySem.W.kitOne K (.ref (He.ga K "NoNumeral")) (.type "ValueError")) (some true) &&
  PySem.W.readsIn K (He.ga K "Numeral") (.type "type") && He.eqO (PySem.W.specialIn K (.ref (He.ga K "Numeral")) "__getattribute__") (some (some (.builtin "type.__getattribute__"))) && cvB K "LIMIT" 100 && cvB K "PLACES" 4
abbrev R : PySem.W.OpenRow := PySem.W.OpenLaw.row PySem.Challenge.rw_risingread_k01_bases_and_weights
abbrev hk : PySem.W.Hook := hookY 5 fa fn tf ex
def ob (s : PySem.W.SharedT) : AlX := obsY 5 fa fn tf ex (HandSHeadRun.getT s)
theorem ob_eq (s : PySem.W.SharedT) : ob s = hk.obs s.abs := obsY_eq (HandSHeadRun.getT_eq s)
def loose0 : List Str := ["_wall", "RisingError", "NoNumeral", "NoPlace", "Overflow", "Unlike", "NoDivisor", "NoText", "LEAST_BASE", "GREATEST_BASE", "MOST_PLACES", "FIGURES"]
def loose1 : List Str := ["MOST_FIGURES", "Numeral", "_is_as_long", "_first_wrong", "_digits_of", "_check_like", "_check_divisor", "_amount_of", "_moved_up", "_dotted", "_end_of_number", "_read_numbers"]
def loose2 : List Str := ["is_whole", "is_sequence", "is_bases", "_products", "weights", "count_of", "_law_pen", "_law_take", "_law_pick", "_law_base", "_law_bent", "_law_refused"]
def loose3 : List Str := ["_law_product", "_law_right", "_law_odd_right"]
def loose : List Str := loose0 ++ loose1 ++ loose2 ++ loose3
theorem cv_ok {K : PySem.W.Frag} {f : Str} {i : Int} (h : cvB K f i = true) : ∃ u, ClX.CVal K (He.ga K "Numeral") (.type "type") f (.int i) u := by
  unfold cvB at h
  split at h
  · rename_i j t e
    have := of_decide_eq_true h
    subst this
    exact ⟨_, ⟨e, ⟨t, rfl⟩⟩⟩
  · cases h
section
variable {P : Program} {w : World} {K : PySem.W.Frag} {mg : Str → Option Value} {h : Heap}
theorem facts {f : Addr} (X : K.In h) (G : h.Ns mainGlobals mg) (hfa : mg ("law" : Str) = some (.ref f)) (c : SaysY fa fn tf ex h K) :
    ∃ fd : FuncData, (∀ (s : Shared) (v : Value), BindsTo s fd ⟨[v], []⟩ [("_law_script", v)]) ∧ (∀ p ∈ [He.cT K ("_law_odd_right", none)], h.get? p.2 = some { cls := .none, data := .fields #[] }) ∧ (∀ p ∈ [He.cT K ("_law_odd_right", none)], K.lookup p.2 = none) ∧
      (∀ p ∈ [He.cT K ("_law_odd_right", none)], PySem.W.CodeHd h p.1 p.2) ∧
      ∀ base : Heap, K.In base → base.Ns mainGlobals mg → (∀ p ∈ [He.cT K ("_law_odd_right", none)], LamX.TabB base mg p.1 p.2) → FnG P w K mg base CX0 8 f fd ["_law_script"] (spLaw K [((He.cT K ("_law_odd_right", none)).2, qLam)]) := by
  have M := smB_ok c.sm
  have hx := c.more
  unfold ex at hx
  simp only [Bool.and_eq_true] at hx
  obtain ⟨⟨⟨⟨⟨⟨⟨⟨⟨⟨⟨h1, h2⟩, h3⟩, h4⟩, h5⟩, h6⟩, h7⟩, h8⟩, h9⟩, h10⟩, h11⟩, h12⟩ := hx
  obtain ⟨fdWhole, FWhole⟩ := c.d.def_ 0 (d := dWhole) rfl
  obtain ⟨fdSeq, FSeq⟩ := c.d.def_ 1 (d := dSeq) rfl
  obtain ⟨fdIsB, FIsB⟩ := c.d.def_ 2 (d := dIsB) rfl
  obtain ⟨fdProds, FProds⟩ := c.d.def_ 3 (d := dProds) rfl
  obtain ⟨fdWts, FWts⟩ := c.d.def_ 4 (d := dWts) rfl
  obtain ⟨fdCnt, FCnt⟩ := c.d.def_ 5 (d := dCnt) rfl
  obtain ⟨fdPen, FPen⟩ := c.d.def_ 6 (d := dPen) rfl
  obtain ⟨fdTake, FTake⟩ := c.d.def_ 7 (d := dTake) rfl
  obtain ⟨fdPick, FPick⟩ := c.d.def_ 8 (d := dPick) rfl
  obtain ⟨fdBase, FBase⟩ := c.d.def_ 9 (d := dBase) rfl
  obtain ⟨fdBent, FBent⟩ := c.d.def_ 10 (d := dBent) rfl
  obtain ⟨fdRef, FRef⟩ := c.d.def_ 11 (d := dRef) rfl
  obtain ⟨fdProd, FProd⟩ := c.d.def_ 12 (d := dProd) rfl
  obtain ⟨fdRight, FRight⟩ := c.d.def_ 13 (d := dRight) rfl
  obtain ⟨fdOddR, FOddR⟩ := c.d.def_ 14 (d := dOddR) rfl
  obtain ⟨fdLaw, FLaw⟩ := c.d.def_ 15 (d := dLaw) rfl
  obtain ⟨fdNN, FNN⟩ := c.d.def_ 16 (d := dNoNumeral) rfl
  have FI : FunD K "__init__" "NoNumeral.__init__" (defArgs sNoNumeral) (defBody sNoNumeral) (defScope sNoNumeral) [] [] (He.ma K (He.ga K "NoNumeral") "__init__") fdNN := FNN
  have e := hfa.symm.trans (He.glo_ok X G (c.d.fact 15 (f := .glo "law") rfl))
  cases e
  have b := FunD.bindsA (ps := ["_law_script"]) FLaw fun _ _ _ _ _ _ us hl => match us, hl with | [_], _ => rfl
  have tin : ∀ p ∈ [He.cT K ("_law_odd_right", none)], ∃ q ∈ tf, p = He.cT K q := fun p hp => ⟨_, List.mem_cons_self, List.mem_singleton.mp hp⟩
  refine ⟨fdLaw, fun s v => b s [v] rfl, fun p hp => ?_, fun p hp => ?_, fun p hp => ?_, fun base _ _ TB => ?_⟩
  · obtain ⟨q, hq, e⟩ := tin p hp
    rw [e]
    exact c.empty q hq
  · obtain ⟨q, hq, e⟩ := tin p hp
    rw [e]
    exact c.out q hq
  · obtain ⟨q, hq, e⟩ := tin p hp
    rw [e]
    exact PySem.W.codeHd_of_K X (c.hd q hq)
  obtain ⟨oT, oI, oF⟩ := oexB_ok h3
  have RX : RsX P w K mg base "NoNumeral" "at" := ⟨oT, oI, oF, He.eqO_ok h4, (He.glo_ok X G (c.d.fact 17 (f := .glo "NoNumeral") rfl)), fdNN, iniF FI ⟨rfl, rfl, rfl, by decide +kernel, rfl, by decide +kernel, by decide +kernel⟩ (Or.inl rfl) (Or.inl rfl), FI.bindsN fun _ _ _ _ _ _ us hl => match us, hl with | [_, _], _ => rfl⟩
  have RF : RfK K mg := ⟨(He.glo_ok X G (c.d.fact 16 (f := .glo "RisingError") rfl)), (He.glo_ok X G (c.d.fact 17 (f := .glo "NoNumeral") rfl)), (He.glo_ok X G (c.d.fact 18 (f := .glo "Overflow") rfl)), (He.glo_ok X G (c.d.fact 19 (f := .glo "Unlike") rfl)), (He.free_ok X G (c.d.fact 21 (f := .free "isinstance") rfl)), (He.free_ok X G (c.d.fact 31 (f := .free "ValueError") rfl)), He.exm_ok (c.d.fact 35 (f := .exm "NoNumeral" "RisingError" true) rfl), exKB_ok h1 h2, of_decide_eq_true h5, of_decide_eq_true h6, of_decide_eq_true h7, of_decide_eq_true h8, He.eqO_ok h4⟩
  have CS : Cst mg := ⟨He.int_ok X G (c.d.fact 32 (f := .int "LEAST_BASE" 2) rfl), He.int_ok X G (c.d.fact 33 (f := .int "GREATEST_BASE" 100) rfl), He.int_ok X G (c.d.fact 34 (f := .int "MOST_PLACES" 4) rfl)⟩
  have NM : Nm K mg := ⟨(He.glo_ok X G (c.d.fact 20 (f := .glo "Numeral") rfl)), ⟨h9, He.eqO_ok h10⟩, cv_ok h11, cv_ok h12⟩
  have C1 : Cd P w K mg base CX0 1 "is_sequence" ["thing"] (spSeq K) := ⟨_, _, ok_seq FSeq (He.free_ok X G (c.d.fact 21 (f := .free "isinstance") rfl)) (He.free_ok X G (c.d.fact 24 (f := .free "tuple") rfl)) (He.free_ok X G (c.d.fact 25 (f := .free "list") rfl)), (He.glo_ok X G (c.d.fact 1 (f := .glo "is_sequence") rfl)), FSeq.kp, FSeq.bindsN fun _ _ _ _ _ _ us hl => match us, hl with | [_], _ => rfl⟩
  have C2 : Cd P w K mg base CX0 1 "is_whole" ["thing"] (spWhole K) := ⟨_, _, ok_whole FWhole (He.free_ok X G (c.d.fact 21 (f := .free "isinstance") rfl)) (He.free_ok X G (c.d.fact 22 (f := .free "int") rfl)) (He.free_ok X G (c.d.fact 23 (f := .free "bool") rfl)), (He.glo_ok X G (c.d.fact 0 (f := .glo "is_whole") rfl)), FWhole.kp, FWhole.bindsN fun _ _ _ _ _ _ us hl => match us, hl with | [_], _ => rfl⟩
  have C3 : Cd P w K mg base CX0 2 "is_bases" ["thing"] (spIsB K) := ⟨_, _, ok_isb FIsB C1 C2 CS (He.free_ok X G (c.d.fact 26 (f := .free "len") rfl)) (He.free_ok X G (c.d.fact 27 (f := .free "all") rfl)), (He.glo_ok X G (c.d.fact 2 (f := .glo "is_bases") rfl)), FIsB.kp, FIsB.bindsN fun _ _ _ _ _ _ us hl => match us, hl with | [_], _ => rfl⟩
  have C4 : Cd P w K mg base (L2.CX P w) 3 "_products" ["bases"] (spProds K "NoNumeral") := ⟨_, _, ok_prods FProds C3 RX, (He.glo_ok X G (c.d.fact 3 (f := .glo "_products") rfl)), FProds.kp, FProds.bindsN fun _ _ _ _ _ _ us hl => match us, hl with | [_], _ => rfl⟩
  have C5 : Cd P w K mg base (L2.CX P w) 4 "weights" ["bases"] (spWts K "NoNumeral") := ⟨_, _, ok_wts FWts C4 (He.free_ok X G (c.d.fact 24 (f := .free "tuple") rfl)), (He.glo_ok X G (c.d.fact 4 (f := .glo "weights") rfl)), FWts.kp, FWts.bindsN fun _ _ _ _ _ _ us hl => match us, hl with | [_], _ => rfl⟩
  have C6 : Cd P w K mg base (L2.CX P w) 4 "count_of" ["bases"] (spCnt K "NoNumeral") := ⟨_, _, ok_cnt FCnt C4, (He.glo_ok X G (c.d.fact 5 (f := .glo "count_of") rfl)), FCnt.kp, FCnt.bindsN fun _ _ _ _ _ _ us hl => match us, hl with | [_], _ => rfl⟩
  have D1 : Cd P w K mg base CX0 1 "_law_pen" ["_law_script"] (spPenL K) := ⟨_, _, ok_pen FPen (He.free_ok X G (c.d.fact 25 (f := .free "list") rfl)), (He.glo_ok X G (c.d.fact 6 (f := .glo "_law_pen") rfl)), FPen.kp, FPen.bindsN fun _ _ _ _ _ _ us hl => match us, hl with | [_], _ => rfl⟩
  have D2 : Cd P w K mg base CX0 1 "_law_take" ["_law_pen_here", "_law_limit"] spTakeL := ⟨_, _, ok_take FTake (He.free_ok X G (c.d.fact 22 (f := .free "int") rfl)) (He.free_ok X G (c.d.fact 26 (f := .free "len") rfl)) (He.free_ok X G (c.d.fact 28 (f := .free "abs") rfl)), (He.glo_ok X G (c.d.fact 7 (f := .glo "_law_take") rfl)), FTake.kp, FTake.bindsN fun _ _ _ _ _ _ us hl => match us, hl with | [_, _], _ => rfl⟩
  have D3 : Cd P w K mg base CX0 2 "_law_pick" ["_law_pen_here", "_law_some"] (spPickL K) := ⟨_, _, ok_pick FPick D2 (He.free_ok X G (c.d.fact 26 (f := .free "len") rfl)), (He.glo_ok X G (c.d.fact 8 (f := .glo "_law_pick") rfl)), FPick.kp, FPick.bindsN fun _ _ _ _ _ _ us hl => match us, hl with | [_, _], _ => rfl⟩
  have D4 : Cd P w K mg base CX0 3 "_law_base" ["_law_pen_here"] spBaseL := ⟨_, _, ok_base FBase D2 D3, (He.glo_ok X G (c.d.fact 9 (f := .glo "_law_base") rfl)), FBase.kp, FBase.bindsN fun _ _ _ _ _ _ us hl => match us, hl with | [_], _ => rfl⟩
  have D5 : Cd P w K mg base CX0 3 "_law_bent" ["_law_pen_here", "_law_bases"] (spBent K) := ⟨_, _, ok_bent FBent D2 D3 (He.free_ok X G (c.d.fact 26 (f := .free "len") rfl)) (He.free_ok X G (c.d.fact 24 (f := .free "tuple") rfl)), (He.glo_ok X G (c.d.fact 10 (f := .glo "_law_bent") rfl)), FBent.kp, FBent.bindsN fun _ _ _ _ _ _ us hl => match us, hl with | [_, _], _ => rfl⟩
  have D6 : Cd P w K mg base CX0 1 "_law_product" ["_law_row"] (spProdL K) := ⟨_, _, ok_prod FProd, (He.glo_ok X G (c.d.fact 12 (f := .glo "_law_product") rfl)), FProd.kp, FProd.bindsN fun _ _ _ _ _ _ us hl => match us, hl with | [_], _ => rfl⟩
  have D7 : CdG P w K mg base CX0 5 "_law_right" ["_law_bases"] (spRight K) := ⟨_, _, ok_right FRight C3 C5 C6 D6 M (He.free_ok X G (c.d.fact 29 (f := .free "repr") rfl)) (He.free_ok X G (c.d.fact 24 (f := .free "tuple") rfl)) (He.free_ok X G (c.d.fact 25 (f := .free "list") rfl)) (He.free_ok X G (c.d.fact 30 (f := .free "range") rfl)) (He.free_ok X G (c.d.fact 26 (f := .free "len") rfl)), (He.glo_ok X G (c.d.fact 13 (f := .glo "_law_right") rfl)), FRight.kp, FRight.bindsN fun _ _ _ _ _ _ us hl => match us, hl with | [_], _ => rfl⟩
  have D8 : CdG P w K mg base CX0 7 "_law_odd_right" ["_law_thing"] (spOddR K [((He.cT K ("_law_odd_right", none)).2, qLam)]) := ⟨_, _, ok_odd FOddR FRef (He.glo_ok X G (c.d.fact 11 (f := .glo "_law_refused") rfl)) C3 C5 C6 RF M rfl (TB _ List.mem_cons_self) (He.free_ok X G (c.d.fact 29 (f := .free "repr") rfl)), (He.glo_ok X G (c.d.fact 14 (f := .glo "_law_odd_right") rfl)), FOddR.kp, FOddR.bindsN fun _ _ _ _ _ _ us hl => match us, hl with | [_], _ => rfl⟩
  exact ok_law FLaw D1 D2 D4 D5 D7 D8 NM (He.free_ok X G (c.d.fact 30 (f := .free "range") rfl))
end
end K01

set_option Elab.async false
set_option linter.all false
set_option maxRecDepth 100000
set_option maxHeartbeats 0
namespace K01
open PySem PySem.Spec PyProof.Rows L2 Ru
theorem run (w : World) : HandSHeadRun.RunEq R (PySem.W.view R.prog [44]) hk ob 20000 loose w := by
  intro os
  kernel_rfl
end K01

set_option Elab.async false
set_option linter.all false
set_option maxRecDepth 100000
set_option maxHeartbeats 4000000
open PySem PySem.W PySem.Calls PyProof.Rows
theorem PySem.Challenge.cw_risingread_k01_bases_and_weights_holds : PySem.Challenge.rw_risingread_k01_bases_and_weights.Holds := by
  w_on; o_law
  refine HandSHeadRun.head_any (r := OpenLaw.row PySem.Challenge.rw_risingread_k01_bases_and_weights) (q := view (OpenLaw.row PySem.Challenge.rw_risingread_k01_bases_and_weights).prog [44]) (H := K01.hk) (ob := K01.ob) (M := 20000) (loose := K01.loose)
    (d := HandSHeadRun.topDef (OpenLaw.row PySem.Challenge.rw_risingread_k01_bases_and_weights).prog 44) (kwd := []) K01.ob_eq (by kernel_rfl) (fun s => by kernel_rfl) K01.run (by kernel_rfl) (by kernel_rfl) (by kernel_rfl) (by rfl)
    (by first | assumption | decide +kernel) (by decide +kernel) ⟨rfl, rfl, rfl, rfl, rfl, by decide +kernel⟩ ?hw ?hc
  case hw => w_witness2
  case hc =>
    refine Ru.walkT (l := PySem.Challenge.rw_risingread_k01_bases_and_weights) (n := 63) (k := 8) (x := "_law_script") rfl (by decide) (by kernel_rfl) ⟨rfl, by decide, by decide⟩ ?F
    intro w mg fa h Y G hmg0
    obtain ⟨K, KX, c⟩ := Y
    have hmg : mg ("law" : PySem.Str) = some (.ref fa) := by
      have e : (HandSHeadRun.topDef (OpenLaw.row PySem.Challenge.rw_risingread_k01_bases_and_weights).prog 44).name = ("law" : PySem.Str) := by kernel_rfl
      rw [← e]
      exact hmg0
    obtain ⟨fd, hb, h1, h2, h3, hF⟩ := K01.facts (P := (PySem.Challenge.rw_risingread_k01_bases_and_weights).prog) (w := w) KX G hmg c
    exact ⟨K, [He.cT K ("_law_odd_right", none)], fd, K01.spLaw K [((He.cT K ("_law_odd_right", none)).2, K01.qLam)], KX, h1, h2, h3, hb,
      fun H a ns hl hT hS => ⟨a, ns, rfl, hS, hl, fun p hp => by
        rw [List.mem_singleton.mp hp]
        exact LamX.TabS.nil (hT _ List.mem_cons_self), fun _ => rfl⟩, hF⟩

