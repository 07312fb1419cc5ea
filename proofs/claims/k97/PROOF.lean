import PyProof.Rows.All
import Wide.All
import OpenK.AllK
import Wide.FinOn
import PyProof.ReprRoads
import PyProof.Rows.NestShow
import HandS.ForMost
import HandS.ForExc
import HandS.ExcInit
import HandS.ExcValue
import HandS.ExcIs
import KE.KExcIs
import HandS.ExcField
import HandS.Deep
import HandS.Defaults
import HandS.HeadEnd
import HandS.Lambda
import HandS.Head0
import HandS.Head1
import HandS.Head2
import HandS.HeadHook1
import HandS.HeadHook2
import PySem.Challenge.RW_risingread_k97_errors
set_option Elab.async false
set_option linter.all false
set_option maxRecDepth 100000
set_option maxHeartbeats 2000000
/-! Own rules over the hand layer: repr of data, exceptions as values, counts, defs that lean on an empty row of guards. -/
namespace Ru
open PySem PySem.Spec PyProof.Rows L2

/-! ### repr of data -/
def rRepr (K : PySem.W.Frag) : List V → Hp → VK → Prop := fun xs H Q =>
  ∃ (a : Addr) (d : PyData), xs = [.ref a] ∧ Dp K H (.ref a) d ∧ d.showable = true ∧ d.hasDict = false ∧ d.depth ≤ 40 ∧ d.shown.length ≤ sizeLine ∧ Q (.str d.shown) H
theorem call_reprD {X : Cx} (hg : X.A.guards = some []) (hu : X.A.units + 64 < cLine) : CallR X (.builtin "repr") (rRepr X.K) := by
  intro pins s σ H xs us Q I r h
  obtain ⟨a, d, rfl, hd, hs, hn, hdp, hsz, q⟩ := h
  obtain ⟨u, rfl, ru⟩ := vals1 r
  cases ru
  obtain ⟨as, r1⟩ := Dp.reads I d _ _ hd rfl
  exact repr_of_reads' r1 hs (PyData.noDict_hsm hn) hg (by omega) (fun _ _ e => e) (fun h' u tk hk => ⟨.str d.shown, H, I.kept (t' := tk) hk, ⟨u, rfl⟩, q⟩) hsz

/-! ### how often a flat value stands in a list -/
theorem countP_eqU {x : V} : ∀ {xs : List V} {us : List Value}, Vals xs us → xs.all flatV = true → us.countP (eqU x) = xs.countP fun y => eqV y x
  | _, _, .nil, _ => rfl
  | y :: xs, u :: us, .cons r t, f => by
    rw [List.all_cons, Bool.and_eq_true] at f
    rw [List.countP_cons, List.countP_cons, eqU_of r f.1, countP_eqU t f.2]
def rCntF (K : PySem.W.Frag) : V → List V → Hp → VK → Prop := fun x xs H Q =>
  ∃ (p : Addr) (ys : List V) (k : V), x = .ref p ∧ xs = [k] ∧ SqL K H p ys ∧ flatV k = true ∧ ys.all flatV = true ∧ Q (.int ((ys.countP fun y => eqV y k) : Nat)) H
theorem mt_countF {X : Cx} : MtR X "list.count" (rCntF X.K) := by
  intro pins s σ H x xs v us Q I rx rxs h
  obtain ⟨p, ys, k, rfl, rfl, hs, fk, fy, q⟩ := h
  cases rx
  obtain ⟨u, rfl, ru⟩ := rxs.one
  obtain ⟨its, rv, ⟨⟨cls, dd, data, sl⟩, n, ho, hc, hdn, hd⟩, hlen⟩ := I.list hs
  simp only at hc hd
  subst hc hd
  refine call_meets PySem.F.slot_list_count ⟨_, ho, rfl⟩ PySem.F.entry_list_count (PySem.F.args_list_count_2 _ _)
    (SeqAt.list_countAt p its.toArray n dd sl u (eqU k)) ⟨ho, fun y hy => mem_eqAt ru fk rv fy y (by simpa using hy), ?_⟩
  have ec : its.toArray.toList.countP (eqU k) = ys.countP fun y => eqV y k := countP_eqU rv fy
  refine ⟨.int ((ys.countP fun y => eqV y k) : Nat), H, I.tok _, ⟨s.toks, ?_⟩, q⟩
  show Value.int ((its.toArray.toList.countP (eqU k) : Nat) : Int) s.toks = _
  rw [ec]

/-! ### own exceptions as values -/
/-- at e an exception of the class at C, with these fields of its own -/
def ExAt (H : Hp) (e C : Addr) (fs : List (Str × V)) : Prop := (fs = [] ∧ H e = some (ExO (.ref C) e)) ∨ ∃ d, H e = some (exo e C (some d)) ∧ H d = some (exd d fs)
theorem ExAt.same {H H' : Hp} {e C : Addr} {fs : List (Str × V)} (s : Same H H') (h : ExAt H e C fs) : ExAt H' e C fs := by
  rcases h with ⟨h1, h2⟩ | ⟨d, h1, h2⟩
  · exact .inl ⟨h1, s _ _ h2⟩
  · exact .inr ⟨d, s _ _ h1, s _ _ h2⟩
/-- the object itself, for the library's looks -/
theorem ExAt.inst {X : Cx} {pins : List (Addr × Obj)} {σ : L2.St} {H : Hp} {s : Shared} (I : Inv X pins σ H s) {e C : Addr} {fs : List (Str × V)} (h : ExAt H e C fs) :
    ∃ (ox : Obj) (od : Option Obj), PySem.W.InstAt s.heap e ox C od ∧ ∀ f v, fs.lookup f = some v → ∃ o u, od = some o ∧ PySem.W.lookIn f o = some (some u) ∧ RelV v u := by
  rcases h with ⟨h1, h2⟩ | ⟨d, h1, h2⟩
  · subst h1
    obtain ⟨⟨oe, vs, ho, hz, hd, _⟩, _, _⟩ := I.hok e _ h2
    obtain ⟨oc, odi, oda, osl⟩ := oe
    obtain ⟨z1, z2⟩ := hz
    dsimp only at z1 z2 hd
    subst z1 z2 hd
    exact ⟨_, none, ⟨ho, rfl, rfl, trivial⟩, fun f v q => nomatch q⟩
  · obtain ⟨t1, ho⟩ := exo_at I.hok h1
    obtain ⟨mA, hns, hr⟩ := exd_at I.hok h2
    obtain ⟨od, hod, hl⟩ := lookIn_ns hns
    refine ⟨_, some od, ⟨ho, rfl, rfl, hod⟩, fun f v q => ?_⟩
    obtain ⟨u, hu, ru⟩ := RelO.some_of (v := v) (o := mA f) (by rw [← q]; exact hr f)
    exact ⟨od, u, rfl, by rw [hl, hu], ru⟩

/-- what the written part says of an own exception class whose objects are looked at -/
structure ExK (K : PySem.W.Frag) (D : Addr) : Prop where
  hcl : (PySem.W.clsIn K D).isSome = true
  hga : PySem.W.findIn K (.ref D) "__getattribute__" = some (some (.builtin "BaseException.__getattribute__"))
  hgt : PySem.W.findIn K (.ref D) "__getattr__" = some none
  hsub : PySem.W.subIn K (.ref D) (.type "BaseException") = some true
  hdc : PySem.W.hasDictIn K D = true
  ha : PySem.W.findIn K (.ref D) "__class__" = some (some (.builtin "object.__class__"))
  hn : PySem.W.specialIn K (.builtin "object.__class__") "__get__" = some (some (.builtin "getset_descriptor.__get__"))
  htk : PySem.W.takesIn K (.builtin "object.__class__") = some true
  hm : PySem.W.mroIn K D (.type "object") = some true
/-- isinstance(e, c) -/
def rIsX (K : PySem.W.Frag) : List V → Hp → VK → Prop := fun xs H Q =>
  ∃ (e D : Addr) (fs : List (Str × V)) (c : V) (cv : Value) (b : Bool), xs = [.ref e, c] ∧ ExAt H e D fs ∧ ExK K D ∧ (∀ u, RelV c u → u = cv) ∧ PySem.W.kitOne K (.ref D) cv = some b ∧ Q (.bl b) H
theorem call_isX {X : Cx} : CallR X (.builtin "isinstance") (rIsX X.K) := by
  intro pins s σ H xs us Q I r h
  obtain ⟨e, D, fs, c, cv, b, rfl, he, C, hcv, ek, q⟩ := h
  cases r with
  | cons rx rr =>
    cases rr with
    | cons rt rr =>
      cases rr
      cases rx
      have ec := hcv _ rt
      subst ec
      obtain ⟨ox, od, J, _⟩ := he.inst I
      exact PySem.W.kia_one (PySem.W.kitx_exc C.hcl C.hga C.hgt C.hsub C.ha C.hn C.htk C.hm) I.kIn J ek (fun z => nomatch z) fun tk => ⟨.bl b, H, I.kept (t' := tk) fun _ _ z => z, rfl, q⟩
/-- e.f -/
def tExF (K : PySem.W.Frag) (f : Str) (te : TE) : TE := fun σ H Q => te σ H fun x H1 =>
  ∃ (e D : Addr) (fs : List (Str × V)) (v : V), x = .ref e ∧ ExAt H1 e D fs ∧ ExK K D ∧ PySem.W.findIn K (.ref D) f = some none ∧ fs.lookup f = some v ∧ Q v H1
theorem pe_exf {X : Cx} {e : Expr} {te : TE} {pos : Pos} {n : Str} (he : PE X e te) (hb : attributeBase e n X.env (eval e X.env) = eval e X.env := by rfl) : PE X (.Attribute e n pos) (tExF X.K n te) := by
  refine ⟨fun pins s σ H Q I h => ?_⟩
  refine attr_of hb (thn (he.run pins s σ H _ I h) fun u s1 hh => ?_)
  obtain ⟨x, H1, I1, rx, a, D, fs, v, ex, hx, T, hno, hl, q⟩ := hh
  subst ex
  obtain rfl : u = Value.ref a := rx
  obtain ⟨ox, od, J, hf⟩ := hx.inst I1
  obtain ⟨o, u, rfl, hlk, ru⟩ := hf n v hl
  exact HandSPX.exc_get I1.kIn J T.hga T.hgt T.hsub (PySem.W.findObj_own T.hdc hno rfl hlk) (handed_of ru) ⟨v, H1, I1.tok _, ru, q⟩

/-! ### making them -/
/-- X('u'): a class without an own __init__ -/
def tEx0 (C : Addr) (ta : TE) : TE := fun σ H Q => ta σ H fun _ H1 => ∀ e H2, Same H1 H2 → H1 e = none → ExAt H2 e C [] → Q (.ref e) H2
theorem weaken {X : Cx} {e : Expr} {t t' : TE} (h : PE X e t) (f : ∀ σ H Q, t' σ H Q → t σ H Q) : PE X e t' := ⟨fun pins s σ H Q I q => h.run pins s σ H Q I (f σ H Q q)⟩
theorem pe_ex0 {X : Cx} {C : Addr} {bmB : List Value} {B newId initId : String} {x : Str} {e : Expr} {te : TE} {p pos : Pos} (F : ExcBaseFacts B newId initId bmB) (q : PySem.W.excIn X.K C bmB newId = true)
    (gC : X.mg x = some (.ref C)) (kC : PySem.W.keepIn X.K (.ref C) = true) (hg : Gl X x) (he : PE X e te) (hs : starEach [e] X.env = (false, eval e X.env) :: starEach [] X.env := by rfl) (hdb : (x == ("__debug__" : Str)) = false := by decide)
    (hm : ∀ σ H (Q Q' : VK), (∀ v H', Q v H' → Q' v H') → te σ H Q → te σ H Q') :
    PE X (.Call (.Name x p) [e] [] pos) (tEx0 C te) :=
  weaken (pe_exc1 F q gC kC hg he hs hdb) fun σ H Q h => hm σ H _ _ (fun v H1 h1 a ha => h1 a _ (fun b o z => by rw [upd_ne (ne_of_none z ha)]; exact z) ha (.inl ⟨rfl, upd_same⟩)) h
/-- X(e, ..): the class has an own __init__ that keeps sp -/
def tExI (C : Addr) (sp : Sp) (ta : TA) : TE := fun σ H Q => ta σ H fun vs H1 => vs.length ≤ 1000 ∧ ∀ a, H1 a = none →
  sp (.ref a :: vs) (upd H1 a (exo a C none)) (fun v H2 => v = .non ∧ Q (.ref a) H2) fun _ _ _ => False
theorem pe_exI {X : Cx} {x : Str} {C fI : Addr} {k : Nat} {fd : FuncData} {ps : List Str} {sp : Sp} {e : Expr} {es : List Expr} {ta : TA} {p pos : Pos} (T : OexC X.K C) (iC : PySem.W.findIn X.K (.ref C) "__init__" = some (some (.ref fI)))
    (tI : PySem.W.typeIn X.K (.ref fI) = some (.type "function")) (G : FnOk X.prog X.w X.K X.mg X.base CX0 k fI fd ps sp) (hr : Room (k + 1) X.A) (hb : Binds X.K fd ps []) (hg : Gl X x) (hm : X.mg x = some (.ref C)) (ha : PA X (e :: es) ta)
    (hdb : (x == ("__debug__" : Str)) = false := by decide) (he : starEach (e :: es) X.env = (false, eval e X.env) :: starEach es X.env := by rfl) (hpl : (backTo pos (starEach es X.env)).any (·.1) = false := by rfl) :
    PE X (.Call (.Name x p) (e :: es) [] pos) (tExI C sp ta) := by
  constructor
  intro pins s σ H Q I h
  obtain ⟨nm, q, N, bs, bm, sn, sub, ab, col, dd, k0, k1, k2, k3, k5, hC, hbm⟩ := T.cls
  refine wpAny_Call_Name_kw (ld_glob I hg hm ?_ hdb)
  refine PySem.W.callWith_K (h₀ := X.base) I.ok.mod.kin T.kC ?_ he hpl
  refine thn (ha.run pos pins s σ H _ I h) ?_
  rintro us ⟨hp, g, dr, tk, os⟩ ⟨vs, H1, I1, r1, hz, q1⟩
  refine ⟨I1.kIn, ?_⟩
  show wpAny _ _ (call (.ref C) us) _ _ _
  let a : Addr := hp.objs.size + 1
  have lt1 : hp.objs.size ≤ a := Nat.le_succ _
  have hn : H1 a = none := I1.hok.fresh lt1
  have hq := q1 a hn
  have old : ∀ b o, hp.get? b = some o → ((hp.push (PySem.W.kdv_tup us)).push (PySem.HandSPX.excO C hp.objs.size)).get? b = some o := fun b o z => Heap.get?_push_of_some _ (Heap.get?_push_of_some _ z)
  have new : ((hp.push (PySem.W.kdv_tup us)).push (PySem.HandSPX.excO C hp.objs.size)).get? a = some (PySem.HandSPX.excO C hp.objs.size) := by
    show ((hp.push (PySem.W.kdv_tup us)).push (PySem.HandSPX.excO C hp.objs.size)).get? (hp.objs.size + 1) = _
    heap_get
  have I2 : Inv X pins σ (upd H1 a (exo a C none)) ⟨(hp.push (PySem.W.kdv_tup us)).push (PySem.HandSPX.excO C hp.objs.size), g, dr, tk, os⟩ := I1.laid (t' := tk) old lt1 (exo_ok new)
  have r2 : Vals (V.ref a :: vs) (Value.ref a :: us) := .cons rfl r1
  have hl : (Value.ref a :: us ++ []).length = ps.length := by
    rw [List.append_nil, ← r2.length]
    exact G.len _ _ _ _ hq
  have hus : us.length ≤ sizeLine := by
    rw [← Paired.length r1, sizeLine_eq]
    omega
  refine wpAny_call (PySem.HandSPX.call_own F.excBase_ValueError (fun Y => PySem.HandSPX.refsVE_contains Y bm hbm) (I1.kIn _ _ hC) (PySem.W.looks_findIn I1.kIn iC) (fun self => PySem.W.bind_fn I1.kIn self tI) hus ?_)
  have bd := hb _ (Value.ref a :: us) I2.kIn hl
  rw [List.append_nil] at bd
  refine codeAny_mono (G.run _ X.stack _ _ ⟨Value.ref a :: us, []⟩ (Value.ref a :: us) _ _ (fun _ _ _ => False) (hr.make C us []) (I2.env0.make C us []) bd r2 hq) fun r s' z => ?_
  match r, z with
  | .ok (.ret u), z =>
    obtain ⟨v, H2, J, rv, ev, q2⟩ := I2.after z
    subst ev
    exact ⟨rv, .ref a, H2, J, rfl, q2⟩
  | .error er, z => exact z.elim
end Ru

set_option Elab.async false
set_option linter.all false
set_option maxRecDepth 100000
set_option maxHeartbeats 2000000
namespace Ru
open PySem PySem.Spec PyProof.Rows L2
/-! ### defs that lean on an empty row of guards (repr of containers) -/
structure FnG (P : Program) (w : World) (K : PySem.W.Frag) (mg : Str → Option Value) (base : Heap) (CX : CXT) (k : Nat) (f : Addr) (fd : FuncData) (ps : List Str) (sp : Sp) : Prop where
  len : ∀ vs H Q E, sp vs H Q E → vs.length = ps.length
  run : ∀ (A : Around) (outer : List Env) (s : Shared) (H : Hp) (args : Args) (us : List Value) (vs : List V) (Q : VK) (E : XK), A.guards = some [] → Room k A → Env0 P w K mg base A outer s H →
    BindsTo s fd args (ps.zip us) → Vals vs us → sp vs H Q E → codeAny (model P w) A (.call (.ref f) args) (CR CX outer P w H s Q E) s
section
variable {P : Program} {w : World} {K : PySem.W.Frag} {mg : Str → Option Value} {base : Heap} {CX : CXT} {x qual : Str} {params : Arguments} {body : List Stmt} {scope : Scope} {dvs : List V} {kws : List (Str × V)} {f : Addr} {fd : FuncData} {N ps : List Str} {k : Nat} {sp : Sp}
theorem FnG.of (F : FnOk P w K mg base CX k f fd ps sp) : FnG P w K mg base CX k f fd ps sp := ⟨F.len, fun A o s H a us vs Q E _ hr => F.run A o s H a us vs Q E hr⟩
/-- the rule for such a def -/
theorem okG (F : FunD K x qual params body scope dvs kws f fd) (S : FnScope N ps scope) (len : ∀ vs H Q E, sp vs H Q E → vs.length = ps.length)
    (hb : ∀ (cdv : Value) (A : Around) (outer : List Env) (s : Shared) (H : Hp) (vs : List V) (Q : VK) (E : XK), A.guards = some [] → Room k (A.deeper (envOfC qual scope s.heap.objs.size f cdv)) → sp vs H Q E →
      ∃ t, PSs (cxOf CX P w K mg base N qual scope f cdv A outer s H E) body t ∧ t { nx := fun _ H' => Q .non H', rt := Q } (start N vs) H) : FnG P w K mg base CX (k + 1) f fd ps sp := by
  obtain ⟨_, _, _, _, _, _, _, code, _, _, e, lk, hcd, _⟩ := F.ex
  subst e
  exact ⟨len, fun A outer s H args us vs Q E g r e0 b v h => LamX.run_ofS lk hcd S r e0 b v (len vs H Q E h) fun r' => hb code A outer s H vs Q E g r' h⟩
end
section
variable {X : Cx} {CX : CXT} {k : Nat} {f : Addr} {fd : FuncData} {ps : List Str} {sp : Sp} {dvs : List V} {ds : List Value} {E : XK} {x : Str} {p pos : Pos} {e : Expr} {es : List Expr} {t : TA}
theorem pe_callG (hG : X.A.guards = some []) (F : FnG X.prog X.w X.K X.mg X.base CX k f fd ps sp) (hr : Room k X.A) (hg : Gl X x) (hm : X.mg x = some (.ref f)) (hk : PySem.W.keepIn X.K (.ref f) = true) (hb : Binds X.K fd ps ds) (hd : Vals dvs ds) (hx : Passes CX X E)
    (ha : PA X (e :: es) t) (hdb : (x == ("__debug__" : Str)) = false := by decide) (he : starEach (e :: es) X.env = (false, eval e X.env) :: starEach es X.env := by rfl) (hpl : (backTo pos (starEach es X.env)).any (·.1) = false := by rfl) :
    PE X (.Call (.Name x p) (e :: es) [] pos) (tCall sp dvs E t) := by
  constructor
  intro pins s σ H Q I h
  refine wpAny_Call_Name_kw (ld_glob I hg hm ?_ hdb)
  refine PySem.W.callWith_K (h₀ := X.base) I.ok.mod.kin hk ?_ he hpl
  refine thn (ha.run pos pins s σ H _ I h) ?_
  rintro us s1 ⟨vs, H1, I1, r, q⟩
  have r2 := r.append hd
  have hl : (us ++ ds).length = ps.length := r2.length.symm.trans (F.len _ _ _ _ q)
  refine ⟨I1.kIn, wpAny_call (codeAny_mono (F.run X.A X.stack s1 H1 ⟨us, []⟩ _ _ Q E hG hr I1.env0 (hb s1 us I1.kIn hl) r2 q) ?_)⟩
  intro r s' z
  match r, z with
  | .error er, z => exact hx pins σ H1 s1 er s' I1 z
  | .ok (.ret u), z => exact I1.after z
end

/-! ### the law's entry, at the caller that has no guards -/
section
variable {P : Program} {w : World} {K : PySem.W.Frag} {mg mb : Str → Option Value} {k : Nat} {fa a : Addr} {fd : FuncData} {x : Str} {sp : Sp} {s : Shared} {vs : List Value} {ns : List Int}
/-- the heap in which at most the script is tracked, locked -/
def onlyAt (a : Addr) (o : Obj) (u : HO) : Hp := fun b => if b = a then some (.frz o u) else none
theorem entry (KX : K.In s.heap) (hns : s.heap.Ns mainGlobals mg) (hb : s.heap.Ns builtinsNs mb) (hbb : ∀ x : Str, x ≠ "__name__" → mb x = bootBuiltins x) (hlim : s.heap.NoLimit) (hg : s.gens = #[])
    (ha : s.heap.get? a = some { cls := .type "list", data := .seq vs.toArray }) (hi : IntsAre vs ns) (hl : ns.length ≤ sizeLine) (hr : Room k callerA)
    (F : ∀ base : Heap, K.In base → base.Ns mainGlobals mg → FnG P w K mg base CX0 k fa fd [x] sp) (bd : ∀ (s : Shared) (u : Value), BindsTo s fd ⟨[u], []⟩ [(x, u)])
    (hsp : ∀ H : Hp, Only H → SqL K H a (ns.map V.int) → sp [.ref a] H (fun v _ => v = .bl true) E0) :
    codeAny (model P w) callerA (.call (.ref fa) ⟨[.ref a], []⟩) (fun r s' => r = .ok (.ret (.bool true)) ∧ OldK s.heap s'.heap ∧ s'.os = s.os ∧ AllBare s'.gens) s := by
  have rv := vals_ints hi
  have main : ∀ H : Hp, Only H → SqL K H a (ns.map V.int) → HOk P w H s.heap → (∀ b, H b ≠ none → b = a) → (∀ o, K.lookup a = some o → H a = none) →
      codeAny (model P w) callerA (.call (.ref fa) ⟨[.ref a], []⟩) (fun r s' => r = .ok (.ret (.bool true)) ∧ OldK s.heap s'.heap ∧ s'.os = s.os ∧ AllBare s'.gens) s := by
    intro H only sq hok off kno
    have nod : ∀ {b : Addr} {m : Str → Option Value}, s.heap.Ns b m → (hidT s.heap H).Ns b m := by
      rintro b m ⟨o, es, ep, e, d, r⟩
      refine ⟨o, es, ep, hidT_get e ?_, d, r⟩
      cases q : H b with
      | none => rfl
      | some u =>
        have z := off b (by rw [q]; simp)
        subst z
        rw [ha] at e
        cases e
        cases (show Data.seq vs.toArray _ = Data.dict es ep from d)
    have kin : K.In (hidT s.heap H) := by
      intro b o e
      refine hidT_get (KX b o e) ?_
      cases q : H b with
      | none => rfl
      | some u =>
        have z := off b (by rw [q]; simp)
        subst z
        rw [kno o e] at q
        cases q
    have md : Mod K mg (hidT s.heap H) := ⟨kin, nod hns, ⟨mb, nod hb, hbb⟩, hlim.imp fun mc z => ⟨nod z.1, z.2⟩⟩
    have e0 : Env0 P w K mg (hidT s.heap H) callerA [] s H :=
      { frames := rfl, mod := md, bs := fun b o e => of_hidT e, bsz := Nat.le_of_eq (hidT_size _ _), funs := trivial, frf := fun b z => (List.not_mem_nil z).elim, hok := hok, bare := .of_eq hg }
    refine codeAny_mono ((F _ kin (nod hns)).run callerA [] s H ⟨[.ref a], []⟩ [.ref a] [.ref a] _ _ rfl hr e0 (bd s (.ref a)) (.cons rfl .nil) (hsp H only sq)) ?_
    intro r s' z
    match r, z with
    | .ok (.ret u), ⟨v, H', os, bare, un, hok', r', q⟩ =>
      subst q
      obtain rfl : u = Value.bool true := r'
      refine ⟨rfl, OldK.of_keep fun b o e => ?_, os, bare⟩
      cases hb : H b with
      | none => exact un.keep b o e hb (fun z => (List.not_mem_nil z).elim) (fun z => (List.not_mem_nil z).elim)
      | some u =>
        rcases only b with q | ⟨ob, xs, q⟩
        · rw [hb] at q
          cases q
        · have e1 := (hok b _ q).1
          have e2 := (hok' b _ (un.frzs b ob _ q)).1
          rw [e] at e1
          cases e1
          exact e2
  cases hk : K.lookup a with
  | none =>
    refine main (onlyAt a { cls := .type "list", data := .seq vs.toArray } (.lst (ns.map V.int))) (fun b => ?_) (.inl (.inr ⟨_, if_pos rfl⟩)) (fun b u z => ?_) (fun b z => ?_) fun o z => by rw [hk] at z; cases z
    · by_cases e : b = a
      · exact .inr ⟨_, _, if_pos e⟩
      · exact .inl (if_neg e)
    · by_cases e : b = a
      · rw [show onlyAt a { cls := .type "list", data := .seq vs.toArray } (.lst (ns.map V.int)) b = some _ from if_pos e] at z
        cases z
        subst e
        exact ⟨ha, by rw [List.length_map]; exact hl, vs, _, rv, ha⟩
      · rw [show onlyAt a { cls := .type "list", data := .seq vs.toArray } (.lst (ns.map V.int)) b = none from if_neg e] at z
        cases z
    · by_cases e : b = a
      · exact e
      · exact (z (if_neg e)).elim
  | some o =>
    have e := KX a o hk
    rw [ha] at e
    cases e
    exact main (fun _ => none) (fun _ => .inl rfl) (.inr ⟨_, vs.toArray, _, hk, rfl, rfl, rfl, by rw [List.size_toArray, hi.length]; exact hl, by simpa using rv⟩) (fun b u z => by cases (show (none : Option HO) = some u from z)) (fun b z => (z rfl).elim) fun _ _ => rfl
end
/-- the law, from its def's promise -/
theorem walkG {l : PySem.W.OpenLaw} {n k : Nat} {q : Program} {loose : List Str} {XP : (Str → Option Value) → Heap → Prop} {YP : World → Heap → Prop} {d : DefRec} {x : Str}
    (hn : l.most = some n) (hn2 : n ≤ sizeLine) (hdf : d.params.defaults = []) (hr : Room k callerA)
    (F : ∀ (w : World) (mg : Str → Option Value) (fa : Addr) (h : Heap), YP w h → h.Ns mainGlobals mg → mg d.name = some (.ref fa) →
      ∃ (K : PySem.W.Frag) (fd : FuncData) (sp : Sp), K.In h ∧ (∀ (s : Shared) (u : Value), BindsTo s fd ⟨[u], []⟩ [(x, u)]) ∧
        (∀ (H : Hp) (a : Addr) (ns : List Int), ns.length ≤ n → Only H → SqL K H a (ns.map V.int) → sp [.ref a] H (fun v _ => v = .bl true) E0) ∧
        ∀ base : Heap, K.In base → base.Ns mainGlobals mg → FnG l.prog w K mg base CX0 k fa fd [x] sp) :
    PySem.W.WalkO q loose XP YP l.row.toRowW d [] (fun f vs => PySem.call f vs) := by
  refine Att.attach_call hn hdf fun w s₀ s₁ mg mb fa o pm cd doc a vs ns G Y ho hd hcd hmg hobj hints hlen hg => ?_
  obtain ⟨K, fd, sp, kx, bd, hsp, hF⟩ := F w mg fa _ Y G.T.g hmg
  exact entry kx G.T.g G.T.b G.T.builtins G.T.nolimit hg hobj hints (Nat.le_trans hlen hn2) hr hF bd fun H o sq => hsp H a ns hlen o sq
end Ru

set_option Elab.async false
set_option linter.all false
set_option maxRecDepth 100000
set_option maxHeartbeats 2000000
namespace Ru
open PySem PySem.Spec PyProof.Rows L2
/-! ### a Hook with one more look of one's own -/
abbrev AlX : Type := He.AlD × Bool
def obsX (n : Nat) (fa : List He.Fa) (fn : List He.DefD) (ex : PySem.W.Frag → Bool) (g : Addr → Option Obj) : AlX := (He.obsDG n fa fn g, ex (He.frG g (He.asD g n)))
def hookX (n : Nat) (fa : List He.Fa) (fn : List He.DefD) (ex : PySem.W.Frag → Bool) : PySem.W.Hook where
  α := AlX
  obs := fun s => obsX n fa fn ex s.heap.get?
  val := fun _ => (He.valD fn, true)
  says := fun _ h => ∃ K : PySem.W.Frag, K.In h ∧ He.SaysD fa fn K ∧ ex K = true
  of := fun _ _ e => ⟨_, He.frG_in, congrArg Prod.fst e, congrArg Prod.snd e⟩
  keeps := fun _ _ _ ⟨K, a, b, c⟩ k => ⟨K, PySem.W.Frag.In.keeps a k, b, c⟩
theorem obsX_eq {n : Nat} {fa : List He.Fa} {fn : List He.DefD} {ex : PySem.W.Frag → Bool} {g : Addr → Option Obj} {s : Shared} (h : ∀ a, g a = s.heap.get? a) : obsX n fa fn ex g = (hookX n fa fn ex).obs s := by
  have e : g = s.heap.get? := funext h
  rw [e] <;> rfl

/-! ### own exception classes, as the written part has them -/
def optB (a b : Option Bool) : Bool := decide (a = b)
def exKB (K : PySem.W.Frag) (D : Addr) : Bool :=
  (PySem.W.clsIn K D).isSome && He.eqO (PySem.W.findIn K (.ref D) "__getattribute__") (some (some (.builtin "BaseException.__getattribute__"))) && He.eqO (PySem.W.findIn K (.ref D) "__getattr__") (some none) &&
  optB (PySem.W.subIn K (.ref D) (.type "BaseException")) (some true) && PySem.W.hasDictIn K D && He.eqO (PySem.W.findIn K (.ref D) "__class__") (some (some (.builtin "object.__class__"))) && optB (PySem.W.mroIn K D (.type "object")) (some true)
/-- what is the same for all of them -/
def exAllB (K : PySem.W.Frag) : Bool := He.eqO (PySem.W.specialIn K (.builtin "object.__class__") "__get__") (some (some (.builtin "getset_descriptor.__get__"))) && optB (PySem.W.takesIn K (.builtin "object.__class__")) (some true)
theorem exKB_ok {K : PySem.W.Frag} {D : Addr} (a : exAllB K = true) (h : exKB K D = true) : ExK K D := by
  unfold exKB at h
  unfold exAllB at a
  simp only [Bool.and_eq_true] at h a
  obtain ⟨⟨⟨⟨⟨⟨h1, h2⟩, h3⟩, h4⟩, h5⟩, h6⟩, h7⟩ := h
  exact ⟨h1, He.eqO_ok h2, He.eqO_ok h3, of_decide_eq_true h4, h5, He.eqO_ok h6, He.eqO_ok a.1, of_decide_eq_true a.2, of_decide_eq_true h7⟩
/-- a class with an own __init__ -/
def oexB (K : PySem.W.Frag) (C : Addr) : Bool := (match K.lookup C with
  | some ⟨.type "type", _, .cls cd, sl⟩ => (match cd.mro, sl.toList with
    | .ref C' :: bm, [_, _, _, _, some (.builtin n), _] => C' == C && n == "ValueError.__new__" && !cd.hasDel && cd.hasDict && PySem.HandSPX.refsVE bm
    | _, _ => false)
  | _ => false) && He.eqO (PySem.W.findIn K (.ref C) "__setattr__") (some (some (.builtin "object.__setattr__"))) && optB (PySem.W.subIn K (.ref C) (.type "BaseException")) (some true) &&
  decide (PySem.W.typeIn K (.ref C) = some (.type "type")) && PySem.W.keepIn K (.ref C) && He.eqO (PySem.W.findIn K (.ref C) "__init__") (some (some (.ref (He.ma K C "__init__")))) && decide (PySem.W.typeIn K (.ref (He.ma K C "__init__")) = some (.type "function"))
theorem oexB_ok {K : PySem.W.Frag} {C : Addr} (h : oexB K C = true) :
    OexC K C ∧ PySem.W.findIn K (.ref C) "__init__" = some (some (.ref (He.ma K C "__init__"))) ∧ PySem.W.typeIn K (.ref (He.ma K C "__init__")) = some (.type "function") := by
  unfold oexB at h
  rw [Bool.and_eq_true, Bool.and_eq_true, Bool.and_eq_true, Bool.and_eq_true, Bool.and_eq_true, Bool.and_eq_true] at h
  obtain ⟨⟨⟨⟨⟨⟨h1, h2⟩, h3⟩, h4⟩, h5⟩, h6⟩, h7⟩ := h
  refine ⟨⟨?_, He.eqO_ok h2, of_decide_eq_true h3, of_decide_eq_true h4, h5⟩, He.eqO_ok h6, of_decide_eq_true h7⟩
  split at h1
  · rename_i dd cd sl ho
    split at h1
    · rename_i C' bm k0 k1 k2 k3 n k5 hm hs
      simp only [Bool.and_eq_true, beq_iff_eq, Bool.not_eq_true'] at h1
      obtain ⟨⟨⟨⟨rfl, rfl⟩, hdel⟩, hdc⟩, hb⟩ := h1
      obtain ⟨nm, bs, mro, ns, qn, hd, sn, sub, ab, col, del⟩ := cd
      dsimp only at hm hdel hdc
      subst hm hdel hdc
      obtain ⟨l⟩ := sl
      dsimp only at hs
      subst hs
      exact ⟨nm, qn, ns, bs, bm, sn, sub, ab, col, dd, k0, k1, k2, k3, k5, ho, hb⟩
    · cases h1
  · cases h1
/-- a class right under R, itself right under ValueError -/
def mroB (K : PySem.W.Frag) (R C : Addr) : Bool := decide ((PySem.W.clsIn K C).map (·.mro) = some (.ref C :: .ref R :: He.veBase)) && decide (PySem.W.typeIn K (.ref C) = some (.type "type"))
def mroR (K : PySem.W.Frag) (R : Addr) : Bool := decide ((PySem.W.clsIn K R).map (·.mro) = some (.ref R :: He.veBase)) && decide (PySem.W.typeIn K (.ref R) = some (.type "type"))
theorem kit_at {K : PySem.W.Frag} {C D : Addr} {m md : List Value} (h : (PySem.W.clsIn K C).map (·.mro) = some (.ref C :: m)) (hd : (PySem.W.clsIn K D).map (·.mro) = some md) (ht : PySem.W.typeIn K (.ref D) = some (.type "type")) :
    PySem.W.kitOne K (.ref C) (.ref D) = some ((Value.ref C :: m).contains (.ref D)) := by
  unfold PySem.W.kitOne
  by_cases e : (Value.ref C == Value.ref D) = true
  · rw [if_pos e]
    have e2 := beq_iff_eq.mp e
    rw [← e2]
    simp
  · rw [if_neg e]
    obtain ⟨cd, hc, hm⟩ := Option.map_eq_some_iff.mp h
    obtain ⟨dd, hd1, _⟩ := Option.map_eq_some_iff.mp hd
    unfold PySem.W.kitCls
    dsimp only
    rw [hd1, ht]
    simp only [Option.isSome_some, beq_self_eq_true, Bool.and_self, if_true]
    show PySem.W.mroIn K C (.ref D) = _
    unfold PySem.W.mroIn
    rw [hc, Option.bind_some, hm]
    simp
theorem kit_ve {K : PySem.W.Frag} {C : Addr} {m : List Value} (h : (PySem.W.clsIn K C).map (·.mro) = some (.ref C :: m)) : PySem.W.kitOne K (.ref C) (.type "ValueError") = some ((Value.ref C :: m).contains (.type "ValueError")) := by
  obtain ⟨cd, hc, hm⟩ := Option.map_eq_some_iff.mp h
  have e : (Value.ref C == Value.type "ValueError") = false := by simp
  have k : PySem.W.kitMeta "ValueError" = true := by decide +kernel
  unfold PySem.W.kitOne PySem.W.kitCls
  rw [e]
  simp only [Bool.false_eq_true, if_false, k, if_true]
  show PySem.W.mroIn K C _ = _
  unfold PySem.W.mroIn
  rw [hc, Option.bind_some, hm]
  simp
end Ru

set_option Elab.async false
set_option linter.all false
set_option maxRecDepth 100000
set_option maxHeartbeats 2000000
namespace Ru
open PySem PySem.Spec PyProof.Rows L2
theorem weakenA {X : Cx} {es : List Expr} {t t' : TA} (h : PA X es t) (f : ∀ σ H Q, t' σ H Q → t σ H Q) : PA X es t' := ⟨fun pos pins s σ H Q I q => h.run pos pins s σ H Q I (f σ H Q q)⟩
theorem weakenS {X : Cx} {st : Stmt} {t t' : TS} (h : PS X st t) (f : ∀ D σ H, t' D σ H → t D σ H) : PS X st t' := ⟨fun pins s σ H D I q => h.run pins s σ H D I (f D σ H q)⟩
theorem upd_new {H : Hp} {a : Addr} {o : HO} (h : H a = none) : Same H (upd H a o) := fun b u z => by rw [upd_ne (ne_of_none z h)]; exact z

/-! ### what __init__ of an exception with one, two, three fields does -/
/-- self.f = v for each field, in order -/
def spIni (K : PySem.W.Frag) (C : Addr) (fs : List Str) : Sp := fun vs H Q _ => ∃ (a : Addr) (us : List V), vs = .ref a :: us ∧ us.length = fs.length ∧ OexC K C ∧ (∀ f ∈ fs, PySem.W.findIn K (.ref C) f = some none) ∧ H a = some (exo a C none) ∧
  ∀ H', (∀ b o, H b = some o → b ≠ a → H' b = some o) → ExAt H' a C (fs.zip us).reverse → Q .non H'
theorem exd_lst {d : Addr} {fs : List (Str × V)} {xs : List V} : exd d fs ≠ .lst xs := fun z => by cases (show HO.ext _ = HO.lst xs from z)
/-- one field -/
theorem ini1 {P : Program} {w : World} {K : PySem.W.Frag} {mg : Str → Option Value} {base : Heap} {f C : Addr} {fd : FuncData} {qual g : Str} {pa : Arguments} {sc : Scope} {q1 q2 q3 q4 : Pos}
    (F : FunD K "__init__" qual pa [.Assign [.Attribute (.Name "self" q1) g q2] (.Name g q3) q4] sc [] [] f fd) (S : FnScope ["self", g] ["self", g] sc) (v0 : Vis sc "self") (v1 : Vis sc g)
    (e1 : (g == ("__debug__" : Str)) = false := by decide) (e2 : (g == ("__classdict__" : Str)) = false := by decide) : FnOk P w K mg base CX0 1 f fd ["self", g] (spIni K C [g]) := by
  refine F.ok S (fun vs H Q E h => ?_) (fun cdv A outer s H vs Q E hr h => ?_)
  · obtain ⟨a, us, rfl, hl, _⟩ := h
    simp [hl]
  · obtain ⟨a, us, rfl, hl, T, hno, ha, k⟩ := h
    match us, hl with
    | [v], _ =>
      refine ⟨_, PSs.nox (pss_one (ps_ost (pe_var (i := 0) rfl v0) (pe_var (i := 1) rfl v1 e1 e2))), ?_⟩
      refine ⟨v, rfl, .ref a, rfl, a, C, rfl, T, hno g List.mem_cons_self, .inl ⟨ha, fun dx hn ne => ?_⟩⟩
      refine k _ (fun b o z hb => ?_) (.inr ⟨dx, upd_same, ?_⟩)
      · rw [upd_ne hb, upd_ne (ne_of_none z hn)]
        exact z
      · rw [upd_ne ne, upd_same]
        rfl
/-- two fields -/
theorem ini2 {P : Program} {w : World} {K : PySem.W.Frag} {mg : Str → Option Value} {base : Heap} {f C : Addr} {fd : FuncData} {qual g g' : Str} {pa : Arguments} {sc : Scope} {q1 q2 q3 q4 r1 r2 r3 r4 : Pos}
    (F : FunD K "__init__" qual pa [.Assign [.Attribute (.Name "self" q1) g q2] (.Name g q3) q4, .Assign [.Attribute (.Name "self" r1) g' r2] (.Name g' r3) r4] sc [] [] f fd) (S : FnScope ["self", g, g'] ["self", g, g'] sc)
    (v0 : Vis sc "self") (v1 : Vis sc g) (v2 : Vis sc g')
    (e1 : (g == ("__debug__" : Str)) = false := by decide) (e2 : (g == ("__classdict__" : Str)) = false := by decide) (e3 : (g' == ("__debug__" : Str)) = false := by decide) (e4 : (g' == ("__classdict__" : Str)) = false := by decide) :
    FnOk P w K mg base CX0 1 f fd ["self", g, g'] (spIni K C [g, g']) := by
  refine F.ok S (fun vs H Q E h => ?_) (fun cdv A outer s H vs Q E hr h => ?_)
  · obtain ⟨a, us, rfl, hl, _⟩ := h
    simp [hl]
  · obtain ⟨a, us, rfl, hl, T, hno, ha, k⟩ := h
    match us, hl with
    | [v, u], _ =>
      refine ⟨_, PSs.nox (pss_cons (ps_ost (pe_var (i := 0) rfl v0) (pe_var (i := 1) rfl v1 e1 e2)) (pss_one (ps_ost (pe_var (i := 0) rfl v0) (pe_var (i := 2) rfl v2 e3 e4)))), ?_⟩
      refine ⟨v, rfl, .ref a, rfl, a, C, rfl, T, hno g List.mem_cons_self, .inl ⟨ha, fun dx hn ne => ?_⟩⟩
      refine ⟨u, rfl, .ref a, rfl, a, C, rfl, T, hno g' (List.mem_cons_of_mem _ List.mem_cons_self), .inr ⟨dx, _, upd_same, by rw [upd_ne ne, upd_same], by show 1 ≤ 900; decide, ?_⟩⟩
      refine k _ (fun b o z hb => ?_) (.inr ⟨dx, ?_, upd_same⟩)
      · rw [upd_ne (ne_of_none z hn), upd_ne hb, upd_ne (ne_of_none z hn)]
        exact z
      · rw [upd_ne (Ne.symm ne), upd_same]
/-- three fields -/
theorem ini3 {P : Program} {w : World} {K : PySem.W.Frag} {mg : Str → Option Value} {base : Heap} {f C : Addr} {fd : FuncData} {qual g g' g'' : Str} {pa : Arguments} {sc : Scope} {q1 q2 q3 q4 r1 r2 r3 r4 t1 t2 t3 t4 : Pos}
    (F : FunD K "__init__" qual pa [.Assign [.Attribute (.Name "self" q1) g q2] (.Name g q3) q4, .Assign [.Attribute (.Name "self" r1) g' r2] (.Name g' r3) r4, .Assign [.Attribute (.Name "self" t1) g'' t2] (.Name g'' t3) t4] sc [] [] f fd)
    (S : FnScope ["self", g, g', g''] ["self", g, g', g''] sc) (v0 : Vis sc "self") (v1 : Vis sc g) (v2 : Vis sc g') (v3 : Vis sc g'')
    (e1 : (g == ("__debug__" : Str)) = false := by decide) (e2 : (g == ("__classdict__" : Str)) = false := by decide) (e3 : (g' == ("__debug__" : Str)) = false := by decide) (e4 : (g' == ("__classdict__" : Str)) = false := by decide)
    (e5 : (g'' == ("__debug__" : Str)) = false := by decide) (e6 : (g'' == ("__classdict__" : Str)) = false := by decide) : FnOk P w K mg base CX0 1 f fd ["self", g, g', g''] (spIni K C [g, g', g'']) := by
  refine F.ok S (fun vs H Q E h => ?_) (fun cdv A outer s H vs Q E hr h => ?_)
  · obtain ⟨a, us, rfl, hl, _⟩ := h
    simp [hl]
  · obtain ⟨a, us, rfl, hl, T, hno, ha, k⟩ := h
    match us, hl with
    | [v, u, t], _ =>
      refine ⟨_, PSs.nox (pss_cons (ps_ost (pe_var (i := 0) rfl v0) (pe_var (i := 1) rfl v1 e1 e2)) (pss_cons (ps_ost (pe_var (i := 0) rfl v0) (pe_var (i := 2) rfl v2 e3 e4)) (pss_one (ps_ost (pe_var (i := 0) rfl v0) (pe_var (i := 3) rfl v3 e5 e6))))), ?_⟩
      refine ⟨v, rfl, .ref a, rfl, a, C, rfl, T, hno g List.mem_cons_self, .inl ⟨ha, fun dx hn ne => ?_⟩⟩
      refine ⟨u, rfl, .ref a, rfl, a, C, rfl, T, hno g' (List.mem_cons_of_mem _ List.mem_cons_self), .inr ⟨dx, _, upd_same, by rw [upd_ne ne, upd_same], by show 1 ≤ 900; decide, ?_⟩⟩
      refine ⟨t, rfl, .ref a, rfl, a, C, rfl, T, hno g'' (List.mem_cons_of_mem _ (List.mem_cons_of_mem _ List.mem_cons_self)), .inr ⟨dx, _, by rw [upd_ne (Ne.symm ne), upd_same], upd_same, by show 2 ≤ 900; decide, ?_⟩⟩
      refine k _ (fun b o z hb => ?_) (.inr ⟨dx, ?_, upd_same⟩)
      · rw [upd_ne (ne_of_none z hn), upd_ne (ne_of_none z hn), upd_ne hb, upd_ne (ne_of_none z hn)]
        exact z
      · rw [upd_ne (Ne.symm ne), upd_ne (Ne.symm ne), upd_same]

/-! ### rows of exceptions -/
inductive AllEx (H : Hp) : List V → List (Addr × List (Str × V)) → Prop
  | nil : AllEx H [] []
  | cons {e C : Addr} {fs : List (Str × V)} {es : List V} {ts : List (Addr × List (Str × V))} : ExAt H e C fs → AllEx H es ts → AllEx H (.ref e :: es) ((C, fs) :: ts)
theorem AllEx.same {H H' : Hp} (s : Same H H') : ∀ {es : List V} {ts : List (Addr × List (Str × V))}, AllEx H es ts → AllEx H' es ts
  | _, _, .nil => .nil
  | _, _, .cons a b => .cons (a.same s) (AllEx.same s b)
theorem AllEx.length {H : Hp} : ∀ {es : List V} {ts : List (Addr × List (Str × V))}, AllEx H es ts → es.length = ts.length
  | _, _, .nil => rfl
  | _, _, .cons _ b => congrArg Nat.succ b.length
theorem AllEx.app {H : Hp} {es' : List V} {ts' : List (Addr × List (Str × V))} (b : AllEx H es' ts') : ∀ {es : List V} {ts : List (Addr × List (Str × V))}, AllEx H es ts → AllEx H (es ++ es') (ts ++ ts')
  | _, _, .nil => b
  | _, _, .cons a r => .cons a (AllEx.app b r)
theorem AllEx.at {H : Hp} : ∀ {es : List V} {ts : List (Addr × List (Str × V))} {i : Nat} {C : Addr} {fs : List (Str × V)}, AllEx H es ts → ts[i]? = some (C, fs) → ∃ e, es[i]? = some (.ref e) ∧ ExAt H e C fs
  | _, _, _, _, _, .nil, h => by simp at h
  | _, _, 0, _, _, .cons a _, h => by
    simp only [List.getElem?_cons_zero, Option.some.injEq, Prod.mk.injEq] at h
    obtain ⟨rfl, rfl⟩ := h
    exact ⟨_, rfl, a⟩
  | _, _, i + 1, C, fs, .cons _ b, h => by
    obtain ⟨e, h1, h2⟩ := AllEx.at (i := i) (C := C) (fs := fs) b (by simpa using h)
    exact ⟨e, by simpa using h1, h2⟩
/-- three names hold v1, v2, v3 -/
def C3 (v1 v2 v3 : V) (σ : L2.St) : Prop := σ[0]? = some (some v1) ∧ σ[1]? = some (some v2) ∧ σ[2]? = some (some v3)
def tV (v1 v2 v3 : V) (C : Addr) (fs : List (Str × V)) : TE := fun σ H Q => C3 v1 v2 v3 σ ∧ ∀ e H', Same H H' → ExAt H' e C fs → Q (.ref e) H'
def tVs (v1 v2 v3 : V) (ts : List (Addr × List (Str × V))) : TA := fun σ H Q => C3 v1 v2 v3 σ ∧ ∀ es H', Same H H' → AllEx H' es ts → Q es H'
section
variable {X : Cx} {v1 v2 v3 : V} {C : Addr} {fs : List (Str × V)} {ts : List (Addr × List (Str × V))} {e : Expr} {es : List Expr}
theorem pv_nil : PA X [] (tVs v1 v2 v3 []) := weakenA pa_nil fun σ H Q h => h.2 [] H (Same.refl H) .nil
theorem pv_cons (a : PE X e (tV v1 v2 v3 C fs)) (b : PA X es (tVs v1 v2 v3 ts)) (hs : starEach (e :: es) X.env = (false, eval e X.env) :: starEach es X.env := by rfl) : PA X (e :: es) (tVs v1 v2 v3 ((C, fs) :: ts)) :=
  weakenA (pa_cons a b hs) fun σ H Q h => ⟨h.1, fun x H1 s1 ex => ⟨h.1, fun xs H2 s2 all => h.2 _ H2 (s1.trans s2) (.cons (ex.same s2) all)⟩⟩
theorem v_bare {te : TE} (a : PE X e (tEx0 C te)) (h : ∀ σ H (Q : VK), (∀ v, Q v H) → te σ H Q) : PE X e (tV v1 v2 v3 C []) :=
  weaken a fun σ H Q q => h σ H _ fun v e H2 s1 _ ex => q.2 e H2 s1 ex
theorem v_own {ta : TA} {gs : List Str} {us : List V} (T : OexC X.K C) (hno : ∀ f ∈ gs, PySem.W.findIn X.K (.ref C) f = some none) (hl : us.length = gs.length) (h3 : us.length ≤ 1000) (a : PE X e (tExI C (spIni X.K C gs) ta)) (h : ∀ σ H (Q : List V → Hp → Prop), C3 v1 v2 v3 σ → Q us H → ta σ H Q) :
    PE X e (tV v1 v2 v3 C (gs.zip us).reverse) :=
  weaken a fun σ H Q q => h σ H _ q.1 ⟨h3, fun x hx => ⟨x, us, rfl, hl, T, hno, upd_same, fun H' k ex => ⟨rfl, q.2 x H' (fun b o z => k b o (by rw [upd_ne (ne_of_none z hx)]; exact z) (ne_of_none z hx)) ex⟩⟩⟩
end
end Ru

set_option Elab.async false
set_option linter.all false
set_option maxRecDepth 100000
set_option maxHeartbeats 0

namespace K97
open PySem PySem.Spec PyProof.Rows L2 Ru
def top (i : Nat) : Stmt := PySem.Challenge.pw_risingread_k97_errors.main.body.getD i (.Pass ⟨0, 0, 0, 0⟩)
abbrev sNoNumeral : Stmt := inClass (top 2) 0
abbrev sNoPlace : Stmt := inClass (top 3) 0
abbrev sOverflow : Stmt := inClass (top 4) 0
abbrev sNoText : Stmt := inClass (top 7) 0
abbrev sTooMany : Stmt := inClass (top 9) 0
abbrev sNoScheme : Stmt := inClass (top 10) 0
abbrev sNoPlan : Stmt := inClass (top 11) 0
abbrev sNoPromise : Stmt := inClass (top 12) 0
abbrev sNoName : Stmt := inClass (top 13) 0
abbrev sNoBases : Stmt := inClass (top 15) 0
abbrev sNoVersion : Stmt := inClass (top 16) 0
abbrev sFallen : Stmt := inClass (top 17) 0
abbrev sBadRun : Stmt := inClass (top 23) 0
abbrev sUnheard : Stmt := inClass (top 25) 0
abbrev sNoReading : Stmt := inClass (top 26) 0
abbrev sNotSeen : Stmt := inClass (top 28) 0
abbrev sNotMoments : Stmt := inClass (top 29) 0
abbrev sNotEvents : Stmt := inClass (top 30) 0
abbrev sNoRight : Stmt := inClass (top 31) 0
abbrev sNotForced : Stmt := inClass (top 32) 0
abbrev sBadStep : Stmt := inClass (top 33) 0
abbrev sNoMark : Stmt := inClass (top 34) 0
abbrev sBadText : Stmt := inClass (top 35) 0
abbrev sPen : Stmt := top 38
abbrev sTake : Stmt := top 39
abbrev sMade : Stmt := top 40
abbrev sKinds : Stmt := top 41
abbrev sFields : Stmt := top 42
abbrev sLaw : Stmt := top 43
def dPen : He.DefD := ⟨("_law_pen", none), "_law_pen", "_law_pen", defArgs sPen, defBody sPen, defScope sPen, [], []⟩
def dTake : He.DefD := ⟨("_law_take", none), "_law_take", "_law_take", defArgs sTake, defBody sTake, defScope sTake, [], []⟩
def dMade : He.DefD := ⟨("_law_made", none), "_law_made", "_law_made", defArgs sMade, defBody sMade, defScope sMade, [], []⟩
def dKinds : He.DefD := ⟨("_law_kinds", none), "_law_kinds", "_law_kinds", defArgs sKinds, defBody sKinds, defScope sKinds, [], []⟩
def dFields : He.DefD := ⟨("_law_fields", none), "_law_fields", "_law_fields", defArgs sFields, defBody sFields, defScope sFields, [], []⟩
def dLaw : He.DefD := ⟨("law", none), "law", "law", defArgs sLaw, defBody sLaw, defScope sLaw, [], []⟩
def dNoNumeral : He.DefD := ⟨("NoNumeral", some "__init__"), "__init__", "NoNumeral.__init__", defArgs sNoNumeral, defBody sNoNumeral, defScope sNoNumeral, [], []⟩
def dNoPlace : He.DefD := ⟨("NoPlace", some "__init__"), "__init__", "NoPlace.__init__", defArgs sNoPlace, defBody sNoPlace, defScope sNoPlace, [], []⟩
def dOverflow : He.DefD := ⟨("Overflow", some "__init__"), "__init__", "Overflow.__init__", defArgs sOverflow, defBody sOverflow, defScope sOverflow, [], []⟩
def dNoText : He.DefD := ⟨("NoText", some "__init__"), "__init__", "NoText.__init__", defArgs sNoText, defBody sNoText, defScope sNoText, [], []⟩
def dTooMany : He.DefD := ⟨("TooMany", some "__init__"), "__init__", "TooMany.__init__", defArgs sTooMany, defBody sTooMany, defScope sTooMany, [], []⟩
def dNoScheme : He.DefD := ⟨("NoScheme", some "__init__"), "__init__", "NoScheme.__init__", defArgs sNoScheme, defBody sNoScheme, defScope sNoScheme, [], []⟩
def dNoPlan : He.DefD := ⟨("NoPlan", some "__init__"), "__init__", "NoPlan.__init__", defArgs sNoPlan, defBody sNoPlan, defScope sNoPlan, [], []⟩
def dNoPromise : He.DefD := ⟨("NoPromise", some "__init__"), "__init__", "NoPromise.__init__", defArgs sNoPromise, defBody sNoPromise, defScope sNoPromise, [], []⟩
def dNoName : He.DefD := ⟨("NoName", some "__init__"), "__init__", "NoName.__init__", defArgs sNoName, defBody sNoName, defScope sNoName, [], []⟩
def dNoBases : He.DefD := ⟨("NoBases", some "__init__"), "__init__", "NoBases.__init__", defArgs sNoBases, defBody sNoBases, defScope sNoBases, [], []⟩
def dNoVersion : He.DefD := ⟨("NoVersion", some "__init__"), "__init__", "NoVersion.__init__", defArgs sNoVersion, defBody sNoVersion, defScope sNoVersion, [], []⟩
def dFallen : He.DefD := ⟨("Fallen", some "__init__"), "__init__", "Fallen.__init__", defArgs sFallen, defBody sFallen, defScope sFallen, [], []⟩
def dBadRun : He.DefD := ⟨("BadRun", some "__init__"), "__init__", "BadRun.__init__", defArgs sBadRun, defBody sBadRun, defScope sBadRun, [], []⟩
def dUnheard : He.DefD := ⟨("Unheard", some "__init__"), "__init__", "Unheard.__init__", defArgs sUnheard, defBody sUnheard, defScope sUnheard, [], []⟩
def dNoReading : He.DefD := ⟨("NoReading", some "__init__"), "__init__", "NoReading.__init__", defArgs sNoReading, defBody sNoReading, defScope sNoReading, [], []⟩
def dNotSeen : He.DefD := ⟨("NotSeen", some "__init__"), "__init__", "NotSeen.__init__", defArgs sNotSeen, defBody sNotSeen, defScope sNotSeen, [], []⟩
def dNotMoments : He.DefD := ⟨("NotMoments", some "__init__"), "__init__", "NotMoments.__init__", defArgs sNotMoments, defBody sNotMoments, defScope sNotMoments, [], []⟩
def dNotEvents : He.DefD := ⟨("NotEvents", some "__init__"), "__init__", "NotEvents.__init__", defArgs sNotEvents, defBody sNotEvents, defScope sNotEvents, [], []⟩
def dNoRight : He.DefD := ⟨("NoRight", some "__init__"), "__init__", "NoRight.__init__", defArgs sNoRight, defBody sNoRight, defScope sNoRight, [], []⟩
def dNotForced : He.DefD := ⟨("NotForced", some "__init__"), "__init__", "NotForced.__init__", defArgs sNotForced, defBody sNotForced, defScope sNotForced, [], []⟩
def dBadStep : He.DefD := ⟨("BadStep", some "__init__"), "__init__", "BadStep.__init__", defArgs sBadStep, defBody sBadStep, defScope sBadStep, [], []⟩
def dNoMark : He.DefD := ⟨("NoMark", some "__init__"), "__init__", "NoMark.__init__", defArgs sNoMark, defBody sNoMark, defScope sNoMark, [], []⟩
def dBadText : He.DefD := ⟨("BadText", some "__init__"), "__init__", "BadText.__init__", defArgs sBadText, defBody sBadText, defScope sBadText, [], []⟩
def fn : List He.DefD := [dPen, dTake, dMade, dKinds, dFields, dLaw, dNoNumeral, dNoPlace, dOverflow, dNoText, dTooMany, dNoScheme, dNoPlan, dNoPromise, dNoName, dNoBases, dNoVersion, dFallen, dBadRun, dUnheard, dNoReading, dNotSeen, dNotMoments, dNotEvents, dNoRight, dNotForced, dBadStep, dNoMark, dBadText]
def fa : List He.Fa := [.glo "_law_pen", .glo "_law_take", .glo "_law_made", .glo "_law_kinds", .glo "_law_fields", .glo "law", .glo "RisingError", .free "int", .free "list", .free "abs", .free "len", .free "range", .free "isinstance", .free "repr", .free "ValueError", .exc "Unlike", .exc "NoDivisor", .exc "NoOrder", .exc "NoLook", .exc "Busy", .exc "Idle", .exc "Held", .exc "NoCells", .exc "NoCell", .exc "Spent", .exc "NotPattern", .exc "NoLine", .exc "RisingError", .glo "NoNumeral", .glo "NoPlace", .glo "Overflow", .glo "Unlike", .glo "NoDivisor", .glo "NoText", .glo "NoOrder", .glo "TooMany", .glo "NoScheme", .glo "NoPlan", .glo "NoPromise", .glo "NoName", .glo "NoLook", .glo "NoBases", .glo "NoVersion", .glo "Fallen", .glo "Busy", .glo "Idle", .glo "Held", .glo "NoCells", .glo "NoCell", .glo "BadRun", .glo "Spent", .glo "Unheard", .glo "NoReading", .glo "NotPattern", .glo "NotSeen", .glo "NotMoments", .glo "NotEvents", .glo "NoRight", .glo "NotForced", .glo "BadStep", .glo "NoMark", .glo "BadText", .glo "NoLine"]
def namesA : List Str := ["NoNumeral", "NoPlace", "Overflow", "Unlike", "NoDivisor", "NoText", "NoOrder", "TooMany", "NoScheme", "NoPlan", "NoPromise", "NoName", "NoLook", "NoBases", "NoVersion", "Fallen", "Busy", "Idle"]
def namesB : List Str := ["Held", "NoCells", "NoCell", "BadRun", "Spent", "Unheard", "NoReading", "NotPattern", "NotSeen", "NotMoments", "NotEvents", "NoRight", "NotForced", "BadStep", "NoMark", "BadText", "NoLine"]
def names : List Str := namesA ++ namesB
def ownN : List (Str × List Str) := [("NoNumeral", ["at"]), ("NoPlace", ["place"]), ("Overflow", ["value"]), ("NoText", ["at"]), ("TooMany", ["most"]), ("NoScheme", ["part", "at"]), ("NoPlan", ["part", "at"]), ("NoPromise", ["promise"]), ("NoName", ["name"]), ("NoBases", ["name"]), ("NoVersion", ["name"]), ("Fallen", ["name", "place"]), ("BadRun", ["part", "at"]), ("Unheard", ["missing"]), ("NoReading", ["reading"]), ("NotSeen", ["one", "other"]), ("NotMoments", ["at"]), ("NotEvents", ["at"]), ("NoRight", ["at"]), ("NotForced", ["place", "x", "y"]), ("BadStep", ["at"]), ("NoMark", ["name"]), ("BadText", ["line", "word"])]
def nodupB : List Addr → Bool
  | [] => true
  | a :: r => !(r.any fun b => Nat.beq a b) && nodupB r
def ex (K : PySem.W.Frag) : Bool := exAllB K && exKB K (He.ga K "RisingError") && mroR K (He.ga K "RisingError") && (names.all fun n => exKB K (He.ga K n) && mroB K (He.ga K "RisingError") (He.ga K n)) &&
  (ownN.all fun q => oexB K (He.ga K q.1) && q.2.all fun f => He.eqO (PySem.W.findIn K (.ref (He.ga K q.1)) f) (some none)) && nodupB (He.ga K "RisingError" :: names.map (He.ga K))
abbrev R : PySem.W.OpenRow := PySem.W.OpenLaw.row PySem.Challenge.rw_risingread_k97_errors
abbrev hk : PySem.W.Hook := hookX 5 fa fn ex
def ob (s : PySem.W.SharedT) : AlX := obsX 5 fa fn ex (HandSHeadRun.getT s)
theorem ob_eq (s : PySem.W.SharedT) : ob s = hk.obs s.abs := obsX_eq (HandSHeadRun.getT_eq s)
def looseC : List Str := ["RisingError", "_law_pen", "_law_take", "_law_made", "_law_kinds", "_law_fields"]
def loose : List Str := names ++ looseC
end K97

set_option Elab.async false
set_option linter.all false
set_option maxRecDepth 100000
set_option maxHeartbeats 2000000
namespace K97
open PySem PySem.Spec PyProof.Rows L2 Ru
/-! ### the pen -/
abbrev kC : Key := Sum.inr (Str.ofString "cells")
abbrev kA : Key := Sum.inr (Str.ofString "at")
abbrev kR : Key := Sum.inr (Str.ofString "rest")
abbrev kF : Key := Sum.inr (Str.ofString "fold")
def penKV (l : Addr) (at_ rest fold : Int) : List (Key × V) := [(kC, .ref l), (kA, .int at_), (kR, .int rest), (kF, .int fold)]
theorem pk_cells (l : Addr) (a r f : Int) : valV (penKV l a r f) kC = some (.ref l) := valV_pos rfl
theorem ne1 : ¬ (kC = kA) := by decide +kernel
theorem ne2 : ¬ (kC = kR) := by decide +kernel
theorem ne3 : ¬ (kC = kF) := by decide +kernel
theorem ne4 : ¬ (kA = kR) := by decide +kernel
theorem ne5 : ¬ (kA = kF) := by decide +kernel
theorem ne6 : ¬ (kR = kF) := by decide +kernel
theorem pk_at (l : Addr) (a r f : Int) : valV (penKV l a r f) kA = some (.int a) := (valV_neg ne1).trans (valV_pos rfl)
theorem pk_rest (l : Addr) (a r f : Int) : valV (penKV l a r f) kR = some (.int r) := (valV_neg ne2).trans ((valV_neg ne4).trans (valV_pos rfl))
theorem pk_fold (l : Addr) (a r f : Int) : valV (penKV l a r f) kF = some (.int f) := (valV_neg ne3).trans ((valV_neg ne5).trans ((valV_neg ne6).trans (valV_pos rfl)))
theorem put_at (l : Addr) (a r f z : Int) : putK (penKV l a r f) kA (.int z) = penKV l z r f := by
  have h : ((penKV l a r f).any fun kv => decide (kv.1 = kA)) = true := by simp [penKV]
  unfold putK
  rw [if_pos h]
  show [(if kC = kA then (kC, V.int z) else (kC, V.ref l)), (if kA = kA then (kA, V.int z) else (kA, V.int a)), (if kR = kA then (kR, V.int z) else (kR, V.int r)), (if kF = kA then (kF, V.int z) else (kF, V.int f))] = _
  rw [if_neg ne1, if_pos rfl, if_neg (Ne.symm ne4), if_neg (Ne.symm ne5)]
  rfl
theorem put_rest (l : Addr) (a r f z : Int) : putK (penKV l a r f) kR (.int z) = penKV l a z f := by
  have h : ((penKV l a r f).any fun kv => decide (kv.1 = kR)) = true := by simp [penKV]
  unfold putK
  rw [if_pos h]
  show [(if kC = kR then (kC, V.int z) else (kC, V.ref l)), (if kA = kR then (kA, V.int z) else (kA, V.int a)), (if kR = kR then (kR, V.int z) else (kR, V.int r)), (if kF = kR then (kF, V.int z) else (kF, V.int f))] = _
  rw [if_neg ne2, if_neg ne4, if_pos rfl, if_neg (Ne.symm ne6)]
  rfl
structure PenAt (H : Hp) (d l : Addr) (cells : List Int) (a r f : Int) : Prop where
  dk : H d = some (.dK (penKV l a r f))
  cl : H l = some (.lst (cells.map V.int))
  len : cells.length ≤ 63
  a0 : 0 ≤ a
  r0 : 0 ≤ r
  f0 : 0 ≤ f
  f1 : f < 2147483629
section
variable {H H' : Hp} {d l : Addr} {cells : List Int} {a r f z : Int}
theorem PenAt.ne (P : PenAt H d l cells a r f) : l ≠ d := ne_of P.cl P.dk (by intro z; cases z)
theorem PenAt.same (s : Same H H') (P : PenAt H d l cells a r f) : PenAt H' d l cells a r f := ⟨s _ _ P.dk, s _ _ P.cl, P.len, P.a0, P.r0, P.f0, P.f1⟩
theorem PenAt.gC (P : PenAt H d l cells a r f) : DGet H d (.str "cells") (some (.ref l)) := by rw [← pk_cells l a r f]; exact DGet.k (k := kC) P.dk
theorem PenAt.gA (P : PenAt H d l cells a r f) : DGet H d (.str "at") (some (.int a)) := by rw [← pk_at l a r f]; exact DGet.k (k := kA) P.dk
theorem PenAt.gR (P : PenAt H d l cells a r f) : DGet H d (.str "rest") (some (.int r)) := by rw [← pk_rest l a r f]; exact DGet.k (k := kR) P.dk
theorem PenAt.gF (P : PenAt H d l cells a r f) : DGet H d (.str "fold") (some (.int f)) := by rw [← pk_fold l a r f]; exact DGet.k (k := kF) P.dk
theorem PenAt.pA (P : PenAt H d l cells a r f) (z : Int) : DPut H d (.str "at") (.int z) (upd H d (.dK (penKV l z r f))) := by rw [← put_at l a r f z]; exact DPut.k (k := kA) P.dk (by show 4 < sizeLine; decide)
theorem PenAt.pR (P : PenAt H d l cells a r f) (z : Int) : DPut H d (.str "rest") (.int z) (upd H d (.dK (penKV l a z f))) := by rw [← put_rest l a r f z]; exact DPut.k (k := kR) P.dk (by show 4 < sizeLine; decide)
theorem PenAt.up (P : PenAt H d l cells a r f) {a' r' : Int} (h1 : 0 ≤ a') (h2 : 0 ≤ r') : PenAt (upd H d (.dK (penKV l a' r' f))) d l cells a' r' f :=
  ⟨upd_same, by rw [upd_ne P.ne]; exact P.cl, P.len, h1, h2, P.f0, P.f1⟩
end
/-- a number from 0 to m - 1 is drawn; nothing but the pen's dict changes -/
def spTake : Sp := fun vs H Q _ => ∃ (d l : Addr) (cells : List Int) (a r f m : Int), vs = [.ref d, .int m] ∧ PenAt H d l cells a r f ∧ a ≤ 100000 ∧ 0 < m ∧ m < 1073741824 ∧
  ∀ (z a' r' : Int) (H' : Hp), 0 ≤ z → z < m → a' ≤ a + 1 → (∀ b o, H b = some o → b ≠ d → H' b = some o) → PenAt H' d l cells a' r' f → Q (.int z) H'
theorem sc_take : FnScope ["_law_pen_here", "_law_many", "_law_digit", "_law_at", "_law_cell", "_law_great", "_law_mixed"] ["_law_pen_here", "_law_many"] (defScope sTake) := ⟨rfl, rfl, rfl, by decide +kernel, rfl, by decide +kernel, by decide +kernel⟩
theorem sq_le {a : Int} (h0 : 0 ≤ a) (h1 : a ≤ 100000) : 0 ≤ 30011 * a * a ∧ 30011 * a * a ≤ 300110000000000 := by
  have h2 : 0 ≤ a * a := Int.mul_nonneg h0 h0
  have h3 : a * a ≤ 100000 * 100000 := Int.mul_le_mul h1 h1 h0 (by omega)
  have e : 30011 * a * a = 30011 * (a * a) := Int.mul_assoc _ _ _
  omega
theorem po1 : (0 : Int) < 2147483563 := by decide
theorem po2 : (0 : Int) < 2147483647 := by decide
theorem po3 : (0 : Int) < 2147483587 := by decide
theorem po4 : (0 : Int) < 2147483629 := by decide
theorem ifD {c A B : Prop} [Decidable c] (h1 : c → A) (h2 : ¬ c → B) : if decide c = true then A else B := by
  by_cases h : c
  · rw [if_pos (decide_eq_true h)]
    exact h1 h
  · rw [if_neg (by rw [decide_eq_false h]; exact Bool.false_ne_true)]
    exact h2 h
section
variable {P : Program} {w : World} {K : PySem.W.Frag} {mg : Str → Option Value} {base : Heap}
theorem ok_take {f : Addr} {fd : FuncData} (F : FunD K "_law_take" "_law_take" (defArgs sTake) (defBody sTake) (defScope sTake) [] [] f fd) (g_int : mg "int" = none) (g_len : mg "len" = none) (g_abs : mg "abs" = none) :
    FnOk P w K mg base CX0 1 f fd ["_law_pen_here", "_law_many"] spTake := by
  refine F.ok sc_take (fun vs H Q E h => ?_) (fun cdv A outer s H vs Q E hr h => ?_)
  · obtain ⟨d, l, cells, a, r, f, m, rfl, _⟩ := h
    rfl
  · obtain ⟨d, l, cells, a, r, f, m, rfl, PA, ha, hm0, hm1, k⟩ := h
    have hu := hu_of hr
    have sc := sc_take
    refine ⟨_, PSs.nox (pss_cons (ps_if (pt_cmpR op_gt (pe_dget hu (pv 0) pe_str (fun _ _ => rfl)) pe_int (nomark _))
        (pss_cons (ps_set (i := 2) sc.nd rfl (Or.inl rfl) (pe_op op_mod (pe_callTy call_int1 (by rfl) g_int boot_int (pa_cons (pe_dget hu (pv 0) pe_str (fun _ _ => rfl)) pa_nil)) (pv 1)))
        (pss_cons (ps_dput hu (pv 0) pe_str (pe_op op_fdiv (pe_callTy call_int1 (by rfl) g_int boot_int (pa_cons (pe_dget hu (pv 0) pe_str (fun _ _ => rfl)) pa_nil)) (pv 1)) rfl)
        (pss_one (ps_ret (pv 2)))))
        pss_nil)
      (pss_cons (ps_set (i := 3) sc.nd rfl (Or.inl rfl) (pe_dget hu (pv 0) pe_str (fun _ _ => rfl)))
      (pss_cons (ps_dput hu (pv 0) pe_str (pe_op op_add (pv 3) pe_int) rfl)
      (pss_cons (ps_set (i := 4) sc.nd rfl (Or.inl rfl) pe_int)
      (pss_cons (ps_if (pt_cmpR op_lt (pv 3) (pe_callB call_len_seq (by rfl) g_len PySem.boot_len (pa_cons (pe_dget hu (pv 0) pe_str (fun _ _ => rfl)) pa_nil)) (nomark _))
        (pss_one (ps_set (i := 4) sc.nd rfl (Or.inl rfl) (pe_ix ix_list (pe_dget hu (pv 0) pe_str (fun _ _ => rfl)) (pv 3) (fun _ _ => rfl))))
        pss_nil)
      (pss_cons (ps_if (pt_cmpR op_ge (pe_callB call_abs (by rfl) g_abs boot_abs (pa_cons (pv 4) pa_nil)) (pe_op op_pow pe_int pe_int) (nomark _))
        (pss_cons (ps_set (i := 5) sc.nd rfl (Or.inl rfl) (pe_op op_add (pe_op op_mul pe_int (pe_callB call_abs (by rfl) g_abs boot_abs (pa_cons (pv 4) pa_nil))) (pe_callTy call_int1 (by rfl) g_int boot_int (pa_cons (pe_cmpR op_lt (pv 4) pe_int (nomark _)) pa_nil))))
        (pss_cons (ps_dput hu (pv 0) pe_str (pe_op op_fdiv (pe_callTy call_int1 (by rfl) g_int boot_int (pa_cons (pv 5) pa_nil)) (pv 1)) rfl)
        (pss_one (ps_ret (pe_op op_mod (pe_callTy call_int1 (by rfl) g_int boot_int (pa_cons (pv 5) pa_nil)) (pv 1))))))
        pss_nil)
      (pss_cons (ps_set (i := 6) sc.nd rfl (Or.inl rfl) (pe_op op_mod (pe_callTy call_int1 (by rfl) g_int boot_int (pa_cons (pe_op op_pow (pe_op op_add (pe_op op_add (pe_op op_mod (pe_callTy call_int1 (by rfl) g_int boot_int (pa_cons (pv 4) pa_nil)) pe_int) (pe_callTy call_int1 (by rfl) g_int boot_int (pa_cons (pe_dget hu (pv 0) pe_str (fun _ _ => rfl)) pa_nil))) (pe_op op_mul pe_int (pv 3))) pe_int) pa_nil)) pe_int))
      (pss_cons (ps_set (i := 6) sc.nd rfl (Or.inl rfl) (pe_op op_mod (pe_callTy call_int1 (by rfl) g_int boot_int (pa_cons (pe_op op_pow (pe_op op_add (pe_op op_add (pv 6) (pe_op op_mul (pe_op op_mul pe_int (pv 3)) (pv 3))) (pe_op op_fdiv (pe_callTy call_int1 (by rfl) g_int boot_int (pa_cons (pe_dget hu (pv 0) pe_str (fun _ _ => rfl)) pa_nil)) pe_int)) pe_int) pa_nil)) pe_int))
      (pss_one (ps_ret (pe_op op_mod (pe_callTy call_int1 (by rfl) g_int boot_int (pa_cons (pe_op op_fdiv (pv 6) pe_int) pa_nil)) (pv 1)))))))))))), ?_⟩
    have k1 : ∀ {a' r' : Int}, ∀ b o, H b = some o → b ≠ d → (upd H d (.dK (penKV l a' r' f))) b = some o := fun b o e hb => by rw [upd_ne hb]; exact e
    refine ⟨_, rfl, d, _, rfl, PA.gR, _, _, rfl, rfl, _, rfl, ?_⟩
    refine ifD (fun h0 => ?_) (fun h0 => ?_)
    · refine ⟨_, rfl, d, _, rfl, PA.gR, .inl ⟨_, rfl, _, rfl, _, _, rfl, rfl, hm0, ?_⟩⟩
      refine ⟨_, rfl, d, _, rfl, PA.gR, .inl ⟨_, rfl, _, rfl, _, _, rfl, rfl, ⟨hm0, hm1⟩, _, rfl, d, _, rfl, PA.pR _, ?_⟩⟩
      exact ⟨_, rfl, k _ a _ _ (Int.emod_nonneg _ (by omega)) (Int.emod_lt_of_pos _ hm0) (by omega) k1 (PA.up PA.a0 (Int.ediv_nonneg PA.r0 (by omega)))⟩
    · refine ⟨_, rfl, d, _, rfl, PA.gA, ?_⟩
      refine ⟨_, rfl, _, _, rfl, rfl, _, rfl, d, _, rfl, PA.pA _, ?_⟩
      have a0 := PA.a0
      have P1 := PA.up (a' := a + 1) (r' := r) (by omega) PA.r0
      refine ⟨_, rfl, _, rfl, d, _, rfl, P1.gC, l, _, rfl, .inl (SqL.of P1.cl), _, _, rfl, rfl, _, rfl, ?_⟩
      have sq := sq_le a0 ha
      have f0 := PA.f0
      have f1 := PA.f1
      refine ifD (fun h1 => ?_) (fun h1 => ?_)
      · rw [List.length_map] at h1
        obtain ⟨n, hn⟩ := Int.eq_ofNat_of_zero_le a0
        have hlt : n < cells.length := by omega
        refine ⟨_, rfl, d, _, rfl, P1.gC, _, rfl, l, _, _, .int (cells[n]), rfl, rfl, SqL.of P1.cl, at_of hn (by rw [List.getElem?_map, List.getElem?_eq_getElem hlt]; rfl), ?_⟩
        generalize cells[n] = c
        refine ⟨_, rfl, _, rfl, _, _, rfl, rfl, ⟨by decide, by decide, by decide⟩, _, _, rfl, rfl, _, rfl, ?_⟩
        refine ifD (fun h2 => ?_) (fun h2 => ?_)
        · refine ⟨_, rfl, _, rfl, _, _, rfl, rfl, .inl ⟨by decide, by decide⟩, _, rfl, _, _, rfl, rfl, .inr ⟨_, rfl, _, _, rfl, rfl, ?_⟩⟩
          have g0 : 0 ≤ 2 * (if c < 0 then -c else c) + (if decide (c < 0) = true then 1 else 0) := by
            by_cases h : c < 0
            · rw [if_pos h, if_pos (decide_eq_true h)]
              omega
            · rw [if_neg h, if_neg (by rw [decide_eq_false h]; exact Bool.false_ne_true)]
              omega
          refine ⟨_, rfl, .inl ⟨_, rfl, _, rfl, _, _, rfl, rfl, ⟨hm0, hm1⟩, _, rfl, d, _, rfl, P1.pR _, ?_⟩⟩
          refine ⟨_, rfl, .inl ⟨_, rfl, _, rfl, _, _, rfl, rfl, hm0, ?_⟩⟩
          refine k _ (a + 1) _ _ (Int.emod_nonneg _ (by omega)) (Int.emod_lt_of_pos _ hm0) (Int.le_refl _) ?_ (P1.up (by omega) (Int.ediv_nonneg g0 (by omega)))
          intro b o e hb
          rw [upd_ne hb, upd_ne hb]
          exact e
        · have c0 := Int.emod_nonneg c (show (2147483563 : Int) ≠ 0 by decide)
          have c1 := Int.emod_lt_of_pos c (show (0 : Int) < 2147483563 by decide)
          have x0 := Int.emod_nonneg ((c % 2147483563 + f + 70001 * a) ^ Int.toNat 3) (show (2147483647 : Int) ≠ 0 by decide)
          have x1 := Int.emod_lt_of_pos ((c % 2147483563 + f + 70001 * a) ^ Int.toNat 3) (show (0 : Int) < 2147483647 by decide)
          refine ⟨_, rfl, .inl ⟨_, rfl, _, _, rfl, rfl, po1, _, rfl, d, _, rfl, P1.gF, .inl ⟨_, rfl, _, _, rfl, rfl, _, rfl, _, _, rfl, rfl, .inl ⟨by decide, by decide⟩, _, _, rfl, rfl, ?_⟩⟩⟩
          refine ⟨_, _, rfl, rfl, ⟨by decide, by decide, by omega⟩, .inl ⟨_, rfl, _, _, rfl, rfl, po2, ?_⟩⟩
          refine ⟨_, rfl, _, rfl, _, _, rfl, rfl, .inl ⟨by decide, by decide⟩, _, rfl, _, _, rfl, rfl, .inl ⟨by omega, by omega⟩, _, _, rfl, rfl, ?_⟩
          refine ⟨_, rfl, d, _, rfl, P1.gF, .inl ⟨_, rfl, _, _, rfl, rfl, ⟨by decide, by decide⟩, _, _, rfl, rfl, ?_⟩⟩
          refine ⟨_, _, rfl, rfl, ⟨by decide, by decide, by omega⟩, .inl ⟨_, rfl, _, _, rfl, rfl, po3, ?_⟩⟩
          refine ⟨_, rfl, _, _, rfl, rfl, ⟨by decide, by decide⟩, .inl ⟨_, rfl, _, rfl, _, _, rfl, rfl, hm0, ?_⟩⟩
          exact k _ (a + 1) r _ (Int.emod_nonneg _ (by omega)) (Int.emod_lt_of_pos _ hm0) (Int.le_refl _) k1 P1
      · refine ⟨_, rfl, _, rfl, _, _, rfl, rfl, ⟨by decide, by decide, by decide⟩, _, _, rfl, rfl, _, rfl, ?_⟩
        refine ifD (fun h2 => ?_) (fun h2 => ?_)
        · refine ⟨_, rfl, _, rfl, _, _, rfl, rfl, .inl ⟨by decide, by decide⟩, _, rfl, _, _, rfl, rfl, .inr ⟨_, rfl, _, _, rfl, rfl, ?_⟩⟩
          have g0 : 0 ≤ 2 * (if (0 : Int) < 0 then -(0 : Int) else (0 : Int)) + (if decide ((0 : Int) < 0) = true then 1 else 0) := by
            by_cases h : (0 : Int) < 0
            · rw [if_pos h, if_pos (decide_eq_true h)]
              omega
            · rw [if_neg h, if_neg (by rw [decide_eq_false h]; exact Bool.false_ne_true)]
              omega
          refine ⟨_, rfl, .inl ⟨_, rfl, _, rfl, _, _, rfl, rfl, ⟨hm0, hm1⟩, _, rfl, d, _, rfl, P1.pR _, ?_⟩⟩
          refine ⟨_, rfl, .inl ⟨_, rfl, _, rfl, _, _, rfl, rfl, hm0, ?_⟩⟩
          refine k _ (a + 1) _ _ (Int.emod_nonneg _ (by omega)) (Int.emod_lt_of_pos _ hm0) (Int.le_refl _) ?_ (P1.up (by omega) (Int.ediv_nonneg g0 (by omega)))
          intro b o e hb
          rw [upd_ne hb, upd_ne hb]
          exact e
        · have c0 := Int.emod_nonneg (0 : Int) (show (2147483563 : Int) ≠ 0 by decide)
          have c1 := Int.emod_lt_of_pos (0 : Int) (show (0 : Int) < 2147483563 by decide)
          have x0 := Int.emod_nonneg (((0 : Int) % 2147483563 + f + 70001 * a) ^ Int.toNat 3) (show (2147483647 : Int) ≠ 0 by decide)
          have x1 := Int.emod_lt_of_pos (((0 : Int) % 2147483563 + f + 70001 * a) ^ Int.toNat 3) (show (0 : Int) < 2147483647 by decide)
          refine ⟨_, rfl, .inl ⟨_, rfl, _, _, rfl, rfl, po1, _, rfl, d, _, rfl, P1.gF, .inl ⟨_, rfl, _, _, rfl, rfl, _, rfl, _, _, rfl, rfl, .inl ⟨by decide, by decide⟩, _, _, rfl, rfl, ?_⟩⟩⟩
          refine ⟨_, _, rfl, rfl, ⟨by decide, by decide, by omega⟩, .inl ⟨_, rfl, _, _, rfl, rfl, po2, ?_⟩⟩
          refine ⟨_, rfl, _, rfl, _, _, rfl, rfl, .inl ⟨by decide, by decide⟩, _, rfl, _, _, rfl, rfl, .inl ⟨by omega, by omega⟩, _, _, rfl, rfl, ?_⟩
          refine ⟨_, rfl, d, _, rfl, P1.gF, .inl ⟨_, rfl, _, _, rfl, rfl, ⟨by decide, by decide⟩, _, _, rfl, rfl, ?_⟩⟩
          refine ⟨_, _, rfl, rfl, ⟨by decide, by decide, by omega⟩, .inl ⟨_, rfl, _, _, rfl, rfl, po3, ?_⟩⟩
          refine ⟨_, rfl, _, _, rfl, rfl, ⟨by decide, by decide⟩, .inl ⟨_, rfl, _, rfl, _, _, rfl, rfl, hm0, ?_⟩⟩
          exact k _ (a + 1) r _ (Int.emod_nonneg _ (by omega)) (Int.emod_lt_of_pos _ hm0) (Int.le_refl _) k1 P1
/-- a pen over the script -/
def spPen (K : PySem.W.Frag) : Sp := fun vs H Q _ => ∃ (a : Addr) (ns : List Int), vs = [.ref a] ∧ SqL K H a (ns.map V.int) ∧ ns.length ≤ 63 ∧ ∀ (d l : Addr) (f : Int) (H' : Hp), Same H H' → PenAt H' d l ns 0 0 f → Q (.ref d) H'
theorem sc_pen : FnScope ["_law_script", "_law_fold", "_law_cell"] ["_law_script"] (defScope sPen) := ⟨rfl, rfl, rfl, by decide +kernel, rfl, by decide +kernel, by decide +kernel⟩
theorem cut63 {xs : List V} (h : xs.length ≤ 63) : cutV xs none (some 63) = xs := by
  show (xs.drop 0).take (min 63 xs.length - 0) = xs
  rw [Nat.min_eq_right h]
  simp
theorem merge4 (l : Addr) (f : Int) : mergeK [] (penKV l 0 0 f) = penKV l 0 0 f := by
  unfold mergeK penKV
  rfl
theorem ok_pen {f : Addr} {fd : FuncData} (F : FunD K "_law_pen" "_law_pen" (defArgs sPen) (defBody sPen) (defScope sPen) [] [] f fd) (g_int : mg "int" = none) (g_list : mg "list" = none) :
    FnOk P w K mg base CX0 1 f fd ["_law_script"] (spPen K) := by
  refine F.ok sc_pen (fun vs H Q E h => ?_) (fun cdv A outer s H vs Q E hr h => ?_)
  · obtain ⟨a, ns, rfl, _⟩ := h
    rfl
  · obtain ⟨a, ns, rfl, hS, hlen, k⟩ := h
    have sc := sc_pen
    have hl2 : (ns.map V.int).length ≤ 63 := by rw [List.length_map]; exact hlen
    refine ⟨_, PSs.nox (pss_cons (ps_set (i := 1) sc.nd rfl (Or.inl rfl) pe_int)
      (pss_cons (ps_for PassesOwn.never rfl (pi_list (pe_slice sl_list (pv 0) po_none (po_some pe_int))) (pg_name (i := 2) sc.nd rfl (Or.inl rfl))
        (pss_one (ps_set (i := 1) sc.nd rfl (Or.inl rfl) (pe_op op_mod (pe_callTy call_int1 (by rfl) g_int boot_int (pa_cons (pe_op op_add (pe_op op_add (pe_op op_mul (pv 1) pe_int) (pe_op op_mod (pe_callTy call_int1 (by rfl) g_int boot_int (pa_cons (pv 2) pa_nil)) pe_int)) pe_int) pa_nil)) pe_int))))
      (pss_one (ps_ret (pe_disp (pps_cons pe_str (pe_callTy call_list_of (by rfl) g_list boot_list (pa_cons (pe_slice sl_list (pv 0) po_none (po_some pe_int)) pa_nil)) (pps_cons pe_str pe_int (pps_cons pe_str pe_int (pps_cons pe_str (pv 1) pps_nil)))) rfl rfl (by simp) (by decide)))))), ?_⟩
    refine ⟨_, rfl, _, rfl, a, _, rfl, hS, fun p hp => ?_⟩
    rw [cut63 hl2]
    have s1 : Same H (upd H p (.lst (ns.map V.int))) := upd_new hp
    refine ⟨p, rfl, ⟨_, SqL.of upd_same⟩, for_list (K := K) (a := p) (xs := ns.map V.int) (fun i σ H2 => ∃ (fo : Int) (v : Option V), σ = [some (.ref a), some (.int fo), v] ∧ 0 ≤ fo ∧ fo < 2147483629 ∧ Same H H2 ∧ H2 p = some (.lst (ns.map V.int)))
      ⟨97, none, rfl, by decide, by decide, s1, upd_same⟩ (fun i σ H2 _ ⟨_, _, _, _, _, _, q⟩ => SqL.of q) ?_ ?_⟩
    · rintro i y σ H2 hi ⟨fo, v, rfl, h0, h1, s2, hp2⟩
      obtain ⟨z, rfl⟩ : ∃ z, y = V.int z := by
        rw [List.getElem?_map] at hi
        cases e : ns[i]? with
        | none => rw [e] at hi; cases hi
        | some z => rw [e] at hi; exact ⟨z, (Option.some.inj hi).symm⟩
      refine ⟨_, rfl, _, _, rfl, rfl, .inl ⟨by omega, by omega⟩, _, rfl, .inl ⟨_, rfl, _, _, rfl, rfl, po4, _, _, rfl, rfl, _, _, rfl, rfl, .inl ⟨_, rfl, _, _, rfl, rfl, po4, ?_⟩⟩⟩
      exact ⟨_, _, rfl, Int.emod_nonneg _ (by decide), Int.emod_lt_of_pos _ (by decide), s2, hp2⟩
    · rintro σ H2 ⟨fo, v, rfl, h0, h1, s2, hp2⟩
      intro d hd
      have s3 : Same H (upd H2 d (.dK [])) := s2.trans (upd_new hd)
      refine ⟨_, rfl, _, rfl, a, _, rfl, s3.seq hS, fun q hq => ⟨q, _, rfl, .inl (SqL.of upd_same), fun l hl => ?_⟩⟩
      rw [cut63 hl2] at hl ⊢
      refine ⟨_, rfl, ?_, penKV l 0 0 fo, rfl, by show 4 ≤ 15; decide, ?_⟩
      · have n1 : d ≠ l := ne_of_none (H := upd (upd H2 d (.dK [])) q (.lst (ns.map V.int))) (by rw [upd_ne (ne_of_none upd_same hq)]; exact upd_same) hl
        rw [upd_ne n1, upd_ne (ne_of_none upd_same hq), upd_same]
      · rw [merge4]
        have n1 : d ≠ q := ne_of_none upd_same hq
        have n2 : d ≠ l := ne_of_none (H := upd (upd H2 d (.dK [])) q (.lst (ns.map V.int))) (by rw [upd_ne n1]; exact upd_same) hl
        refine k d l fo _ (fun b o e => ?_) ⟨upd_same, by rw [upd_ne (Ne.symm n2)]; exact upd_same, hlen, by decide, by decide, h0, h1⟩
        have e3 := s3 b o e
        rw [upd_ne (ne_of_none (s2 b o e) hd), upd_ne (ne_of_none (H := upd (upd H2 d (.dK [])) q (.lst (ns.map V.int))) (by rw [upd_ne (ne_of_none e3 hq)]; exact e3) hl), upd_ne (ne_of_none e3 hq)]
        exact e3
end
end K97

set_option Elab.async false
set_option linter.all false
set_option maxRecDepth 100000
set_option maxHeartbeats 4000000
namespace Ru
open PySem PySem.Spec PyProof.Rows L2
/-! ### expressions whose value is known while J holds -/
def tEv (J : L2.St → Hp → Prop) (v : V) : TE := fun σ H Q => J σ H ∧ Q v H
def tEvs (J : L2.St → Hp → Prop) (vs : List V) : TA := fun σ H Q => J σ H ∧ Q vs H
section
variable {X : Cx} {J : L2.St → Hp → Prop} {v : V} {vs : List V} {e : Expr} {es : List Expr}
theorem ev_nil : PA X [] (tEvs J []) := weakenA pa_nil fun σ H Q h => h.2
theorem ev_cons (a : PE X e (tEv J v)) (b : PA X es (tEvs J vs)) (hs : starEach (e :: es) X.env = (false, eval e X.env) :: starEach es X.env := by rfl) : PA X (e :: es) (tEvs J (v :: vs)) :=
  weakenA (pa_cons a b hs) fun σ H Q h => ⟨h.1, ⟨h.1, h.2⟩⟩
end
/-- x = [..] -/
def tFirstE (J : L2.St → Hp → Prop) (j : Nat) (vs : List V) : TS := fun D σ H => J σ H ∧ vs.length ≤ 1000 ∧ ∀ p H' xs', Same H H' → xs' = vs → H' p = some (.lst xs') → ∀ σ', σ' = σ.set j (some (.ref p)) → D.nx σ' H'
theorem firstE {J : L2.St → Hp → Prop} {j : Nat} {vs : List V} : ∀ D σ H, tFirstE J j vs D σ H → tAsg (tLst (tEvs J vs)) (gName j) D σ H :=
  fun D σ H ⟨h, hl, k⟩ => ⟨h, Nat.le_trans hl (by decide), fun p hp => k p _ _ (upd_new hp) rfl upd_same _ rfl⟩
/-- x = x + [..] -/
def tGrowE (J : L2.St → Hp → Prop) (j : Nat) (vs : List V) : TS := fun D σ H => J σ H ∧ ∃ p xs, σ[j]? = some (some (.ref p)) ∧ H p = some (.lst xs) ∧ xs.length + vs.length ≤ 1000 ∧
  ∀ p' H' xs', Same H H' → xs' = xs ++ vs → H' p' = some (.lst xs') → ∀ σ', σ' = σ.set j (some (.ref p')) → D.nx σ' H'
theorem growE {J : L2.St → Hp → Prop} {j : Nat} {vs : List V} : ∀ D σ H, tGrowE J j vs D σ H → tAsg (tOp rCat (tVar j) (tLst (tEvs J vs))) (gName j) D σ H :=
  fun D σ H ⟨h, p, xs, h1, h2, hl, k⟩ => ⟨_, h1, h, Nat.le_trans (Nat.le_add_left _ _) (Nat.le_trans hl (by decide)), fun q hq =>
    ⟨p, q, xs, vs, rfl, rfl, by rw [upd_ne (ne_of_none h2 hq)]; exact h2, upd_same, Nat.le_trans hl (by decide), fun r hr => k r _ _ ((upd_new hq).trans (upd_new hr)) rfl upd_same _ rfl⟩⟩
/-- a row of exceptions grows -/
def tFirstX (v1 v2 v3 : V) (ts : List (Addr × List (Str × V))) : TS := fun D σ H => C3 v1 v2 v3 σ ∧ ts.length ≤ 500 ∧ ∀ p H' es, Same H H' → AllEx H' es ts → H' p = some (.lst es) → D.nx (σ.set 3 (some (.ref p))) H'
theorem firstX {v1 v2 v3 : V} {ts : List (Addr × List (Str × V))} : ∀ D σ H, tFirstX v1 v2 v3 ts D σ H → tAsg (tLst (tVs v1 v2 v3 ts)) (gName 3) D σ H :=
  fun D σ H ⟨h, hl, k⟩ => ⟨h, fun es H1 s1 a1 => ⟨by rw [a1.length]; exact Nat.le_trans hl (by decide), fun p hp => k p _ es (s1.trans (upd_new hp)) (a1.same (upd_new hp)) upd_same⟩⟩
def tGrowX (v1 v2 v3 : V) (ts : List (Addr × List (Str × V))) : TS := fun D σ H => C3 v1 v2 v3 σ ∧ ∃ p es ts0, σ[3]? = some (some (.ref p)) ∧ H p = some (.lst es) ∧ AllEx H es ts0 ∧ ts0.length ≤ 500 ∧ ts.length ≤ 500 ∧
  ∀ p' H' es', Same H H' → AllEx H' es' (ts0 ++ ts) → H' p' = some (.lst es') → D.nx (σ.set 3 (some (.ref p'))) H'
theorem growX {v1 v2 v3 : V} {ts : List (Addr × List (Str × V))} : ∀ D σ H, tGrowX v1 v2 v3 ts D σ H → tAsg (tOp rCat (tVar 3) (tLst (tVs v1 v2 v3 ts))) (gName 3) D σ H :=
  fun D σ H ⟨h, p, es, ts0, h1, h2, a0, l0, l1, k⟩ => ⟨_, h1, h, fun new H1 s1 a1 => ⟨by rw [a1.length]; exact Nat.le_trans l1 (by decide), fun q hq =>
    ⟨p, q, es, new, rfl, rfl, by rw [upd_ne (ne_of_none (s1 _ _ h2) hq)]; exact s1 _ _ h2, upd_same, by rw [a0.length, a1.length]; exact Nat.le_trans (Nat.add_le_add l0 l1) (by decide), fun r hr =>
      k r _ _ (s1.trans ((upd_new hq).trans (upd_new hr))) (AllEx.app (a1.same ((upd_new hq).trans (upd_new hr))) (a0.same (s1.trans ((upd_new hq).trans (upd_new hr))))) upd_same⟩⟩⟩
/-- what a call of an own exception class leans on -/
structure MkX (P : Program) (w : World) (K : PySem.W.Frag) (mg : Str → Option Value) (base : Heap) (n : Str) (fs : List Str) : Prop where
  T : OexC K (He.ga K n)
  iC : PySem.W.findIn K (.ref (He.ga K n)) "__init__" = some (some (.ref (He.ma K (He.ga K n) "__init__")))
  tI : PySem.W.typeIn K (.ref (He.ma K (He.ga K n) "__init__")) = some (.type "function")
  hno : ∀ f ∈ fs, PySem.W.findIn K (.ref (He.ga K n)) f = some none
  gm : mg n = some (.ref (He.ga K n))
  fn : ∃ fd, FnOk P w K mg base CX0 1 (He.ma K (He.ga K n) "__init__") fd ("self" :: fs) (spIni K (He.ga K n) fs) ∧ Binds K fd ("self" :: fs) []
structure MkB (K : PySem.W.Frag) (mg : Str → Option Value) (n : Str) : Prop where
  q : PySem.W.excIn K (He.ga K n) He.veBase "ValueError.__new__" = true
  kp : PySem.W.keepIn K (.ref (He.ga K n)) = true
  gm : mg n = some (.ref (He.ga K n))
end Ru
namespace K97
open PySem PySem.Spec PyProof.Rows L2 Ru
def t0 (K : PySem.W.Frag) (v1 v2 v3 : V) : List (Addr × List (Str × V)) := [(He.ga K "NoNumeral", ([Str.ofString "at"].zip [v1]).reverse), (He.ga K "NoPlace", ([Str.ofString "place"].zip [v1]).reverse), (He.ga K "Overflow", ([Str.ofString "value"].zip [v1]).reverse), (He.ga K "Unlike", [])]
def t1 (K : PySem.W.Frag) (v1 v2 v3 : V) : List (Addr × List (Str × V)) := [(He.ga K "NoDivisor", []), (He.ga K "NoText", ([Str.ofString "at"].zip [v1]).reverse), (He.ga K "NoOrder", []), (He.ga K "TooMany", ([Str.ofString "most"].zip [v1]).reverse)]
def t2 (K : PySem.W.Frag) (v1 v2 v3 : V) : List (Addr × List (Str × V)) := [(He.ga K "NoScheme", ([Str.ofString "part", Str.ofString "at"].zip [v1, v2]).reverse), (He.ga K "NoPlan", ([Str.ofString "part", Str.ofString "at"].zip [v1, v2]).reverse), (He.ga K "NoPromise", ([Str.ofString "promise"].zip [v1]).reverse), (He.ga K "NoName", ([Str.ofString "name"].zip [v1]).reverse)]
def t3 (K : PySem.W.Frag) (v1 v2 v3 : V) : List (Addr × List (Str × V)) := [(He.ga K "NoLook", []), (He.ga K "NoBases", ([Str.ofString "name"].zip [v1]).reverse), (He.ga K "NoVersion", ([Str.ofString "name"].zip [v1]).reverse), (He.ga K "Fallen", ([Str.ofString "name", Str.ofString "place"].zip [v1, v2]).reverse)]
def t4 (K : PySem.W.Frag) (v1 v2 v3 : V) : List (Addr × List (Str × V)) := [(He.ga K "Busy", []), (He.ga K "Idle", []), (He.ga K "Held", []), (He.ga K "NoCells", [])]
def t5 (K : PySem.W.Frag) (v1 v2 v3 : V) : List (Addr × List (Str × V)) := [(He.ga K "NoCell", []), (He.ga K "BadRun", ([Str.ofString "part", Str.ofString "at"].zip [v1, v2]).reverse), (He.ga K "Spent", []), (He.ga K "Unheard", ([Str.ofString "missing"].zip [v1]).reverse)]
def t6 (K : PySem.W.Frag) (v1 v2 v3 : V) : List (Addr × List (Str × V)) := [(He.ga K "NoReading", ([Str.ofString "reading"].zip [v1]).reverse), (He.ga K "NotPattern", []), (He.ga K "NotSeen", ([Str.ofString "one", Str.ofString "other"].zip [v1, v2]).reverse), (He.ga K "NotMoments", ([Str.ofString "at"].zip [v1]).reverse)]
def t7 (K : PySem.W.Frag) (v1 v2 v3 : V) : List (Addr × List (Str × V)) := [(He.ga K "NotEvents", ([Str.ofString "at"].zip [v1]).reverse), (He.ga K "NoRight", ([Str.ofString "at"].zip [v1]).reverse), (He.ga K "NotForced", ([Str.ofString "place", Str.ofString "x", Str.ofString "y"].zip [v1, v2, v3]).reverse), (He.ga K "BadStep", ([Str.ofString "at"].zip [v1]).reverse)]
def t8 (K : PySem.W.Frag) (v1 v2 v3 : V) : List (Addr × List (Str × V)) := [(He.ga K "NoMark", ([Str.ofString "name"].zip [v1]).reverse), (He.ga K "BadText", ([Str.ofString "line", Str.ofString "word"].zip [v1, v2]).reverse), (He.ga K "NoLine", [])]
def tsAll (K : PySem.W.Frag) (v1 v2 v3 : V) : List (Addr × List (Str × V)) := t0 K v1 v2 v3 ++ t1 K v1 v2 v3 ++ t2 K v1 v2 v3 ++ t3 K v1 v2 v3 ++ t4 K v1 v2 v3 ++ t5 K v1 v2 v3 ++ t6 K v1 v2 v3 ++ t7 K v1 v2 v3 ++ t8 K v1 v2 v3
/-- a row of all errors, each with its fields -/
def spMade (K : PySem.W.Frag) : Sp := fun vs H Q _ => ∃ v1 v2 v3 : V, vs = [v1, v2, v3] ∧ ∀ p H' es, Same H H' → H' p = some (.lst es) → AllEx H' es (tsAll K v1 v2 v3) → Q (.ref p) H'
theorem sc_made : FnScope ["_law_one", "_law_two", "_law_three", "_law_found"] ["_law_one", "_law_two", "_law_three"] (defScope sMade) := ⟨rfl, rfl, rfl, by decide +kernel, rfl, by decide +kernel, by decide +kernel⟩
structure Cls (P : Program) (w : World) (K : PySem.W.Frag) (mg : Str → Option Value) (base : Heap) : Prop where
  cNoNumeral : MkX P w K mg base "NoNumeral" ["at"]
  cNoPlace : MkX P w K mg base "NoPlace" ["place"]
  cOverflow : MkX P w K mg base "Overflow" ["value"]
  cUnlike : MkB K mg "Unlike"
  cNoDivisor : MkB K mg "NoDivisor"
  cNoText : MkX P w K mg base "NoText" ["at"]
  cNoOrder : MkB K mg "NoOrder"
  cTooMany : MkX P w K mg base "TooMany" ["most"]
  cNoScheme : MkX P w K mg base "NoScheme" ["part", "at"]
  cNoPlan : MkX P w K mg base "NoPlan" ["part", "at"]
  cNoPromise : MkX P w K mg base "NoPromise" ["promise"]
  cNoName : MkX P w K mg base "NoName" ["name"]
  cNoLook : MkB K mg "NoLook"
  cNoBases : MkX P w K mg base "NoBases" ["name"]
  cNoVersion : MkX P w K mg base "NoVersion" ["name"]
  cFallen : MkX P w K mg base "Fallen" ["name", "place"]
  cBusy : MkB K mg "Busy"
  cIdle : MkB K mg "Idle"
  cHeld : MkB K mg "Held"
  cNoCells : MkB K mg "NoCells"
  cNoCell : MkB K mg "NoCell"
  cBadRun : MkX P w K mg base "BadRun" ["part", "at"]
  cSpent : MkB K mg "Spent"
  cUnheard : MkX P w K mg base "Unheard" ["missing"]
  cNoReading : MkX P w K mg base "NoReading" ["reading"]
  cNotPattern : MkB K mg "NotPattern"
  cNotSeen : MkX P w K mg base "NotSeen" ["one", "other"]
  cNotMoments : MkX P w K mg base "NotMoments" ["at"]
  cNotEvents : MkX P w K mg base "NotEvents" ["at"]
  cNoRight : MkX P w K mg base "NoRight" ["at"]
  cNotForced : MkX P w K mg base "NotForced" ["place", "x", "y"]
  cBadStep : MkX P w K mg base "BadStep" ["at"]
  cNoMark : MkX P w K mg base "NoMark" ["name"]
  cBadText : MkX P w K mg base "BadText" ["line", "word"]
  cNoLine : MkB K mg "NoLine"
section
variable {P : Program} {w : World} {K : PySem.W.Frag} {mg : Str → Option Value} {base : Heap}
theorem ok_made {f : Addr} {fd : FuncData} (F : FunD K "_law_made" "_law_made" (defArgs sMade) (defBody sMade) (defScope sMade) [] [] f fd) (T : Cls P w K mg base) :
    FnOk P w K mg base CX0 3 f fd ["_law_one", "_law_two", "_law_three"] (spMade K) := by
  obtain ⟨fdNoNumeral, GNoNumeral, bNoNumeral⟩ := T.cNoNumeral.fn
  obtain ⟨fdNoPlace, GNoPlace, bNoPlace⟩ := T.cNoPlace.fn
  obtain ⟨fdOverflow, GOverflow, bOverflow⟩ := T.cOverflow.fn
  obtain ⟨fdNoText, GNoText, bNoText⟩ := T.cNoText.fn
  obtain ⟨fdTooMany, GTooMany, bTooMany⟩ := T.cTooMany.fn
  obtain ⟨fdNoScheme, GNoScheme, bNoScheme⟩ := T.cNoScheme.fn
  obtain ⟨fdNoPlan, GNoPlan, bNoPlan⟩ := T.cNoPlan.fn
  obtain ⟨fdNoPromise, GNoPromise, bNoPromise⟩ := T.cNoPromise.fn
  obtain ⟨fdNoName, GNoName, bNoName⟩ := T.cNoName.fn
  obtain ⟨fdNoBases, GNoBases, bNoBases⟩ := T.cNoBases.fn
  obtain ⟨fdNoVersion, GNoVersion, bNoVersion⟩ := T.cNoVersion.fn
  obtain ⟨fdFallen, GFallen, bFallen⟩ := T.cFallen.fn
  obtain ⟨fdBadRun, GBadRun, bBadRun⟩ := T.cBadRun.fn
  obtain ⟨fdUnheard, GUnheard, bUnheard⟩ := T.cUnheard.fn
  obtain ⟨fdNoReading, GNoReading, bNoReading⟩ := T.cNoReading.fn
  obtain ⟨fdNotSeen, GNotSeen, bNotSeen⟩ := T.cNotSeen.fn
  obtain ⟨fdNotMoments, GNotMoments, bNotMoments⟩ := T.cNotMoments.fn
  obtain ⟨fdNotEvents, GNotEvents, bNotEvents⟩ := T.cNotEvents.fn
  obtain ⟨fdNoRight, GNoRight, bNoRight⟩ := T.cNoRight.fn
  obtain ⟨fdNotForced, GNotForced, bNotForced⟩ := T.cNotForced.fn
  obtain ⟨fdBadStep, GBadStep, bBadStep⟩ := T.cBadStep.fn
  obtain ⟨fdNoMark, GNoMark, bNoMark⟩ := T.cNoMark.fn
  obtain ⟨fdBadText, GBadText, bBadText⟩ := T.cBadText.fn
  refine F.ok sc_made (fun vs H Q E h => ?_) (fun cdv A outer s H vs Q E hr h => ?_)
  · obtain ⟨v1, v2, v3, rfl, _⟩ := h
    rfl
  · obtain ⟨v1, v2, v3, rfl, k⟩ := h
    have sc := sc_made
    refine ⟨_, PSs.nox (pss_cons (weakenS (ps_set (i := 3) sc.nd rfl (Or.inl rfl) (pe_lst (pv_cons (v_own (us := [v1]) T.cNoNumeral.T T.cNoNumeral.hno rfl (by simp) (pe_exI T.cNoNumeral.T T.cNoNumeral.iC T.cNoNumeral.tI GNoNumeral hr bNoNumeral (by rfl) T.cNoNumeral.gm (pa_cons (pv 0) pa_nil)) (fun σ H Q c q => ⟨_, c.1, q⟩))
          (pv_cons (v_own (us := [v1]) T.cNoPlace.T T.cNoPlace.hno rfl (by simp) (pe_exI T.cNoPlace.T T.cNoPlace.iC T.cNoPlace.tI GNoPlace hr bNoPlace (by rfl) T.cNoPlace.gm (pa_cons (pv 0) pa_nil)) (fun σ H Q c q => ⟨_, c.1, q⟩))
          (pv_cons (v_own (us := [v1]) T.cOverflow.T T.cOverflow.hno rfl (by simp) (pe_exI T.cOverflow.T T.cOverflow.iC T.cOverflow.tI GOverflow hr bOverflow (by rfl) T.cOverflow.gm (pa_cons (pv 0) pa_nil)) (fun σ H Q c q => ⟨_, c.1, q⟩))
          (pv_cons (v_bare (pe_ex0 PySem.F.excBase_ValueError T.cUnlike.q T.cUnlike.gm T.cUnlike.kp (by rfl) pe_str rfl (by decide) (fun _ _ _ _ f q => f _ _ q)) (fun σ H Q q => q _))
          pv_nil)))))) (firstX (v1 := v1) (v2 := v2) (v3 := v3)))
      (pss_cons (weakenS (ps_set (i := 3) sc.nd rfl (Or.inl rfl) (pe_op op_cat (pv 3) (pe_lst (pv_cons (v_bare (pe_ex0 PySem.F.excBase_ValueError T.cNoDivisor.q T.cNoDivisor.gm T.cNoDivisor.kp (by rfl) pe_str rfl (by decide) (fun _ _ _ _ f q => f _ _ q)) (fun σ H Q q => q _))
          (pv_cons (v_own (us := [v1]) T.cNoText.T T.cNoText.hno rfl (by simp) (pe_exI T.cNoText.T T.cNoText.iC T.cNoText.tI GNoText hr bNoText (by rfl) T.cNoText.gm (pa_cons (pv 0) pa_nil)) (fun σ H Q c q => ⟨_, c.1, q⟩))
          (pv_cons (v_bare (pe_ex0 PySem.F.excBase_ValueError T.cNoOrder.q T.cNoOrder.gm T.cNoOrder.kp (by rfl) pe_str rfl (by decide) (fun _ _ _ _ f q => f _ _ q)) (fun σ H Q q => q _))
          (pv_cons (v_own (us := [v1]) T.cTooMany.T T.cTooMany.hno rfl (by simp) (pe_exI T.cTooMany.T T.cTooMany.iC T.cTooMany.tI GTooMany hr bTooMany (by rfl) T.cTooMany.gm (pa_cons (pv 0) pa_nil)) (fun σ H Q c q => ⟨_, c.1, q⟩))
          pv_nil))))))) (growX (v1 := v1) (v2 := v2) (v3 := v3)))
      (pss_cons (weakenS (ps_set (i := 3) sc.nd rfl (Or.inl rfl) (pe_op op_cat (pv 3) (pe_lst (pv_cons (v_own (us := [v1, v2]) T.cNoScheme.T T.cNoScheme.hno rfl (by simp) (pe_exI T.cNoScheme.T T.cNoScheme.iC T.cNoScheme.tI GNoScheme hr bNoScheme (by rfl) T.cNoScheme.gm (pa_cons (pv 0) (pa_cons (pv 1) pa_nil))) (fun σ H Q c q => ⟨_, c.1, _, c.2.1, q⟩))
          (pv_cons (v_own (us := [v1, v2]) T.cNoPlan.T T.cNoPlan.hno rfl (by simp) (pe_exI T.cNoPlan.T T.cNoPlan.iC T.cNoPlan.tI GNoPlan hr bNoPlan (by rfl) T.cNoPlan.gm (pa_cons (pv 0) (pa_cons (pv 1) pa_nil))) (fun σ H Q c q => ⟨_, c.1, _, c.2.1, q⟩))
          (pv_cons (v_own (us := [v1]) T.cNoPromise.T T.cNoPromise.hno rfl (by simp) (pe_exI T.cNoPromise.T T.cNoPromise.iC T.cNoPromise.tI GNoPromise hr bNoPromise (by rfl) T.cNoPromise.gm (pa_cons (pv 0) pa_nil)) (fun σ H Q c q => ⟨_, c.1, q⟩))
          (pv_cons (v_own (us := [v1]) T.cNoName.T T.cNoName.hno rfl (by simp) (pe_exI T.cNoName.T T.cNoName.iC T.cNoName.tI GNoName hr bNoName (by rfl) T.cNoName.gm (pa_cons (pv 0) pa_nil)) (fun σ H Q c q => ⟨_, c.1, q⟩))
          pv_nil))))))) (growX (v1 := v1) (v2 := v2) (v3 := v3)))
      (pss_cons (weakenS (ps_set (i := 3) sc.nd rfl (Or.inl rfl) (pe_op op_cat (pv 3) (pe_lst (pv_cons (v_bare (pe_ex0 PySem.F.excBase_ValueError T.cNoLook.q T.cNoLook.gm T.cNoLook.kp (by rfl) pe_str rfl (by decide) (fun _ _ _ _ f q => f _ _ q)) (fun σ H Q q => q _))
          (pv_cons (v_own (us := [v1]) T.cNoBases.T T.cNoBases.hno rfl (by simp) (pe_exI T.cNoBases.T T.cNoBases.iC T.cNoBases.tI GNoBases hr bNoBases (by rfl) T.cNoBases.gm (pa_cons (pv 0) pa_nil)) (fun σ H Q c q => ⟨_, c.1, q⟩))
          (pv_cons (v_own (us := [v1]) T.cNoVersion.T T.cNoVersion.hno rfl (by simp) (pe_exI T.cNoVersion.T T.cNoVersion.iC T.cNoVersion.tI GNoVersion hr bNoVersion (by rfl) T.cNoVersion.gm (pa_cons (pv 0) pa_nil)) (fun σ H Q c q => ⟨_, c.1, q⟩))
          (pv_cons (v_own (us := [v1, v2]) T.cFallen.T T.cFallen.hno rfl (by simp) (pe_exI T.cFallen.T T.cFallen.iC T.cFallen.tI GFallen hr bFallen (by rfl) T.cFallen.gm (pa_cons (pv 0) (pa_cons (pv 1) pa_nil))) (fun σ H Q c q => ⟨_, c.1, _, c.2.1, q⟩))
          pv_nil))))))) (growX (v1 := v1) (v2 := v2) (v3 := v3)))
      (pss_cons (weakenS (ps_set (i := 3) sc.nd rfl (Or.inl rfl) (pe_op op_cat (pv 3) (pe_lst (pv_cons (v_bare (pe_ex0 PySem.F.excBase_ValueError T.cBusy.q T.cBusy.gm T.cBusy.kp (by rfl) pe_str rfl (by decide) (fun _ _ _ _ f q => f _ _ q)) (fun σ H Q q => q _))
          (pv_cons (v_bare (pe_ex0 PySem.F.excBase_ValueError T.cIdle.q T.cIdle.gm T.cIdle.kp (by rfl) pe_str rfl (by decide) (fun _ _ _ _ f q => f _ _ q)) (fun σ H Q q => q _))
          (pv_cons (v_bare (pe_ex0 PySem.F.excBase_ValueError T.cHeld.q T.cHeld.gm T.cHeld.kp (by rfl) pe_str rfl (by decide) (fun _ _ _ _ f q => f _ _ q)) (fun σ H Q q => q _))
          (pv_cons (v_bare (pe_ex0 PySem.F.excBase_ValueError T.cNoCells.q T.cNoCells.gm T.cNoCells.kp (by rfl) pe_str rfl (by decide) (fun _ _ _ _ f q => f _ _ q)) (fun σ H Q q => q _))
          pv_nil))))))) (growX (v1 := v1) (v2 := v2) (v3 := v3)))
      (pss_cons (weakenS (ps_set (i := 3) sc.nd rfl (Or.inl rfl) (pe_op op_cat (pv 3) (pe_lst (pv_cons (v_bare (pe_ex0 PySem.F.excBase_ValueError T.cNoCell.q T.cNoCell.gm T.cNoCell.kp (by rfl) pe_str rfl (by decide) (fun _ _ _ _ f q => f _ _ q)) (fun σ H Q q => q _))
          (pv_cons (v_own (us := [v1, v2]) T.cBadRun.T T.cBadRun.hno rfl (by simp) (pe_exI T.cBadRun.T T.cBadRun.iC T.cBadRun.tI GBadRun hr bBadRun (by rfl) T.cBadRun.gm (pa_cons (pv 0) (pa_cons (pv 1) pa_nil))) (fun σ H Q c q => ⟨_, c.1, _, c.2.1, q⟩))
          (pv_cons (v_bare (pe_ex0 PySem.F.excBase_ValueError T.cSpent.q T.cSpent.gm T.cSpent.kp (by rfl) pe_str rfl (by decide) (fun _ _ _ _ f q => f _ _ q)) (fun σ H Q q => q _))
          (pv_cons (v_own (us := [v1]) T.cUnheard.T T.cUnheard.hno rfl (by simp) (pe_exI T.cUnheard.T T.cUnheard.iC T.cUnheard.tI GUnheard hr bUnheard (by rfl) T.cUnheard.gm (pa_cons (pv 0) pa_nil)) (fun σ H Q c q => ⟨_, c.1, q⟩))
          pv_nil))))))) (growX (v1 := v1) (v2 := v2) (v3 := v3)))
      (pss_cons (weakenS (ps_set (i := 3) sc.nd rfl (Or.inl rfl) (pe_op op_cat (pv 3) (pe_lst (pv_cons (v_own (us := [v1]) T.cNoReading.T T.cNoReading.hno rfl (by simp) (pe_exI T.cNoReading.T T.cNoReading.iC T.cNoReading.tI GNoReading hr bNoReading (by rfl) T.cNoReading.gm (pa_cons (pv 0) pa_nil)) (fun σ H Q c q => ⟨_, c.1, q⟩))
          (pv_cons (v_bare (pe_ex0 PySem.F.excBase_ValueError T.cNotPattern.q T.cNotPattern.gm T.cNotPattern.kp (by rfl) pe_str rfl (by decide) (fun _ _ _ _ f q => f _ _ q)) (fun σ H Q q => q _))
          (pv_cons (v_own (us := [v1, v2]) T.cNotSeen.T T.cNotSeen.hno rfl (by simp) (pe_exI T.cNotSeen.T T.cNotSeen.iC T.cNotSeen.tI GNotSeen hr bNotSeen (by rfl) T.cNotSeen.gm (pa_cons (pv 0) (pa_cons (pv 1) pa_nil))) (fun σ H Q c q => ⟨_, c.1, _, c.2.1, q⟩))
          (pv_cons (v_own (us := [v1]) T.cNotMoments.T T.cNotMoments.hno rfl (by simp) (pe_exI T.cNotMoments.T T.cNotMoments.iC T.cNotMoments.tI GNotMoments hr bNotMoments (by rfl) T.cNotMoments.gm (pa_cons (pv 0) pa_nil)) (fun σ H Q c q => ⟨_, c.1, q⟩))
          pv_nil))))))) (growX (v1 := v1) (v2 := v2) (v3 := v3)))
      (pss_cons (weakenS (ps_set (i := 3) sc.nd rfl (Or.inl rfl) (pe_op op_cat (pv 3) (pe_lst (pv_cons (v_own (us := [v1]) T.cNotEvents.T T.cNotEvents.hno rfl (by simp) (pe_exI T.cNotEvents.T T.cNotEvents.iC T.cNotEvents.tI GNotEvents hr bNotEvents (by rfl) T.cNotEvents.gm (pa_cons (pv 0) pa_nil)) (fun σ H Q c q => ⟨_, c.1, q⟩))
          (pv_cons (v_own (us := [v1]) T.cNoRight.T T.cNoRight.hno rfl (by simp) (pe_exI T.cNoRight.T T.cNoRight.iC T.cNoRight.tI GNoRight hr bNoRight (by rfl) T.cNoRight.gm (pa_cons (pv 0) pa_nil)) (fun σ H Q c q => ⟨_, c.1, q⟩))
          (pv_cons (v_own (us := [v1, v2, v3]) T.cNotForced.T T.cNotForced.hno rfl (by simp) (pe_exI T.cNotForced.T T.cNotForced.iC T.cNotForced.tI GNotForced hr bNotForced (by rfl) T.cNotForced.gm (pa_cons (pv 0) (pa_cons (pv 1) (pa_cons (pv 2) pa_nil)))) (fun σ H Q c q => ⟨_, c.1, _, c.2.1, _, c.2.2, q⟩))
          (pv_cons (v_own (us := [v1]) T.cBadStep.T T.cBadStep.hno rfl (by simp) (pe_exI T.cBadStep.T T.cBadStep.iC T.cBadStep.tI GBadStep hr bBadStep (by rfl) T.cBadStep.gm (pa_cons (pv 0) pa_nil)) (fun σ H Q c q => ⟨_, c.1, q⟩))
          pv_nil))))))) (growX (v1 := v1) (v2 := v2) (v3 := v3)))
      (pss_cons (weakenS (ps_set (i := 3) sc.nd rfl (Or.inl rfl) (pe_op op_cat (pv 3) (pe_lst (pv_cons (v_own (us := [v1]) T.cNoMark.T T.cNoMark.hno rfl (by simp) (pe_exI T.cNoMark.T T.cNoMark.iC T.cNoMark.tI GNoMark hr bNoMark (by rfl) T.cNoMark.gm (pa_cons (pv 0) pa_nil)) (fun σ H Q c q => ⟨_, c.1, q⟩))
          (pv_cons (v_own (us := [v1, v2]) T.cBadText.T T.cBadText.hno rfl (by simp) (pe_exI T.cBadText.T T.cBadText.iC T.cBadText.tI GBadText hr bBadText (by rfl) T.cBadText.gm (pa_cons (pv 0) (pa_cons (pv 1) pa_nil))) (fun σ H Q c q => ⟨_, c.1, _, c.2.1, q⟩))
          (pv_cons (v_bare (pe_ex0 PySem.F.excBase_ValueError T.cNoLine.q T.cNoLine.gm T.cNoLine.kp (by rfl) pe_str rfl (by decide) (fun _ _ _ _ f q => f _ _ q)) (fun σ H Q q => q _))
          pv_nil)))))) (growX (v1 := v1) (v2 := v2) (v3 := v3)))
      (pss_one (ps_ret (pv 3)))))))))))), ?_⟩
    refine ⟨⟨rfl, rfl, rfl⟩, Nat.le_of_ble_eq_true rfl, fun p1 H1 e1 s1 a1 h1 => ?_⟩
    refine ⟨⟨rfl, rfl, rfl⟩, p1, e1, _, rfl, h1, a1, Nat.le_of_ble_eq_true rfl, Nat.le_of_ble_eq_true rfl, fun p2 H2 e2 s2 a2 h2 => ?_⟩
    refine ⟨⟨rfl, rfl, rfl⟩, p2, e2, _, rfl, h2, a2, Nat.le_of_ble_eq_true rfl, Nat.le_of_ble_eq_true rfl, fun p3 H3 e3 s3 a3 h3 => ?_⟩
    refine ⟨⟨rfl, rfl, rfl⟩, p3, e3, _, rfl, h3, a3, Nat.le_of_ble_eq_true rfl, Nat.le_of_ble_eq_true rfl, fun p4 H4 e4 s4 a4 h4 => ?_⟩
    refine ⟨⟨rfl, rfl, rfl⟩, p4, e4, _, rfl, h4, a4, Nat.le_of_ble_eq_true rfl, Nat.le_of_ble_eq_true rfl, fun p5 H5 e5 s5 a5 h5 => ?_⟩
    refine ⟨⟨rfl, rfl, rfl⟩, p5, e5, _, rfl, h5, a5, Nat.le_of_ble_eq_true rfl, Nat.le_of_ble_eq_true rfl, fun p6 H6 e6 s6 a6 h6 => ?_⟩
    refine ⟨⟨rfl, rfl, rfl⟩, p6, e6, _, rfl, h6, a6, Nat.le_of_ble_eq_true rfl, Nat.le_of_ble_eq_true rfl, fun p7 H7 e7 s7 a7 h7 => ?_⟩
    refine ⟨⟨rfl, rfl, rfl⟩, p7, e7, _, rfl, h7, a7, Nat.le_of_ble_eq_true rfl, Nat.le_of_ble_eq_true rfl, fun p8 H8 e8 s8 a8 h8 => ?_⟩
    refine ⟨⟨rfl, rfl, rfl⟩, p8, e8, _, rfl, h8, a8, Nat.le_of_ble_eq_true rfl, Nat.le_of_ble_eq_true rfl, fun p9 H9 e9 s9 a9 h9 => ?_⟩
    refine ⟨_, rfl, k p9 H9 e9 ?_ h9 a9⟩
    exact s1.trans (s2.trans (s3.trans (s4.trans (s5.trans (s6.trans (s7.trans (s8.trans s9)))))))
end
end K97

set_option Elab.async false
set_option linter.all false
set_option maxRecDepth 100000
set_option maxHeartbeats 4000000
namespace K97
open PySem PySem.Spec PyProof.Rows L2 Ru
/-! ### the row of the kinds -/
def Jk (e D : Addr) : L2.St → Hp → Prop := fun σ H => σ[0]? = some (some (.ref e)) ∧ ∃ fs, ExAt H e D fs
theorem Jk.same {e D : Addr} {σ : L2.St} {H H' : Hp} (s : Same H H') (h : Jk e D σ H) : Jk e D σ H' := ⟨h.1, h.2.elim fun fs x => ⟨fs, x.same s⟩⟩
theorem isxW {K : PySem.W.Frag} {e D C : Addr} {b : Bool} (T : ExK K D) (k : PySem.W.kitOne K (.ref D) (.ref C) = some b) : ∀ σ H Q, tEv (Jk e D) (.bl b) σ H Q → tCB (rIsX K) (tCons (tVar 0) (tCons (tC (.ref C)) tNil)) σ H Q :=
  fun σ H Q ⟨⟨h0, fs, hx⟩, q⟩ => ⟨_, h0, e, D, fs, .ref C, .ref C, b, rfl, hx, T, fun u r => r, k, q⟩
def bitV (K : PySem.W.Frag) (D : Addr) (m : List Value) (n : Str) : V := .bl ((Value.ref D :: m).contains (.ref (He.ga K n)))
def spKinds (K : PySem.W.Frag) : Sp := fun vs H Q _ => ∃ (e D : Addr) (m : List Value) (fs : List (Str × V)), vs = [.ref e] ∧ ExAt H e D fs ∧ ExK K D ∧ (PySem.W.clsIn K D).map (·.mro) = some (.ref D :: m) ∧
  ∀ p H', Same H H' → H' p = some (.lst (names.map (bitV K D m))) → Q (.ref p) H'
theorem sc_kinds : FnScope ["_law_thing", "_law_found"] ["_law_thing"] (defScope sKinds) := ⟨rfl, rfl, rfl, by decide +kernel, rfl, by decide +kernel, by decide +kernel⟩
/-- the classes as isinstance looks at them -/
structure Cl2 (K : PySem.W.Frag) : Prop where
  x : ∀ (i : Nat) (n : Str), names[i]? = some n → ExK K (He.ga K n)
  m : ∀ (i : Nat) (n : Str), names[i]? = some n → (PySem.W.clsIn K (He.ga K n)).map (·.mro) = some (.ref (He.ga K n) :: .ref (He.ga K "RisingError") :: He.veBase)
  t : ∀ (i : Nat) (n : Str), names[i]? = some n → PySem.W.typeIn K (.ref (He.ga K n)) = some (.type "type")
section
variable {P : Program} {w : World} {K : PySem.W.Frag} {mg : Str → Option Value} {base : Heap}
theorem ok_kinds {f : Addr} {fd : FuncData} (F : FunD K "_law_kinds" "_law_kinds" (defArgs sKinds) (defBody sKinds) (defScope sKinds) [] [] f fd) (T : Cls P w K mg base) (T2 : Cl2 K) (g_isi : mg "isinstance" = none) :
    FnOk P w K mg base CX0 1 f fd ["_law_thing"] (spKinds K) := by
  refine F.ok sc_kinds (fun vs H Q E h => ?_) (fun cdv A outer s H vs Q E hr h => ?_)
  · obtain ⟨e, D, m, fs, rfl, _⟩ := h
    rfl
  · obtain ⟨e, D, m, fs, rfl, hx, ek, hm, k⟩ := h
    have sc := sc_kinds
    have kk : ∀ (i : Nat) (n : Str), names[i]? = some n → PySem.W.kitOne K (.ref D) (.ref (He.ga K n)) = some ((Value.ref D :: m).contains (.ref (He.ga K n))) := fun i n h => kit_at hm (T2.m i n h) (T2.t i n h)
    refine ⟨_, PSs.nox (pss_cons (weakenS (ps_set (i := 1) sc.nd rfl (Or.inl rfl) (pe_lst (ev_cons (weaken (pe_callB call_isX (by rfl) g_isi boot_isinstance (pa_cons (pv 0) (pa_cons (pe_glob (v := V.ref (He.ga K "NoNumeral")) rfl T.cNoNumeral.gm rfl) pa_nil))) (isxW ek (kk 0 _ rfl)))
          (ev_cons (weaken (pe_callB call_isX (by rfl) g_isi boot_isinstance (pa_cons (pv 0) (pa_cons (pe_glob (v := V.ref (He.ga K "NoPlace")) rfl T.cNoPlace.gm rfl) pa_nil))) (isxW ek (kk 1 _ rfl)))
          ev_nil)))) (firstE (J := Jk e D)))
      (pss_cons (weakenS (ps_set (i := 1) sc.nd rfl (Or.inl rfl) (pe_op op_cat (pv 1) (pe_lst (ev_cons (weaken (pe_callB call_isX (by rfl) g_isi boot_isinstance (pa_cons (pv 0) (pa_cons (pe_glob (v := V.ref (He.ga K "Overflow")) rfl T.cOverflow.gm rfl) pa_nil))) (isxW ek (kk 2 _ rfl)))
          (ev_cons (weaken (pe_callB call_isX (by rfl) g_isi boot_isinstance (pa_cons (pv 0) (pa_cons (pe_glob (v := V.ref (He.ga K "Unlike")) rfl T.cUnlike.gm rfl) pa_nil))) (isxW ek (kk 3 _ rfl)))
          ev_nil))))) (growE (J := Jk e D)))
      (pss_cons (weakenS (ps_set (i := 1) sc.nd rfl (Or.inl rfl) (pe_op op_cat (pv 1) (pe_lst (ev_cons (weaken (pe_callB call_isX (by rfl) g_isi boot_isinstance (pa_cons (pv 0) (pa_cons (pe_glob (v := V.ref (He.ga K "NoDivisor")) rfl T.cNoDivisor.gm rfl) pa_nil))) (isxW ek (kk 4 _ rfl)))
          (ev_cons (weaken (pe_callB call_isX (by rfl) g_isi boot_isinstance (pa_cons (pv 0) (pa_cons (pe_glob (v := V.ref (He.ga K "NoText")) rfl T.cNoText.gm rfl) pa_nil))) (isxW ek (kk 5 _ rfl)))
          ev_nil))))) (growE (J := Jk e D)))
      (pss_cons (weakenS (ps_set (i := 1) sc.nd rfl (Or.inl rfl) (pe_op op_cat (pv 1) (pe_lst (ev_cons (weaken (pe_callB call_isX (by rfl) g_isi boot_isinstance (pa_cons (pv 0) (pa_cons (pe_glob (v := V.ref (He.ga K "NoOrder")) rfl T.cNoOrder.gm rfl) pa_nil))) (isxW ek (kk 6 _ rfl)))
          (ev_cons (weaken (pe_callB call_isX (by rfl) g_isi boot_isinstance (pa_cons (pv 0) (pa_cons (pe_glob (v := V.ref (He.ga K "TooMany")) rfl T.cTooMany.gm rfl) pa_nil))) (isxW ek (kk 7 _ rfl)))
          ev_nil))))) (growE (J := Jk e D)))
      (pss_cons (weakenS (ps_set (i := 1) sc.nd rfl (Or.inl rfl) (pe_op op_cat (pv 1) (pe_lst (ev_cons (weaken (pe_callB call_isX (by rfl) g_isi boot_isinstance (pa_cons (pv 0) (pa_cons (pe_glob (v := V.ref (He.ga K "NoScheme")) rfl T.cNoScheme.gm rfl) pa_nil))) (isxW ek (kk 8 _ rfl)))
          (ev_cons (weaken (pe_callB call_isX (by rfl) g_isi boot_isinstance (pa_cons (pv 0) (pa_cons (pe_glob (v := V.ref (He.ga K "NoPlan")) rfl T.cNoPlan.gm rfl) pa_nil))) (isxW ek (kk 9 _ rfl)))
          ev_nil))))) (growE (J := Jk e D)))
      (pss_cons (weakenS (ps_set (i := 1) sc.nd rfl (Or.inl rfl) (pe_op op_cat (pv 1) (pe_lst (ev_cons (weaken (pe_callB call_isX (by rfl) g_isi boot_isinstance (pa_cons (pv 0) (pa_cons (pe_glob (v := V.ref (He.ga K "NoPromise")) rfl T.cNoPromise.gm rfl) pa_nil))) (isxW ek (kk 10 _ rfl)))
          (ev_cons (weaken (pe_callB call_isX (by rfl) g_isi boot_isinstance (pa_cons (pv 0) (pa_cons (pe_glob (v := V.ref (He.ga K "NoName")) rfl T.cNoName.gm rfl) pa_nil))) (isxW ek (kk 11 _ rfl)))
          ev_nil))))) (growE (J := Jk e D)))
      (pss_cons (weakenS (ps_set (i := 1) sc.nd rfl (Or.inl rfl) (pe_op op_cat (pv 1) (pe_lst (ev_cons (weaken (pe_callB call_isX (by rfl) g_isi boot_isinstance (pa_cons (pv 0) (pa_cons (pe_glob (v := V.ref (He.ga K "NoLook")) rfl T.cNoLook.gm rfl) pa_nil))) (isxW ek (kk 12 _ rfl)))
          (ev_cons (weaken (pe_callB call_isX (by rfl) g_isi boot_isinstance (pa_cons (pv 0) (pa_cons (pe_glob (v := V.ref (He.ga K "NoBases")) rfl T.cNoBases.gm rfl) pa_nil))) (isxW ek (kk 13 _ rfl)))
          ev_nil))))) (growE (J := Jk e D)))
      (pss_cons (weakenS (ps_set (i := 1) sc.nd rfl (Or.inl rfl) (pe_op op_cat (pv 1) (pe_lst (ev_cons (weaken (pe_callB call_isX (by rfl) g_isi boot_isinstance (pa_cons (pv 0) (pa_cons (pe_glob (v := V.ref (He.ga K "NoVersion")) rfl T.cNoVersion.gm rfl) pa_nil))) (isxW ek (kk 14 _ rfl)))
          (ev_cons (weaken (pe_callB call_isX (by rfl) g_isi boot_isinstance (pa_cons (pv 0) (pa_cons (pe_glob (v := V.ref (He.ga K "Fallen")) rfl T.cFallen.gm rfl) pa_nil))) (isxW ek (kk 15 _ rfl)))
          ev_nil))))) (growE (J := Jk e D)))
      (pss_cons (weakenS (ps_set (i := 1) sc.nd rfl (Or.inl rfl) (pe_op op_cat (pv 1) (pe_lst (ev_cons (weaken (pe_callB call_isX (by rfl) g_isi boot_isinstance (pa_cons (pv 0) (pa_cons (pe_glob (v := V.ref (He.ga K "Busy")) rfl T.cBusy.gm rfl) pa_nil))) (isxW ek (kk 16 _ rfl)))
          (ev_cons (weaken (pe_callB call_isX (by rfl) g_isi boot_isinstance (pa_cons (pv 0) (pa_cons (pe_glob (v := V.ref (He.ga K "Idle")) rfl T.cIdle.gm rfl) pa_nil))) (isxW ek (kk 17 _ rfl)))
          ev_nil))))) (growE (J := Jk e D)))
      (pss_cons (weakenS (ps_set (i := 1) sc.nd rfl (Or.inl rfl) (pe_op op_cat (pv 1) (pe_lst (ev_cons (weaken (pe_callB call_isX (by rfl) g_isi boot_isinstance (pa_cons (pv 0) (pa_cons (pe_glob (v := V.ref (He.ga K "Held")) rfl T.cHeld.gm rfl) pa_nil))) (isxW ek (kk 18 _ rfl)))
          (ev_cons (weaken (pe_callB call_isX (by rfl) g_isi boot_isinstance (pa_cons (pv 0) (pa_cons (pe_glob (v := V.ref (He.ga K "NoCells")) rfl T.cNoCells.gm rfl) pa_nil))) (isxW ek (kk 19 _ rfl)))
          ev_nil))))) (growE (J := Jk e D)))
      (pss_cons (weakenS (ps_set (i := 1) sc.nd rfl (Or.inl rfl) (pe_op op_cat (pv 1) (pe_lst (ev_cons (weaken (pe_callB call_isX (by rfl) g_isi boot_isinstance (pa_cons (pv 0) (pa_cons (pe_glob (v := V.ref (He.ga K "NoCell")) rfl T.cNoCell.gm rfl) pa_nil))) (isxW ek (kk 20 _ rfl)))
          (ev_cons (weaken (pe_callB call_isX (by rfl) g_isi boot_isinstance (pa_cons (pv 0) (pa_cons (pe_glob (v := V.ref (He.ga K "BadRun")) rfl T.cBadRun.gm rfl) pa_nil))) (isxW ek (kk 21 _ rfl)))
          ev_nil))))) (growE (J := Jk e D)))
      (pss_cons (weakenS (ps_set (i := 1) sc.nd rfl (Or.inl rfl) (pe_op op_cat (pv 1) (pe_lst (ev_cons (weaken (pe_callB call_isX (by rfl) g_isi boot_isinstance (pa_cons (pv 0) (pa_cons (pe_glob (v := V.ref (He.ga K "Spent")) rfl T.cSpent.gm rfl) pa_nil))) (isxW ek (kk 22 _ rfl)))
          (ev_cons (weaken (pe_callB call_isX (by rfl) g_isi boot_isinstance (pa_cons (pv 0) (pa_cons (pe_glob (v := V.ref (He.ga K "Unheard")) rfl T.cUnheard.gm rfl) pa_nil))) (isxW ek (kk 23 _ rfl)))
          ev_nil))))) (growE (J := Jk e D)))
      (pss_cons (weakenS (ps_set (i := 1) sc.nd rfl (Or.inl rfl) (pe_op op_cat (pv 1) (pe_lst (ev_cons (weaken (pe_callB call_isX (by rfl) g_isi boot_isinstance (pa_cons (pv 0) (pa_cons (pe_glob (v := V.ref (He.ga K "NoReading")) rfl T.cNoReading.gm rfl) pa_nil))) (isxW ek (kk 24 _ rfl)))
          (ev_cons (weaken (pe_callB call_isX (by rfl) g_isi boot_isinstance (pa_cons (pv 0) (pa_cons (pe_glob (v := V.ref (He.ga K "NotPattern")) rfl T.cNotPattern.gm rfl) pa_nil))) (isxW ek (kk 25 _ rfl)))
          ev_nil))))) (growE (J := Jk e D)))
      (pss_cons (weakenS (ps_set (i := 1) sc.nd rfl (Or.inl rfl) (pe_op op_cat (pv 1) (pe_lst (ev_cons (weaken (pe_callB call_isX (by rfl) g_isi boot_isinstance (pa_cons (pv 0) (pa_cons (pe_glob (v := V.ref (He.ga K "NotSeen")) rfl T.cNotSeen.gm rfl) pa_nil))) (isxW ek (kk 26 _ rfl)))
          (ev_cons (weaken (pe_callB call_isX (by rfl) g_isi boot_isinstance (pa_cons (pv 0) (pa_cons (pe_glob (v := V.ref (He.ga K "NotMoments")) rfl T.cNotMoments.gm rfl) pa_nil))) (isxW ek (kk 27 _ rfl)))
          ev_nil))))) (growE (J := Jk e D)))
      (pss_cons (weakenS (ps_set (i := 1) sc.nd rfl (Or.inl rfl) (pe_op op_cat (pv 1) (pe_lst (ev_cons (weaken (pe_callB call_isX (by rfl) g_isi boot_isinstance (pa_cons (pv 0) (pa_cons (pe_glob (v := V.ref (He.ga K "NotEvents")) rfl T.cNotEvents.gm rfl) pa_nil))) (isxW ek (kk 28 _ rfl)))
          (ev_cons (weaken (pe_callB call_isX (by rfl) g_isi boot_isinstance (pa_cons (pv 0) (pa_cons (pe_glob (v := V.ref (He.ga K "NoRight")) rfl T.cNoRight.gm rfl) pa_nil))) (isxW ek (kk 29 _ rfl)))
          ev_nil))))) (growE (J := Jk e D)))
      (pss_cons (weakenS (ps_set (i := 1) sc.nd rfl (Or.inl rfl) (pe_op op_cat (pv 1) (pe_lst (ev_cons (weaken (pe_callB call_isX (by rfl) g_isi boot_isinstance (pa_cons (pv 0) (pa_cons (pe_glob (v := V.ref (He.ga K "NotForced")) rfl T.cNotForced.gm rfl) pa_nil))) (isxW ek (kk 30 _ rfl)))
          (ev_cons (weaken (pe_callB call_isX (by rfl) g_isi boot_isinstance (pa_cons (pv 0) (pa_cons (pe_glob (v := V.ref (He.ga K "BadStep")) rfl T.cBadStep.gm rfl) pa_nil))) (isxW ek (kk 31 _ rfl)))
          ev_nil))))) (growE (J := Jk e D)))
      (pss_cons (weakenS (ps_set (i := 1) sc.nd rfl (Or.inl rfl) (pe_op op_cat (pv 1) (pe_lst (ev_cons (weaken (pe_callB call_isX (by rfl) g_isi boot_isinstance (pa_cons (pv 0) (pa_cons (pe_glob (v := V.ref (He.ga K "NoMark")) rfl T.cNoMark.gm rfl) pa_nil))) (isxW ek (kk 32 _ rfl)))
          (ev_cons (weaken (pe_callB call_isX (by rfl) g_isi boot_isinstance (pa_cons (pv 0) (pa_cons (pe_glob (v := V.ref (He.ga K "BadText")) rfl T.cBadText.gm rfl) pa_nil))) (isxW ek (kk 33 _ rfl)))
          ev_nil))))) (growE (J := Jk e D)))
      (pss_cons (weakenS (ps_set (i := 1) sc.nd rfl (Or.inl rfl) (pe_op op_cat (pv 1) (pe_lst (ev_cons (weaken (pe_callB call_isX (by rfl) g_isi boot_isinstance (pa_cons (pv 0) (pa_cons (pe_glob (v := V.ref (He.ga K "NoLine")) rfl T.cNoLine.gm rfl) pa_nil))) (isxW ek (kk 34 _ rfl)))
          ev_nil)))) (growE (J := Jk e D)))
      (pss_one (ps_ret (pv 1))))))))))))))))))))), ?_⟩
    have j0 : Jk e D [some (.ref e), none] H := ⟨rfl, fs, hx⟩
    refine ⟨j0, Nat.le_of_ble_eq_true rfl, fun p1 H1 x1 s1 q1 h1 σ1 i1 => ?_⟩
    have l1 : x1.length = 2 := by rw [q1]; rfl
    obtain rfl : σ1 = [some (.ref e), some (.ref p1)] := i1
    refine ⟨⟨rfl, (j0.same s1).2⟩, p1, x1, rfl, h1, by rw [l1]; exact Nat.le_of_ble_eq_true rfl, fun p2 H2 x2 t2 q2 h2 σ2 i2 => ?_⟩
    have l2 : x2.length = 4 := by rw [q2, List.length_append, l1]; rfl
    obtain rfl : σ2 = [some (.ref e), some (.ref p2)] := i2
    have s2 := s1.trans t2
    refine ⟨⟨rfl, (j0.same s2).2⟩, p2, x2, rfl, h2, by rw [l2]; exact Nat.le_of_ble_eq_true rfl, fun p3 H3 x3 t3 q3 h3 σ3 i3 => ?_⟩
    have l3 : x3.length = 6 := by rw [q3, List.length_append, l2]; rfl
    obtain rfl : σ3 = [some (.ref e), some (.ref p3)] := i3
    have s3 := s2.trans t3
    refine ⟨⟨rfl, (j0.same s3).2⟩, p3, x3, rfl, h3, by rw [l3]; exact Nat.le_of_ble_eq_true rfl, fun p4 H4 x4 t4 q4 h4 σ4 i4 => ?_⟩
    have l4 : x4.length = 8 := by rw [q4, List.length_append, l3]; rfl
    obtain rfl : σ4 = [some (.ref e), some (.ref p4)] := i4
    have s4 := s3.trans t4
    refine ⟨⟨rfl, (j0.same s4).2⟩, p4, x4, rfl, h4, by rw [l4]; exact Nat.le_of_ble_eq_true rfl, fun p5 H5 x5 t5 q5 h5 σ5 i5 => ?_⟩
    have l5 : x5.length = 10 := by rw [q5, List.length_append, l4]; rfl
    obtain rfl : σ5 = [some (.ref e), some (.ref p5)] := i5
    have s5 := s4.trans t5
    refine ⟨⟨rfl, (j0.same s5).2⟩, p5, x5, rfl, h5, by rw [l5]; exact Nat.le_of_ble_eq_true rfl, fun p6 H6 x6 t6 q6 h6 σ6 i6 => ?_⟩
    have l6 : x6.length = 12 := by rw [q6, List.length_append, l5]; rfl
    obtain rfl : σ6 = [some (.ref e), some (.ref p6)] := i6
    have s6 := s5.trans t6
    refine ⟨⟨rfl, (j0.same s6).2⟩, p6, x6, rfl, h6, by rw [l6]; exact Nat.le_of_ble_eq_true rfl, fun p7 H7 x7 t7 q7 h7 σ7 i7 => ?_⟩
    have l7 : x7.length = 14 := by rw [q7, List.length_append, l6]; rfl
    obtain rfl : σ7 = [some (.ref e), some (.ref p7)] := i7
    have s7 := s6.trans t7
    refine ⟨⟨rfl, (j0.same s7).2⟩, p7, x7, rfl, h7, by rw [l7]; exact Nat.le_of_ble_eq_true rfl, fun p8 H8 x8 t8 q8 h8 σ8 i8 => ?_⟩
    have l8 : x8.length = 16 := by rw [q8, List.length_append, l7]; rfl
    obtain rfl : σ8 = [some (.ref e), some (.ref p8)] := i8
    have s8 := s7.trans t8
    refine ⟨⟨rfl, (j0.same s8).2⟩, p8, x8, rfl, h8, by rw [l8]; exact Nat.le_of_ble_eq_true rfl, fun p9 H9 x9 t9 q9 h9 σ9 i9 => ?_⟩
    have l9 : x9.length = 18 := by rw [q9, List.length_append, l8]; rfl
    obtain rfl : σ9 = [some (.ref e), some (.ref p9)] := i9
    have s9 := s8.trans t9
    refine ⟨⟨rfl, (j0.same s9).2⟩, p9, x9, rfl, h9, by rw [l9]; exact Nat.le_of_ble_eq_true rfl, fun p10 H10 x10 t10 q10 h10 σ10 i10 => ?_⟩
    have l10 : x10.length = 20 := by rw [q10, List.length_append, l9]; rfl
    obtain rfl : σ10 = [some (.ref e), some (.ref p10)] := i10
    have s10 := s9.trans t10
    refine ⟨⟨rfl, (j0.same s10).2⟩, p10, x10, rfl, h10, by rw [l10]; exact Nat.le_of_ble_eq_true rfl, fun p11 H11 x11 t11 q11 h11 σ11 i11 => ?_⟩
    have l11 : x11.length = 22 := by rw [q11, List.length_append, l10]; rfl
    obtain rfl : σ11 = [some (.ref e), some (.ref p11)] := i11
    have s11 := s10.trans t11
    refine ⟨⟨rfl, (j0.same s11).2⟩, p11, x11, rfl, h11, by rw [l11]; exact Nat.le_of_ble_eq_true rfl, fun p12 H12 x12 t12 q12 h12 σ12 i12 => ?_⟩
    have l12 : x12.length = 24 := by rw [q12, List.length_append, l11]; rfl
    obtain rfl : σ12 = [some (.ref e), some (.ref p12)] := i12
    have s12 := s11.trans t12
    refine ⟨⟨rfl, (j0.same s12).2⟩, p12, x12, rfl, h12, by rw [l12]; exact Nat.le_of_ble_eq_true rfl, fun p13 H13 x13 t13 q13 h13 σ13 i13 => ?_⟩
    have l13 : x13.length = 26 := by rw [q13, List.length_append, l12]; rfl
    obtain rfl : σ13 = [some (.ref e), some (.ref p13)] := i13
    have s13 := s12.trans t13
    refine ⟨⟨rfl, (j0.same s13).2⟩, p13, x13, rfl, h13, by rw [l13]; exact Nat.le_of_ble_eq_true rfl, fun p14 H14 x14 t14 q14 h14 σ14 i14 => ?_⟩
    have l14 : x14.length = 28 := by rw [q14, List.length_append, l13]; rfl
    obtain rfl : σ14 = [some (.ref e), some (.ref p14)] := i14
    have s14 := s13.trans t14
    refine ⟨⟨rfl, (j0.same s14).2⟩, p14, x14, rfl, h14, by rw [l14]; exact Nat.le_of_ble_eq_true rfl, fun p15 H15 x15 t15 q15 h15 σ15 i15 => ?_⟩
    have l15 : x15.length = 30 := by rw [q15, List.length_append, l14]; rfl
    obtain rfl : σ15 = [some (.ref e), some (.ref p15)] := i15
    have s15 := s14.trans t15
    refine ⟨⟨rfl, (j0.same s15).2⟩, p15, x15, rfl, h15, by rw [l15]; exact Nat.le_of_ble_eq_true rfl, fun p16 H16 x16 t16 q16 h16 σ16 i16 => ?_⟩
    have l16 : x16.length = 32 := by rw [q16, List.length_append, l15]; rfl
    obtain rfl : σ16 = [some (.ref e), some (.ref p16)] := i16
    have s16 := s15.trans t16
    refine ⟨⟨rfl, (j0.same s16).2⟩, p16, x16, rfl, h16, by rw [l16]; exact Nat.le_of_ble_eq_true rfl, fun p17 H17 x17 t17 q17 h17 σ17 i17 => ?_⟩
    have l17 : x17.length = 34 := by rw [q17, List.length_append, l16]; rfl
    obtain rfl : σ17 = [some (.ref e), some (.ref p17)] := i17
    have s17 := s16.trans t17
    refine ⟨⟨rfl, (j0.same s17).2⟩, p17, x17, rfl, h17, by rw [l17]; exact Nat.le_of_ble_eq_true rfl, fun p18 H18 x18 t18 q18 h18 σ18 i18 => ?_⟩
    have l18 : x18.length = 35 := by rw [q18, List.length_append, l17]; rfl
    obtain rfl : σ18 = [some (.ref e), some (.ref p18)] := i18
    have s18 := s17.trans t18
    have q : x18 = names.map (bitV K D m) := by rw [q18, q17, q16, q15, q14, q13, q12, q11, q10, q9, q8, q7, q6, q5, q4, q3, q2, q1]; rfl
    exact ⟨_, rfl, k p18 H18 s18 (by rw [← q]; exact h18)⟩
end
end K97

set_option Elab.async false
set_option linter.all false
set_option maxRecDepth 100000
set_option maxHeartbeats 4000000
namespace K97
open PySem PySem.Spec PyProof.Rows L2 Ru
/-! ### the row of the fields -/
def Jf (K : PySem.W.Frag) (q : Addr) (v1 v2 v3 : V) : L2.St → Hp → Prop := fun σ H => σ[0]? = some (some (.ref q)) ∧ ∃ es, H q = some (.lst es) ∧ AllEx H es (tsAll K v1 v2 v3)
theorem Jf.same {K : PySem.W.Frag} {q : Addr} {v1 v2 v3 : V} {σ : L2.St} {H H' : Hp} (s : Same H H') (h : Jf K q v1 v2 v3 σ H) : Jf K q v1 v2 v3 σ H' := ⟨h.1, h.2.elim fun es x => ⟨es, s _ _ x.1, x.2.same s⟩⟩
theorem fldW {K : PySem.W.Frag} {q C : Addr} {v1 v2 v3 v : V} {fs : List (Str × V)} {i : Nat} {f : Str} (hi : (tsAll K v1 v2 v3)[i]? = some (C, fs)) (hl : fs.lookup f = some v) (T : ExK K C) (hno : PySem.W.findIn K (.ref C) f = some none) :
    ∀ σ H Q, tEv (Jf K q v1 v2 v3) v σ H Q → tExF K f (tOp (rIxL K) (tVar 0) (tC (.int (i : Int)))) σ H Q := by
  rintro σ H Q ⟨⟨h0, es, he, ha⟩, k⟩
  obtain ⟨e, h1, h2⟩ := ha.at hi
  exact ⟨_, h0, q, es, (i : Int), .ref e, rfl, rfl, SqL.of he, atI_nat h1, e, C, fs, v, rfl, h2, T, hno, hl, k⟩
theorem lk0 {f : Str} {v : V} {r : List (Str × V)} : ((f, v) :: r).lookup f = some v := by rw [lookup_put, if_pos rfl]
theorem lk1 {f g : Str} {v : V} {r : List (Str × V)} {u : Option V} (h : ¬ f = g) (e : r.lookup f = u) : ((g, v) :: r).lookup f = u := by rw [lookup_put, if_neg h]; exact e
def flds (v1 v2 v3 : V) : List V := [v1, v1, v1, v1, v1, v1, v2, v1, v2, v1, v1, v1, v1, v1, v2, v1, v2, v1, v1, v1, v2, v1, v1, v1, v1, v2, v3, v1, v1, v1, v2]
def spFields (K : PySem.W.Frag) : Sp := fun vs H Q _ => ∃ (q : Addr) (v1 v2 v3 : V) (es : List V), vs = [.ref q] ∧ H q = some (.lst es) ∧ AllEx H es (tsAll K v1 v2 v3) ∧ ∀ p H', Same H H' → H' p = some (.lst (flds v1 v2 v3)) → Q (.ref p) H'
theorem sc_fields : FnScope ["_law_made_so", "_law_found"] ["_law_made_so"] (defScope sFields) := ⟨rfl, rfl, rfl, by decide +kernel, rfl, by decide +kernel, by decide +kernel⟩
section
variable {P : Program} {w : World} {K : PySem.W.Frag} {mg : Str → Option Value} {base : Heap}
theorem ok_fields {f : Addr} {fd : FuncData} (F : FunD K "_law_fields" "_law_fields" (defArgs sFields) (defBody sFields) (defScope sFields) [] [] f fd) (T : Cls P w K mg base) (T2 : Cl2 K) :
    FnOk P w K mg base CX0 1 f fd ["_law_made_so"] (spFields K) := by
  refine F.ok sc_fields (fun vs H Q E h => ?_) (fun cdv A outer s H vs Q E hr h => ?_)
  · obtain ⟨q, v1, v2, v3, es, rfl, _⟩ := h
    rfl
  · obtain ⟨q, v1, v2, v3, es, rfl, hq, ha, k⟩ := h
    have sc := sc_fields
    refine ⟨_, PSs.nox (pss_cons (ps_set (i := 1) sc.nd rfl (Or.inl rfl) (pe_lst pa_nil))
      (pss_cons (weakenS (ps_set (i := 1) sc.nd rfl (Or.inl rfl) (pe_op op_cat (pv 1) (pe_lst (ev_cons (weaken (pe_exf (pe_ix ix_list (pv 0) pe_int (fun _ _ => rfl))) (fldW (i := 0) (v := v1) rfl lk0 (T2.x 0 _ rfl) (T.cNoNumeral.hno _ (by simp))))
          ev_nil)))) (growE (J := Jf K q v1 v2 v3)))
      (pss_cons (weakenS (ps_set (i := 1) sc.nd rfl (Or.inl rfl) (pe_op op_cat (pv 1) (pe_lst (ev_cons (weaken (pe_exf (pe_ix ix_list (pv 0) pe_int (fun _ _ => rfl))) (fldW (i := 1) (v := v1) rfl lk0 (T2.x 1 _ rfl) (T.cNoPlace.hno _ (by simp))))
          ev_nil)))) (growE (J := Jf K q v1 v2 v3)))
      (pss_cons (weakenS (ps_set (i := 1) sc.nd rfl (Or.inl rfl) (pe_op op_cat (pv 1) (pe_lst (ev_cons (weaken (pe_exf (pe_ix ix_list (pv 0) pe_int (fun _ _ => rfl))) (fldW (i := 2) (v := v1) rfl lk0 (T2.x 2 _ rfl) (T.cOverflow.hno _ (by simp))))
          ev_nil)))) (growE (J := Jf K q v1 v2 v3)))
      (pss_cons (weakenS (ps_set (i := 1) sc.nd rfl (Or.inl rfl) (pe_op op_cat (pv 1) (pe_lst (ev_cons (weaken (pe_exf (pe_ix ix_list (pv 0) pe_int (fun _ _ => rfl))) (fldW (i := 5) (v := v1) rfl lk0 (T2.x 5 _ rfl) (T.cNoText.hno _ (by simp))))
          ev_nil)))) (growE (J := Jf K q v1 v2 v3)))
      (pss_cons (weakenS (ps_set (i := 1) sc.nd rfl (Or.inl rfl) (pe_op op_cat (pv 1) (pe_lst (ev_cons (weaken (pe_exf (pe_ix ix_list (pv 0) pe_int (fun _ _ => rfl))) (fldW (i := 7) (v := v1) rfl lk0 (T2.x 7 _ rfl) (T.cTooMany.hno _ (by simp))))
          ev_nil)))) (growE (J := Jf K q v1 v2 v3)))
      (pss_cons (weakenS (ps_set (i := 1) sc.nd rfl (Or.inl rfl) (pe_op op_cat (pv 1) (pe_lst (ev_cons (weaken (pe_exf (pe_ix ix_list (pv 0) pe_int (fun _ _ => rfl))) (fldW (i := 8) (v := v1) rfl (lk1 (by decide +kernel) lk0) (T2.x 8 _ rfl) (T.cNoScheme.hno _ (by simp))))
          (ev_cons (weaken (pe_exf (pe_ix ix_list (pv 0) pe_int (fun _ _ => rfl))) (fldW (i := 8) (v := v2) rfl lk0 (T2.x 8 _ rfl) (T.cNoScheme.hno _ (by simp))))
          ev_nil))))) (growE (J := Jf K q v1 v2 v3)))
      (pss_cons (weakenS (ps_set (i := 1) sc.nd rfl (Or.inl rfl) (pe_op op_cat (pv 1) (pe_lst (ev_cons (weaken (pe_exf (pe_ix ix_list (pv 0) pe_int (fun _ _ => rfl))) (fldW (i := 9) (v := v1) rfl (lk1 (by decide +kernel) lk0) (T2.x 9 _ rfl) (T.cNoPlan.hno _ (by simp))))
          (ev_cons (weaken (pe_exf (pe_ix ix_list (pv 0) pe_int (fun _ _ => rfl))) (fldW (i := 9) (v := v2) rfl lk0 (T2.x 9 _ rfl) (T.cNoPlan.hno _ (by simp))))
          ev_nil))))) (growE (J := Jf K q v1 v2 v3)))
      (pss_cons (weakenS (ps_set (i := 1) sc.nd rfl (Or.inl rfl) (pe_op op_cat (pv 1) (pe_lst (ev_cons (weaken (pe_exf (pe_ix ix_list (pv 0) pe_int (fun _ _ => rfl))) (fldW (i := 10) (v := v1) rfl lk0 (T2.x 10 _ rfl) (T.cNoPromise.hno _ (by simp))))
          ev_nil)))) (growE (J := Jf K q v1 v2 v3)))
      (pss_cons (weakenS (ps_set (i := 1) sc.nd rfl (Or.inl rfl) (pe_op op_cat (pv 1) (pe_lst (ev_cons (weaken (pe_exf (pe_ix ix_list (pv 0) pe_int (fun _ _ => rfl))) (fldW (i := 11) (v := v1) rfl lk0 (T2.x 11 _ rfl) (T.cNoName.hno _ (by simp))))
          ev_nil)))) (growE (J := Jf K q v1 v2 v3)))
      (pss_cons (weakenS (ps_set (i := 1) sc.nd rfl (Or.inl rfl) (pe_op op_cat (pv 1) (pe_lst (ev_cons (weaken (pe_exf (pe_ix ix_list (pv 0) pe_int (fun _ _ => rfl))) (fldW (i := 13) (v := v1) rfl lk0 (T2.x 13 _ rfl) (T.cNoBases.hno _ (by simp))))
          ev_nil)))) (growE (J := Jf K q v1 v2 v3)))
      (pss_cons (weakenS (ps_set (i := 1) sc.nd rfl (Or.inl rfl) (pe_op op_cat (pv 1) (pe_lst (ev_cons (weaken (pe_exf (pe_ix ix_list (pv 0) pe_int (fun _ _ => rfl))) (fldW (i := 14) (v := v1) rfl lk0 (T2.x 14 _ rfl) (T.cNoVersion.hno _ (by simp))))
          ev_nil)))) (growE (J := Jf K q v1 v2 v3)))
      (pss_cons (weakenS (ps_set (i := 1) sc.nd rfl (Or.inl rfl) (pe_op op_cat (pv 1) (pe_lst (ev_cons (weaken (pe_exf (pe_ix ix_list (pv 0) pe_int (fun _ _ => rfl))) (fldW (i := 15) (v := v1) rfl (lk1 (by decide +kernel) lk0) (T2.x 15 _ rfl) (T.cFallen.hno _ (by simp))))
          (ev_cons (weaken (pe_exf (pe_ix ix_list (pv 0) pe_int (fun _ _ => rfl))) (fldW (i := 15) (v := v2) rfl lk0 (T2.x 15 _ rfl) (T.cFallen.hno _ (by simp))))
          ev_nil))))) (growE (J := Jf K q v1 v2 v3)))
      (pss_cons (weakenS (ps_set (i := 1) sc.nd rfl (Or.inl rfl) (pe_op op_cat (pv 1) (pe_lst (ev_cons (weaken (pe_exf (pe_ix ix_list (pv 0) pe_int (fun _ _ => rfl))) (fldW (i := 21) (v := v1) rfl (lk1 (by decide +kernel) lk0) (T2.x 21 _ rfl) (T.cBadRun.hno _ (by simp))))
          (ev_cons (weaken (pe_exf (pe_ix ix_list (pv 0) pe_int (fun _ _ => rfl))) (fldW (i := 21) (v := v2) rfl lk0 (T2.x 21 _ rfl) (T.cBadRun.hno _ (by simp))))
          ev_nil))))) (growE (J := Jf K q v1 v2 v3)))
      (pss_cons (weakenS (ps_set (i := 1) sc.nd rfl (Or.inl rfl) (pe_op op_cat (pv 1) (pe_lst (ev_cons (weaken (pe_exf (pe_ix ix_list (pv 0) pe_int (fun _ _ => rfl))) (fldW (i := 23) (v := v1) rfl lk0 (T2.x 23 _ rfl) (T.cUnheard.hno _ (by simp))))
          ev_nil)))) (growE (J := Jf K q v1 v2 v3)))
      (pss_cons (weakenS (ps_set (i := 1) sc.nd rfl (Or.inl rfl) (pe_op op_cat (pv 1) (pe_lst (ev_cons (weaken (pe_exf (pe_ix ix_list (pv 0) pe_int (fun _ _ => rfl))) (fldW (i := 24) (v := v1) rfl lk0 (T2.x 24 _ rfl) (T.cNoReading.hno _ (by simp))))
          ev_nil)))) (growE (J := Jf K q v1 v2 v3)))
      (pss_cons (weakenS (ps_set (i := 1) sc.nd rfl (Or.inl rfl) (pe_op op_cat (pv 1) (pe_lst (ev_cons (weaken (pe_exf (pe_ix ix_list (pv 0) pe_int (fun _ _ => rfl))) (fldW (i := 26) (v := v1) rfl (lk1 (by decide +kernel) lk0) (T2.x 26 _ rfl) (T.cNotSeen.hno _ (by simp))))
          (ev_cons (weaken (pe_exf (pe_ix ix_list (pv 0) pe_int (fun _ _ => rfl))) (fldW (i := 26) (v := v2) rfl lk0 (T2.x 26 _ rfl) (T.cNotSeen.hno _ (by simp))))
          ev_nil))))) (growE (J := Jf K q v1 v2 v3)))
      (pss_cons (weakenS (ps_set (i := 1) sc.nd rfl (Or.inl rfl) (pe_op op_cat (pv 1) (pe_lst (ev_cons (weaken (pe_exf (pe_ix ix_list (pv 0) pe_int (fun _ _ => rfl))) (fldW (i := 27) (v := v1) rfl lk0 (T2.x 27 _ rfl) (T.cNotMoments.hno _ (by simp))))
          ev_nil)))) (growE (J := Jf K q v1 v2 v3)))
      (pss_cons (weakenS (ps_set (i := 1) sc.nd rfl (Or.inl rfl) (pe_op op_cat (pv 1) (pe_lst (ev_cons (weaken (pe_exf (pe_ix ix_list (pv 0) pe_int (fun _ _ => rfl))) (fldW (i := 28) (v := v1) rfl lk0 (T2.x 28 _ rfl) (T.cNotEvents.hno _ (by simp))))
          ev_nil)))) (growE (J := Jf K q v1 v2 v3)))
      (pss_cons (weakenS (ps_set (i := 1) sc.nd rfl (Or.inl rfl) (pe_op op_cat (pv 1) (pe_lst (ev_cons (weaken (pe_exf (pe_ix ix_list (pv 0) pe_int (fun _ _ => rfl))) (fldW (i := 29) (v := v1) rfl lk0 (T2.x 29 _ rfl) (T.cNoRight.hno _ (by simp))))
          ev_nil)))) (growE (J := Jf K q v1 v2 v3)))
      (pss_cons (weakenS (ps_set (i := 1) sc.nd rfl (Or.inl rfl) (pe_op op_cat (pv 1) (pe_lst (ev_cons (weaken (pe_exf (pe_ix ix_list (pv 0) pe_int (fun _ _ => rfl))) (fldW (i := 30) (v := v1) rfl (lk1 (by decide +kernel) (lk1 (by decide +kernel) lk0)) (T2.x 30 _ rfl) (T.cNotForced.hno _ (by simp))))
          (ev_cons (weaken (pe_exf (pe_ix ix_list (pv 0) pe_int (fun _ _ => rfl))) (fldW (i := 30) (v := v2) rfl (lk1 (by decide +kernel) lk0) (T2.x 30 _ rfl) (T.cNotForced.hno _ (by simp))))
          (ev_cons (weaken (pe_exf (pe_ix ix_list (pv 0) pe_int (fun _ _ => rfl))) (fldW (i := 30) (v := v3) rfl lk0 (T2.x 30 _ rfl) (T.cNotForced.hno _ (by simp))))
          ev_nil)))))) (growE (J := Jf K q v1 v2 v3)))
      (pss_cons (weakenS (ps_set (i := 1) sc.nd rfl (Or.inl rfl) (pe_op op_cat (pv 1) (pe_lst (ev_cons (weaken (pe_exf (pe_ix ix_list (pv 0) pe_int (fun _ _ => rfl))) (fldW (i := 31) (v := v1) rfl lk0 (T2.x 31 _ rfl) (T.cBadStep.hno _ (by simp))))
          ev_nil)))) (growE (J := Jf K q v1 v2 v3)))
      (pss_cons (weakenS (ps_set (i := 1) sc.nd rfl (Or.inl rfl) (pe_op op_cat (pv 1) (pe_lst (ev_cons (weaken (pe_exf (pe_ix ix_list (pv 0) pe_int (fun _ _ => rfl))) (fldW (i := 32) (v := v1) rfl lk0 (T2.x 32 _ rfl) (T.cNoMark.hno _ (by simp))))
          ev_nil)))) (growE (J := Jf K q v1 v2 v3)))
      (pss_cons (weakenS (ps_set (i := 1) sc.nd rfl (Or.inl rfl) (pe_op op_cat (pv 1) (pe_lst (ev_cons (weaken (pe_exf (pe_ix ix_list (pv 0) pe_int (fun _ _ => rfl))) (fldW (i := 33) (v := v1) rfl (lk1 (by decide +kernel) lk0) (T2.x 33 _ rfl) (T.cBadText.hno _ (by simp))))
          (ev_cons (weaken (pe_exf (pe_ix ix_list (pv 0) pe_int (fun _ _ => rfl))) (fldW (i := 33) (v := v2) rfl lk0 (T2.x 33 _ rfl) (T.cBadText.hno _ (by simp))))
          ev_nil))))) (growE (J := Jf K q v1 v2 v3)))
      (pss_one (ps_ret (pv 1))))))))))))))))))))))))))), ?_⟩
    refine ⟨Nat.zero_le _, fun p0 n0 => ?_⟩
    have s0 : Same H (upd H p0 (.lst [])) := upd_new n0
    obtain ⟨x0, q0⟩ : ∃ x : List V, x = [] := ⟨_, rfl⟩
    have l0 : x0.length = 0 := by rw [q0]; rfl
    have h0 : (upd H p0 (.lst [])) p0 = some (.lst x0) := by rw [q0]; exact upd_same
    refine ⟨⟨rfl, es, s0 _ _ hq, ha.same s0⟩, p0, x0, rfl, h0, by rw [l0]; exact Nat.le_of_ble_eq_true rfl, fun p1 H1 x1 t1 q1 h1 σ1 i1 => ?_⟩
    have l1 : x1.length = 1 := by rw [q1, List.length_append, l0]; rfl
    obtain rfl : σ1 = [some (.ref q), some (.ref p1)] := i1
    have s1 := s0.trans t1
    refine ⟨⟨rfl, es, s1 _ _ hq, ha.same s1⟩, p1, x1, rfl, h1, by rw [l1]; exact Nat.le_of_ble_eq_true rfl, fun p2 H2 x2 t2 q2 h2 σ2 i2 => ?_⟩
    have l2 : x2.length = 2 := by rw [q2, List.length_append, l1]; rfl
    obtain rfl : σ2 = [some (.ref q), some (.ref p2)] := i2
    have s2 := s1.trans t2
    refine ⟨⟨rfl, es, s2 _ _ hq, ha.same s2⟩, p2, x2, rfl, h2, by rw [l2]; exact Nat.le_of_ble_eq_true rfl, fun p3 H3 x3 t3 q3 h3 σ3 i3 => ?_⟩
    have l3 : x3.length = 3 := by rw [q3, List.length_append, l2]; rfl
    obtain rfl : σ3 = [some (.ref q), some (.ref p3)] := i3
    have s3 := s2.trans t3
    refine ⟨⟨rfl, es, s3 _ _ hq, ha.same s3⟩, p3, x3, rfl, h3, by rw [l3]; exact Nat.le_of_ble_eq_true rfl, fun p4 H4 x4 t4 q4 h4 σ4 i4 => ?_⟩
    have l4 : x4.length = 4 := by rw [q4, List.length_append, l3]; rfl
    obtain rfl : σ4 = [some (.ref q), some (.ref p4)] := i4
    have s4 := s3.trans t4
    refine ⟨⟨rfl, es, s4 _ _ hq, ha.same s4⟩, p4, x4, rfl, h4, by rw [l4]; exact Nat.le_of_ble_eq_true rfl, fun p5 H5 x5 t5 q5 h5 σ5 i5 => ?_⟩
    have l5 : x5.length = 5 := by rw [q5, List.length_append, l4]; rfl
    obtain rfl : σ5 = [some (.ref q), some (.ref p5)] := i5
    have s5 := s4.trans t5
    refine ⟨⟨rfl, es, s5 _ _ hq, ha.same s5⟩, p5, x5, rfl, h5, by rw [l5]; exact Nat.le_of_ble_eq_true rfl, fun p6 H6 x6 t6 q6 h6 σ6 i6 => ?_⟩
    have l6 : x6.length = 7 := by rw [q6, List.length_append, l5]; rfl
    obtain rfl : σ6 = [some (.ref q), some (.ref p6)] := i6
    have s6 := s5.trans t6
    refine ⟨⟨rfl, es, s6 _ _ hq, ha.same s6⟩, p6, x6, rfl, h6, by rw [l6]; exact Nat.le_of_ble_eq_true rfl, fun p7 H7 x7 t7 q7 h7 σ7 i7 => ?_⟩
    have l7 : x7.length = 9 := by rw [q7, List.length_append, l6]; rfl
    obtain rfl : σ7 = [some (.ref q), some (.ref p7)] := i7
    have s7 := s6.trans t7
    refine ⟨⟨rfl, es, s7 _ _ hq, ha.same s7⟩, p7, x7, rfl, h7, by rw [l7]; exact Nat.le_of_ble_eq_true rfl, fun p8 H8 x8 t8 q8 h8 σ8 i8 => ?_⟩
    have l8 : x8.length = 10 := by rw [q8, List.length_append, l7]; rfl
    obtain rfl : σ8 = [some (.ref q), some (.ref p8)] := i8
    have s8 := s7.trans t8
    refine ⟨⟨rfl, es, s8 _ _ hq, ha.same s8⟩, p8, x8, rfl, h8, by rw [l8]; exact Nat.le_of_ble_eq_true rfl, fun p9 H9 x9 t9 q9 h9 σ9 i9 => ?_⟩
    have l9 : x9.length = 11 := by rw [q9, List.length_append, l8]; rfl
    obtain rfl : σ9 = [some (.ref q), some (.ref p9)] := i9
    have s9 := s8.trans t9
    refine ⟨⟨rfl, es, s9 _ _ hq, ha.same s9⟩, p9, x9, rfl, h9, by rw [l9]; exact Nat.le_of_ble_eq_true rfl, fun p10 H10 x10 t10 q10 h10 σ10 i10 => ?_⟩
    have l10 : x10.length = 12 := by rw [q10, List.length_append, l9]; rfl
    obtain rfl : σ10 = [some (.ref q), some (.ref p10)] := i10
    have s10 := s9.trans t10
    refine ⟨⟨rfl, es, s10 _ _ hq, ha.same s10⟩, p10, x10, rfl, h10, by rw [l10]; exact Nat.le_of_ble_eq_true rfl, fun p11 H11 x11 t11 q11 h11 σ11 i11 => ?_⟩
    have l11 : x11.length = 13 := by rw [q11, List.length_append, l10]; rfl
    obtain rfl : σ11 = [some (.ref q), some (.ref p11)] := i11
    have s11 := s10.trans t11
    refine ⟨⟨rfl, es, s11 _ _ hq, ha.same s11⟩, p11, x11, rfl, h11, by rw [l11]; exact Nat.le_of_ble_eq_true rfl, fun p12 H12 x12 t12 q12 h12 σ12 i12 => ?_⟩
    have l12 : x12.length = 15 := by rw [q12, List.length_append, l11]; rfl
    obtain rfl : σ12 = [some (.ref q), some (.ref p12)] := i12
    have s12 := s11.trans t12
    refine ⟨⟨rfl, es, s12 _ _ hq, ha.same s12⟩, p12, x12, rfl, h12, by rw [l12]; exact Nat.le_of_ble_eq_true rfl, fun p13 H13 x13 t13 q13 h13 σ13 i13 => ?_⟩
    have l13 : x13.length = 17 := by rw [q13, List.length_append, l12]; rfl
    obtain rfl : σ13 = [some (.ref q), some (.ref p13)] := i13
    have s13 := s12.trans t13
    refine ⟨⟨rfl, es, s13 _ _ hq, ha.same s13⟩, p13, x13, rfl, h13, by rw [l13]; exact Nat.le_of_ble_eq_true rfl, fun p14 H14 x14 t14 q14 h14 σ14 i14 => ?_⟩
    have l14 : x14.length = 18 := by rw [q14, List.length_append, l13]; rfl
    obtain rfl : σ14 = [some (.ref q), some (.ref p14)] := i14
    have s14 := s13.trans t14
    refine ⟨⟨rfl, es, s14 _ _ hq, ha.same s14⟩, p14, x14, rfl, h14, by rw [l14]; exact Nat.le_of_ble_eq_true rfl, fun p15 H15 x15 t15 q15 h15 σ15 i15 => ?_⟩
    have l15 : x15.length = 19 := by rw [q15, List.length_append, l14]; rfl
    obtain rfl : σ15 = [some (.ref q), some (.ref p15)] := i15
    have s15 := s14.trans t15
    refine ⟨⟨rfl, es, s15 _ _ hq, ha.same s15⟩, p15, x15, rfl, h15, by rw [l15]; exact Nat.le_of_ble_eq_true rfl, fun p16 H16 x16 t16 q16 h16 σ16 i16 => ?_⟩
    have l16 : x16.length = 21 := by rw [q16, List.length_append, l15]; rfl
    obtain rfl : σ16 = [some (.ref q), some (.ref p16)] := i16
    have s16 := s15.trans t16
    refine ⟨⟨rfl, es, s16 _ _ hq, ha.same s16⟩, p16, x16, rfl, h16, by rw [l16]; exact Nat.le_of_ble_eq_true rfl, fun p17 H17 x17 t17 q17 h17 σ17 i17 => ?_⟩
    have l17 : x17.length = 22 := by rw [q17, List.length_append, l16]; rfl
    obtain rfl : σ17 = [some (.ref q), some (.ref p17)] := i17
    have s17 := s16.trans t17
    refine ⟨⟨rfl, es, s17 _ _ hq, ha.same s17⟩, p17, x17, rfl, h17, by rw [l17]; exact Nat.le_of_ble_eq_true rfl, fun p18 H18 x18 t18 q18 h18 σ18 i18 => ?_⟩
    have l18 : x18.length = 23 := by rw [q18, List.length_append, l17]; rfl
    obtain rfl : σ18 = [some (.ref q), some (.ref p18)] := i18
    have s18 := s17.trans t18
    refine ⟨⟨rfl, es, s18 _ _ hq, ha.same s18⟩, p18, x18, rfl, h18, by rw [l18]; exact Nat.le_of_ble_eq_true rfl, fun p19 H19 x19 t19 q19 h19 σ19 i19 => ?_⟩
    have l19 : x19.length = 24 := by rw [q19, List.length_append, l18]; rfl
    obtain rfl : σ19 = [some (.ref q), some (.ref p19)] := i19
    have s19 := s18.trans t19
    refine ⟨⟨rfl, es, s19 _ _ hq, ha.same s19⟩, p19, x19, rfl, h19, by rw [l19]; exact Nat.le_of_ble_eq_true rfl, fun p20 H20 x20 t20 q20 h20 σ20 i20 => ?_⟩
    have l20 : x20.length = 27 := by rw [q20, List.length_append, l19]; rfl
    obtain rfl : σ20 = [some (.ref q), some (.ref p20)] := i20
    have s20 := s19.trans t20
    refine ⟨⟨rfl, es, s20 _ _ hq, ha.same s20⟩, p20, x20, rfl, h20, by rw [l20]; exact Nat.le_of_ble_eq_true rfl, fun p21 H21 x21 t21 q21 h21 σ21 i21 => ?_⟩
    have l21 : x21.length = 28 := by rw [q21, List.length_append, l20]; rfl
    obtain rfl : σ21 = [some (.ref q), some (.ref p21)] := i21
    have s21 := s20.trans t21
    refine ⟨⟨rfl, es, s21 _ _ hq, ha.same s21⟩, p21, x21, rfl, h21, by rw [l21]; exact Nat.le_of_ble_eq_true rfl, fun p22 H22 x22 t22 q22 h22 σ22 i22 => ?_⟩
    have l22 : x22.length = 29 := by rw [q22, List.length_append, l21]; rfl
    obtain rfl : σ22 = [some (.ref q), some (.ref p22)] := i22
    have s22 := s21.trans t22
    refine ⟨⟨rfl, es, s22 _ _ hq, ha.same s22⟩, p22, x22, rfl, h22, by rw [l22]; exact Nat.le_of_ble_eq_true rfl, fun p23 H23 x23 t23 q23 h23 σ23 i23 => ?_⟩
    have l23 : x23.length = 31 := by rw [q23, List.length_append, l22]; rfl
    obtain rfl : σ23 = [some (.ref q), some (.ref p23)] := i23
    have s23 := s22.trans t23
    have c0 : x0 = [] := q0
    have c1 : x1 = [v1] := by rw [q1, c0]; rfl
    have c2 : x2 = [v1, v1] := by rw [q2, c1]; rfl
    have c3 : x3 = [v1, v1, v1] := by rw [q3, c2]; rfl
    have c4 : x4 = [v1, v1, v1, v1] := by rw [q4, c3]; rfl
    have c5 : x5 = [v1, v1, v1, v1, v1] := by rw [q5, c4]; rfl
    have c6 : x6 = [v1, v1, v1, v1, v1, v1, v2] := by rw [q6, c5]; rfl
    have c7 : x7 = [v1, v1, v1, v1, v1, v1, v2, v1, v2] := by rw [q7, c6]; rfl
    have c8 : x8 = [v1, v1, v1, v1, v1, v1, v2, v1, v2, v1] := by rw [q8, c7]; rfl
    have c9 : x9 = [v1, v1, v1, v1, v1, v1, v2, v1, v2, v1, v1] := by rw [q9, c8]; rfl
    have c10 : x10 = [v1, v1, v1, v1, v1, v1, v2, v1, v2, v1, v1, v1] := by rw [q10, c9]; rfl
    have c11 : x11 = [v1, v1, v1, v1, v1, v1, v2, v1, v2, v1, v1, v1, v1] := by rw [q11, c10]; rfl
    have c12 : x12 = [v1, v1, v1, v1, v1, v1, v2, v1, v2, v1, v1, v1, v1, v1, v2] := by rw [q12, c11]; rfl
    have c13 : x13 = [v1, v1, v1, v1, v1, v1, v2, v1, v2, v1, v1, v1, v1, v1, v2, v1, v2] := by rw [q13, c12]; rfl
    have c14 : x14 = [v1, v1, v1, v1, v1, v1, v2, v1, v2, v1, v1, v1, v1, v1, v2, v1, v2, v1] := by rw [q14, c13]; rfl
    have c15 : x15 = [v1, v1, v1, v1, v1, v1, v2, v1, v2, v1, v1, v1, v1, v1, v2, v1, v2, v1, v1] := by rw [q15, c14]; rfl
    have c16 : x16 = [v1, v1, v1, v1, v1, v1, v2, v1, v2, v1, v1, v1, v1, v1, v2, v1, v2, v1, v1, v1, v2] := by rw [q16, c15]; rfl
    have c17 : x17 = [v1, v1, v1, v1, v1, v1, v2, v1, v2, v1, v1, v1, v1, v1, v2, v1, v2, v1, v1, v1, v2, v1] := by rw [q17, c16]; rfl
    have c18 : x18 = [v1, v1, v1, v1, v1, v1, v2, v1, v2, v1, v1, v1, v1, v1, v2, v1, v2, v1, v1, v1, v2, v1, v1] := by rw [q18, c17]; rfl
    have c19 : x19 = [v1, v1, v1, v1, v1, v1, v2, v1, v2, v1, v1, v1, v1, v1, v2, v1, v2, v1, v1, v1, v2, v1, v1, v1] := by rw [q19, c18]; rfl
    have c20 : x20 = [v1, v1, v1, v1, v1, v1, v2, v1, v2, v1, v1, v1, v1, v1, v2, v1, v2, v1, v1, v1, v2, v1, v1, v1, v1, v2, v3] := by rw [q20, c19]; rfl
    have c21 : x21 = [v1, v1, v1, v1, v1, v1, v2, v1, v2, v1, v1, v1, v1, v1, v2, v1, v2, v1, v1, v1, v2, v1, v1, v1, v1, v2, v3, v1] := by rw [q21, c20]; rfl
    have c22 : x22 = [v1, v1, v1, v1, v1, v1, v2, v1, v2, v1, v1, v1, v1, v1, v2, v1, v2, v1, v1, v1, v2, v1, v1, v1, v1, v2, v3, v1, v1] := by rw [q22, c21]; rfl
    have c23 : x23 = [v1, v1, v1, v1, v1, v1, v2, v1, v2, v1, v1, v1, v1, v1, v2, v1, v2, v1, v1, v1, v2, v1, v1, v1, v1, v2, v3, v1, v1, v1, v2] := by rw [q23, c22]; rfl
    have q : x23 = flds v1 v2 v3 := c23
    exact ⟨_, rfl, k p23 H23 s23 (by rw [← q]; exact h23)⟩
end
end K97

set_option Elab.async false
set_option linter.all false
set_option maxRecDepth 100000
set_option maxHeartbeats 4000000
namespace Ru
open PySem PySem.Spec PyProof.Rows L2
/-! ### all but dicts is kept -/
def Kp (H H' : Hp) : Prop := ∀ b o, H b = some o → (∀ kvs, o ≠ .dK kvs) → H' b = some o
theorem Kp.of {H H' : Hp} (s : Same H H') : Kp H H' := fun b o e _ => s b o e
theorem Kp.refl (H : Hp) : Kp H H := fun _ _ e _ => e
theorem Kp.trans {H H1 H2 : Hp} (a : Kp H H1) (b : Kp H1 H2) : Kp H H2 := fun c o e n => b c o (a c o e n) n
theorem Kp.lst {H H' : Hp} {a : Addr} {xs : List V} (s : Kp H H') (h : H a = some (.lst xs)) : H' a = some (.lst xs) := s _ _ h fun _ z => by cases z
theorem Kp.tup {H H' : Hp} {a : Addr} {xs : List V} (s : Kp H H') (h : H a = some (.tup xs)) : H' a = some (.tup xs) := s _ _ h fun _ z => by cases z
theorem Kp.rd {H H' : Hp} {a : Addr} {u : HO} (s : Kp H H') (hu : ∀ kvs, u ≠ .dK kvs) (h : Rd H a u) : Rd H' a u := by
  rcases h with h | ⟨o, h⟩
  · exact .inl (s _ _ h hu)
  · exact .inr ⟨o, s _ _ h fun _ z => by cases z⟩
theorem Kp.seq {K : PySem.W.Frag} {H H' : Hp} {a : Addr} {xs : List V} (s : Kp H H') (h : SqL K H a xs) : SqL K H' a xs := h.imp (s.rd fun _ z => by cases z) id
theorem Kp.seqT {K : PySem.W.Frag} {H H' : Hp} {a : Addr} {xs : List V} (s : Kp H H') (h : SqT K H a xs) : SqT K H' a xs := h.imp (s.rd fun _ z => by cases z) id
theorem Kp.ex {H H' : Hp} {e C : Addr} {fs : List (Str × V)} (s : Kp H H') (h : ExAt H e C fs) : ExAt H' e C fs := by
  rcases h with ⟨h1, h2⟩ | ⟨d, h1, h2⟩
  · exact .inl ⟨h1, s _ _ h2 fun _ z => by cases (show HO.ext _ = HO.dK _ from z)⟩
  · exact .inr ⟨d, s _ _ h1 (fun _ z => by cases (show HO.ext _ = HO.dK _ from z)), s _ _ h2 (fun _ z => by cases (show HO.ext _ = HO.dK _ from z))⟩
theorem Kp.all {H H' : Hp} (s : Kp H H') : ∀ {es : List V} {ts : List (Addr × List (Str × V))}, AllEx H es ts → AllEx H' es ts
  | _, _, .nil => .nil
  | _, _, .cons a b => .cons (s.ex a) (Kp.all s b)
mutual
theorem Kp.dp {K : PySem.W.Frag} {H H' : Hp} (s : Kp H H') : ∀ {v : V} {d : PyData}, Dp K H v d → Dp K H' v d
  | _, _, .non => .non
  | _, _, .bl b => .bl b
  | _, _, .int i => .int i
  | _, _, .str x => .str x
  | _, _, .lst h a => .lst (s.seq h) (Kp.dpA s a)
  | _, _, .tup h a => .tup (s.seqT h) (Kp.dpA s a)
theorem Kp.dpA {K : PySem.W.Frag} {H H' : Hp} (s : Kp H H') : ∀ {vs : List V} {ds : List PyData}, DpAll K H vs ds → DpAll K H' vs ds
  | _, _, .nil => .nil
  | _, _, .cons a b => .cons (Kp.dp s a) (Kp.dpA s b)
end
/-! ### how long a list's text is -/
theorem len_app (a b : Str) : (a ++ b).length = a.length + b.length := by
  show (a.cps ++ b.cps).size = _
  rw [Array.size_append]
  rfl
theorem textFrom_le : ∀ (ts : List Str) (k : Nat) (acc : Str) (n : Nat), (∀ t ∈ ts, t.length ≤ n) → (textFrom k acc ts).length ≤ acc.length + ts.length * (n + 2)
  | [], k, acc, n, _ => by
    show acc.length ≤ _
    exact Nat.le_add_right _ _
  | t :: ts, k, acc, n, h => by
    have ih := textFrom_le ts (k + 1) (acc ++ (if k > 0 then ", " else "" : String) ++ t) n fun x hx => h x (List.mem_cons_of_mem _ hx)
    have h1 := h t List.mem_cons_self
    have h2 : ((if k > 0 then ", " else "" : String) : Str).length ≤ 2 := by
      by_cases c : k > 0
      · rw [if_pos c]
        decide
      · rw [if_neg c]
        decide
    rw [len_app, len_app] at ih
    show (textFrom (k + 1) (acc ++ (if k > 0 then ", " else "" : String) ++ t) ts).length ≤ _
    have e : (t :: ts).length * (n + 2) = ts.length * (n + 2) + (n + 2) := by rw [List.length_cons, Nat.succ_mul]
    omega
theorem listText_le {ts : List Str} {n : Nat} (h : ∀ t ∈ ts, t.length ≤ n) : (listText ts).length ≤ 2 + ts.length * (n + 2) := by
  have h1 := textFrom_le ts 0 ("[" : String) n h
  have h2 : (("[" : String) : Str).length = 1 := by decide
  have h3 : (("]" : String) : Str).length = 1 := by decide
  show (textFrom 0 ("[" : String) ts ++ ("]" : String)).length ≤ _
  rw [len_app]
  omega
/-- a small datum: it can be shown in few signs -/
structure Small (d : PyData) : Prop where
  s : d.showable = true
  n : d.hasDict = false
  dp : d.depth ≤ 2
  l : d.shown.length ≤ 40
theorem small_list {ds : List PyData} (h : ∀ d ∈ ds, Small d) (hl : ds.length ≤ 1000) :
    (PyData.list ds).showable = true ∧ (PyData.list ds).hasDict = false ∧ (PyData.list ds).depth ≤ 40 ∧ (PyData.list ds).shown.length ≤ sizeLine := by
  have a : ∀ ds : List PyData, (∀ d ∈ ds, Small d) → PyData.showableAll ds = true ∧ PyData.hasDictAll ds = false ∧ PyData.depthAll ds ≤ 2 ∧ (∀ t ∈ PyData.shownAll ds, t.length ≤ 40) ∧ (PyData.shownAll ds).length = ds.length := by
    intro ds
    induction ds with
    | nil => exact fun _ => ⟨by simp [PyData.showableAll], by simp [PyData.hasDictAll], by simp [PyData.depthAll], by simp [PyData.shownAll], by simp [PyData.shownAll]⟩
    | cons d ds ih =>
      intro h
      obtain ⟨i1, i2, i3, i4, i5⟩ := ih fun x hx => h x (List.mem_cons_of_mem _ hx)
      have hd := h d List.mem_cons_self
      refine ⟨by rw [PyData.showableAll, hd.s, i1]; rfl, by rw [PyData.hasDictAll, hd.n, i2]; rfl, by rw [PyData.depthAll]; exact Nat.max_le.mpr ⟨hd.dp, i3⟩, ?_, by rw [PyData.shownAll, List.length_cons, List.length_cons, i5]⟩
      intro t ht
      rw [PyData.shownAll] at ht
      rcases List.mem_cons.mp ht with e | ht
      · rw [e]
        exact hd.l
      · exact i4 t ht
  obtain ⟨i1, i2, i3, i4, i5⟩ := a ds h
  refine ⟨by rw [PyData.showable]; exact i1, by rw [PyData.hasDict]; exact i2, by rw [PyData.depth]; omega, ?_⟩
  rw [PyData.shown]
  have z := listText_le i4
  rw [i5] at z
  have q : ds.length * (40 + 2) ≤ 1000 * 42 := Nat.mul_le_mul_right 42 hl
  rw [sizeLine_eq]
  omega
/-- a value that stands for a small datum -/
def VD (K : PySem.W.Frag) (H : Hp) (v : V) (d : PyData) : Prop := Dp K H v d ∧ Small d
theorem VD.kp {K : PySem.W.Frag} {H H' : Hp} {v : V} {d : PyData} (s : Kp H H') (h : VD K H v d) : VD K H' v d := ⟨s.dp h.1, h.2⟩
end Ru

set_option Elab.async false
set_option linter.all false
set_option maxRecDepth 100000
set_option maxHeartbeats 4000000
namespace K97
open PySem PySem.Spec PyProof.Rows L2 Ru
/-! ### the menu of values -/
def vals (la ta : Addr) : List V := [.non, .int 0, .int 5, .str "", .str "cells", .ref la, .ref ta, .bl true]
structure VsOk (H : Hp) (va la ta : Addr) : Prop where
  v : H va = some (.lst (vals la ta))
  l : H la = some (.lst [.str "a"])
  t : H ta = some (.tup [.str "n", .int 1])
theorem VsOk.kp {H H' : Hp} {va la ta : Addr} (s : Kp H H') (h : VsOk H va la ta) : VsOk H' va la ta := ⟨s.lst h.v, s.lst h.l, s.tup h.t⟩
theorem sm0 : Small .none := ⟨by decide +kernel, by decide +kernel, by decide +kernel, by decide +kernel⟩
theorem sm1 : Small (.int 0) := ⟨by decide +kernel, by decide +kernel, by decide +kernel, by decide +kernel⟩
theorem sm2 : Small (.int 5) := ⟨by decide +kernel, by decide +kernel, by decide +kernel, by decide +kernel⟩
theorem sm3 : Small (.str "") := ⟨by decide +kernel, by decide +kernel, by decide +kernel, by decide +kernel⟩
theorem sm4 : Small (.str "cells") := ⟨by decide +kernel, by decide +kernel, by decide +kernel, by decide +kernel⟩
theorem sm5 : Small (.list [.str "a"]) := ⟨by decide +kernel, by decide +kernel, by decide +kernel, by decide +kernel⟩
theorem sm6 : Small (.tuple [.str "n", .int 1]) := ⟨by decide +kernel, by decide +kernel, by decide +kernel, by decide +kernel⟩
theorem sm7 : Small (.bool true) := ⟨by decide +kernel, by decide +kernel, by decide +kernel, by decide +kernel⟩
theorem pick {K : PySem.W.Frag} {H : Hp} {va la ta : Addr} (h : VsOk H va la ta) {z : Int} (z0 : 0 ≤ z) (z1 : z < 8) : ∃ v d, atI (vals la ta) z = some v ∧ VD K H v d := by
  obtain ⟨n, rfl⟩ := Int.eq_ofNat_of_zero_le z0
  match n, z1 with
  | 0, _ => exact ⟨_, _, atI_nat rfl, .non, sm0⟩
  | 1, _ => exact ⟨_, _, atI_nat rfl, .int 0, sm1⟩
  | 2, _ => exact ⟨_, _, atI_nat rfl, .int 5, sm2⟩
  | 3, _ => exact ⟨_, _, atI_nat rfl, .str _, sm3⟩
  | 4, _ => exact ⟨_, _, atI_nat rfl, .str _, sm4⟩
  | 5, _ => exact ⟨_, _, atI_nat rfl, .lst (SqL.of h.l) (.cons (.str _) .nil), sm5⟩
  | 6, _ => exact ⟨_, _, atI_nat rfl, .tup (SqT.of h.t) (.cons (.str _) (.cons (.int 1) .nil)), sm6⟩
  | 7, _ => exact ⟨_, _, atI_nat rfl, .bl true, sm7⟩
  | n + 8, h => omega
/-- values[take(pen, 8)] -/
def tDr (K : PySem.W.Frag) : TE := fun σ H Q => ∃ (d l va la ta : Addr) (ns : List Int) (a r f : Int), σ[1]? = some (some (.ref d)) ∧ σ[2]? = some (some (.ref va)) ∧ PenAt H d l ns a r f ∧ a ≤ 100000 ∧ VsOk H va la ta ∧
  ∀ (v : V) (x : PyData) (H' : Hp) (a' r' : Int), Kp H H' → PenAt H' d l ns a' r' f → a' ≤ a + 1 → VD K H' v x → Q v H'
theorem drawW {K : PySem.W.Frag} : ∀ σ H Q, tDr K σ H Q → tOp (rIxL K) (tVar 2) (tCall spTake [] E0 (tCons (tVar 1) (tCons (tC (.int 8)) tNil))) σ H Q := by
  rintro σ H Q ⟨d, l, va, la, ta, ns, a, r, f, h1, h2, P, ha, W, k⟩
  refine ⟨_, h2, _, h1, d, l, ns, a, r, f, 8, rfl, P, ha, by decide, by decide, fun z a' r' H' z0 z1 ha' kp P' => ?_⟩
  have kk : Kp H H' := fun b o e n => kp b o e fun z => by
    rw [z, P.dk] at e
    exact n _ (Option.some.inj e).symm
  have W' := W.kp kk
  obtain ⟨v, x, e, D⟩ := pick (K := K) W' z0 z1
  exact ⟨va, _, z, v, rfl, rfl, SqL.of W'.v, e, k v x H' a' r' kk P' ha' D⟩
/-! ### the bits of a row of kinds -/
theorem nodup_ok : ∀ {l : List Addr}, nodupB l = true → l.Nodup
  | [], _ => List.nodup_nil
  | a :: r, h => by
    have h2 : (!(r.any fun b => Nat.beq a b) && nodupB r) = true := h
    rw [Bool.and_eq_true, Bool.not_eq_true'] at h2
    refine List.nodup_cons.mpr ⟨fun m => ?_, nodup_ok h2.2⟩
    have q : (r.any fun b => Nat.beq a b) = true := List.any_eq_true.mpr ⟨a, m, Nat.beq_refl a⟩
    rw [h2.1] at q
    cases q
theorem eqT (b : Bool) : eqV (.bl b) (.bl true) = b := by
  show (b == true) = b
  cases b <;> rfl
theorem count0 {D : Addr} : ∀ {l : List Addr}, ¬ D ∈ l → (l.map fun C => V.bl (decide (C = D))).countP (fun y => eqV y (.bl true)) = 0
  | [], _ => rfl
  | a :: l, h => by
    have h1 : ¬ a = D := fun z => h (by rw [z]; exact List.mem_cons_self)
    have ih := count0 (l := l) fun m => h (List.mem_cons_of_mem _ m)
    rw [List.map_cons, List.countP_cons, ih, eqT, decide_eq_false h1]
    rfl
theorem count1 {D : Addr} : ∀ {l : List Addr}, l.Nodup → D ∈ l → (l.map fun C => V.bl (decide (C = D))).countP (fun y => eqV y (.bl true)) = 1
  | [], _, h => by cases h
  | a :: l, n, h => by
    obtain ⟨n1, n2⟩ := List.nodup_cons.mp n
    rw [List.map_cons, List.countP_cons, eqT]
    by_cases e : a = D
    · subst e
      rw [count0 n1, decide_eq_true rfl]
      rfl
    · rw [decide_eq_false e, count1 n2 ((List.mem_cons.mp h).resolve_left (Ne.symm e))]
      rfl
def addrs (K : PySem.W.Frag) : List Addr := names.map (He.ga K)
theorem bits_at {K : PySem.W.Frag} {D : Addr} (hR : ¬ He.ga K "RisingError" ∈ addrs K) : names.map (bitV K D (.ref (He.ga K "RisingError") :: He.veBase)) = (addrs K).map fun C => V.bl (decide (C = D)) := by
  unfold addrs
  rw [List.map_map]
  refine List.map_congr_left fun n hn => ?_
  show V.bl _ = V.bl _
  congr 1
  have h1 : ¬ He.ga K n = He.ga K "RisingError" := fun z => hR (by rw [← z]; exact List.mem_map.mpr ⟨n, hn, rfl⟩)
  by_cases e : He.ga K n = D
  · simp [List.contains_cons, e]
  · simp [List.contains_cons, e, h1, He.veBase]
theorem bits_R {K : PySem.W.Frag} (hR : ¬ He.ga K "RisingError" ∈ addrs K) : names.map (bitV K (He.ga K "RisingError") He.veBase) = names.map fun _ => V.bl false := by
  refine List.map_congr_left fun n hn => ?_
  show V.bl _ = V.bl _
  congr 1
  have h1 : ¬ He.ga K n = He.ga K "RisingError" := fun z => hR (by rw [← z]; exact List.mem_map.mpr ⟨n, hn, rfl⟩)
  simp [List.contains_cons, h1, He.veBase]
theorem flat_bits {l : List Addr} {g : Addr → Bool} : (l.map fun C => V.bl (g C)).all flatV = true := by
  rw [List.all_map]
  exact List.all_eq_true.mpr fun _ _ => rfl
theorem ts_map (K : PySem.W.Frag) (v1 v2 v3 : V) : (tsAll K v1 v2 v3).map (·.1) = addrs K := by
  simp only [tsAll, t0, t1, t2, t3, t4, t5, t6, t7, t8, addrs, names, namesA, namesB, List.map_append, List.map_cons, List.map_nil, List.cons_append, List.nil_append]
theorem ts_at {K : PySem.W.Frag} {v1 v2 v3 : V} {j : Nat} (hj : j < 35) : ∃ n fs, names[j]? = some n ∧ (tsAll K v1 v2 v3)[j]? = some (He.ga K n, fs) := by
  have hl : names.length = 35 := rfl
  have h1 : names[j]? = some names[j] := List.getElem?_eq_getElem (by omega)
  have e : ((tsAll K v1 v2 v3).map (·.1))[j]? = some (He.ga K names[j]) := by
    rw [ts_map]
    unfold addrs
    rw [List.getElem?_map, h1]
    rfl
  rw [List.getElem?_map] at e
  cases q : (tsAll K v1 v2 v3)[j]? with
  | none => rw [q] at e; cases e
  | some p =>
    obtain ⟨C, fs⟩ := p
    rw [q] at e
    have e2 : C = He.ga K names[j] := Option.some.inj e
    exact ⟨_, fs, h1, by rw [e2]⟩
end K97

set_option Elab.async false
set_option linter.all false
set_option maxRecDepth 100000
set_option maxHeartbeats 8000000
namespace K97
open PySem PySem.Spec PyProof.Rows L2 Ru
def spLaw (K : PySem.W.Frag) : Sp := fun vs H Q _ => ∃ (a : Addr) (ns : List Int), vs = [.ref a] ∧ SqL K H a (ns.map V.int) ∧ ns.length ≤ 63 ∧ ∀ H', Q (.bl true) H'
theorem sc_law : FnScope ["_law_script", "_law_pen_here", "_law_values", "_law_turn", "_law_some", "_law_made_so", "_law_k", "_law_kinds_here", "_law_due", "_law_count"] ["_law_script"] (defScope sLaw) := ⟨rfl, rfl, rfl, by decide +kernel, rfl, by decide +kernel, by decide +kernel⟩
def cnts : List Int := [1, 1, 1, 1, 1, 2, 2, 1, 1, 1, 1, 2, 2, 1, 1, 2, 1, 1, 1, 3, 1, 1, 2]
def pre (v1 v2 v3 : V) (i : Nat) : List V := (cnts.take i).flatMap fun c => [v1, v2, v3].take c.toNat
theorem pre_all (v1 v2 v3 : V) : pre v1 v2 v3 23 = flds v1 v2 v3 := by
  simp only [pre, cnts, flds, List.take, List.flatMap_cons, List.flatMap_nil, List.cons_append, List.nil_append, Int.toNat]
theorem pre_next (v1 v2 v3 : V) {i : Nat} {c : Int} (h : cnts[i]? = some c) : pre v1 v2 v3 (i + 1) = pre v1 v2 v3 i ++ [v1, v2, v3].take c.toNat := by
  unfold pre
  rw [show cnts.take (i + 1) = cnts.take i ++ [c] by rw [List.take_succ, h]; rfl, List.flatMap_append]
  simp
theorem cut_c (v1 v2 v3 : V) {c : Int} (h : 0 ≤ c) : cutV [v1, v2, v3] none (some c) = [v1, v2, v3].take c.toNat := by
  obtain ⟨n, rfl⟩ := Int.eq_ofNat_of_zero_le h
  show ([v1, v2, v3].drop 0).take ((if (n : Int) < 0 then ((n : Int) + ((3 : Nat) : Int)).toNat else min (n : Int).toNat 3) - 0) = [v1, v2, v3].take n
  rw [if_neg (by omega), Int.toNat_natCast, Nat.sub_zero, List.drop_zero]
  match n with
  | 0 => rfl
  | 1 => rfl
  | 2 => rfl
  | n + 3 => simp
theorem cnt_pos {i : Nat} {c : Int} (h : cnts[i]? = some c) : 0 ≤ c := by
  have m : c ∈ cnts := List.mem_of_getElem? h
  have q : ∀ c ∈ cnts, (0 : Int) ≤ c := by decide
  exact q c m
theorem pre_len (v1 v2 v3 : V) (i : Nat) : (pre v1 v2 v3 i).length ≤ 69 := by
  have h : ∀ l : List Int, (l.flatMap fun c => [v1, v2, v3].take c.toNat).length ≤ 3 * l.length := by
    intro l
    induction l with
    | nil => exact Nat.le_refl _
    | cons c l ih =>
      rw [List.flatMap_cons, List.length_append, List.length_cons, List.length_take]
      have : min c.toNat [v1, v2, v3].length ≤ 3 := Nat.min_le_right _ _
      omega
  have h1 := h (cnts.take i)
  have h2 : (cnts.take i).length ≤ 23 := by
    rw [List.length_take]
    exact Nat.min_le_right _ _
  unfold pre
  omega
/-- the data of the row of fields -/
def fldD (d1 d2 d3 : PyData) : List PyData := [d1, d1, d1, d1, d1, d1, d2, d1, d2, d1, d1, d1, d1, d1, d2, d1, d2, d1, d1, d1, d2, d1, d1, d1, d1, d2, d3, d1, d1, d1, d2]
theorem fld_dp {K : PySem.W.Frag} {H : Hp} {v1 v2 v3 : V} {d1 d2 d3 : PyData} (h1 : Dp K H v1 d1) (h2 : Dp K H v2 d2) (h3 : Dp K H v3 d3) : DpAll K H (flds v1 v2 v3) (fldD d1 d2 d3) :=
  (.cons h1 (.cons h1 (.cons h1 (.cons h1 (.cons h1 (.cons h1 (.cons h2 (.cons h1 (.cons h2 (.cons h1 (.cons h1 (.cons h1 (.cons h1 (.cons h1 (.cons h2 (.cons h1 (.cons h2 (.cons h1 (.cons h1 (.cons h1 (.cons h2 (.cons h1 (.cons h1 (.cons h1 (.cons h1 (.cons h2 (.cons h3 (.cons h1 (.cons h1 (.cons h1 (.cons h2 .nil)))))))))))))))))))))))))))))))
theorem fld_small {d1 d2 d3 : PyData} (h1 : Small d1) (h2 : Small d2) (h3 : Small d3) : ∀ d ∈ fldD d1 d2 d3, Small d := by
  intro d hd
  have : d = d1 ∨ d = d2 ∨ d = d3 := by
    simp only [fldD, List.mem_cons, List.not_mem_nil, or_false] at hd
    rcases hd with h | h | h | h | h | h | h | h | h | h | h | h | h | h | h | h | h | h | h | h | h | h | h | h | h | h | h | h | h | h | h <;> simp [h]
  rcases this with h | h | h <;> rw [h] <;> assumption
section
variable {P : Program} {w : World} {K : PySem.W.Frag} {mg : Str → Option Value} {base : Heap}
theorem ok_law {f fT fP fM fK fF : Addr} {fd fdT fdP fdM fdK fdF : FuncData} (F : FunD K "law" "law" (defArgs sLaw) (defBody sLaw) (defScope sLaw) [] [] f fd)
    (FT : FunD K "_law_take" "_law_take" (defArgs sTake) (defBody sTake) (defScope sTake) [] [] fT fdT) (FP : FunD K "_law_pen" "_law_pen" (defArgs sPen) (defBody sPen) (defScope sPen) [] [] fP fdP)
    (FM : FunD K "_law_made" "_law_made" (defArgs sMade) (defBody sMade) (defScope sMade) [] [] fM fdM) (FK : FunD K "_law_kinds" "_law_kinds" (defArgs sKinds) (defBody sKinds) (defScope sKinds) [] [] fK fdK)
    (FF : FunD K "_law_fields" "_law_fields" (defArgs sFields) (defBody sFields) (defScope sFields) [] [] fF fdF)
    (gTake : mg "_law_take" = some (.ref fT)) (gPen : mg "_law_pen" = some (.ref fP)) (gMade : mg "_law_made" = some (.ref fM)) (gKinds : mg "_law_kinds" = some (.ref fK)) (gFields : mg "_law_fields" = some (.ref fF))
    (T : Cls P w K mg base) (T2 : Cl2 K) (gR : mg "RisingError" = some (.ref (He.ga K "RisingError"))) (kR : PySem.W.keepIn K (.ref (He.ga K "RisingError")) = true)
    (qR : PySem.W.excIn K (He.ga K "RisingError") He.veBase "ValueError.__new__" = true) (xR : ExK K (He.ga K "RisingError")) (mR : (PySem.W.clsIn K (He.ga K "RisingError")).map (·.mro) = some (.ref (He.ga K "RisingError") :: He.veBase))
    (tR : PySem.W.typeIn K (.ref (He.ga K "RisingError")) = some (.type "type")) (nd : (He.ga K "RisingError" :: addrs K).Nodup)
    (g_int : mg "int" = none) (g_list : mg "list" = none) (g_abs : mg "abs" = none) (g_len : mg "len" = none) (g_range : mg "range" = none) (g_isi : mg "isinstance" = none) (g_repr : mg "repr" = none) (g_VE : mg "ValueError" = none) :
    FnG P w K mg base CX0 4 f fd ["_law_script"] (spLaw K) := by
  obtain ⟨hRn, ndA⟩ := List.nodup_cons.mp nd
  have GT : FnOk P w K mg base CX0 1 fT fdT ["_law_pen_here", "_law_many"] spTake := ok_take FT g_int g_len g_abs
  have GP : FnOk P w K mg base CX0 1 fP fdP ["_law_script"] (spPen K) := ok_pen FP g_int g_list
  have GM : FnOk P w K mg base CX0 3 fM fdM ["_law_one", "_law_two", "_law_three"] (spMade K) := ok_made FM T
  have GK : FnOk P w K mg base CX0 1 fK fdK ["_law_thing"] (spKinds K) := ok_kinds FK T T2 g_isi
  have GF : FnOk P w K mg base CX0 1 fF fdF ["_law_made_so"] (spFields K) := ok_fields FF T T2
  have bT : Binds K fdT ["_law_pen_here", "_law_many"] [] := FT.bindsN fun _ _ _ _ _ _ us hl => match us, hl with | [_, _], _ => rfl
  have bP : Binds K fdP ["_law_script"] [] := FP.bindsN fun _ _ _ _ _ _ us hl => match us, hl with | [_], _ => rfl
  have bM : Binds K fdM ["_law_one", "_law_two", "_law_three"] [] := FM.bindsN fun _ _ _ _ _ _ us hl => match us, hl with | [_, _, _], _ => rfl
  have bK : Binds K fdK ["_law_thing"] [] := FK.bindsN fun _ _ _ _ _ _ us hl => match us, hl with | [_], _ => rfl
  have bF : Binds K fdF ["_law_made_so"] [] := FF.bindsN fun _ _ _ _ _ _ us hl => match us, hl with | [_], _ => rfl
  refine okG F sc_law (fun vs H Q E h => ?_) (fun cdv A outer s H vs Q E hG hr h => ?_)
  · obtain ⟨a, ns, rfl, _⟩ := h
    rfl
  · obtain ⟨a, ns, rfl, hS, hlen, k⟩ := h
    have sc := sc_law
    have hr1 := hr.mono (show 1 ≤ 3 by decide)
    refine ⟨_, PSs.nox (pss_cons (ps_set (i := 1) sc.nd rfl (Or.inl rfl) (pe_call GP hr1 (by rfl) gPen FP.kp bP .nil pass0 (pa_cons (pv 0) pa_nil)))
      (pss_cons (ps_set (i := 2) sc.nd rfl (Or.inl rfl) (pe_lst (pa_cons pe_non (pa_cons pe_int (pa_cons pe_int (pa_cons pe_str (pa_cons pe_str (pa_cons (pe_lst (pa_cons pe_str pa_nil)) (pa_cons (pe_tup (pa_cons pe_str (pa_cons pe_int pa_nil))) (pa_cons pe_bl pa_nil))))))))))
      (pss_cons (ps_for PassesOwn.never rfl (pi_range1 rfl g_range (pa_cons pe_int pa_nil)) (pg_name (i := 3) sc.nd rfl (Or.inl rfl))
        (pss_cons (ps_set (i := 4) sc.nd rfl (Or.inl rfl) (pe_lst (pa_cons (weaken (pe_ix ix_list (pv 2) (pe_call GT hr1 (by rfl) gTake FT.kp bT .nil pass0 (pa_cons (pv 1) (pa_cons pe_int pa_nil))) (fun _ _ => rfl)) (drawW (K := K))) (pa_cons (weaken (pe_ix ix_list (pv 2) (pe_call GT hr1 (by rfl) gTake FT.kp bT .nil pass0 (pa_cons (pv 1) (pa_cons pe_int pa_nil))) (fun _ _ => rfl)) (drawW (K := K))) (pa_cons (weaken (pe_ix ix_list (pv 2) (pe_call GT hr1 (by rfl) gTake FT.kp bT .nil pass0 (pa_cons (pv 1) (pa_cons pe_int pa_nil))) (fun _ _ => rfl)) (drawW (K := K))) pa_nil)))))
        (pss_cons (ps_set (i := 5) sc.nd rfl (Or.inl rfl) (pe_call GM hr (by rfl) gMade FM.kp bM .nil pass0 (pa_cons (pe_ix ix_list (pv 4) pe_int (fun _ _ => rfl)) (pa_cons (pe_ix ix_list (pv 4) pe_int (fun _ _ => rfl)) (pa_cons (pe_ix ix_list (pv 4) pe_int (fun _ _ => rfl)) pa_nil)))))
        (pss_cons (ps_for PassesOwn.never rfl (pi_range1 rfl g_range (pa_cons pe_int pa_nil)) (pg_name (i := 6) sc.nd rfl (Or.inl rfl))
          (pss_cons (ps_set (i := 7) sc.nd rfl (Or.inl rfl) (pe_call GK hr1 (by rfl) gKinds FK.kp bK .nil pass0 (pa_cons (pe_ix ix_list (pv 5) (pv 6) (fun _ _ => rfl)) pa_nil)))
          (pss_cons (ps_if (PW.pt (pw_or (pt_cmpR op_ne (pe_bm PySem.F.plainAttrs_list PySem.F.slot_list_count PySem.F.type_list_count mt_countF (pv 7) (pa_cons pe_bl pa_nil)) pe_int (nomark _)) (pw_or (pt_not (pt_val (pe_ix ix_list (pv 7) (pv 6) (fun _ _ => rfl)))) (pw_or1 (pt_not (pt_val (pe_callB call_isX (by rfl) g_isi boot_isinstance (pa_cons (pe_ix ix_list (pv 5) (pv 6) (fun _ _ => rfl)) (pa_cons (pe_glob (v := V.ref (He.ga K "RisingError")) (by rfl) gR rfl) pa_nil)))))))))
            (pss_one (ps_ret pe_bl))
            pss_nil)
          (pss_one (ps_if (pt_not (pt_val (pe_callB call_isX (by rfl) g_isi boot_isinstance (pa_cons (pe_ix ix_list (pv 5) (pv 6) (fun _ _ => rfl)) (pa_cons (pe_bltn (v := V.ty "ValueError") (by rfl) g_VE PyProof.Rows.Boot.«ValueError» rfl) pa_nil)))))
            (pss_one (ps_ret pe_bl))
            pss_nil)))))
        (pss_cons (ps_set (i := 8) sc.nd rfl (Or.inl rfl) (pe_lst pa_nil))
        (pss_cons (ps_for PassesOwn.never rfl (pi_list (pe_lst (pa_cons pe_int (pa_cons pe_int (pa_cons pe_int (pa_cons pe_int (pa_cons pe_int (pa_cons pe_int (pa_cons pe_int (pa_cons pe_int (pa_cons pe_int (pa_cons pe_int (pa_cons pe_int (pa_cons pe_int (pa_cons pe_int (pa_cons pe_int (pa_cons pe_int (pa_cons pe_int (pa_cons pe_int (pa_cons pe_int (pa_cons pe_int (pa_cons pe_int (pa_cons pe_int (pa_cons pe_int (pa_cons pe_int pa_nil))))))))))))))))))))))))) (pg_name (i := 9) sc.nd rfl (Or.inl rfl))
          (pss_one (ps_set (i := 8) sc.nd rfl (Or.inl rfl) (pe_op op_cat (pv 8) (pe_slice sl_list (pv 4) po_none (po_some (pv 9)))))))
        (pss_one (ps_if (pt_cmpR op_ne (pe_callB (call_reprD hG (hr.units)) (by rfl) g_repr boot_repr (pa_cons (pe_call GF hr1 (by rfl) gFields FF.kp bF .nil pass0 (pa_cons (pv 5) pa_nil)) pa_nil)) (pe_callB (call_reprD hG (hr.units)) (by rfl) g_repr boot_repr (pa_cons (pv 8) pa_nil)) (nomark _))
          (pss_one (ps_ret pe_bl))
          pss_nil))))))))
      (pss_one (ps_ret (pe_cmpR op_notIn_seq pe_bl (pe_call GK hr1 (by rfl) gKinds FK.kp bK .nil pass0 (pa_cons (pe_ex0 PySem.F.excBase_ValueError qR gR kR (by rfl) pe_str rfl (by decide) (fun _ _ _ _ f q => f _ _ q)) pa_nil)) (by rfl))))))), ?_⟩
    refine ⟨_, rfl, a, ns, rfl, hS, hlen, fun d l f0 H1 s1 P1 => ?_⟩
    refine ⟨by show 1 ≤ sizeLine; decide, fun la nla => ⟨by show 2 ≤ sizeLine; decide, fun ta nta => ⟨by show 8 ≤ sizeLine; decide, fun va nva => ?_⟩⟩⟩
    have W2 : VsOk (upd (upd (upd H1 la (.lst [.str "a"])) ta (.tup [.str "n", .int 1])) va (.lst (vals la ta))) va la ta := by
      have n1 : la ≠ ta := ne_of_none upd_same nta
      have n2 : la ≠ va := ne_of_none (H := upd (upd H1 la (.lst [.str "a"])) ta (.tup [.str "n", .int 1])) (by rw [upd_ne n1]; exact upd_same) nva
      have n3 : ta ≠ va := ne_of_none upd_same nva
      exact ⟨upd_same, by rw [upd_ne n2, upd_ne n1, upd_same], by rw [upd_ne n3, upd_same]⟩
    have P2 : PenAt (upd (upd (upd H1 la (.lst [.str "a"])) ta (.tup [.str "n", .int 1])) va (.lst (vals la ta))) d l ns 0 0 f0 := P1.same ((upd_new nla).trans ((upd_new nta).trans (upd_new nva)))
    refine ⟨4, rfl, by decide, by decide, for_range (n := 4) (fun i σ H => ∃ (c3 c4 c5 c6 c7 c8 c9 : Option V) (b r : Int), σ = [some (.ref a), some (.ref d), some (.ref va), c3, c4, c5, c6, c7, c8, c9] ∧ PenAt H d l ns b r f0 ∧ b ≤ 3 * (i : Int) ∧ VsOk H va la ta)
      ⟨none, none, none, none, none, none, none, 0, 0, rfl, P2, by decide, W2⟩ ?_ ?_⟩
    · rintro i σ H3 hi ⟨c3, c4, c5, c6, c7, c8, c9, b, r, rfl, P3, hb, W3⟩
      refine ⟨d, l, va, la, ta, ns, b, r, f0, rfl, rfl, P3, by omega, W3, fun v1 x1 Ha b1 r1 k1 Pa h1 D1 => ?_⟩
      refine ⟨d, l, va, la, ta, ns, b1, r1, f0, rfl, rfl, Pa, by omega, W3.kp k1, fun v2 x2 Hb b2 r2 k2 Pb h2 D2 => ?_⟩
      refine ⟨d, l, va, la, ta, ns, b2, r2, f0, rfl, rfl, Pb, by omega, W3.kp (k1.trans k2), fun v3 x3 Hc b3 r3 k3 Pc h3 D3 => ?_⟩
      refine ⟨by show 3 ≤ sizeLine; decide, fun sa nsa => ?_⟩
      refine ⟨_, rfl, sa, _, 0, v1, rfl, rfl, SqL.of upd_same, atI_nat (j := 0) rfl, _, rfl, sa, _, 1, v2, rfl, rfl, SqL.of upd_same, atI_nat (j := 1) rfl, _, rfl, sa, _, 2, v3, rfl, rfl, SqL.of upd_same, atI_nat (j := 2) rfl, v1, v2, v3, rfl, fun q Hd es sd hq ha => ?_⟩
      have hsa : Hd sa = some (.lst [v1, v2, v3]) := sd _ _ upd_same
      have scd : Same Hc Hd := (upd_new nsa).trans sd
      refine ⟨35, rfl, by decide, by decide, for_range (n := 35) (fun j σ H' => ∃ (y6 y7 : Option V), σ = [some (.ref a), some (.ref d), some (.ref va), some (.int (0 + i)), some (.ref sa), some (.ref q), y6, y7, c8, c9] ∧ Same Hd H')
        ⟨c6, c7, rfl, Same.refl _⟩ ?_ ?_⟩
      · rintro j σ Hz hj ⟨y6, y7, rfl, se⟩
        obtain ⟨n, fs, hn, ht⟩ := ts_at (K := K) (v1 := v1) (v2 := v2) (v3 := v3) hj
        obtain ⟨e, hee, hx⟩ := (ha.same se).at ht
        have ej : (0 : Int) + (j : Int) = (j : Int) := Int.zero_add _
        refine ⟨_, rfl, _, rfl, q, es, _, .ref e, rfl, rfl, SqL.of (se _ _ hq), at_of ej hee, e, He.ga K n, _, fs, rfl, hx, T2.x j n hn, T2.m j n hn, fun p Hf sf hp => ?_⟩
        rw [bits_at hRn] at hp
        have hm : He.ga K n ∈ addrs K := List.mem_map.mpr ⟨n, List.mem_of_getElem? hn, rfl⟩
        have hc := count1 ndA hm
        have hl : ((addrs K).map fun C => V.bl (decide (C = He.ga K n)))[j]? = some (.bl true) := by
          unfold addrs
          rw [List.getElem?_map, List.getElem?_map, hn]
          show some (V.bl (decide (He.ga K n = He.ga K n))) = _
          rw [decide_eq_true rfl]
        have kR2 : PySem.W.kitOne K (.ref (He.ga K n)) (.ref (He.ga K "RisingError")) = some true := (kit_at (T2.m j n hn) mR tR).trans (by simp [List.contains_cons])
        have kV2 : PySem.W.kitOne K (.ref (He.ga K n)) (.type "ValueError") = some true := (kit_ve (T2.m j n hn)).trans (by simp [List.contains_cons, He.veBase])
        refine ⟨_, rfl, .inl ⟨rfl, _, SqL.of hp⟩, p, _, .bl true, rfl, rfl, SqL.of hp, rfl, flat_bits, rfl, _, rfl, ?_⟩
        refine iteNS (by rw [hc]; rfl) ?_
        refine ⟨_, rfl, _, rfl, p, _, _, .bl true, rfl, rfl, SqL.of hp, at_of ej hl, true, rfl, ?_⟩
        refine iteF ?_
        refine ⟨_, rfl, _, rfl, q, es, _, .ref e, rfl, rfl, SqL.of (sf _ _ (se _ _ hq)), at_of ej hee, e, He.ga K n, fs, .ref (He.ga K "RisingError"), .ref (He.ga K "RisingError"), true, rfl, hx.same sf, T2.x j n hn, fun u r => r, kR2, true, rfl, ?_⟩
        refine iteF ?_
        refine ⟨_, rfl, _, rfl, q, es, _, .ref e, rfl, rfl, SqL.of (sf _ _ (se _ _ hq)), at_of ej hee, e, He.ga K n, fs, .ty "ValueError", .type "ValueError", true, rfl, hx.same sf, T2.x j n hn, fun u r => r, kV2, true, rfl, ?_⟩
        refine iteF ?_
        exact ⟨_, _, rfl, se.trans sf⟩
      · rintro σ Hz ⟨y6, y7, rfl, se⟩
        refine ⟨Nat.zero_le _, fun u0 nu0 => ?_⟩
        have hu0 : ∀ (cp : Addr) (o : HO), (upd Hz u0 (.lst [])) cp = none → (upd (upd Hz u0 (.lst [])) cp o) u0 = some (.lst (pre v1 v2 v3 0)) := fun cp o h => by
          rw [upd_ne (ne_of_none upd_same h)]
          exact upd_same
        refine ⟨by show 23 ≤ sizeLine; decide, fun cp ncp => ⟨cp, rfl, ⟨_, SqL.of upd_same⟩, for_list (K := K) (a := cp) (xs := cnts.map V.int)
          (fun t σ Hg => ∃ (p : Addr) (y9 : Option V), σ = [some (.ref a), some (.ref d), some (.ref va), some (.int (0 + i)), some (.ref sa), some (.ref q), y6, y7, some (.ref p), y9] ∧ Hg p = some (.lst (pre v1 v2 v3 t)) ∧ Hg cp = some (.lst (cnts.map V.int)) ∧ Same Hd Hg)
          ⟨u0, c9, rfl, hu0 cp _ ncp, upd_same, se.trans ((upd_new nu0).trans (upd_new ncp))⟩ (fun t σ Hg _ ⟨_, _, _, _, q, _⟩ => SqL.of q) ?_ ?_⟩⟩
        · rintro t y σ Hg ht ⟨p, y9, rfl, hp, hcp, sg⟩
          obtain ⟨c, hc, rfl⟩ : ∃ c, cnts[t]? = some c ∧ y = V.int c := by
            rw [List.getElem?_map] at ht
            cases e : cnts[t]? with
            | none => rw [e] at ht; cases ht
            | some c => rw [e] at ht; exact ⟨c, rfl, (Option.some.inj ht).symm⟩
          have cut := cut_c v1 v2 v3 (cnt_pos hc)
          refine ⟨_, rfl, _, rfl, _, rfl, c, rfl, sa, _, rfl, SqL.of (sg _ _ hsa), fun w nw => ?_⟩
          rw [cut]
          refine ⟨p, w, _, _, rfl, rfl, by rw [upd_ne (ne_of_none hp nw)]; exact hp, upd_same, ?_, fun p' np' => ?_⟩
          · have z1 := pre_len v1 v2 v3 t
            have z2 : ([v1, v2, v3].take c.toNat).length ≤ 3 := by
              rw [List.length_take]
              exact Nat.min_le_right _ _
            rw [sizeLine_eq]
            omega
          · have s2 : Same Hg (upd (upd Hg w (.lst ([v1, v2, v3].take c.toNat))) p' (.lst (pre v1 v2 v3 t ++ [v1, v2, v3].take c.toNat))) := (upd_new nw).trans (upd_new np')
            exact ⟨p', _, rfl, by rw [pre_next v1 v2 v3 hc]; exact upd_same, s2 _ _ hcp, sg.trans s2⟩
        · rintro σ Hg ⟨p, y9, rfl, hp, hcp, sg⟩
          have hp' : Hg p = some (.lst (flds v1 v2 v3)) := by
            rw [← pre_all]
            exact hp
          refine ⟨_, rfl, q, v1, v2, v3, es, rfl, sg _ _ hq, ha.same sg, fun p2 Hh sh hp2 => ?_⟩
          have kd : Kp Hc Hh := Kp.of (scd.trans (sg.trans sh))
          have E1 : VD K Hh v1 x1 := D1.kp (k2.trans (k3.trans kd))
          have E2 : VD K Hh v2 x2 := D2.kp (k3.trans kd)
          have E3 : VD K Hh v3 x3 := D3.kp kd
          have al : DpAll K Hh (flds v1 v2 v3) (fldD x1 x2 x3) := fld_dp E1.1 E2.1 E3.1
          obtain ⟨z1, z2, z3, z4⟩ := small_list (fld_small E1.2 E2.2 E3.2) (show (fldD x1 x2 x3).length ≤ 1000 from Nat.le_of_ble_eq_true rfl)
          refine ⟨p2, _, rfl, Dp.lst (SqL.of hp2) al, z1, z2, z3, z4, _, rfl, p, _, rfl, Dp.lst (SqL.of (sh _ _ hp')) al, z1, z2, z3, z4, rfl, _, rfl, ?_⟩
          refine iteNS rfl ?_
          exact ⟨_, _, _, _, _, _, _, b3, r3, rfl, Pc.same (scd.trans (sg.trans sh)), by omega, W3.kp (k1.trans (k2.trans (k3.trans kd)))⟩
    · rintro σ H3 ⟨c3, c4, c5, c6, c7, c8, c9, b, r, rfl, P3, hb, W3⟩
      intro e H4 s4 ne4 ex4
      refine ⟨e, He.ga K "RisingError", He.veBase, [], rfl, ex4, xR, mR, fun p H5 s5 hp => ?_⟩
      rw [bits_R hRn] at hp
      refine ⟨p, _, rfl, .inl (SqL.of hp), rfl, by decide +kernel, ?_⟩
      have z : inV (.bl true) (names.map fun _ => V.bl false) = false := by decide +kernel
      show Q (V.bl (!inV (.bl true) (names.map fun _ => V.bl false))) H5
      rw [z]
      exact k H5
end
end K97

set_option Elab.async false
set_option linter.all false
set_option maxRecDepth 100000
set_option maxHeartbeats 0
namespace K97
open PySem PySem.Spec PyProof.Rows L2 Ru
theorem run (w : World) : HandSHeadRun.RunEq R (PySem.W.view R.prog [43]) hk ob 9000 loose w := by
  intro os
  kernel_rfl
end K97

set_option Elab.async false
set_option linter.all false
set_option maxRecDepth 100000
set_option maxHeartbeats 4000000
namespace K97
open PySem PySem.Spec PyProof.Rows L2 Ru
section
variable {P : Program} {w : World} {K : PySem.W.Frag} {mg : Str → Option Value} {base h : Heap}
theorem ex_parts (hx : ex K = true) : exAllB K = true ∧ exKB K (He.ga K "RisingError") = true ∧ mroR K (He.ga K "RisingError") = true ∧ (∀ n ∈ names, exKB K (He.ga K n) = true ∧ mroB K (He.ga K "RisingError") (He.ga K n) = true) ∧
    (∀ q ∈ ownN, oexB K (He.ga K q.1) = true ∧ ∀ f ∈ q.2, PySem.W.findIn K (.ref (He.ga K q.1)) f = some none) ∧ nodupB (He.ga K "RisingError" :: names.map (He.ga K)) = true := by
  unfold ex at hx
  rw [Bool.and_eq_true, Bool.and_eq_true, Bool.and_eq_true, Bool.and_eq_true, Bool.and_eq_true] at hx
  obtain ⟨⟨⟨⟨⟨h1, h2⟩, h3⟩, h4⟩, h5⟩, h6⟩ := hx
  refine ⟨h1, h2, h3, fun n hn => ?_, fun q hq => ?_, h6⟩
  · have z := List.all_eq_true.mp h4 n hn
    exact Bool.and_eq_true_iff.mp z
  · have z := List.all_eq_true.mp h5 q hq
    obtain ⟨z1, z2⟩ := Bool.and_eq_true_iff.mp z
    exact ⟨z1, fun f hf => He.eqO_ok (List.all_eq_true.mp z2 f hf)⟩
theorem own_at (hx : ex K = true) {i : Nat} {n : Str} {fs : List Str} (hi : ownN[i]? = some (n, fs)) : oexB K (He.ga K n) = true ∧ ∀ f ∈ fs, PySem.W.findIn K (.ref (He.ga K n)) f = some none :=
  (ex_parts hx).2.2.2.2.1 (n, fs) (List.mem_of_getElem? hi)
theorem mk_NoNumeral (c : He.SaysD fa fn K) (hx : ex K = true) (X : K.In h) (G : h.Ns mainGlobals mg) : MkX P w K mg base "NoNumeral" ["at"] := by
  obtain ⟨o1, o2⟩ := own_at hx (i := 0) (n := "NoNumeral") (fs := ["at"]) rfl
  obtain ⟨T, iC, tI⟩ := oexB_ok o1
  obtain ⟨fd, F⟩ := c.def_ 6 (d := dNoNumeral) rfl
  have F' : FunD K "__init__" "NoNumeral.__init__" (defArgs sNoNumeral) (defBody sNoNumeral) (defScope sNoNumeral) [] [] (He.ma K (He.ga K "NoNumeral") "__init__") fd := F
  exact ⟨T, iC, tI, o2, He.glo_ok X G (c.fact 28 (f := .glo "NoNumeral") rfl), fd, ini1 F' ⟨rfl, rfl, rfl, by decide +kernel, rfl, by decide +kernel, by decide +kernel⟩ (Or.inl rfl) (Or.inl rfl), F'.bindsN fun _ _ _ _ _ _ us hl => match us, hl with | [_, _], _ => rfl⟩
theorem mk_NoPlace (c : He.SaysD fa fn K) (hx : ex K = true) (X : K.In h) (G : h.Ns mainGlobals mg) : MkX P w K mg base "NoPlace" ["place"] := by
  obtain ⟨o1, o2⟩ := own_at hx (i := 1) (n := "NoPlace") (fs := ["place"]) rfl
  obtain ⟨T, iC, tI⟩ := oexB_ok o1
  obtain ⟨fd, F⟩ := c.def_ 7 (d := dNoPlace) rfl
  have F' : FunD K "__init__" "NoPlace.__init__" (defArgs sNoPlace) (defBody sNoPlace) (defScope sNoPlace) [] [] (He.ma K (He.ga K "NoPlace") "__init__") fd := F
  exact ⟨T, iC, tI, o2, He.glo_ok X G (c.fact 29 (f := .glo "NoPlace") rfl), fd, ini1 F' ⟨rfl, rfl, rfl, by decide +kernel, rfl, by decide +kernel, by decide +kernel⟩ (Or.inl rfl) (Or.inl rfl), F'.bindsN fun _ _ _ _ _ _ us hl => match us, hl with | [_, _], _ => rfl⟩
theorem mk_Overflow (c : He.SaysD fa fn K) (hx : ex K = true) (X : K.In h) (G : h.Ns mainGlobals mg) : MkX P w K mg base "Overflow" ["value"] := by
  obtain ⟨o1, o2⟩ := own_at hx (i := 2) (n := "Overflow") (fs := ["value"]) rfl
  obtain ⟨T, iC, tI⟩ := oexB_ok o1
  obtain ⟨fd, F⟩ := c.def_ 8 (d := dOverflow) rfl
  have F' : FunD K "__init__" "Overflow.__init__" (defArgs sOverflow) (defBody sOverflow) (defScope sOverflow) [] [] (He.ma K (He.ga K "Overflow") "__init__") fd := F
  exact ⟨T, iC, tI, o2, He.glo_ok X G (c.fact 30 (f := .glo "Overflow") rfl), fd, ini1 F' ⟨rfl, rfl, rfl, by decide +kernel, rfl, by decide +kernel, by decide +kernel⟩ (Or.inl rfl) (Or.inl rfl), F'.bindsN fun _ _ _ _ _ _ us hl => match us, hl with | [_, _], _ => rfl⟩
theorem mk_NoText (c : He.SaysD fa fn K) (hx : ex K = true) (X : K.In h) (G : h.Ns mainGlobals mg) : MkX P w K mg base "NoText" ["at"] := by
  obtain ⟨o1, o2⟩ := own_at hx (i := 3) (n := "NoText") (fs := ["at"]) rfl
  obtain ⟨T, iC, tI⟩ := oexB_ok o1
  obtain ⟨fd, F⟩ := c.def_ 9 (d := dNoText) rfl
  have F' : FunD K "__init__" "NoText.__init__" (defArgs sNoText) (defBody sNoText) (defScope sNoText) [] [] (He.ma K (He.ga K "NoText") "__init__") fd := F
  exact ⟨T, iC, tI, o2, He.glo_ok X G (c.fact 33 (f := .glo "NoText") rfl), fd, ini1 F' ⟨rfl, rfl, rfl, by decide +kernel, rfl, by decide +kernel, by decide +kernel⟩ (Or.inl rfl) (Or.inl rfl), F'.bindsN fun _ _ _ _ _ _ us hl => match us, hl with | [_, _], _ => rfl⟩
theorem mk_TooMany (c : He.SaysD fa fn K) (hx : ex K = true) (X : K.In h) (G : h.Ns mainGlobals mg) : MkX P w K mg base "TooMany" ["most"] := by
  obtain ⟨o1, o2⟩ := own_at hx (i := 4) (n := "TooMany") (fs := ["most"]) rfl
  obtain ⟨T, iC, tI⟩ := oexB_ok o1
  obtain ⟨fd, F⟩ := c.def_ 10 (d := dTooMany) rfl
  have F' : FunD K "__init__" "TooMany.__init__" (defArgs sTooMany) (defBody sTooMany) (defScope sTooMany) [] [] (He.ma K (He.ga K "TooMany") "__init__") fd := F
  exact ⟨T, iC, tI, o2, He.glo_ok X G (c.fact 35 (f := .glo "TooMany") rfl), fd, ini1 F' ⟨rfl, rfl, rfl, by decide +kernel, rfl, by decide +kernel, by decide +kernel⟩ (Or.inl rfl) (Or.inl rfl), F'.bindsN fun _ _ _ _ _ _ us hl => match us, hl with | [_, _], _ => rfl⟩
theorem mk_NoScheme (c : He.SaysD fa fn K) (hx : ex K = true) (X : K.In h) (G : h.Ns mainGlobals mg) : MkX P w K mg base "NoScheme" ["part", "at"] := by
  obtain ⟨o1, o2⟩ := own_at hx (i := 5) (n := "NoScheme") (fs := ["part", "at"]) rfl
  obtain ⟨T, iC, tI⟩ := oexB_ok o1
  obtain ⟨fd, F⟩ := c.def_ 11 (d := dNoScheme) rfl
  have F' : FunD K "__init__" "NoScheme.__init__" (defArgs sNoScheme) (defBody sNoScheme) (defScope sNoScheme) [] [] (He.ma K (He.ga K "NoScheme") "__init__") fd := F
  exact ⟨T, iC, tI, o2, He.glo_ok X G (c.fact 36 (f := .glo "NoScheme") rfl), fd, ini2 F' ⟨rfl, rfl, rfl, by decide +kernel, rfl, by decide +kernel, by decide +kernel⟩ (Or.inl rfl) (Or.inl rfl) (Or.inl rfl), F'.bindsN fun _ _ _ _ _ _ us hl => match us, hl with | [_, _, _], _ => rfl⟩
theorem mk_NoPlan (c : He.SaysD fa fn K) (hx : ex K = true) (X : K.In h) (G : h.Ns mainGlobals mg) : MkX P w K mg base "NoPlan" ["part", "at"] := by
  obtain ⟨o1, o2⟩ := own_at hx (i := 6) (n := "NoPlan") (fs := ["part", "at"]) rfl
  obtain ⟨T, iC, tI⟩ := oexB_ok o1
  obtain ⟨fd, F⟩ := c.def_ 12 (d := dNoPlan) rfl
  have F' : FunD K "__init__" "NoPlan.__init__" (defArgs sNoPlan) (defBody sNoPlan) (defScope sNoPlan) [] [] (He.ma K (He.ga K "NoPlan") "__init__") fd := F
  exact ⟨T, iC, tI, o2, He.glo_ok X G (c.fact 37 (f := .glo "NoPlan") rfl), fd, ini2 F' ⟨rfl, rfl, rfl, by decide +kernel, rfl, by decide +kernel, by decide +kernel⟩ (Or.inl rfl) (Or.inl rfl) (Or.inl rfl), F'.bindsN fun _ _ _ _ _ _ us hl => match us, hl with | [_, _, _], _ => rfl⟩
theorem mk_NoPromise (c : He.SaysD fa fn K) (hx : ex K = true) (X : K.In h) (G : h.Ns mainGlobals mg) : MkX P w K mg base "NoPromise" ["promise"] := by
  obtain ⟨o1, o2⟩ := own_at hx (i := 7) (n := "NoPromise") (fs := ["promise"]) rfl
  obtain ⟨T, iC, tI⟩ := oexB_ok o1
  obtain ⟨fd, F⟩ := c.def_ 13 (d := dNoPromise) rfl
  have F' : FunD K "__init__" "NoPromise.__init__" (defArgs sNoPromise) (defBody sNoPromise) (defScope sNoPromise) [] [] (He.ma K (He.ga K "NoPromise") "__init__") fd := F
  exact ⟨T, iC, tI, o2, He.glo_ok X G (c.fact 38 (f := .glo "NoPromise") rfl), fd, ini1 F' ⟨rfl, rfl, rfl, by decide +kernel, rfl, by decide +kernel, by decide +kernel⟩ (Or.inl rfl) (Or.inl rfl), F'.bindsN fun _ _ _ _ _ _ us hl => match us, hl with | [_, _], _ => rfl⟩
theorem mk_NoName (c : He.SaysD fa fn K) (hx : ex K = true) (X : K.In h) (G : h.Ns mainGlobals mg) : MkX P w K mg base "NoName" ["name"] := by
  obtain ⟨o1, o2⟩ := own_at hx (i := 8) (n := "NoName") (fs := ["name"]) rfl
  obtain ⟨T, iC, tI⟩ := oexB_ok o1
  obtain ⟨fd, F⟩ := c.def_ 14 (d := dNoName) rfl
  have F' : FunD K "__init__" "NoName.__init__" (defArgs sNoName) (defBody sNoName) (defScope sNoName) [] [] (He.ma K (He.ga K "NoName") "__init__") fd := F
  exact ⟨T, iC, tI, o2, He.glo_ok X G (c.fact 39 (f := .glo "NoName") rfl), fd, ini1 F' ⟨rfl, rfl, rfl, by decide +kernel, rfl, by decide +kernel, by decide +kernel⟩ (Or.inl rfl) (Or.inl rfl), F'.bindsN fun _ _ _ _ _ _ us hl => match us, hl with | [_, _], _ => rfl⟩
theorem mk_NoBases (c : He.SaysD fa fn K) (hx : ex K = true) (X : K.In h) (G : h.Ns mainGlobals mg) : MkX P w K mg base "NoBases" ["name"] := by
  obtain ⟨o1, o2⟩ := own_at hx (i := 9) (n := "NoBases") (fs := ["name"]) rfl
  obtain ⟨T, iC, tI⟩ := oexB_ok o1
  obtain ⟨fd, F⟩ := c.def_ 15 (d := dNoBases) rfl
  have F' : FunD K "__init__" "NoBases.__init__" (defArgs sNoBases) (defBody sNoBases) (defScope sNoBases) [] [] (He.ma K (He.ga K "NoBases") "__init__") fd := F
  exact ⟨T, iC, tI, o2, He.glo_ok X G (c.fact 41 (f := .glo "NoBases") rfl), fd, ini1 F' ⟨rfl, rfl, rfl, by decide +kernel, rfl, by decide +kernel, by decide +kernel⟩ (Or.inl rfl) (Or.inl rfl), F'.bindsN fun _ _ _ _ _ _ us hl => match us, hl with | [_, _], _ => rfl⟩
theorem mk_NoVersion (c : He.SaysD fa fn K) (hx : ex K = true) (X : K.In h) (G : h.Ns mainGlobals mg) : MkX P w K mg base "NoVersion" ["name"] := by
  obtain ⟨o1, o2⟩ := own_at hx (i := 10) (n := "NoVersion") (fs := ["name"]) rfl
  obtain ⟨T, iC, tI⟩ := oexB_ok o1
  obtain ⟨fd, F⟩ := c.def_ 16 (d := dNoVersion) rfl
  have F' : FunD K "__init__" "NoVersion.__init__" (defArgs sNoVersion) (defBody sNoVersion) (defScope sNoVersion) [] [] (He.ma K (He.ga K "NoVersion") "__init__") fd := F
  exact ⟨T, iC, tI, o2, He.glo_ok X G (c.fact 42 (f := .glo "NoVersion") rfl), fd, ini1 F' ⟨rfl, rfl, rfl, by decide +kernel, rfl, by decide +kernel, by decide +kernel⟩ (Or.inl rfl) (Or.inl rfl), F'.bindsN fun _ _ _ _ _ _ us hl => match us, hl with | [_, _], _ => rfl⟩
theorem mk_Fallen (c : He.SaysD fa fn K) (hx : ex K = true) (X : K.In h) (G : h.Ns mainGlobals mg) : MkX P w K mg base "Fallen" ["name", "place"] := by
  obtain ⟨o1, o2⟩ := own_at hx (i := 11) (n := "Fallen") (fs := ["name", "place"]) rfl
  obtain ⟨T, iC, tI⟩ := oexB_ok o1
  obtain ⟨fd, F⟩ := c.def_ 17 (d := dFallen) rfl
  have F' : FunD K "__init__" "Fallen.__init__" (defArgs sFallen) (defBody sFallen) (defScope sFallen) [] [] (He.ma K (He.ga K "Fallen") "__init__") fd := F
  exact ⟨T, iC, tI, o2, He.glo_ok X G (c.fact 43 (f := .glo "Fallen") rfl), fd, ini2 F' ⟨rfl, rfl, rfl, by decide +kernel, rfl, by decide +kernel, by decide +kernel⟩ (Or.inl rfl) (Or.inl rfl) (Or.inl rfl), F'.bindsN fun _ _ _ _ _ _ us hl => match us, hl with | [_, _, _], _ => rfl⟩
theorem mk_BadRun (c : He.SaysD fa fn K) (hx : ex K = true) (X : K.In h) (G : h.Ns mainGlobals mg) : MkX P w K mg base "BadRun" ["part", "at"] := by
  obtain ⟨o1, o2⟩ := own_at hx (i := 12) (n := "BadRun") (fs := ["part", "at"]) rfl
  obtain ⟨T, iC, tI⟩ := oexB_ok o1
  obtain ⟨fd, F⟩ := c.def_ 18 (d := dBadRun) rfl
  have F' : FunD K "__init__" "BadRun.__init__" (defArgs sBadRun) (defBody sBadRun) (defScope sBadRun) [] [] (He.ma K (He.ga K "BadRun") "__init__") fd := F
  exact ⟨T, iC, tI, o2, He.glo_ok X G (c.fact 49 (f := .glo "BadRun") rfl), fd, ini2 F' ⟨rfl, rfl, rfl, by decide +kernel, rfl, by decide +kernel, by decide +kernel⟩ (Or.inl rfl) (Or.inl rfl) (Or.inl rfl), F'.bindsN fun _ _ _ _ _ _ us hl => match us, hl with | [_, _, _], _ => rfl⟩
theorem mk_Unheard (c : He.SaysD fa fn K) (hx : ex K = true) (X : K.In h) (G : h.Ns mainGlobals mg) : MkX P w K mg base "Unheard" ["missing"] := by
  obtain ⟨o1, o2⟩ := own_at hx (i := 13) (n := "Unheard") (fs := ["missing"]) rfl
  obtain ⟨T, iC, tI⟩ := oexB_ok o1
  obtain ⟨fd, F⟩ := c.def_ 19 (d := dUnheard) rfl
  have F' : FunD K "__init__" "Unheard.__init__" (defArgs sUnheard) (defBody sUnheard) (defScope sUnheard) [] [] (He.ma K (He.ga K "Unheard") "__init__") fd := F
  exact ⟨T, iC, tI, o2, He.glo_ok X G (c.fact 51 (f := .glo "Unheard") rfl), fd, ini1 F' ⟨rfl, rfl, rfl, by decide +kernel, rfl, by decide +kernel, by decide +kernel⟩ (Or.inl rfl) (Or.inl rfl), F'.bindsN fun _ _ _ _ _ _ us hl => match us, hl with | [_, _], _ => rfl⟩
theorem mk_NoReading (c : He.SaysD fa fn K) (hx : ex K = true) (X : K.In h) (G : h.Ns mainGlobals mg) : MkX P w K mg base "NoReading" ["reading"] := by
  obtain ⟨o1, o2⟩ := own_at hx (i := 14) (n := "NoReading") (fs := ["reading"]) rfl
  obtain ⟨T, iC, tI⟩ := oexB_ok o1
  obtain ⟨fd, F⟩ := c.def_ 20 (d := dNoReading) rfl
  have F' : FunD K "__init__" "NoReading.__init__" (defArgs sNoReading) (defBody sNoReading) (defScope sNoReading) [] [] (He.ma K (He.ga K "NoReading") "__init__") fd := F
  exact ⟨T, iC, tI, o2, He.glo_ok X G (c.fact 52 (f := .glo "NoReading") rfl), fd, ini1 F' ⟨rfl, rfl, rfl, by decide +kernel, rfl, by decide +kernel, by decide +kernel⟩ (Or.inl rfl) (Or.inl rfl), F'.bindsN fun _ _ _ _ _ _ us hl => match us, hl with | [_, _], _ => rfl⟩
theorem mk_NotSeen (c : He.SaysD fa fn K) (hx : ex K = true) (X : K.In h) (G : h.Ns mainGlobals mg) : MkX P w K mg base "NotSeen" ["one", "other"] := by
  obtain ⟨o1, o2⟩ := own_at hx (i := 15) (n := "NotSeen") (fs := ["one", "other"]) rfl
  obtain ⟨T, iC, tI⟩ := oexB_ok o1
  obtain ⟨fd, F⟩ := c.def_ 21 (d := dNotSeen) rfl
  have F' : FunD K "__init__" "NotSeen.__init__" (defArgs sNotSeen) (defBody sNotSeen) (defScope sNotSeen) [] [] (He.ma K (He.ga K "NotSeen") "__init__") fd := F
  exact ⟨T, iC, tI, o2, He.glo_ok X G (c.fact 54 (f := .glo "NotSeen") rfl), fd, ini2 F' ⟨rfl, rfl, rfl, by decide +kernel, rfl, by decide +kernel, by decide +kernel⟩ (Or.inl rfl) (Or.inl rfl) (Or.inl rfl), F'.bindsN fun _ _ _ _ _ _ us hl => match us, hl with | [_, _, _], _ => rfl⟩
theorem mk_NotMoments (c : He.SaysD fa fn K) (hx : ex K = true) (X : K.In h) (G : h.Ns mainGlobals mg) : MkX P w K mg base "NotMoments" ["at"] := by
  obtain ⟨o1, o2⟩ := own_at hx (i := 16) (n := "NotMoments") (fs := ["at"]) rfl
  obtain ⟨T, iC, tI⟩ := oexB_ok o1
  obtain ⟨fd, F⟩ := c.def_ 22 (d := dNotMoments) rfl
  have F' : FunD K "__init__" "NotMoments.__init__" (defArgs sNotMoments) (defBody sNotMoments) (defScope sNotMoments) [] [] (He.ma K (He.ga K "NotMoments") "__init__") fd := F
  exact ⟨T, iC, tI, o2, He.glo_ok X G (c.fact 55 (f := .glo "NotMoments") rfl), fd, ini1 F' ⟨rfl, rfl, rfl, by decide +kernel, rfl, by decide +kernel, by decide +kernel⟩ (Or.inl rfl) (Or.inl rfl), F'.bindsN fun _ _ _ _ _ _ us hl => match us, hl with | [_, _], _ => rfl⟩
theorem mk_NotEvents (c : He.SaysD fa fn K) (hx : ex K = true) (X : K.In h) (G : h.Ns mainGlobals mg) : MkX P w K mg base "NotEvents" ["at"] := by
  obtain ⟨o1, o2⟩ := own_at hx (i := 17) (n := "NotEvents") (fs := ["at"]) rfl
  obtain ⟨T, iC, tI⟩ := oexB_ok o1
  obtain ⟨fd, F⟩ := c.def_ 23 (d := dNotEvents) rfl
  have F' : FunD K "__init__" "NotEvents.__init__" (defArgs sNotEvents) (defBody sNotEvents) (defScope sNotEvents) [] [] (He.ma K (He.ga K "NotEvents") "__init__") fd := F
  exact ⟨T, iC, tI, o2, He.glo_ok X G (c.fact 56 (f := .glo "NotEvents") rfl), fd, ini1 F' ⟨rfl, rfl, rfl, by decide +kernel, rfl, by decide +kernel, by decide +kernel⟩ (Or.inl rfl) (Or.inl rfl), F'.bindsN fun _ _ _ _ _ _ us hl => match us, hl with | [_, _], _ => rfl⟩
theorem mk_NoRight (c : He.SaysD fa fn K) (hx : ex K = true) (X : K.In h) (G : h.Ns mainGlobals mg) : MkX P w K mg base "NoRight" ["at"] := by
  obtain ⟨o1, o2⟩ := own_at hx (i := 18) (n := "NoRight") (fs := ["at"]) rfl
  obtain ⟨T, iC, tI⟩ := oexB_ok o1
  obtain ⟨fd, F⟩ := c.def_ 24 (d := dNoRight) rfl
  have F' : FunD K "__init__" "NoRight.__init__" (defArgs sNoRight) (defBody sNoRight) (defScope sNoRight) [] [] (He.ma K (He.ga K "NoRight") "__init__") fd := F
  exact ⟨T, iC, tI, o2, He.glo_ok X G (c.fact 57 (f := .glo "NoRight") rfl), fd, ini1 F' ⟨rfl, rfl, rfl, by decide +kernel, rfl, by decide +kernel, by decide +kernel⟩ (Or.inl rfl) (Or.inl rfl), F'.bindsN fun _ _ _ _ _ _ us hl => match us, hl with | [_, _], _ => rfl⟩
theorem mk_NotForced (c : He.SaysD fa fn K) (hx : ex K = true) (X : K.In h) (G : h.Ns mainGlobals mg) : MkX P w K mg base "NotForced" ["place", "x", "y"] := by
  obtain ⟨o1, o2⟩ := own_at hx (i := 19) (n := "NotForced") (fs := ["place", "x", "y"]) rfl
  obtain ⟨T, iC, tI⟩ := oexB_ok o1
  obtain ⟨fd, F⟩ := c.def_ 25 (d := dNotForced) rfl
  have F' : FunD K "__init__" "NotForced.__init__" (defArgs sNotForced) (defBody sNotForced) (defScope sNotForced) [] [] (He.ma K (He.ga K "NotForced") "__init__") fd := F
  exact ⟨T, iC, tI, o2, He.glo_ok X G (c.fact 58 (f := .glo "NotForced") rfl), fd, ini3 F' ⟨rfl, rfl, rfl, by decide +kernel, rfl, by decide +kernel, by decide +kernel⟩ (Or.inl rfl) (Or.inl rfl) (Or.inl rfl) (Or.inl rfl), F'.bindsN fun _ _ _ _ _ _ us hl => match us, hl with | [_, _, _, _], _ => rfl⟩
theorem mk_BadStep (c : He.SaysD fa fn K) (hx : ex K = true) (X : K.In h) (G : h.Ns mainGlobals mg) : MkX P w K mg base "BadStep" ["at"] := by
  obtain ⟨o1, o2⟩ := own_at hx (i := 20) (n := "BadStep") (fs := ["at"]) rfl
  obtain ⟨T, iC, tI⟩ := oexB_ok o1
  obtain ⟨fd, F⟩ := c.def_ 26 (d := dBadStep) rfl
  have F' : FunD K "__init__" "BadStep.__init__" (defArgs sBadStep) (defBody sBadStep) (defScope sBadStep) [] [] (He.ma K (He.ga K "BadStep") "__init__") fd := F
  exact ⟨T, iC, tI, o2, He.glo_ok X G (c.fact 59 (f := .glo "BadStep") rfl), fd, ini1 F' ⟨rfl, rfl, rfl, by decide +kernel, rfl, by decide +kernel, by decide +kernel⟩ (Or.inl rfl) (Or.inl rfl), F'.bindsN fun _ _ _ _ _ _ us hl => match us, hl with | [_, _], _ => rfl⟩
theorem mk_NoMark (c : He.SaysD fa fn K) (hx : ex K = true) (X : K.In h) (G : h.Ns mainGlobals mg) : MkX P w K mg base "NoMark" ["name"] := by
  obtain ⟨o1, o2⟩ := own_at hx (i := 21) (n := "NoMark") (fs := ["name"]) rfl
  obtain ⟨T, iC, tI⟩ := oexB_ok o1
  obtain ⟨fd, F⟩ := c.def_ 27 (d := dNoMark) rfl
  have F' : FunD K "__init__" "NoMark.__init__" (defArgs sNoMark) (defBody sNoMark) (defScope sNoMark) [] [] (He.ma K (He.ga K "NoMark") "__init__") fd := F
  exact ⟨T, iC, tI, o2, He.glo_ok X G (c.fact 60 (f := .glo "NoMark") rfl), fd, ini1 F' ⟨rfl, rfl, rfl, by decide +kernel, rfl, by decide +kernel, by decide +kernel⟩ (Or.inl rfl) (Or.inl rfl), F'.bindsN fun _ _ _ _ _ _ us hl => match us, hl with | [_, _], _ => rfl⟩
theorem mk_BadText (c : He.SaysD fa fn K) (hx : ex K = true) (X : K.In h) (G : h.Ns mainGlobals mg) : MkX P w K mg base "BadText" ["line", "word"] := by
  obtain ⟨o1, o2⟩ := own_at hx (i := 22) (n := "BadText") (fs := ["line", "word"]) rfl
  obtain ⟨T, iC, tI⟩ := oexB_ok o1
  obtain ⟨fd, F⟩ := c.def_ 28 (d := dBadText) rfl
  have F' : FunD K "__init__" "BadText.__init__" (defArgs sBadText) (defBody sBadText) (defScope sBadText) [] [] (He.ma K (He.ga K "BadText") "__init__") fd := F
  exact ⟨T, iC, tI, o2, He.glo_ok X G (c.fact 61 (f := .glo "BadText") rfl), fd, ini2 F' ⟨rfl, rfl, rfl, by decide +kernel, rfl, by decide +kernel, by decide +kernel⟩ (Or.inl rfl) (Or.inl rfl) (Or.inl rfl), F'.bindsN fun _ _ _ _ _ _ us hl => match us, hl with | [_, _, _], _ => rfl⟩
theorem mk_Unlike (c : He.SaysD fa fn K) (X : K.In h) (G : h.Ns mainGlobals mg) : MkB K mg "Unlike" := by
  obtain ⟨a, b, _, _⟩ := He.exc_ok (c.fact 15 (f := .exc "Unlike") rfl)
  exact ⟨a, b, He.glo_ok X G (c.fact 31 (f := .glo "Unlike") rfl)⟩
theorem mk_NoDivisor (c : He.SaysD fa fn K) (X : K.In h) (G : h.Ns mainGlobals mg) : MkB K mg "NoDivisor" := by
  obtain ⟨a, b, _, _⟩ := He.exc_ok (c.fact 16 (f := .exc "NoDivisor") rfl)
  exact ⟨a, b, He.glo_ok X G (c.fact 32 (f := .glo "NoDivisor") rfl)⟩
theorem mk_NoOrder (c : He.SaysD fa fn K) (X : K.In h) (G : h.Ns mainGlobals mg) : MkB K mg "NoOrder" := by
  obtain ⟨a, b, _, _⟩ := He.exc_ok (c.fact 17 (f := .exc "NoOrder") rfl)
  exact ⟨a, b, He.glo_ok X G (c.fact 34 (f := .glo "NoOrder") rfl)⟩
theorem mk_NoLook (c : He.SaysD fa fn K) (X : K.In h) (G : h.Ns mainGlobals mg) : MkB K mg "NoLook" := by
  obtain ⟨a, b, _, _⟩ := He.exc_ok (c.fact 18 (f := .exc "NoLook") rfl)
  exact ⟨a, b, He.glo_ok X G (c.fact 40 (f := .glo "NoLook") rfl)⟩
theorem mk_Busy (c : He.SaysD fa fn K) (X : K.In h) (G : h.Ns mainGlobals mg) : MkB K mg "Busy" := by
  obtain ⟨a, b, _, _⟩ := He.exc_ok (c.fact 19 (f := .exc "Busy") rfl)
  exact ⟨a, b, He.glo_ok X G (c.fact 44 (f := .glo "Busy") rfl)⟩
theorem mk_Idle (c : He.SaysD fa fn K) (X : K.In h) (G : h.Ns mainGlobals mg) : MkB K mg "Idle" := by
  obtain ⟨a, b, _, _⟩ := He.exc_ok (c.fact 20 (f := .exc "Idle") rfl)
  exact ⟨a, b, He.glo_ok X G (c.fact 45 (f := .glo "Idle") rfl)⟩
theorem mk_Held (c : He.SaysD fa fn K) (X : K.In h) (G : h.Ns mainGlobals mg) : MkB K mg "Held" := by
  obtain ⟨a, b, _, _⟩ := He.exc_ok (c.fact 21 (f := .exc "Held") rfl)
  exact ⟨a, b, He.glo_ok X G (c.fact 46 (f := .glo "Held") rfl)⟩
theorem mk_NoCells (c : He.SaysD fa fn K) (X : K.In h) (G : h.Ns mainGlobals mg) : MkB K mg "NoCells" := by
  obtain ⟨a, b, _, _⟩ := He.exc_ok (c.fact 22 (f := .exc "NoCells") rfl)
  exact ⟨a, b, He.glo_ok X G (c.fact 47 (f := .glo "NoCells") rfl)⟩
theorem mk_NoCell (c : He.SaysD fa fn K) (X : K.In h) (G : h.Ns mainGlobals mg) : MkB K mg "NoCell" := by
  obtain ⟨a, b, _, _⟩ := He.exc_ok (c.fact 23 (f := .exc "NoCell") rfl)
  exact ⟨a, b, He.glo_ok X G (c.fact 48 (f := .glo "NoCell") rfl)⟩
theorem mk_Spent (c : He.SaysD fa fn K) (X : K.In h) (G : h.Ns mainGlobals mg) : MkB K mg "Spent" := by
  obtain ⟨a, b, _, _⟩ := He.exc_ok (c.fact 24 (f := .exc "Spent") rfl)
  exact ⟨a, b, He.glo_ok X G (c.fact 50 (f := .glo "Spent") rfl)⟩
theorem mk_NotPattern (c : He.SaysD fa fn K) (X : K.In h) (G : h.Ns mainGlobals mg) : MkB K mg "NotPattern" := by
  obtain ⟨a, b, _, _⟩ := He.exc_ok (c.fact 25 (f := .exc "NotPattern") rfl)
  exact ⟨a, b, He.glo_ok X G (c.fact 53 (f := .glo "NotPattern") rfl)⟩
theorem mk_NoLine (c : He.SaysD fa fn K) (X : K.In h) (G : h.Ns mainGlobals mg) : MkB K mg "NoLine" := by
  obtain ⟨a, b, _, _⟩ := He.exc_ok (c.fact 26 (f := .exc "NoLine") rfl)
  exact ⟨a, b, He.glo_ok X G (c.fact 62 (f := .glo "NoLine") rfl)⟩
theorem facts {f : Addr} (X : K.In h) (G : h.Ns mainGlobals mg) (hfa : mg ("law" : Str) = some (.ref f)) (c : He.SaysD fa fn K) (hx : ex K = true) :
    ∃ fd : FuncData, (∀ (s : Shared) (v : Value), BindsTo s fd ⟨[v], []⟩ [("_law_script", v)]) ∧ ∀ base : Heap, K.In base → base.Ns mainGlobals mg → FnG P w K mg base CX0 4 f fd ["_law_script"] (spLaw K) := by
  obtain ⟨e1, e2, e3, e4, _, e6⟩ := ex_parts hx
  obtain ⟨fdP, FP⟩ := c.def_ 0 (d := dPen) rfl
  obtain ⟨fdT, FT⟩ := c.def_ 1 (d := dTake) rfl
  obtain ⟨fdM, FM⟩ := c.def_ 2 (d := dMade) rfl
  obtain ⟨fdK, FK⟩ := c.def_ 3 (d := dKinds) rfl
  obtain ⟨fdF, FF⟩ := c.def_ 4 (d := dFields) rfl
  obtain ⟨fd, F⟩ := c.def_ 5 (d := dLaw) rfl
  have e := hfa.symm.trans (He.glo_ok X G (c.fact 5 (f := .glo "law") rfl))
  cases e
  have b := FunD.bindsA (ps := ["_law_script"]) F fun _ _ _ _ _ _ us hl => match us, hl with | [_], _ => rfl
  refine ⟨fd, fun s v => b s [v] rfl, fun base _ _ => ?_⟩
  obtain ⟨q1, q2, _, _⟩ := He.exc_ok (c.fact 27 (f := .exc "RisingError") rfl)
  have m3 := Bool.and_eq_true_iff.mp e3
  have T2 : Cl2 K := by
    refine ⟨fun i n hn => exKB_ok e1 (e4 n (List.mem_of_getElem? hn)).1, fun i n hn => ?_, fun i n hn => ?_⟩
    · exact of_decide_eq_true (Bool.and_eq_true_iff.mp (e4 n (List.mem_of_getElem? hn)).2).1
    · exact of_decide_eq_true (Bool.and_eq_true_iff.mp (e4 n (List.mem_of_getElem? hn)).2).2
  exact ok_law F FT FP FM FK FF (He.glo_ok X G (c.fact 1 (f := .glo "_law_take") rfl)) (He.glo_ok X G (c.fact 0 (f := .glo "_law_pen") rfl)) (He.glo_ok X G (c.fact 2 (f := .glo "_law_made") rfl)) (He.glo_ok X G (c.fact 3 (f := .glo "_law_kinds") rfl))
    (He.glo_ok X G (c.fact 4 (f := .glo "_law_fields") rfl)) ⟨mk_NoNumeral c hx X G, mk_NoPlace c hx X G, mk_Overflow c hx X G, mk_Unlike c X G, mk_NoDivisor c X G, mk_NoText c hx X G, mk_NoOrder c X G, mk_TooMany c hx X G, mk_NoScheme c hx X G, mk_NoPlan c hx X G, mk_NoPromise c hx X G, mk_NoName c hx X G, mk_NoLook c X G, mk_NoBases c hx X G, mk_NoVersion c hx X G, mk_Fallen c hx X G, mk_Busy c X G, mk_Idle c X G, mk_Held c X G, mk_NoCells c X G, mk_NoCell c X G, mk_BadRun c hx X G, mk_Spent c X G, mk_Unheard c hx X G, mk_NoReading c hx X G, mk_NotPattern c X G, mk_NotSeen c hx X G, mk_NotMoments c hx X G, mk_NotEvents c hx X G, mk_NoRight c hx X G, mk_NotForced c hx X G, mk_BadStep c hx X G, mk_NoMark c hx X G, mk_BadText c hx X G, mk_NoLine c X G⟩ T2 (He.glo_ok X G (c.fact 6 (f := .glo "RisingError") rfl)) q2 q1 (exKB_ok e1 e2) (of_decide_eq_true m3.1) (of_decide_eq_true m3.2) (nodup_ok e6)
    (He.free_ok X G (c.fact 7 (f := .free "int") rfl)) (He.free_ok X G (c.fact 8 (f := .free "list") rfl)) (He.free_ok X G (c.fact 9 (f := .free "abs") rfl)) (He.free_ok X G (c.fact 10 (f := .free "len") rfl)) (He.free_ok X G (c.fact 11 (f := .free "range") rfl))
    (He.free_ok X G (c.fact 12 (f := .free "isinstance") rfl)) (He.free_ok X G (c.fact 13 (f := .free "repr") rfl)) (He.free_ok X G (c.fact 14 (f := .free "ValueError") rfl))
end
end K97
open PySem PySem.W PySem.Calls PyProof.Rows
theorem PySem.Challenge.cw_risingread_k97_errors_holds : PySem.Challenge.rw_risingread_k97_errors.Holds := by
  w_on; o_law
  refine HandSHeadRun.head_any (r := OpenLaw.row PySem.Challenge.rw_risingread_k97_errors) (q := view (OpenLaw.row PySem.Challenge.rw_risingread_k97_errors).prog [43]) (H := K97.hk) (ob := K97.ob) (M := 9000) (loose := K97.loose)
    (d := HandSHeadRun.topDef (OpenLaw.row PySem.Challenge.rw_risingread_k97_errors).prog 43) (kwd := []) K97.ob_eq (by kernel_rfl) (fun s => by kernel_rfl) K97.run (by kernel_rfl) (by kernel_rfl) (by kernel_rfl) (by rfl)
    (by first | assumption | decide +kernel) (by decide +kernel) ⟨rfl, rfl, rfl, rfl, rfl, by decide +kernel⟩ ?hw ?hc
  case hw => w_witness2
  case hc =>
    refine Ru.walkG (l := PySem.Challenge.rw_risingread_k97_errors) (n := 63) (k := 4) (x := "_law_script") rfl (by decide) (by kernel_rfl) ⟨rfl, by decide, by decide⟩ ?F
    intro w mg fa h Y G hmg0
    obtain ⟨K, KX, c, hx⟩ := Y
    have hmg : mg ("law" : PySem.Str) = some (.ref fa) := by
      have e : (HandSHeadRun.topDef (OpenLaw.row PySem.Challenge.rw_risingread_k97_errors).prog 43).name = ("law" : PySem.Str) := by kernel_rfl
      rw [← e]
      exact hmg0
    obtain ⟨fd, hb, hF⟩ := K97.facts (P := (PySem.Challenge.rw_risingread_k97_errors).prog) (w := w) KX G hmg c hx
    exact ⟨K, fd, K97.spLaw K, KX, hb, fun H a ns hl _ hS => ⟨a, ns, rfl, hS, hl, fun _ => rfl⟩, hF⟩

