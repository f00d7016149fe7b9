import PyProof.Rows.All
import Wide.All
import OpenK.AllK
import Wide.FinOn
import KE.KExcSuper
import HandS.ForExc
import HandS.ExcInit
import HandS.ExcValue
import KE.KExcStr
import PyProof.ReprReads
import PyProof.ReprLen
import PyProof.StrHeap
import HandS.Call
import HandS.IsInst
import KE.KExcIs
import HandS.ForMost
import HandS.Walk
import KE.GoesMore
import KE.GoesEnum
import PyProof.Draws
import HandS.TupLe
import HandS.Text
import HandS.Codes
import HandS.FStr
import HandS.List
import HandS.Base
import PyProof.CollectIter
import PyProof.Comp
import PyProof.Seq
import KE.KEqSeq
import KE.KDictPairs
import HandS.SortRule
import HandS.DictSub
import HandS.Conv
import HandS.TupAny
import HandS.ExcOwn
import HandS.Gcd
import HandS.TryOnly
import KE.KMathGC
import HandS.ExcIs
import HandS.SetFor
import PyProof.NeKinds
import HandS.Wide
import HandS.Ends
import PyProof.StrOps2
import HandS.Replace
import HandS.ReplaceLit
import HandS.Style
import PyProof.ToksMono
import PyProof.StrLawsRepr
import PySem.Challenge.RW_swapstops_k02_texts_of_nets
set_option Elab.async false
set_option linter.all false
set_option maxRecDepth 100000
set_option maxHeartbeats 4000000
namespace Sw
open PySem PySem.Spec PyProof.Rows PySem.W
/-- an exception's record -/
abbrev xRec (C : Addr) (d : Option Addr) (t : Addr) : Obj := { cls := .ref C, dict := d, data := .fields #[.ref t, .none, .none, .none, .bool false, .none] }
abbrev xTup (vs : List Value) : Obj := { cls := .type "tuple", data := .seq vs.toArray }
/-- what the written part says of an own exception's class over ValueError -/
structure XCls (K : Frag) (C : Addr) : Prop where
  cls : ∃ nm q N bs bm sn sub ab col dd k0 k1 k2 k3 k5, K.lookup C = some (excClassObj nm q C N bs bm true sn sub ab col dd k0 k1 k2 k3 k5 "ValueError.__new__") ∧ PySem.HandSPX.refsVE bm = true
  sa : findIn K (.ref C) "__setattr__" = some (some (.builtin "object.__setattr__"))
  opq : nsIn K cStatics "thirdparty.any" = some none
  kp : keepIn K (.ref C) = true
section
variable {P : Program} {w : World} {A : Around} {E : Value → Shared → Prop} {h : Heap} {g : Array GenState} {d : Drawn} {t : Nat} {os : OsState} {K : Frag} {C x : Addr}
/-- super().__init__ as it was bound, called: the args are laid anew -/
theorem bound_call (T : XCls K C) (X : K.In h) {u t0 : Addr} {dv : Option Addr} {rest : List Value} {Q : Value → Shared → Prop}
    (hu : h.get? u = some (kxs_mw "ValueError.__init__" x)) (hx : h.get? x = some (xRec C dv t0)) (hz : rest.length ≤ sizeLine)
    (hq : ∀ h' t1, (∀ b o, b ≠ x → h.get? b = some o → h'.get? b = some o) → h.get? t1 = none → t1 ≠ x → h'.get? x = some (xRec C dv t1) → h'.get? t1 = some (xTup rest) → Q .none ⟨h', g, d, t, os⟩) :
    wpAny (model P w) A (call (.ref u) rest) Q E ⟨h, g, d, t, os⟩ := by
  obtain ⟨nm, q, N, bs, bm, sn, sub, ab, col, dd, k0, k1, k2, k3, k5, hC, hbm⟩ := T.cls
  refine wpAny_call (codeAny_of_tree ?_)
  show wpAny _ A.in1 (callAny (.ref u) ⟨rest, []⟩) _ _ _
  simp only [callAny]
  refine wpAny_bind (wpAny_load hu ?_)
  simp only [kxs_mw, show (Value.type "method-wrapper" == Value.type "method" || Value.type "method-wrapper" == Value.type "builtin_function_or_method" || Value.type "method-wrapper" == Value.type "method-wrapper") = true by decide, if_true]
  refine KFB.if_so (by decide) ?_
  refine wpAny_bind (check_bound_init PySem.F.excBase_ValueError.toExcCallFacts (X _ _ hC) hx rfl ?_)
  refine wpAny_bind (wpAny_pure (wpAny_pure ?_))
  refine ⟨plainId_quiet PySem.F.excBase_ValueError.init.plain _, codeAny_builtin PySem.F.excBase_ValueError.initEntry ?_⟩
  refine exc_init_tree (cls := .ref C) (t0 := t0) (dv := dv) (c2 := .none) (c3 := .none) (b4 := .bool false) hx hz fun h' k e1 e2 => ?_
  refine hq h' h.objs.size k (Heap.get?_none_of_le (Nat.le_refl _)) (fun z => ?_) e1 e2
  rw [← z] at hx
  exact absurd (Heap.lt_size hx) (Nat.lt_irrefl _)
end
end Sw
namespace Sw
open PySem PySem.Spec PyProof.Rows PySem.W PySem.Calls
/-- the body that super().__init__(msg); self.fld = prm makes -/
abbrev initBody (msg fld prm : Str) (j : Nat) (p0 p1 p2 p3 p4 p5 p6 p7 p8 p9 : Pos) : List Stmt :=
  [.Expr (.Call (.Attribute (.Call (.Name "super" p0) [] [] p1) "__init__" p2) [.Constant (.str msg) j p3] [] p4) p5,
   .Assign [.Attribute (.Name "self" p6) fld p7] (.Name prm p8) p9]
theorem call_base {o : Expr} {name : Str} {apos pos : Pos} {e : Expr} {env : Env} (hl : (apos.endLine == pos.line) = true) (hs : starEach [e] env = [(false, eval e env)]) :
    eval (.Call (.Attribute o name apos) [e] [] pos) env = (do
      let ov ← attributeBase o name env (eval o env)
      standAt apos.atName
      let (f, first) ← holding [ov] (getMethod ov name (do return (← importBound o env).getD true))
      callWith pos f first (backTo pos (starEach [e] env)) []) := by
  have e2 : methodCallPos true o env apos pos = pure pos := by
    unfold methodCallPos
    rw [hl]
    rfl
  show (do
    let ov ← attributeBase o name env (eval o env)
    standAt apos.atName
    methodCall o name apos pos env ov 1 (backTo pos (starEach [e] env)) (backToKw pos (keywordEach [] env))) = _
  unfold methodCall
  rw [hs]
  show (do
    let ov ← attributeBase o name env (eval o env)
    standAt apos.atName
    let (f, first) ← holding [ov] (calleeOf true o env ov name)
    let callPos ← methodCallPos true o env apos pos
    callWith callPos f first (backTo pos [(false, eval e env)]) []) = _
  rw [e2]
  simp only [pure_bind]
  rfl
abbrev initScope (prm : Str) : Scope := { kind := .function, names := [(PySem.Str.ofString "self", .local), (prm, .local), (PySem.Str.ofString "__class__", .free), (PySem.Str.ofString "super", .globalImplicit)], isGenerator := false, isCoroutine := false, more := [] }
/-- what the written part says of the def __init__ of such a class -/
structure XInit (K : Frag) (C fI : Addr) (msg fld prm file : Str) : Prop where
  ex : ∃ (qual : Str) (j : Nat) (p0 p1 p2 p3 p4 p5 p6 p7 p8 p9 : Pos) (params : Arguments) (dV kV doc pm ct oc ccl cl : Value) (an od cdd cld : Option Addr) (osl ccs csl : Array (Option Value)) (cc cda : Addr) (vs : Array Value) (tf : Tok) (ar : Arg),
    K.lookup fI = some ⟨oc, od, .func (ksFn "__init__" qual params (initBody msg fld prm j p0 p1 p2 p3 p4 p5 p6 p7 p8 p9) (initScope prm) dV kV doc pm an (.ref cda) ct cc), osl⟩ ∧
    codeIn K (.ref cda) qual = true ∧ K.lookup cda = some ⟨ccl, cdd, .fields vs, ccs⟩ ∧ vs[2]? = some (.str file tf) ∧ K.lookup cc = some ⟨cl, cld, .cell (some (.ref C)), csl⟩ ∧
    (p2.endLine == p4.line) = true ∧ (params.posonlyargs ++ params.args).head? = some ar ∧ ar.arg = "self" ∧
    (∀ a u : Value, bindArgs (ksFn "__init__" qual params (initBody msg fld prm j p0 p1 p2 p3 p4 p5 p6 p7 p8 p9) (initScope prm) dV kV doc pm an (.ref cda) ct cc) ⟨[a, u], []⟩ = pure [(("self" : Str), a), (prm, u)])
  pn : ¬ prm = "self"
  pc : ¬ prm = "__class__"
  ps : ¬ prm = "super"
  pd : (prm == ("__debug__" : Str)) = false
  su : ks_superIn K C C "__init__" = some (some (.builtin "ValueError.__init__"))
  sub : subIn K (.ref C) (.type "ValueError") = some true
  self : mroIn K C (.ref C) = some true
  nf : findIn K (.ref C) fld = some none
  ty : typeIn K (.ref fI) = some (.type "function")
  fi : findIn K (.ref C) "__init__" = some (some (.ref fI))
section
variable {P : Program} {w : World} {A : Around} {E : Value → Shared → Prop} {h : Heap} {g : Array GenState} {d : Drawn} {t : Nat} {os : OsState} {K : Frag} {C x fI t0 : Addr} {mg mb : Str → Option Value} {u : Value} {msg fld prm file : Str}
theorem init_code (T : XCls K C) (F : XInit K C fI msg fld prm file) (X : K.In h) {R : Result → Shared → Prop}
    (hroom : A.depth < recursionLimit) (hlim : h.NoLimit) (hmg : h.Ns mainGlobals mg) (hmb : h.Ns builtinsNs mb) (hg : mg "super" = none) (hb : mb "super" = some (.type "super"))
    (hfile : ((P.main.file : Str) == file) = true) (htop : (P.main.scope.names.lookup ("super" : Str)).isSome = false)
    (hx : h.get? x = some (xRec C none t0)) (hxK : K.lookup x = none)
    (hq : ∀ h' tk t1 dx, (∀ b o, b ≠ x → h.get? b = some o → h'.get? b = some o) → h.get? t1 = none → t1 ≠ x → h'.get? x = some (xRec C (some dx) t1) → (∃ tm, h'.get? t1 = some (xTup [.str msg tm])) → h.get? dx = none → dx ≠ x → dx ≠ t1 → (∃ o, h'.get? dx = some o) → R (.ok (.ret .none)) ⟨h', g, d, tk, os⟩) :
    codeAny (model P w) A (.call (.ref fI) ⟨[.ref x, u], []⟩) R ⟨h, g, d, t, os⟩ := by
  obtain ⟨nm, q, N, bs, bm, sn, sub, ab, col, dd, k0, k1, k2, k3, k5, hC, hbm⟩ := T.cls
  obtain ⟨qual, j, p0, p1, p2, p3, p4, p5, p6, p7, p8, p9, params, dV, kV, doc, pm, ct, oc, ccl, cl, an, od, cdd, cld, osl, ccs, csl, cc, cda, vs, tf, ar, lk, hcd, hcda, hvs, hcc, hln, har, hself, hbind⟩ := F.ex
  have ne1 : (("__class__" : Str) == "self") = false := by decide
  have ne2 : (("super" : Str) == "self") = false := by decide
  have ne3 : (("super" : Str) == "__class__") = false := by decide
  have nb : ∀ {a b : Str}, ¬ b = a → (a == b) = false := fun h => beq_eq_false_iff_ne.mpr fun z => h z.symm
  have hsl : (initScope prm).names.lookup ("self" : Str) = some .local := by
    show List.lookup ("self" : Str) ((("self" : Str), NameKind.local) :: _) = _
    rw [List.lookup_cons_self]
  have hpl : (initScope prm).names.lookup prm = some .local := by
    show List.lookup prm ((("self" : Str), NameKind.local) :: (prm, NameKind.local) :: _) = _
    rw [List.lookup_cons, beq_eq_false_iff_ne.mpr F.pn, List.lookup_cons_self]
  have hcls : (initScope prm).names.lookup ("__class__" : Str) = some .free := by
    show List.lookup ("__class__" : Str) ((("self" : Str), NameKind.local) :: (prm, NameKind.local) :: (("__class__" : Str), NameKind.free) :: _) = _
    rw [List.lookup_cons, ne1, List.lookup_cons, nb F.pc, List.lookup_cons_self]
  have hsup : (initScope prm).names.lookup ("super" : Str) = some .globalImplicit := by
    show List.lookup ("super" : Str) ((("self" : Str), NameKind.local) :: (prm, NameKind.local) :: (("__class__" : Str), NameKind.free) :: (("super" : Str), NameKind.globalImplicit) :: _) = _
    rw [List.lookup_cons, ne2, List.lookup_cons, nb F.ps, List.lookup_cons, ne3, List.lookup_cons_self]
  have hncell : ∀ x ∈ (initScope prm).names, x.2 ≠ .cell := fun x hx => by
    simp at hx
    rcases hx with rfl | rfl | rfl | rfl <;> (intro z; cases z)
  have hk : (initScope prm).kind = .function := rfl
  have hcl : clsIn K C = some { name := nm, bases := bs, mro := .ref C :: bm, ns := N, qualname := q, hasDict := true, slotNames := sn, subclasses := sub, abstract := ab, collection := col, hasDel := false } := by unfold clsIn; rw [hC] <;> rfl
  have hCd : ∃ cd, h.get? C = some (excClassObj nm q C N bs bm true sn sub ab col dd k0 k1 k2 k3 k5 "ValueError.__new__") ∧ (excClassObj nm q C N bs bm true sn sub ab col dd k0 k1 k2 k3 k5 "ValueError.__new__").data = .cls cd := ⟨_, X _ _ hC, rfl⟩
  obtain ⟨cdC, hC1, hC2⟩ := hCd
  have hloc : ∀ y ∈ [(("self" : Str), Value.ref x), (prm, u)], (initScope prm).names.lookup y.1 = some .local := fun y hy => by
    rcases List.mem_cons.mp hy with rfl | hy
    · exact hsl
    · obtain rfl := List.mem_singleton.mp hy
      exact hpl
  refine ks_codeAny_call_defAt (fd := ksFn "__init__" qual params (initBody msg fld prm j p0 p1 p2 p3 p4 p5 p6 p7 p8 p9) (initScope prm) dV kV doc pm an (.ref cda) ct cc) (binds := [(("self" : Str), Value.ref x), (prm, u)]) hroom (X _ _ lk) rfl hlim (codeRec_of X hcd) rfl (.of_eq (hbind _ _)) hncell hloc (fun h1 hns k1 => ?_) rfl rfl hk
  have mp : ([(("self" : Str), Value.ref x), (prm, u)].reverse.lookup prm) = some u := by
    show List.lookup prm [(prm, u), (("self" : Str), Value.ref x)] = some u
    rw [List.lookup_cons_self]
  have ms : ([(("self" : Str), Value.ref x), (prm, u)].reverse.lookup ("self" : Str)) = some (.ref x) := by
    show List.lookup ("self" : Str) [(prm, u), (("self" : Str), Value.ref x)] = some (.ref x)
    have e : (("self" : Str) == prm) = false := beq_eq_false_iff_ne.mpr fun z => F.pn z.symm
    rw [List.lookup_cons, e, List.lookup_cons_self]
  -- super().__init__(msg)
  refine ks_wpAt_execs_cons (ks_wpAt_Expr_any (ks_wpAt_MethodCall ?_ (call_base hln rfl)))
  refine ks_wpAt_super_base (env := ksEnv qual (initScope prm) h.objs.size fI (.ref cda) cc) (ar := ar) hsup hcls (by decide) rfl (k1 _ _ (X _ _ lk)) rfl har rfl (k1 _ _ (X _ _ hcda)) rfl hvs hfile htop ?_
  refine ks_loadName_global hk hsup (loadGlobal_builtin (env := ksEnv qual (initScope prm) h.objs.size fI (.ref cda) cc) (hmg.keeps k1) hg (hmb.keeps k1) hb ⟨rfl, ?_⟩)
  refine wpAny_loadName_free hk hcls rfl ⟨_, k1 _ _ (X _ _ hcc), rfl⟩ ?_
  rw [hself]
  refine wpAny_loadName_local hk hsl hns ms ?_
  refine ks_wpAny_isType_cls (k1 _ _ hC1) hC2 ⟨rfl, ?_⟩
  have X1 : K.In h1 := X.keeps k1
  refine ks_wpAny_call_super (k1 _ _ hC1) hC2 (k1 _ _ hx) rfl (fun c e => by cases e) (looks_mroIn X1 F.self) (fun h2 eso k2 => ?_)
  have X2 : K.In h2 := X1.keeps k2
  have hx2 := k2 _ _ (k1 _ _ hx)
  have I2 : InstAt h2 x (xRec C none t0) C none := ⟨hx2, rfl, rfl, trivial⟩
  have hm := F.su
  unfold ks_superIn at hm
  rw [hcl] at hm
  refine kxs_getMethod kxs_ValueError eso (looks_opaque X2 T.opq) (l₀ := .ref C :: bm) ?_ rfl X2 hm (I2.type.andThen (looks_subIn X2 F.sub)) (ks_ne X2 I2 hcl) (by decide) ?_
  · exact fun A Q E s k q => wpAny_bind ((looks_clsIn X2 hcl) A _ E s k (wpAny_pure q))
  have k3 : ∀ b o, h2.get? b = some o → (h2.push (kxs_mw "ValueError.__init__" x)).get? b = some o := fun b o e => Heap.get?_push_of_some _ e
  have hu3 : (h2.push (kxs_mw "ValueError.__init__" x)).get? h2.objs.size = some (kxs_mw "ValueError.__init__" x) := Heap.get?_push_at rfl rfl
  refine kxs_callWith (i := "ValueError.__init__") (x := x) rfl (evalArgs_plain ?_)
  show wpAny _ _ (spliced ((false, eval (.Constant (.str msg) j p3) _) :: backTo p4 (starEach [] _))) _ _ _
  refine Calls.spliced_cons (Calls.Constant_str ?_)
  refine Calls.spliced_nil ⟨hu3, ?_⟩
  show wpAny _ _ (call (.ref h2.objs.size) [.str msg _]) _ _ _
  refine bound_call T (X2.keeps k3) hu3 (k3 _ _ hx2) (by show 1 ≤ sizeLine; rw [sizeLine_eq]; omega) fun h4 t1 k4 nt1 nx e1 e2 => ?_
  -- self.fld = prm
  have kAll : ∀ b o, b ≠ x → h.get? b = some o → h4.get? b = some o := fun b o hb e => k4 b o hb (k3 _ _ (k2 _ _ (k1 _ _ e)))
  have hLx : h.objs.size ≠ x := fun z => by
    rw [← z] at hx
    exact absurd (Heap.lt_size hx) (Nat.lt_irrefl _)
  have hns4 : h4.Ns h.objs.size fun z => List.lookup z [(("self" : Str), Value.ref x), (prm, u)].reverse := by
    obtain ⟨o, es, ep, ho, r⟩ := hns
    exact ⟨o, es, ep, k4 _ _ hLx (k3 _ _ (k2 _ _ ho)), r⟩
  have X4 : K.In h4 := fun b o e => kAll b o (fun z => by
    rw [z, hxK] at e
    cases e) (X _ _ e)
  refine ks_wpAt_execs_cons (wpAt_of_wpAny (plainObj_wpAny_Assign_Attribute ?_))
  refine wpAny_Name (wpAny_loadName_local hk hpl hns4 mp ?_) F.pd
  refine wpAny_Name (wpAny_loadName_local hk hsl hns4 ms ?_) (by decide)
  refine set_plain X4 (ox := xRec C none t1) (od := none) ⟨e1, rfl, rfl, trivial⟩ T.sa ?_
  refine PySem.HandSPX.exc_osa X4 e1 hcl (show PySem.HandSPX.refsVE (.ref C :: bm) = true from hbm) rfl F.nf (fun h5 tk' dx k5 dn dne hx5 hn5 => ?_)
  refine wpAt_of_wpAny (wpAny_pure ?_)
  obtain ⟨oD, es, ep, hoD, hdD, _⟩ := hn5
  have e2' := k5 _ _ nx e2
  refine hq h5 tk' t1 dx (fun b o hb e => k5 b o hb (kAll b o hb e)) ?_ nx hx5 ⟨_, e2'⟩ ?_ dne (fun z => ?_) ⟨oD, hoD⟩
  rotate_left
  · cases e : h.get? dx with
    | none => rfl
    | some o =>
      have hb : dx ≠ x := dne
      exact absurd (Heap.lt_size (kAll _ _ hb e)) (Nat.not_lt.mpr dn)
  · rw [z, e2'] at hoD
    obtain rfl := Option.some.inj hoD
    cases hdD
  cases e : h.get? t1 with
  | none => rfl
  | some o =>
    rw [k3 _ _ (k2 _ _ (k1 _ _ e))] at nt1
    cases nt1
end
end Sw
namespace Sw
open PySem PySem.Spec PyProof.Rows L2
/-- an exception of the class at C that was made, its args at t -/
def xV (C t : Addr) (d : Option Addr) (a : Addr) : HO := .ext fun h => h.get? a = some (xRec C d t)
theorem xV_ok {P : Program} {w : World} {H : Hp} {h : Heap} {C t a : Addr} {d : Option Addr} (e : h.get? a = some (xRec C d t)) : ObjOk P w H h a (xV C t d a) :=
  ⟨e, ⟨_, e⟩, fun _ _ z k => k _ z⟩
theorem xV_at {P : Program} {w : World} {H : Hp} {h : Heap} {C t a : Addr} {d : Option Addr} (ok : HOk P w H h) (e : H a = some (xV C t d a)) : h.get? a = some (xRec C d t) := by
  have x : ObjOk P w H h a (.ext fun h => h.get? a = some (xRec C d t)) := ok a _ e
  exact x.1
section
variable {X : Cx} {pins : List (Addr × Obj)} {σ : L2.St} {H : Hp} {s : Shared}
/-- two new objects laid -/
theorem laid2 {h' : Heap} {a b : Addr} {o u : HO} {t' : Nat} (I : Inv X pins σ H s) (k : ∀ c v, s.heap.get? c = some v → h'.get? c = some v) (ha : s.heap.get? a = none) (hb : s.heap.get? b = none) (ne : b ≠ a)
    (new : ObjOk X.prog X.w (upd (upd H b u) a o) h' a o) (new2 : ObjOk X.prog X.w (upd (upd H b u) a o) h' b u) : Inv X pins σ (upd (upd H b u) a o) { s with heap := h', toks := t' } := by
  have na : H a = none := I.hok.gone ha
  have nb : H b = none := I.hok.gone hb
  have up : ∀ {c : Addr} {v : HO}, H c = some v → (upd (upd H b u) a o) c = some v := fun {c v} e => by
    rw [upd_ne (ne_of_none e na), upd_ne (ne_of_none e nb)]
    exact e
  have old : ∀ {c : Addr} {v : Obj}, s.heap.get? c = some v → c ≠ a ∧ c ≠ b := fun {c v} e => by
    constructor
    · intro z
      rw [z, ha] at e
      cases e
    · intro z
      rw [z, hb] at e
      cases e
  refine I.un ⟨fun c v e _ _ _ => k c v e, fun c v e _ _ _ => ⟨v.slots, k c v e⟩, fun c v e n _ => ?_, fun c v e _ => ⟨v, k c v e⟩, fun c xs e => up e, fun c v xs e => up e, fun c ps e => ⟨#[], by rw [up e]; simp⟩⟩ fun c v e => ?_
  · rw [upd_ne (old e).1, upd_ne (old e).2]
    exact n
  · by_cases ca : c = a
    · subst ca
      rw [upd_same] at e
      cases e
      exact new
    · by_cases cb : c = b
      · subst cb
        rw [upd_ne ca, upd_same] at e
        cases e
        exact new2
      · rw [upd_ne ca, upd_ne cb] at e
        exact (I.hok c v e).stay (fun d q _ z => k d q z) (fun d z => up z) fun d xs z => up z
/-- three -/
theorem laid3 {h' : Heap} {a b c : Addr} {o u v : HO} {t' : Nat} (I : Inv X pins σ H s) (k : ∀ x y, s.heap.get? x = some y → h'.get? x = some y) (ha : s.heap.get? a = none) (hb : s.heap.get? b = none) (hc : s.heap.get? c = none) (ne : b ≠ a) (ca : c ≠ a) (cb : c ≠ b)
    (new : ObjOk X.prog X.w (upd (upd (upd H c v) b u) a o) h' a o) (new2 : ObjOk X.prog X.w (upd (upd (upd H c v) b u) a o) h' b u) (new3 : ObjOk X.prog X.w (upd (upd (upd H c v) b u) a o) h' c v) : Inv X pins σ (upd (upd (upd H c v) b u) a o) { s with heap := h', toks := t' } := by
  have na : H a = none := I.hok.gone ha
  have nb : H b = none := I.hok.gone hb
  have nc : H c = none := I.hok.gone hc
  have up : ∀ {x : Addr} {y : HO}, H x = some y → (upd (upd (upd H c v) b u) a o) x = some y := fun {x y} e => by
    rw [upd_ne (ne_of_none e na), upd_ne (ne_of_none e nb), upd_ne (ne_of_none e nc)]
    exact e
  have old : ∀ {x : Addr} {y : Obj}, s.heap.get? x = some y → x ≠ a ∧ x ≠ b ∧ x ≠ c := fun {x y} e => by
    refine ⟨?_, ?_, ?_⟩
    · intro z
      rw [z, ha] at e
      cases e
    · intro z
      rw [z, hb] at e
      cases e
    · intro z
      rw [z, hc] at e
      cases e
  refine I.un ⟨fun x y e _ _ _ => k x y e, fun x y e _ _ _ => ⟨y.slots, k x y e⟩, fun x y e n _ => ?_, fun x y e _ => ⟨y, k x y e⟩, fun x xs e => up e, fun x y xs e => up e, fun x ps e => ⟨#[], by rw [up e]; simp⟩⟩ fun x y e => ?_
  · obtain ⟨z1, z2, z3⟩ := old e
    rw [upd_ne z1, upd_ne z2, upd_ne z3]
    exact n
  · by_cases xa : x = a
    · subst xa
      rw [upd_same] at e
      cases e
      exact new
    · by_cases xb : x = b
      · subst xb
        rw [upd_ne xa, upd_same] at e
        cases e
        exact new2
      · by_cases xc : x = c
        · subst xc
          rw [upd_ne xa, upd_ne xb, upd_same] at e
          cases e
          exact new3
        · rw [upd_ne xa, upd_ne xb, upd_ne xc] at e
          exact (I.hok x y e).stay (fun d q _ z => k d q z) (fun d z => up z) fun d xs z => up z
variable {e : Expr} {te : TE} {x : Str} {p pos : Pos} {C fI : Addr} {msg fld prm file : Str}
theorem boot_super : bootBuiltins "super" = some (.type "super") := by first | boot_by_name | rfl | kernel_rfl
/-- C(e), C an own class of errors whose __init__ says super().__init__(msg); self.fld = prm -/
theorem pe_xmk (T : XCls X.K C) (F : XInit X.K C fI msg fld prm file) (hr : Room 1 X.A) (hg : Gl X x) (hm : X.mg x = some (.ref C)) (hs : X.mg "super" = none)
    (hfile : ((X.prog.main.file : Str) == file) = true) (htop : (X.prog.main.scope.names.lookup ("super" : Str)).isSome = false) (he : PE X e te)
    (hst : starEach [e] X.env = (false, eval e X.env) :: starEach [] X.env := by rfl) (hdb : (x == ("__debug__" : Str)) = false := by decide) :
    PE X (.Call (.Name x p) [e] [] pos) (fun σ H Q => te σ H fun _ H1 => ∀ a t1 dx, H1 a = none → H1 t1 = none → H1 dx = none → t1 ≠ a → dx ≠ a → dx ≠ t1 → Q (.ref a) (upd (upd (upd H1 dx (.own a)) t1 (.tup [.str msg])) a (xV C t1 (some dx) a))) := by
  refine ⟨fun pins s σ H Q I h => ?_⟩
  obtain ⟨nm, q, N, bs, bm, sn, sub, ab, col, dd, k0, k1, k2, k3, k5, hC, hbm⟩ := T.cls
  refine wpAny_Call_Name_kw (ld_glob I hg hm ?_ hdb)
  refine PySem.W.callWith_K (h₀ := X.base) I.ok.mod.kin T.kp ?_ hst (by rfl)
  rw [hst]
  show wpAny _ _ (spliced ((false, eval e X.env) :: backTo pos (starEach [] X.env))) _ _ s
  refine Calls.spliced_cons (thn (he.run pins s σ H _ I h) fun u s1 ⟨v, H1, I1, r1, q1⟩ => ?_)
  refine Calls.spliced_nil ⟨I1.kIn, ?_⟩
  show wpAny _ _ (call (.ref C) [u]) _ _ _
  obtain ⟨hp, g, dr, tk, os⟩ := s1
  have kk : ∀ b o, hp.get? b = some o → ((hp.push (PySem.W.kdv_tup [u])).push (PySem.HandSPX.excO C hp.objs.size)).get? b = some o := fun b o e => Heap.get?_push_of_some _ (Heap.get?_push_of_some _ e)
  have hget : ((hp.push (PySem.W.kdv_tup [u])).push (PySem.HandSPX.excO C hp.objs.size)).get? (hp.objs.size + 1) = some (xRec C none hp.objs.size) := by
    show _ = some (PySem.HandSPX.excO C hp.objs.size)
    heap_get
  have na : hp.get? (hp.objs.size + 1) = none := Heap.get?_none_of_le (Nat.le_succ _)
  have kin := I1.kIn
  obtain ⟨mb, hb1, hb2⟩ := I1.mod.blt
  refine wpAny_call (PySem.HandSPX.call_own PySem.F.excBase_ValueError (fun Y => PySem.HandSPX.refsVE_contains Y bm hbm) (kin _ _ hC) (PySem.W.looks_findIn kin F.fi) (fun self => PySem.W.bind_fn kin self F.ty) (by show 1 ≤ sizeLine; rw [sizeLine_eq]; omega) ?_)
  refine init_code T F (kin.keeps kk) (mg := X.mg) (mb := mb) (hr.make C [u] []).depth (I1.nolimit.keeps kk) ((I1.mod.glob.keeps I1.bk).keeps kk) ((hb1.keeps I1.bk).keeps kk) hs ((hb2 _ (by decide)).trans boot_super) hfile htop hget ?_ fun h' tk' t1 dx k4 nt1 ne e1 e2 nd da dt eo => ?_
  · cases z : X.K.lookup (hp.objs.size + 1) with
    | none => rfl
    | some o =>
      rw [kin _ _ z] at na
      cases na
  · have k5 : ∀ b o, hp.get? b = some o → h'.get? b = some o := fun b o e => k4 b o (fun z => by
      rw [z, na] at e
      cases e) (kk b o e)
    have nt0 : hp.get? t1 = none := by
      cases z : hp.get? t1 with
      | none => rfl
      | some o =>
        rw [kk _ _ z] at nt1
        cases nt1
    have nd0 : hp.get? dx = none := by
      cases z : hp.get? dx with
      | none => rfl
      | some o =>
        rw [kk _ _ z] at nd
        cases nd
    obtain ⟨tm, e3⟩ := e2
    refine ⟨rfl, ⟨.ref (hp.objs.size + 1), _, laid3 (t' := tk') (o := xV C t1 (some dx) (hp.objs.size + 1)) (u := .tup [.str msg]) (v := .own (hp.objs.size + 1)) I1 k5 na nt0 nd0 ne da dt (xV_ok e1) ⟨?_, [.str msg tm], .cons ⟨tm, rfl⟩ .nil, ⟨_, e3, rfl, _, rfl⟩⟩ eo, rfl, q1 _ t1 dx (I1.hok.gone na) (I1.hok.gone nt0) (I1.hok.gone nd0) ne da dt⟩⟩
    show 1 ≤ sizeLine
    rw [sizeLine_eq]
    omega
/-- C(), C an own class of errors without __init__ -/
theorem pe_xmk0 {k : Nat} {bmB : List Value} {B newId initId : String} (F : ExcBaseFacts B newId initId bmB) (q : PySem.W.excIn X.K C bmB newId = true) (kC : PySem.W.keepIn X.K (.ref C) = true) (hg : Gl X x) (hm : X.mg x = some (.ref C))
    (hdb : (x == ("__debug__" : Str)) = false := by decide) :
    PE X (.Call (.Name x p) [] [] pos) (fun _ H Q => ∀ a t1, H a = none → H t1 = none → t1 ≠ a → Q (.ref a) (upd (upd H t1 (.tup [])) a (xV C t1 none a))) := by
  refine ⟨fun pins s σ H Q I h => ?_⟩
  refine wpAny_Call_Name_kw (ld_glob I hg hm ?_ hdb)
  refine PySem.W.callWith_K0 (first := []) I.kIn kC ?_
  show wpAny _ _ (call (.ref C) []) _ _ _
  obtain ⟨bm, N, nm, qn, bs, hdct, sn, sub, ab, col, dd, k0, k1, k2, k3, k5, mN, hC, hN, hni, T⟩ := exc_obj I.kIn q
  refine wpAny_call_exc_subT F T hC hN hni (fun h' a hm => ?_) (by show 0 ≤ sizeLine; omega)
  obtain ⟨t1, e1, nt, e2⟩ := hm.there
  have ne : t1 ≠ a := fun z => by
    rw [z, e1] at e2
    have e3 := Option.some.inj e2
    cases e3
  exact ⟨.ref a, _, laid2 (t' := s.toks) (o := xV C t1 none a) (u := .tup []) I hm.keeps hm.new nt ne (xV_ok e1) ⟨Nat.zero_le _, [], .nil, ⟨_, e2, rfl, _, rfl⟩⟩, rfl, h a t1 (I.hok.gone hm.new) (I.hok.gone nt) ne⟩
end
end Sw
namespace Sw
open PySem PySem.Spec PyProof.Rows PySem.W Builtin Builtin.BaseException
/-- how repr calls a class -/
def exN (nm : Str) : Str := ((nm.toString.cutAt '.').getLastD "")
/-- a class of errors, by what repr and isinstance ask -/
structure XGood (K : Frag) (C : Addr) (n : Str) : Prop where
  nm : ∃ cd, clsIn K C = some cd ∧ exN cd.name = n
  len : n.length ≤ 60
  rp : findIn K (.ref C) "__repr__" = some (some (.builtin "BaseException.__repr__"))
  sub : subIn K (.ref C) (.type "BaseException") = some true
  ga : findIn K (.ref C) "__getattribute__" = some (some (.builtin "BaseException.__getattribute__"))
  gt : findIn K (.ref C) "__getattr__" = some none
  ca : findIn K (.ref C) "__class__" = some (some (.builtin "object.__class__"))
  cn : specialIn K (.builtin "object.__class__") "__get__" = some (some (.builtin "getset_descriptor.__get__"))
  ct : takesIn K (.builtin "object.__class__") = some true
  mo : mroIn K C (.type "object") = some true
  ni : subIn K (.ref C) (.type "int") = some false
  nb : subIn K (.ref C) (.type "bool") = some false
  nt : subIn K (.ref C) (.type "tuple") = some false
  ns : subIn K (.ref C) (.type "str") = some false
  nl : subIn K (.ref C) (.type "list") = some false
  nd : subIn K (.ref C) (.type "dict") = some false
/-- the text of such an error, by its args (none or one text) -/
def xText (n : Str) : Option Str → Str
  | none => n ++ "()"
  | some m => n ++ "(" ++ reprText m ++ ")"
def xArgs : Option Str → List L2.V
  | none => []
  | some m => [.str m]
section
variable {prog : Program} {w : World} {A : Around} {E : Value → Shared → Prop} {s : Shared} {K : Frag} {C e t0 : Addr} {n : Str}
theorem typeNameWhole_C {M : Model} (G : XGood K C n) (x : ExcC K C e t0 s.heap) {Q : String → Shared → Prop} (h : ∀ nm : String, (((nm.cutAt '.').getLastD "" : String) : Str) = n → Q nm s) : wpAny M A (typeNameOfWhole (.ref e)) Q E s := by
  obtain ⟨cd, hc, hn⟩ := G.nm
  unfold typeNameOfWhole shownTypeOf
  refine wpAny_bind (wpAny_bind ((x.LT).here ?_))
  simp only [show (Value.ref C == Value.type "builtin_function_or_method") = false from rfl, Bool.false_eq_true, if_false]
  refine wpAny_pure ?_
  unfold typeNameWhole
  refine wpAny_bind ((looks_clsIn x.1 hc).here (wpAny_pure ?_))
  exact h _ hn
theorem bexcRepr_C (G : XGood K C n) (x : ExcC K C e t0 s.heap) (m : Option Str) {its : List Value} (hi : L2.Vals (xArgs m) its) (ht : s.heap.TupAt t0 its) (b : Nat) (hsz : b + (xText n m).length ≤ sizeLine)
    (g : List Code) (hg : A.guards = some g) (hcl : Clear g t0) (hu : A.units + 2 < cLine) {Q : Fin → Shared → Prop}
    (h : ∀ h' u tk, (∀ b o, s.heap.get? b = some o → h'.get? b = some o) → Q (.done (.ret (.str (xText n m) u))) { s with heap := h', toks := tk }) :
    wpAny (model prog w) A (Builtin.bexcReprAt b ⟨[.ref e], []⟩) Q E s := by
  unfold Builtin.bexcReprAt
  cases m with
  | some m =>
    cases hi with
    | cons r1 r2 =>
      cases r2
      obtain ⟨tk, rfl⟩ := r1
      have eP : (Str.ofString "(").length = 1 := by rw [PySem.ofString_length]; rfl
      have e1 : b + (n ++ Str.ofString "(" ++ reprText m ++ Str.ofString ")").length ≤ sizeLine := hsz
      have hsz2 : (n ++ Str.ofString "(" ++ reprText m ++ Str.ofString ")").length ≤ sizeLine := Nat.le_trans (Nat.le_add_left _ b) e1
      rw [strLen_append, strLen_append, strLen_append, eP] at e1
      have hsz1 : (reprText m).length ≤ sizeLine := by omega
      have hpile : b + (n.length + 1) ≤ sizeLine := by omega
      refine wpAny_bind (wpAny_pure ?_)
      refine wpAny_bind (typeNameWhole_C G x fun nm en => ?_)
      refine wpAny_bind (bexcArgs_C x ht ?_)
      show wpAny _ _ (rule "BaseException.__repr__.one-argument" >>= _) _ _ _
      refine wpAny_bind (wpAny_rule ?_)
      rw [en]
      refine wpAny_bind ?_
      rw [pyReprUnder_leaf (v := .str m tk) hpile (by intro a; nofun)]
      refine wpAny_pyRepr_str ?_ hsz1
      unfold retStr
      refine wpAny_bind (wpAny_mkStr (wpAny_pure ?_) hsz2)
      exact h s.heap _ _ fun _ _ e => e
  | none =>
    cases hi
    obtain ⟨ot, kk, hto, hc, hd⟩ := id ht
    have e1 : b + (n ++ Str.ofString "()").length ≤ sizeLine := hsz
    have e2 : (n ++ Str.ofString "()").length ≤ sizeLine := Nat.le_trans (Nat.le_add_left _ b) e1
    rw [strLen_append] at e1
    have e3 : (Str.ofString "()").length = 2 := by rw [PySem.ofString_length]; rfl
    have et : tupleText [] = ("()" : Str) := by decide +kernel
    refine wpAny_bind (wpAny_pure ?_)
    refine wpAny_bind (typeNameWhole_C G x fun nm en => ?_)
    refine wpAny_bind (bexcArgs_C x ht ?_)
    show wpAny _ _ (pyReprUnder (b + _) (.ref t0) >>= _) _ _ _
    rw [en]
    refine wpAny_bind ?_
    have hK := ReprK.tuple (prog := prog) (w := w) (as := []) (h₀ := s.heap) (d := 0) (a := t0) (o := ot) (items := #[]) (n := kk) (ts := []) hto hc hd (by simp) .nil
    refine hK (b + n.length) (by rw [et]; show b + n.length + (Str.ofString "()").length ≤ sizeLine; omega) A g E s _ hg (fun b hb => ?_) (by omega) (fun _ _ e => e) fun h' tk hk => ?_
    · obtain rfl := List.mem_singleton.mp hb
      exact hcl
    · rw [et]
      unfold retStr
      refine wpAny_bind (wpAny_mkStr (wpAny_pure ?_) e2)
      exact h h' _ _ hk
theorem reprUnder_C (G : XGood K C n) (x : ExcC K C e t0 s.heap) (m : Option Str) {its : List Value} (hi : L2.Vals (xArgs m) its) (ht : s.heap.TupAt t0 its) (b : Nat) (hsz : b + (xText n m).length ≤ sizeLine)
    (g : List Code) (hg : A.guards = some g) (hcl : Clear g t0) (hu : A.units + 3 < cLine) {Q : Value → Shared → Prop}
    (h : ∀ h' u tk, (∀ b o, s.heap.get? b = some o → h'.get? b = some o) → Q (.str (xText n m) u) { s with heap := h', toks := tk }) :
    wpAny (model prog w) A (pyReprObjUnder b (.ref e)) Q E s := by
  unfold pyReprObjUnder pyReprObjBy
  have hf : Looks (model prog w) s.heap (typeLookup (.ref C) "__repr__") (some (.builtin "BaseException.__repr__")) := looks_findIn x.1 G.rp
  have hb : bindSpecial (.builtin "BaseException.__repr__") (.ref e) = pure (.builtin "BaseException.__repr__", [.ref e]) := PySem.F.excStr_Exception.repr.bind _
  have hT : Looks (model prog w) s.heap (typeOf (.ref e)) (.ref C) := x.LT
  refine wpAny_bind (wpAny_cRoomFor (by omega) ?_)
  unfold specialOf
  refine wpAny_bind (wpAny_bind (hT.here (hf.here ?_)))
  have fin : wpAny (model prog w) A (call (.builtin "BaseException.__repr__.under") [.ref e, rawInt b]) (fun v s' => (∃ x u, v = .str x u) ∧ Q v s') E s := by
    refine wpAny_call (codeAny_call_builtin PySem.F.plain_bexc_repr_under PySem.F.entry_bexc_repr_under ?_)
    rw [PySem.F.check_bexc_repr_under]
    refine wpAny_pure ?_
    show wpAny _ _ (reprTwin "BaseException.__repr__" Builtin.bexcReprAt ⟨[.ref e, rawInt b], []⟩) _ _ _
    rw [reprTwin_eq]
    refine wpAny_bind ?_
    refine @PySem.W.check_slot (model prog w) _ _ s "BaseException.__repr__" "BaseException" "__repr__" (.ref e) [] [] _ (by decide +kernel) (by decide +kernel) (x.LI G.sub) (PySem.F.args_bexc_repr _) ?_
    refine bexcRepr_C (A := A.in1) G x m hi ht b hsz g hg hcl (by show A.units + 1 + 2 < cLine; omega) fun h' u tk hk => ?_
    exact ⟨⟨_, _, rfl⟩, h h' u tk hk⟩
  simp only [Option.isNone_some, Bool.false_eq_true, if_false]
  refine wpAny_bind ?_
  unfold callSpecialIfBoundBy? bindSpecialIfBound? specialOf
  refine wpAny_holding (wpAny_bind (wpAny_bind (wpAny_bind (hT.here (hf.here ?_)))))
  simp only [hb]
  have fin2 : wpAny (model prog w) A (call (.builtin "BaseException.__repr__.under") [.ref e, rawInt b] >>= fun v => pure (some v)) (fun r s' => wpAny (model prog w) A (match r with
      | some r => do if ← isInstance r (.type "str") then pure r else raiseError "TypeError" s!"__repr__ returned non-string (type {← typeNameOf r})"
      | none => unsupported "repr:special-get-raises") Q E s') E s := by
    refine wpAny_bind (wpAny_mono fin (fun v s' hv => ?_) fun _ _ z => z)
    obtain ⟨⟨y, u, rfl⟩, hq⟩ := hv
    exact wpAny_pure (wpAny_bind (wpAny_isInstance (T := "str") (b := true) rfl isSubtype_str_str (wpAny_pure hq)))
  refine wpAny_bind (wpAny_askSetting (wpAny_ite ?_))
  split
  · exact wpAny_bind (wpAny_pure (wpAny_pure fin2))
  · exact wpAny_tryCatch (wpAny_bind (wpAny_pure (wpAny_pure fin2)))
end
end Sw
namespace Sw
open PySem PySem.Spec PyProof.Rows L2
/-- plain data, and errors of the package -/
inductive D where
  | non | bl (b : Bool) | int (i : Int) | str (x : Str) | tup (xs : List D) | lst (xs : List D) | dct | dx | exc (C : Addr) (n : Str) (m : Option Str)
mutual
/-- the text that repr gives -/
def shown : D → Str
  | .non => "None"
  | .bl b => if b then "True" else "False"
  | .int i => toString i
  | .str x => reprText x
  | .tup xs => tupleText (shownAll xs)
  | .lst xs => listText (shownAll xs)
  | .dct => "{}"
  | .dx => "{}"
  | .exc _ n m => xText n m
def shownAll : List D → List Str
  | [] => []
  | d :: r => shown d :: shownAll r
end
mutual
/-- no shorter than the text -/
def wt : D → Nat
  | .non => 4
  | .bl _ => 5
  | .int i => (Str.ofString (toString i)).length
  | .str x => (reprText x).length
  | .tup xs => wtAll xs + 3
  | .lst xs => wtAll xs + 3
  | .dct => 2
  | .dx => 2
  | .exc _ n m => (xText n m).length
def wtAll : List D → Nat
  | [] => 0
  | d :: r => wt d + 2 + wtAll r
end
mutual
def dep : D → Nat
  | .tup xs => depAll xs + 1
  | .lst xs => depAll xs + 1
  | .dct => 1
  | .exc _ _ _ => 3
  | _ => 0
def depAll : List D → Nat
  | [] => 0
  | d :: r => max (dep d) (depAll r)
end
mutual
/-- its ints can be written -/
def small : D → Prop
  | .int i => i.natAbs.log2 < 1920
  | .tup xs => smallAll xs
  | .lst xs => smallAll xs
  | .dx => False
  | _ => True
def smallAll : List D → Prop
  | [] => True
  | d :: r => small d ∧ smallAll r
end
mutual
theorem shown_wt : ∀ d : D, (shown d).length ≤ wt d
  | .non => by simp only [wt]; decide +kernel
  | .bl b => by cases b <;> (simp only [wt]; decide +kernel)
  | .int i => by simp only [shown, wt]; exact Nat.le_refl _
  | .str x => by simp only [shown, wt]; exact Nat.le_refl _
  | .tup xs => by
    have h := tupleText_len_le (shownAll xs)
    have h2 := shownAll_wt xs
    simp only [shown, wt]
    omega
  | .lst xs => by
    have h := listText_len_le (shownAll xs)
    have h2 := shownAll_wt xs
    simp only [shown, wt]
    omega
  | .dct => by simp only [wt]; decide +kernel
  | .dx => by simp only [wt]; decide +kernel
  | .exc _ n m => by simp only [shown, wt]; exact Nat.le_refl _
theorem shownAll_wt : ∀ xs : List D, ((shownAll xs).map (·.length)).sum + 2 * (shownAll xs).length ≤ wtAll xs
  | [] => by simp [shownAll, wtAll]
  | d :: r => by
    have h := shown_wt d
    have h2 := shownAll_wt r
    simp only [shownAll, wtAll, List.map_cons, List.sum_cons, List.length_cons]
    omega
end
theorem wt_mem : ∀ {xs : List D} {d : D}, d ∈ xs → wt d + 2 ≤ wtAll xs
  | x :: r, d, h => by
    simp only [wtAll]
    rcases List.mem_cons.mp h with e | e
    · rw [e]; omega
    · have := wt_mem e
      omega
theorem dep_mem : ∀ {xs : List D} {d : D}, d ∈ xs → dep d ≤ depAll xs
  | x :: r, d, h => by
    simp only [depAll]
    rcases List.mem_cons.mp h with e | e
    · rw [e]; exact Nat.le_max_left _ _
    · exact Nat.le_trans (dep_mem e) (Nat.le_max_right _ _)
theorem small_mem : ∀ {xs : List D} {d : D}, smallAll xs → d ∈ xs → small d
  | x :: r, d, s, h => by
    simp only [smallAll] at s
    rcases List.mem_cons.mp h with e | e
    · rw [e]; exact s.1
    · exact small_mem s.2 e
mutual
/-- in H the value v is the data d; as: the addresses of what it is made of -/
def Rep (K : PySem.W.Frag) (H : Hp) : D → V → List Addr → Prop
  | .non, v, as => v = .non ∧ as = []
  | .bl b, v, as => v = .bl b ∧ as = []
  | .int i, v, as => v = .int i ∧ as = []
  | .str x, v, as => v = .str x ∧ as = []
  | .tup ds, v, as => ∃ a xs bs, v = .ref a ∧ H a = some (.tup xs) ∧ RepAll K H ds xs bs ∧ a ∉ bs ∧ as = a :: bs
  | .lst ds, v, as => ∃ a xs bs, v = .ref a ∧ H a = some (.lst xs) ∧ RepAll K H ds xs bs ∧ a ∉ bs ∧ as = a :: bs
  | .dct, v, as => ∃ a, v = .ref a ∧ H a = some (.dK []) ∧ as = [a]
  | .dx, v, as => ∃ a kvs, v = .ref a ∧ H a = some (.dK kvs) ∧ as = [a]
  | .exc C n m, v, as => ∃ a t d, v = .ref a ∧ H a = some (xV C t d a) ∧ H t = some (.tup (xArgs m)) ∧ (∀ dx, d = some dx → H dx = some (.own a)) ∧ XGood K C n ∧ as = a :: t :: d.toList
def RepAll (K : PySem.W.Frag) (H : Hp) : List D → List V → List Addr → Prop
  | [], xs, as => xs = [] ∧ as = []
  | d :: ds, xs, as => ∃ x r bs cs, xs = x :: r ∧ Rep K H d x bs ∧ RepAll K H ds r cs ∧ as = bs ++ cs
end
section
variable {K : PySem.W.Frag} {H H' : Hp}
mutual
theorem Rep.keep : ∀ {d : D} {v : V} {as : List Addr}, Rep K H d v as → (∀ b ∈ as, ∀ o, H b = some o → H' b = some o) → Rep K H' d v as
  | .non, v, as, h, _ => by simpa only [Rep] using h
  | .bl _, v, as, h, _ => by simpa only [Rep] using h
  | .int _, v, as, h, _ => by simpa only [Rep] using h
  | .str _, v, as, h, _ => by simpa only [Rep] using h
  | .tup ds, v, as, h, k => by
    simp only [Rep] at h ⊢
    obtain ⟨a, xs, bs, e, ha, r, na, rfl⟩ := h
    exact ⟨a, xs, bs, e, k a (by simp) _ ha, RepAll.keep r fun b hb => k b (by simp [hb]), na, rfl⟩
  | .lst ds, v, as, h, k => by
    simp only [Rep] at h ⊢
    obtain ⟨a, xs, bs, e, ha, r, na, rfl⟩ := h
    exact ⟨a, xs, bs, e, k a (by simp) _ ha, RepAll.keep r fun b hb => k b (by simp [hb]), na, rfl⟩
  | .dct, v, as, h, k => by
    simp only [Rep] at h ⊢
    obtain ⟨a, e, ha, rfl⟩ := h
    exact ⟨a, e, k a (by simp) _ ha, rfl⟩
  | .dx, v, as, h, k => by
    simp only [Rep] at h ⊢
    obtain ⟨a, kvs, e, ha, rfl⟩ := h
    exact ⟨a, kvs, e, k a (by simp) _ ha, rfl⟩
  | .exc C n m, v, as, h, k => by
    simp only [Rep] at h ⊢
    obtain ⟨a, t, d, e, ha, ht, hd, g, rfl⟩ := h
    exact ⟨a, t, d, e, k a (by simp) _ ha, k t (by simp) _ ht, fun dx z => k dx (by simp [z]) _ (hd dx z), g, rfl⟩
theorem RepAll.keep : ∀ {ds : List D} {xs : List V} {as : List Addr}, RepAll K H ds xs as → (∀ b ∈ as, ∀ o, H b = some o → H' b = some o) → RepAll K H' ds xs as
  | [], xs, as, h, _ => by simpa only [RepAll] using h
  | d :: ds, xs, as, h, k => by
    simp only [RepAll] at h ⊢
    obtain ⟨x, r, bs, cs, e, h1, h2, rfl⟩ := h
    exact ⟨x, r, bs, cs, e, Rep.keep h1 fun b hb => k b (by simp [hb]), RepAll.keep h2 fun b hb => k b (by simp [hb]), rfl⟩
end
mutual
/-- all of it is tracked -/
theorem Rep.tracked : ∀ {d : D} {v : V} {as : List Addr}, Rep K H d v as → ∀ b ∈ as, ∃ o, H b = some o
  | .non, v, as, h, b, hb => by simp only [Rep] at h; rw [h.2] at hb; cases hb
  | .bl _, v, as, h, b, hb => by simp only [Rep] at h; rw [h.2] at hb; cases hb
  | .int _, v, as, h, b, hb => by simp only [Rep] at h; rw [h.2] at hb; cases hb
  | .str _, v, as, h, b, hb => by simp only [Rep] at h; rw [h.2] at hb; cases hb
  | .tup ds, v, as, h, b, hb => by
    simp only [Rep] at h
    obtain ⟨a, xs, bs, e, ha, r, na, rfl⟩ := h
    rcases List.mem_cons.mp hb with z | z
    · exact ⟨_, z ▸ ha⟩
    · exact RepAll.tracked r b z
  | .lst ds, v, as, h, b, hb => by
    simp only [Rep] at h
    obtain ⟨a, xs, bs, e, ha, r, na, rfl⟩ := h
    rcases List.mem_cons.mp hb with z | z
    · exact ⟨_, z ▸ ha⟩
    · exact RepAll.tracked r b z
  | .dct, v, as, h, b, hb => by
    simp only [Rep] at h
    obtain ⟨a, e, ha, rfl⟩ := h
    obtain rfl := List.mem_singleton.mp hb
    exact ⟨_, ha⟩
  | .dx, v, as, h, b, hb => by
    simp only [Rep] at h
    obtain ⟨a, kvs, e, ha, rfl⟩ := h
    obtain rfl := List.mem_singleton.mp hb
    exact ⟨_, ha⟩
  | .exc C n m, v, as, h, b, hb => by
    simp only [Rep] at h
    obtain ⟨a, t, d, e, ha, ht, hd, g, rfl⟩ := h
    rcases List.mem_cons.mp hb with z | z
    · exact ⟨_, z ▸ ha⟩
    · rcases List.mem_cons.mp z with z | z
      · exact ⟨_, z ▸ ht⟩
      · exact ⟨_, hd b (by simpa using z)⟩
theorem RepAll.tracked : ∀ {ds : List D} {xs : List V} {as : List Addr}, RepAll K H ds xs as → ∀ b ∈ as, ∃ o, H b = some o
  | [], xs, as, h, b, hb => by simp only [RepAll] at h; rw [h.2] at hb; cases hb
  | d :: ds, xs, as, h, b, hb => by
    simp only [RepAll] at h
    obtain ⟨x, r, bs, cs, e, h1, h2, rfl⟩ := h
    rcases List.mem_append.mp hb with z | z
    · exact Rep.tracked h1 b z
    · exact RepAll.tracked h2 b z
end
theorem RepAll.len : ∀ {ds : List D} {xs : List V} {as : List Addr}, RepAll K H ds xs as → xs.length = ds.length
  | [], xs, as, h => by
    simp only [RepAll] at h
    rw [h.1]
    rfl
  | d :: ds, xs, as, h => by
    simp only [RepAll] at h
    obtain ⟨x, r, bs, cs, e, h1, h2, _⟩ := h
    rw [e, List.length_cons, List.length_cons, RepAll.len h2]
theorem RepAll.at : ∀ {ds : List D} {xs : List V} {as : List Addr} {i : Nat} {d : D}, RepAll K H ds xs as → ds[i]? = some d → ∃ x bs, xs[i]? = some x ∧ Rep K H d x bs ∧ ∀ b ∈ bs, b ∈ as
  | [], xs, as, i, d, h, e => by simp at e
  | d :: ds, xs, as, 0, d', h, e => by
    simp only [RepAll] at h
    obtain ⟨x, r, bs, cs, rfl, h1, h2, rfl⟩ := h
    obtain rfl : d = d' := by simpa using e
    exact ⟨x, bs, rfl, h1, fun b hb => by simp [hb]⟩
  | d :: ds, xs, as, i + 1, d', h, e => by
    simp only [RepAll] at h
    obtain ⟨x, r, bs, cs, rfl, h1, h2, rfl⟩ := h
    obtain ⟨y, es, q1, q2, q3⟩ := RepAll.at (i := i) h2 (by simpa using e)
    exact ⟨y, es, by simpa using q1, q2, fun b hb => by simp [q3 b hb]⟩
theorem RepAll.at2 {ds : List D} {xs : List V} {as : List Addr} {i : Nat} {x : V} (h : RepAll K H ds xs as) (e : xs[i]? = some x) : ∃ d bs, ds[i]? = some d ∧ Rep K H d x bs ∧ ∀ b ∈ bs, b ∈ as := by
  have hl := h.len
  have hi : i < ds.length := by rw [← hl]; exact (List.getElem?_eq_some_iff.mp e).1
  obtain ⟨y, bs, q1, q2, q3⟩ := h.at (List.getElem?_eq_getElem hi)
  rw [e] at q1
  cases q1
  exact ⟨_, bs, List.getElem?_eq_getElem hi, q2, q3⟩
section
variable {P : Program} {w : World} {h : Heap}
mutual
/-- what stands there shows by its text -/
theorem Rep.shows (hok : HOk P w H h) (kin : K.In h) : ∀ {d : D} {v : V} {as : List Addr} {u : Value}, Rep K H d v as → RelV v u → small d → wt d ≤ sizeLine → ReprK P w as h (dep d) u (shown d)
  | .non, v, as, u, r, q, sm, z => by
    simp only [Rep] at r
    obtain ⟨rfl, rfl⟩ := r
    cases (show u = Value.none from q)
    exact ReprK.of_is ReprIs.none _ _ _
  | .bl b, v, as, u, r, q, sm, z => by
    simp only [Rep] at r
    obtain ⟨rfl, rfl⟩ := r
    cases (show u = Value.bool b from q)
    exact ReprK.of_is (ReprIs.bool b) _ _ _
  | .int i, v, as, u, r, q, sm, z => by
    simp only [Rep] at r
    obtain ⟨rfl, rfl⟩ := r
    obtain ⟨t, rfl⟩ := (show ∃ t, u = Value.int i t from q)
    simp only [small] at sm
    exact ReprK.of_is (ReprIs.int t sm) _ _ _
  | .str x, v, as, u, r, q, sm, z => by
    simp only [Rep] at r
    obtain ⟨rfl, rfl⟩ := r
    obtain ⟨t, rfl⟩ := (show ∃ t, u = Value.str x t from q)
    simp only [wt] at z
    exact ReprK.of_is (ReprIs.str x t z) _ _ _
  | .tup ds, v, as, u, r, q, sm, z => by
    simp only [Rep] at r
    obtain ⟨a, xs, bs, rfl, ha, ra, na, rfl⟩ := r
    cases (show u = Value.ref a from q)
    obtain ⟨_, its, rv, o, h1, h2, n, h3⟩ := (show ObjOk P w H h a (.tup xs) from hok a _ ha)
    simp only [small] at sm
    simp only [wt] at z
    have k := RepAll.shows hok kin ra rv sm (by omega) (depAll ds) (Nat.le_refl _)
    simp only [shown, dep]
    exact ReprK.tuple h1 h2 h3 na (by simpa using k)
  | .lst ds, v, as, u, r, q, sm, z => by
    simp only [Rep] at r
    obtain ⟨a, xs, bs, rfl, ha, ra, na, rfl⟩ := r
    cases (show u = Value.ref a from q)
    obtain ⟨_, its, n, rv, h1⟩ := (show ObjOk P w H h a (.lst xs) from hok a _ ha)
    simp only [small] at sm
    simp only [wt] at z
    have k := RepAll.shows hok kin ra rv sm (by omega) (depAll ds) (Nat.le_refl _)
    simp only [shown, dep]
    cases its with
    | nil =>
      generalize shownAll ds = ts at k ⊢
      cases k
      rw [show listText [] = ("[]" : Str) from listText_nil]
      exact ReprK.listEmpty h1 rfl rfl
    | cons y l =>
      exact ReprK.list h1 rfl rfl na (by simpa using k.length_eq) (fun i y e => k.item i y (by simpa using e))
  | .dx, v, as, u, r, q, sm, z => by
    simp only [small] at sm
  | .dct, v, as, u, r, q, sm, z => by
    simp only [Rep] at r
    obtain ⟨a, rfl, ha, rfl⟩ := r
    cases (show u = Value.ref a from q)
    obtain ⟨_, hs, vs, kv, o, es, ep, h1, h2, h3, h4⟩ := (show ObjOk P w H h a (.dK []) from hok a _ ha)
    cases kv
    simp only [shown, dep]
    have et : dictText [] = ("{}" : Str) := by decide +kernel
    rw [← et]
    refine ReprK.dict (as := []) (d := 0) (o := o) (es := es) (n := ep) h1 h2.1 h3 hs (by simp) ?_
    have e0 : es.toList = [] := by
      have q : Pairs (mixKind P w) es.toList [] := h4.2.1
      generalize es.toList = l at q
      cases q
      rfl
    rw [e0]
    exact .nil
  | .exc C n m, v, as, u, r, q, sm, z => by
    simp only [Rep] at r
    obtain ⟨a, t, d, rfl, ha, ht, _, g, rfl⟩ := r
    cases (show u = Value.ref a from q)
    have h1 := xV_at hok ha
    obtain ⟨_, its, rv, o, h2, h3, n2, h4⟩ := (show ObjOk P w H h t (.tup (xArgs m)) from hok t _ ht)
    simp only [wt] at z
    simp only [shown, dep]
    intro base hb A gs E s Q hg hcl hu hk0 hQ
    refine wpAny_pyReprUnder_ref (by omega) (reprUnder_C g ⟨kin.keeps hk0, _, _, hk0 _ _ h1, rfl, rfl, rfl⟩ m rv ⟨o, n2, hk0 _ _ h2, h3, h4⟩ base hb gs hg (hcl t (by simp)) hu fun h' u tk hk => ⟨_, _, rfl, hQ h' tk hk⟩)
theorem RepAll.shows (hok : HOk P w H h) (kin : K.In h) : ∀ {ds : List D} {xs : List V} {as : List Addr} {us : List Value}, RepAll K H ds xs as → Vals xs us → smallAll ds → wtAll ds ≤ sizeLine → ∀ n, depAll ds ≤ n → ReprAllK P w as h n us (shownAll ds)
  | [], xs, as, us, r, q, sm, z, n, hn => by
    simp only [RepAll] at r
    obtain ⟨rfl, rfl⟩ := r
    cases q
    simp only [shownAll]
    exact .nil
  | d :: ds, xs, as, us, r, q, sm, z, n, hn => by
    simp only [RepAll] at r
    obtain ⟨x, l, bs, cs, rfl, r1, r2, rfl⟩ := r
    cases q with
    | cons q1 q2 =>
      simp only [smallAll] at sm
      simp only [wtAll] at z
      simp only [depAll] at hn
      simp only [shownAll]
      have k1 := Rep.shows hok kin r1 q1 sm.1 (by omega)
      have k2 := RepAll.shows hok kin r2 q2 sm.2 (by omega) n (by omega)
      exact .cons ((k1.more fun b hb => List.mem_append_left _ hb).level_le (by omega)) (k2.more_le (fun b hb => List.mem_append_right _ hb) (Nat.le_refl _))
end
end
end
end Sw
namespace Sw
open PySem PySem.Spec PyProof.Rows L2
/-- repr(xs), xs a list of data -/
def rRepr (K : PySem.W.Frag) : List V → Hp → VK → Prop := fun xs H Q => ∃ x ds as, xs = [x] ∧ Rep K H (.lst ds) x as ∧ smallAll ds ∧ wtAll ds ≤ 10000000 ∧ depAll ds ≤ 30 ∧ Q (.str (shown (.lst ds))) H
theorem call_repr {X : Cx} {k : Nat} (hr : Room k X.A) (hg : X.A.guards = some []) : CallR X (.builtin "repr") (rRepr X.K) := by
  intro pins s σ H xs us Q I r h
  obtain ⟨x, ds, as, rfl, hd, sm, z, dp, q⟩ := h
  obtain ⟨u, rfl, hu⟩ := vals1 r
  have un := hr.units
  have hz : wt (.lst ds) ≤ sizeLine := by
    rw [sizeLine_eq]
    simp only [wt]
    omega
  have hsh : (listText (shownAll ds)).length ≤ sizeLine := by
    have h1 := shown_wt (.lst ds)
    simp only [shown] at h1
    omega
  simp only [Rep] at hd
  obtain ⟨a, ys, bs, rfl, ha, ra, na, rfl⟩ := hd
  cases (show u = Value.ref a from hu)
  obtain ⟨_, its, n, rv, h1⟩ := (show ObjOk X.prog X.w H s.heap a (.lst ys) from I.hok a _ ha)
  have kr := RepAll.shows I.hok I.kIn ra rv sm (by simp only [wt] at hz; omega) (depAll ds) (Nat.le_refl _)
  have hT : s.TypeIs (.ref a) "list" := ⟨_, h1, rfl⟩
  simp only [shown] at q
  refine call_repr_slot (by omega) hT PySem.F.slot_list_repr.toG ?_
  cases its with
  | nil =>
    generalize shownAll ds = ts at kr q
    cases kr
    rw [show listText [] = ("[]" : Str) from listText_nil] at q
    exact call_list_repr_empty hT h1 rfl ⟨_, _, rfl, .str "[]", H, I.tok _, ⟨_, rfl⟩, q⟩
  | cons y l =>
    refine call_list_reprK (as := bs) (h₀ := s.heap) (d := depAll ds) h1 rfl rfl na (by simpa using kr.length_eq) (fun i y e => kr.item i y (by simpa using e)) (g := []) hg (fun b _ => Clear.nil b) (by show X.A.units + 1 + _ < cLine; omega) (fun _ _ e => e) (fun h' u tk hk => ?_) hsh
    exact ⟨_, _, rfl, .str _, H, I.kept (t' := tk) hk, ⟨_, rfl⟩, q⟩
/-! ### what a class a thing is of -/
/-- isinstance(x, T), by the data -/
def isT (T : String) : D → Bool
  | .int _ => T == "int"
  | .bl _ => T == "bool" || T == "int"
  | .str _ => T == "str"
  | .tup _ => T == "tuple"
  | .lst _ => T == "list"
  | .dct => T == "dict"
  | .dx => T == "dict"
  | _ => false
def isTs : List String := ["int", "bool", "tuple", "str", "list", "dict"]
def rIsD (K : PySem.W.Frag) : List V → Hp → VK → Prop := fun xs H Q => ∃ (x : V) (d : D) (as : List Addr) (T : String), xs = [x, .ty T] ∧ T ∈ isTs ∧ Rep K H d x as ∧ Q (.bl (isT T d)) H
theorem kit_exc {K : PySem.W.Frag} {C : Addr} {n : Str} (G : XGood K C n) {T : String} (hT : T ∈ isTs) : PySem.W.kitOne K (.ref C) (.type T) = some false := by
  have e : ∀ T : String, PySem.W.kitMeta T = true → PySem.W.subIn K (.ref C) (.type T) = some false → PySem.W.kitOne K (.ref C) (.type T) = some false := fun T h1 h2 => by
    unfold PySem.W.kitOne PySem.W.kitCls
    rw [if_neg (show ¬ ((Value.ref C == Value.type T) = true) from Bool.false_ne_true)]
    show (if PySem.W.kitMeta T = true then _ else _) = _
    rw [if_pos h1, h2]
  simp only [isTs, List.mem_cons, List.not_mem_nil, or_false] at hT
  rcases hT with rfl | rfl | rfl | rfl | rfl | rfl
  · exact e _ (by decide +kernel) G.ni
  · exact e _ (by decide +kernel) G.nb
  · exact e _ (by decide +kernel) G.nt
  · exact e _ (by decide +kernel) G.ns
  · exact e _ (by decide +kernel) G.nl
  · exact e _ (by decide +kernel) G.nd
theorem kitB_none {T : String} (hT : T ∈ isTs) : kitB "NoneType" T = some false := by
  simp only [isTs, List.mem_cons, List.not_mem_nil, or_false] at hT
  rcases hT with rfl | rfl | rfl | rfl | rfl | rfl <;> decide +kernel
theorem kitB_bool {T : String} (hT : T ∈ isTs) : kitB "bool" T = some (T == "bool" || T == "int") := by
  simp only [isTs, List.mem_cons, List.not_mem_nil, or_false] at hT
  rcases hT with rfl | rfl | rfl | rfl | rfl | rfl <;> decide +kernel
theorem kitB_self {S T : String} (hS : S ∈ ["int", "str", "tuple", "list", "dict"]) (hT : T ∈ isTs) : kitB S T = some (T == S) := by
  simp only [isTs, List.mem_cons, List.not_mem_nil, or_false] at hT hS
  rcases hS with rfl | rfl | rfl | rfl | rfl <;> rcases hT with rfl | rfl | rfl | rfl | rfl | rfl <;> decide +kernel
theorem call_isD {X : Cx} : CallR X (.builtin "isinstance") (rIsD X.K) := by
  intro pins s σ H xs us Q I r h
  obtain ⟨x, d, as, T, rfl, hT, hd, q⟩ := h
  have ex : ∀ t b, TyX X.K H x t → PySem.W.kitOne X.K t (.type T) = some b → isT T d = b → wpAny (model X.prog X.w) X.A (call (.builtin "isinstance") us) (EP X pins σ Q) X.xe s := fun t b h1 h2 h3 => by
    rw [h3] at q
    exact call_isi pins s σ H _ us Q I r ⟨x, .ty T, t, .type T, b, rfl, .ty T, h1, h2, q⟩
  cases d with
  | non =>
    simp only [Rep] at hd
    obtain ⟨rfl, rfl⟩ := hd
    exact ex _ _ (.base .non) (kit_ty (kitB_none hT)) rfl
  | bl b =>
    simp only [Rep] at hd
    obtain ⟨rfl, rfl⟩ := hd
    exact ex _ _ (.base (.bl b)) (kit_ty (kitB_bool hT)) rfl
  | int i =>
    simp only [Rep] at hd
    obtain ⟨rfl, rfl⟩ := hd
    exact ex _ _ (.base (.int i)) (kit_ty (kitB_self (by decide) hT)) rfl
  | str y =>
    simp only [Rep] at hd
    obtain ⟨rfl, rfl⟩ := hd
    exact ex _ _ (.base (.str y)) (kit_ty (kitB_self (by decide) hT)) rfl
  | tup ds =>
    simp only [Rep] at hd
    obtain ⟨a, ys, bs, rfl, ha, _⟩ := hd
    exact ex _ _ (.base (.tup ha)) (kit_ty (kitB_self (by decide) hT)) rfl
  | lst ds =>
    simp only [Rep] at hd
    obtain ⟨a, ys, bs, rfl, ha, _⟩ := hd
    exact ex _ _ (.base (.lst ha)) (kit_ty (kitB_self (by decide) hT)) rfl
  | dct =>
    simp only [Rep] at hd
    obtain ⟨a, rfl, ha, _⟩ := hd
    exact ex _ _ (.base (.dK ha)) (kit_ty (kitB_self (by decide) hT)) rfl
  | dx =>
    simp only [Rep] at hd
    obtain ⟨a, kvs, rfl, ha, _⟩ := hd
    exact ex _ _ (.base (.dK ha)) (kit_ty (kitB_self (by decide) hT)) rfl
  | exc C n m =>
    simp only [Rep] at hd
    obtain ⟨a, t, dd, rfl, ha, ht, hx, G, _⟩ := hd
    obtain ⟨u1, u2, rfl, r1, r2⟩ := vals2 r
    cases (show u1 = Value.ref a from r1)
    cases (show u2 = Value.type T from r2)
    have h1 := xV_at I.hok ha
    obtain ⟨cd, hc, _⟩ := G.nm
    have fin : ∀ od, PySem.W.InstAt s.heap a (xRec C dd t) C od → wpAny (model X.prog X.w) X.A (call (.builtin "isinstance") [.ref a, .type T]) (EP X pins σ Q) X.xe s := fun od J =>
      PySem.W.kia_one (PySem.W.kitx_exc (od := od) (by rw [hc]; rfl) G.ga G.gt G.sub G.ca G.cn G.ct G.mo) I.kIn J (kit_exc G hT) (fun z => nomatch z) fun tk => ⟨.bl false, H, I.tok tk, rfl, q⟩
    cases dd with
    | none => exact fin none ⟨h1, rfl, rfl, trivial⟩
    | some dx =>
      obtain ⟨o, ho⟩ := (show ObjOk X.prog X.w H s.heap dx (.own a) from I.hok dx _ (hx dx rfl))
      exact fin (some o) ⟨h1, rfl, rfl, ho⟩
end Sw
namespace Sw
open PySem PySem.Spec PyProof.Rows
theorem enum_new1 {v : Value} {o : Obj} {Hx : Heap → Prop} (B : Begins v o Hx) :
    Meets (Builtin.«enumerate.__new__» ⟨[.type "enumerate", v], []⟩) (fun _ R s => Hx s.heap ∧
      R (.ok (.ret (.ref (s.heap.push o).objs.size))) { s with heap := (s.heap.push o).push { cls := .type "enumerate", data := .fields #[.none, .bool false, .ref s.heap.objs.size, rawInt 0, .none, .none] } }) :=
  .of_wp fun prog w A R s h => by
    obtain ⟨hp, g, d, tk, os⟩ := s
    obtain ⟨h1, h⟩ := h
    have hsub := sub_enumerate
    have q1 : ∀ {A' : Around} {E : Value → Shared → Prop} {Q : Value → Shared → Prop}, Q (.ref hp.objs.size) ⟨hp.push o, g, d, tk, os⟩ → wpAny (model prog w) A' (pyIter v) Q E ⟨hp, g, d, tk, os⟩ :=
      fun q => B.iter prog w _ _ ⟨hp, g, d, tk, os⟩ _ h1 q
    wp_walk using q1
    refine wpAny_stack_any fun st => wpAny_pure ?_
    split
    · rename_i c _ _ _ _ _
      cases (c == Value.type "enumerate")
      · wp_walk using q1
        exact ⟨_, rfl, h⟩
      · wp_walk using q1
        exact ⟨_, rfl, h⟩
    · wp_walk using q1
      exact ⟨_, rfl, h⟩
theorem enum_call1 {prog : Program} {w : World} {A : Around} {E : Value → Shared → Prop} {s : Shared} {v : Value} {o : Obj} {Hx : Heap → Prop} {Q : Value → Shared → Prop} (B : Begins v o Hx) (h1 : Hx s.heap)
    (h : ∀ h', IsEnum h' (s.heap.objs.size + 1) s.heap.objs.size 0 .none → h'.get? s.heap.objs.size = some o → (∀ b o, s.heap.get? b = some o → h'.get? b = some o) → Q (.ref (s.heap.objs.size + 1)) { s with heap := h' }) :
    wpAny (model prog w) A (call (.type "enumerate") [v]) Q E s := by
  refine callType_new F.called_enumerate (by decide) (F.typeCall_enumerate_1 _) (F.newCall_enumerate_1 _) (fun obj => F.args_object_init_2 obj _) F.entry_enumerate_new (enum_new1 B) ⟨h1, ?_⟩
  have hz : (s.heap.push o).objs.size = s.heap.objs.size + 1 := Heap.size_push ..
  show _ ∧ _
  rw [hz]
  have he : IsEnum ((s.heap.push o).push { cls := .type "enumerate", data := .fields #[.none, .bool false, .ref s.heap.objs.size, rawInt 0, .none, .none] }) (s.heap.objs.size + 1) s.heap.objs.size 0 .none := by
    have q := Heap.get?_push_size (s.heap.push o) (o := { cls := .type "enumerate", data := .fields #[.none, .bool false, .ref s.heap.objs.size, rawInt 0, .none, .none] }) rfl
    rw [hz] at q
    exact q
  exact ⟨⟨_, he, rfl⟩, h _ he (Heap.get?_push_of_some _ (Heap.get?_push_size _ B.free)) fun b o x => Heap.get?_push_of_some _ (Heap.get?_push_of_some _ x)⟩
end Sw
namespace Sw
open PySem PySem.Spec PyProof.Rows L2
/-- the tuple at a, each item in a new pair with its place -/
def ItTe (K : PySem.W.Frag) (a : Addr) : It :=
  ⟨fun i H => ∃ (xs : List V) (x : V), SqT K H a xs ∧ xs[i]? = some x, fun i H v H' => ∃ T x, v = .ref T ∧ H T = none ∧ H' = upd H T (.tup [.int (i : Nat), x]) ∧ ∀ xs, SqT K H a xs → xs[i]? = some x, fun i H => ∃ xs : List V, SqT K H a xs ∧ xs.length = i⟩
theorem turn_te {P : Program} {w : World} {K : PySem.W.Frag} {elts : List Expr} {kk : Nat} {tpos : Pos} (a e it : Addr) :
    Turn P w K (.Tuple elts kk tpos) (ItTe K a) [e, it] e (fun i h => (∃ old, IsEnum h e it ((i : Nat) : Int) old) ∧ h.IsTupleIter it a i ∧ e ≠ it ∧ a ≠ it ∧ a ≠ e) where
  mem := by simp
  obj := fun i h st b hb => by
    obtain ⟨⟨old, he⟩, ⟨o, ho, hc, hd⟩, _⟩ := st
    rcases List.mem_cons.mp hb with z | z
    · rw [z]; exact ⟨_, he, fun v q => nomatch q⟩
    · obtain rfl := List.mem_singleton.mp z
      exact ⟨o, ho, fun v q => by rw [hd] at q; cases q⟩
  keep := fun i h h' st k => by
    obtain ⟨⟨old, he⟩, hi, hne⟩ := st
    exact ⟨⟨old, k e (by simp) _ he⟩, hi.at fun o q => k it (by simp) o q, hne⟩
  item := by
    intro X hP hw hK hc i pins s σ H E I hf st hg
    subst hP hw hK
    obtain ⟨⟨old, he⟩, hit, hne, hai, hae⟩ := st
    obtain ⟨xs, x, hq, hx⟩ := hg
    obtain ⟨its, rv, p, hz⟩ := I.tuple hq
    obtain ⟨u, hu, ru⟩ := rv.get hx
    have hel : e < s.heap.objs.size := Heap.lt_size he
    have hil : it < s.heap.objs.size := by obtain ⟨_, q, _⟩ := hit; exact Heap.lt_size q
    have hlt : i < its.toArray.size := by
      have := (List.getElem?_eq_some_iff.mp hu).1
      simpa using this
    refine wpAny_pyNext_enum_itemD (Draws.tuple (A := X.A.in1) (I.ok.hd hc) it a hai its.toArray) he ⟨hit, p⟩ hlt hne (by simp [hne, Ne.symm hae]) fun y h' tk hy ho hst hT hsz hk => ?_
    obtain ⟨hit', _⟩ := hst
    have ey : y = u := by
      have q : its.toArray[i]? = some y := hy
      have q2 : its.toArray[i]? = some u := by simpa using hu
      rw [q2] at q
      exact (Option.some.inj q).symm
    subst ey
    refine ⟨_, rfl, wpAny_letOwnedTupleGo_enum (s := { s with heap := h', toks := tk + 1 }) ho fun h'' he' sb => ?_⟩
    have hT2 : h''.get? s.heap.objs.size = some { cls := .type "tuple", data := .seq #[.int i tk, y] } := (sb.2 _ (Nat.ne_of_gt hel)).trans hT
    have new : ObjOk X.prog X.w (upd H s.heap.objs.size (.tup [.int (i : Nat), x])) h'' s.heap.objs.size (.tup [.int (i : Nat), x]) :=
      ⟨by show 2 ≤ sizeLine; decide, [.int i tk, y], .cons ⟨_, rfl⟩ (.cons ru .nil), ⟨_, hT2, rfl, _, rfl⟩⟩
    have I1 : Inv X pins σ (upd H s.heap.objs.size (.tup [.int (i : Nat), x])) { s with heap := h'', toks := tk + 1 } :=
      I.turnedNew (ch := [e, it]) (fun b ob hb q => (sb.2 b (fun z => hb (by simp [z]))).trans (hk b ob (fun z => hb (by simp [z])) (fun z => hb (by simp [z])) q)) hf (Nat.le_refl _) new
    refine ⟨.ref s.heap.objs.size, _, I1, rfl, ⟨_, x, rfl, I.hok.fresh (Nat.le_refl _), rfl, fun ys hy => by rw [I.tuple_inj hy hq]; exact hx⟩, ⟨⟨y, ?_⟩, hit'.at fun o q => (sb.2 it (Ne.symm hne)).trans q, hne, hai, hae⟩, fun b hb => ?_⟩
    · have e1 : ((i + 1 : Nat) : Int) = (i : Int) + 1 := by omega
      rw [e1]; exact he'
    · have hb' : b < s.heap.objs.size := by
        rcases List.mem_cons.mp hb with z | z
        · rw [z]; exact hel
        · obtain rfl := List.mem_singleton.mp z
          exact hil
      rw [upd_ne (Nat.ne_of_lt hb')]
      exact (hf b hb).1
  done := by
    intro X hP hw hK hc i pins s σ H E I hf st hg
    subst hP hw hK
    obtain ⟨⟨old, he⟩, hit, hne, hai, hae⟩ := st
    obtain ⟨xs, hq, hx⟩ := hg
    obtain ⟨its, rv, p, hz⟩ := I.tuple hq
    obtain ⟨f0, f1, f2, f3, f4, f5⟩ := hf it (by simp)
    have hl := rv.length
    have hi : its.toArray.size = i := by simp; omega
    refine wpAny_pyNext_enum_endD (Draws.tuple (A := X.A.in1) (I.ok.hd hc) it a hai its.toArray) he (by rw [hi]; exact ⟨hit, p⟩) fun h' eb => ⟨rfl, I.turned (t' := s.toks) (fun b o hb q => eb b o hb q) f0 f1 f3 f4 f5⟩
  self := fun A i s Q E st h => let ⟨⟨_, he⟩, _⟩ := st; wpAny_pyIter_enum he h
def iTe (K : PySem.W.Frag) (ta : TA) : TI := fun σ H R => ta σ H fun vs H1 => ∃ a xs, vs = [.ref a] ∧ SqT K H1 a xs ∧ R (ItTe K a) H1
/-- for i, x in enumerate(t), t a tuple -/
theorem pi_enumT {X : Cx} {e : Expr} {ta : TA} {p pos tpos : Pos} {elts : List Expr} {kk : Nat} (hg : Gl X "enumerate") (hm : X.mg "enumerate" = none) (ha : PA X [e] ta) (hs : starEach [e] X.env = [(false, eval e X.env)] := by rfl) :
    PI X (.Tuple elts kk tpos) (.Call (.Name "enumerate" p) [e] [] pos) (iTe X.K ta) := by
  refine ⟨fun pins s σ H R I h => ?_⟩
  refine Call_ (ld_blt I hg hm boot_enumerate (PyProof.Rows.callWith_type1 (thn (ha.run pos pins s σ H _ I h) fun us s1 ⟨vs, H1, I1, r1, q1⟩ => ?_) hs rfl))
  obtain ⟨a, xs, ex, hq, q⟩ := q1
  subst ex
  cases r1 with
  | cons r rr =>
    cases rr
    cases r
    obtain ⟨its, rv, p', hz⟩ := I1.tuple hq
    have hal : a < s1.heap.objs.size := by obtain ⟨_, q, _⟩ := p'; exact Heap.lt_size q
    refine enum_call1 (begins_tuple a its.toArray) p' fun h' he hit hk => wpAny_pyIter_enum he ?_
    have I2 : Inv X pins σ H1 { s1 with heap := h' } := I1.kept (t' := s1.toks) hk
    refine ⟨s1.heap.objs.size + 1, [s1.heap.objs.size + 1, s1.heap.objs.size], _, _, H1, rfl, I2, turn_te a (s1.heap.objs.size + 1) s1.heap.objs.size, ⟨⟨.none, he⟩, ⟨_, hit, rfl, rfl⟩, Nat.succ_ne_self _, Nat.ne_of_lt hal, Nat.ne_of_lt (Nat.lt_succ_of_lt hal)⟩, fun b hb => ?_, q⟩
    have hle : s1.heap.objs.size ≤ b := by
      rcases List.mem_cons.mp hb with z | z
      · rw [z]; exact Nat.le_add_right _ _
      · obtain rfl := List.mem_singleton.mp z
        exact Nat.le_refl _
    exact I1.fpOk hle (I1.hok.fresh hle)
theorem walk_te {K : PySem.W.Frag} {a : Addr} {xs : List V} : Walk (ItTe K a) xs.length (fun H => SqT K H a xs) (YPair (fun i => some (.int (i : Nat))) (fun i => xs[i]?)) := by
  refine ⟨fun i _ hi q => ⟨xs, xs[i], q, by simp [hi]⟩, fun _ q => ⟨xs, q, rfl⟩, fun i H v H' _ q y => ?_⟩
  obtain ⟨T, x, h1, h2, h3, h4⟩ := y
  exact ⟨T, .int (i : Nat), x, h1, h2, h3, rfl, h4 xs q⟩
end Sw
namespace Sw
open PySem L2
/-! ### what all laws share: the text by places, the checks of the package, data in short -/
def top (i : Nat) : Stmt := PySem.Challenge.pw_swapstops_k02_texts_of_nets.main.body.getD i (.Pass ⟨0, 0, 0, 0⟩)
def isWhole (lo hi : Int) : D → Bool
  | .int i => decide (lo ≤ i) && decide (i ≤ hi)
  | _ => false
def isPair : D → Bool
  | .tup [_, _] => true
  | _ => false
/-- built-in names that no module has taken -/
structure NoNames (mg : Str → Option Value) : Prop where
  isi : mg "isinstance" = none
  len : mg "len" = none
  int : mg "int" = none
  bool : mg "bool" = none
  tuple : mg "tuple" = none
  enumerate : mg "enumerate" = none
  range : mg "range" = none
  abs : mg "abs" = none
  list : mg "list" = none
  dict : mg "dict" = none
  zip : mg "zip" = none
  sorted : mg "sorted" = none
  str : mg "str" = none
  repr : mg "repr" = none
  super : mg "super" = none
section
variable {P : Program} {w : World} {K : PySem.W.Frag} {mg : Str → Option Value} {base : Heap}
/-- isinstance(the name in slot i, T) -/
theorem pe_isi {X : Cx} {i : Nat} {x T : Str} {p1 p2 p3 p4 : Pos} {TN : String} (hN : X.N[i]? = some x) (hv : Vis X.env.scope x) (hd : (x == ("__debug__" : Str)) = false) (hcd : (x == ("__classdict__" : Str)) = false)
    (h1 : X.mg "isinstance" = none) (h2 : X.mg T = none) (g1 : Gl X "isinstance") (g2 : Gl X T) (hb : bootBuiltins T = some (.type TN)) (hn : T ≠ "__name__") (hd2 : (T == ("__debug__" : Str)) = false)
    (hs : starEach [Expr.Name x p1, Expr.Name T p2] X.env = (false, eval (.Name x p1) X.env) :: starEach [Expr.Name T p2] X.env := by rfl) (hs2 : starEach [Expr.Name T p2] X.env = (false, eval (.Name T p2) X.env) :: starEach [] X.env := by rfl)
    (hpl : (backTo p4 (starEach [Expr.Name T p2] X.env)).any (·.1) = false := by rfl) :
    PE X (.Call (.Name "isinstance" p3) [.Name x p1, .Name T p2] [] p4) (tCB (rIsD X.K) (tCons (tVar i) (tCons (tC (.ty TN)) tNil))) :=
  pe_callB call_isD g1 h1 (by decide +kernel) (pa_cons (pe_var hN hv hd hcd) (pa_cons (pe_bltn (v := .ty TN) g2 h2 hb rfl hn hd2) pa_nil hs2) hs) (by decide) (by decide) hs hpl
def spBetween (K : PySem.W.Frag) : Sp := fun vs H Q _ => ∃ (x : V) (d : D) (as : List Addr) (lo hi : Int), vs = [x, .int lo, .int hi] ∧ Rep K H d x as ∧ Q (.bl (isWhole lo hi d)) H
/-! ### is_pair -/
def spPair (K : PySem.W.Frag) : Sp := fun vs H Q _ => ∃ (x : V) (d : D) (as : List Addr), vs = [x] ∧ Rep K H d x as ∧ Q (.bl (isPair d)) H
/-- a def of one's own that may be called by its name -/
structure Own (P : Program) (w : World) (K : PySem.W.Frag) (mg : Str → Option Value) (base : Heap) (k : Nat) (x : Str) (ps : List Str) (sp : Sp) : Prop where
  ex : ∃ f fd, FnOk P w K mg base CX0 k f fd ps sp ∧ mg x = some (.ref f) ∧ PySem.W.keepIn K (.ref f) = true ∧ Binds K fd ps []
theorem two_of {d : D} (h : isPair d = true) : ∃ a b, d = .tup [a, b] := by
  cases d with
  | tup ds =>
    match ds, h with
    | [a, b], _ => exact ⟨a, b, rfl⟩
    | [], h => cases h
    | [_], h => cases h
    | _ :: _ :: _ :: _, h => cases h
  | _ => cases h
theorem int_wt {i : Nat} (h : i ≤ sizeLine) : (Str.ofString (toString (i : Int))).length ≤ 20 ∧ ((i : Int)).natAbs.log2 < 1920 := by
  rw [sizeLine_eq] at h
  have h1 : ((i : Int)).natAbs < 10 ^ 19 := by
    have : ((i : Int)).natAbs = i := rfl
    rw [this]
    omega
  have h2 := int_text_length_le10 (k := 19) (by decide) h1
  rw [PySem.ofString_length]
  refine ⟨h2, ?_⟩
  exact PySem.Spec.log2_small (Nat.lt_of_lt_of_le h1 (by decide +kernel))
theorem wt_len : ∀ ds : List D, 2 * ds.length ≤ wtAll ds
  | [] => by simp [wtAll]
  | d :: r => by
    have := wt_len r
    simp only [wtAll, List.length_cons]
    omega
/-- a new pair of a word and a place -/
theorem rep_err {H : Hp} {p : Addr} {z : Str} {i : Int} (h : H p = none) : Rep K (upd H p (.tup [.str z, .int i])) (.tup [.str z, .int i]) (.ref p) [p] := by
  simp only [Rep, RepAll]
  exact ⟨p, _, [], rfl, upd_same, ⟨_, _, [], [], rfl, ⟨rfl, rfl⟩, ⟨_, _, [], [], rfl, ⟨rfl, rfl⟩, ⟨rfl, rfl⟩, rfl⟩, rfl⟩, by simp, rfl⟩
theorem same_new {H : Hp} {p : Addr} {o : HO} (h : H p = none) : Same H (upd H p o) := fun b x e => by
  rw [upd_ne (ne_of_none e h)]
  exact e
theorem Rep.same {H H' : Hp} {d : D} {v : V} {as : List Addr} (h : Rep K H d v as) (s : Same H H') : Rep K H' d v as := h.keep fun b _ o e => s b o e
theorem RepAll.same {H H' : Hp} {d : List D} {v : List V} {as : List Addr} (h : RepAll K H d v as) (s : Same H H') : RepAll K H' d v as := h.keep fun b _ o e => s b o e
theorem pair_len {ds : List D} {n : Nat} (h : n = ds.length) : isPair (.tup ds) = decide (V.int (n : Int) = V.int 2) := by
  match ds, h with
  | [], hl => rw [hl]; rfl
  | [_], hl => rw [hl]; rfl
  | [_, _], hl => rw [hl]; rfl
  | _ :: _ :: _ :: r, hl =>
    rw [hl]
    show false = _
    refine (decide_eq_false fun z => ?_).symm
    have z2 : ((_ : Nat) : Int) = 2 := V.int.inj z
    simp only [List.length_cons] at z2
    omega
theorem tup_of {d : D} (e : isT "tuple" d = true) : ∃ ds, d = .tup ds := by
  cases d <;> first | exact ⟨_, rfl⟩ | (simp_all [isT])
theorem pair_tup {d : D} (e : isT "tuple" d = false) : isPair d = false := by
  cases d <;> simp_all [isT, isPair]
/-- isinstance(e, T) -/
theorem pe_isiE {X : Cx} {e : Expr} {te : TE} {T : Str} {p2 p3 p4 : Pos} {TN : String} (he : PE X e te)
    (h1 : X.mg "isinstance" = none) (h2 : X.mg T = none) (g1 : Gl X "isinstance") (g2 : Gl X T) (hb : bootBuiltins T = some (.type TN)) (hn : T ≠ "__name__") (hd2 : (T == ("__debug__" : Str)) = false)
    (hs : starEach [e, Expr.Name T p2] X.env = (false, eval e X.env) :: starEach [Expr.Name T p2] X.env := by rfl) (hs2 : starEach [Expr.Name T p2] X.env = (false, eval (.Name T p2) X.env) :: starEach [] X.env := by rfl)
    (hpl : (backTo p4 (starEach [Expr.Name T p2] X.env)).any (·.1) = false := by rfl) :
    PE X (.Call (.Name "isinstance" p3) [e, .Name T p2] [] p4) (tCB (rIsD X.K) (tCons te (tCons (tC (.ty TN)) tNil))) :=
  pe_callB call_isD g1 h1 (by decide +kernel) (pa_cons he (pa_cons (pe_bltn (v := .ty TN) g2 h2 hb rfl hn hd2) pa_nil hs2) hs) (by decide) (by decide) hs hpl
end
end Sw
namespace Sw
open PySem L2
abbrev sBetween : Stmt := top 6
theorem scBetween : FnScope ["value", "least", "most"] ["value", "least", "most"] (defScope sBetween) := ⟨rfl, rfl, rfl, by decide +kernel, rfl, by decide +kernel, by decide +kernel⟩
section
variable {P : Program} {w : World} {K : PySem.W.Frag} {mg : Str → Option Value} {base : Heap}
theorem ok_between {f : Addr} {fd : FuncData} (F : Fun K "is_integer_between" "is_integer_between" sBetween f fd) (B : NoNames mg) : FnOk P w K mg base CX0 1 f fd ["value", "least", "most"] (spBetween K) := by
  refine F.ok scBetween (fun vs H Q E h => ?_) (fun cdv A outer s H vs Q E hr h => ?_)
  · obtain ⟨x, d, as, lo, hi, rfl, _⟩ := h
    rfl
  · obtain ⟨x, d, as, lo, hi, rfl, hd, k⟩ := h
    refine ⟨_, pss_cons (ps_if (PW.pt (pw_or (pt_val (pe_isi (i := 0) (TN := "bool") rfl (Or.inl rfl) (by decide) (by decide) B.isi B.bool rfl rfl (by decide +kernel) (by decide) (by decide)))
        (pw_or1 (pt_not (pt_val (pe_isi (i := 0) (TN := "int") rfl (Or.inl rfl) (by decide) (by decide) B.isi B.int rfl rfl (by decide +kernel) (by decide) (by decide))))))) (pss_one (ps_ret pe_bl)) pss_nil)
      (pss_one (ps_ret (pe_chain op_le op_le (pv 1) (pv 0) (pv 2)))), ?_⟩
    refine ⟨_, rfl, x, d, as, "bool", rfl, by decide, hd, _, rfl, ?_⟩
    have no : isT "bool" d = true → isWhole lo hi d = false := fun e => by cases d <;> simp_all [isT, isWhole]
    have no2 : isT "bool" d = false → isT "int" d = false → isWhole lo hi d = false := fun e e2 => by cases d <;> simp_all [isT, isWhole]
    have yes : isT "bool" d = false → isT "int" d = true → ∃ i, d = .int i := fun e e2 => by cases d <;> first | exact ⟨_, rfl⟩ | (simp_all [isT])
    cases e1 : isT "bool" d with
    | true =>
      refine iteT (iteT ?_)
      rw [no e1] at k
      exact k
    | false =>
      refine iteF ⟨_, rfl, x, d, as, "int", rfl, by decide, hd, _, rfl, ?_⟩
      cases e2 : isT "int" d with
      | false =>
        refine iteT ?_
        rw [no2 e1 e2] at k
        exact k
      | true =>
        refine iteF ?_
        obtain ⟨i, rfl⟩ := yes e1 e2
        simp only [Rep] at hd
        obtain ⟨rfl, rfl⟩ := hd
        refine ⟨_, rfl, _, rfl, _, _, rfl, rfl, _, rfl, ?_⟩
        refine ite2 (fun z => ?_) (fun z => ?_)
        · refine ⟨_, rfl, _, _, rfl, rfl, ?_⟩
          simp only [isWhole] at k
          rw [z] at k
          exact k
        · simp only [isWhole] at k
          rw [Bool.eq_false_iff.mpr z] at k
          exact k
end
end Sw
namespace Sw
open PySem PySem.Spec PyProof.Rows L2 SX
/-! ### numbers in texts, ends -/
abbrev sNumIn : Stmt := top 17
abbrev sEndsIn : Stmt := top 16
theorem scNumIn : FnScope ["word", "number"] ["word"] (defScope sNumIn) := ⟨rfl, rfl, rfl, by decide +kernel, rfl, by decide +kernel, by decide +kernel⟩
theorem scEndsIn : FnScope ["word", "v", "_", "w"] ["word"] (defScope sEndsIn) := ⟨rfl, rfl, rfl, by decide +kernel, rfl, by decide +kernel, by decide +kernel⟩
/-- the decimal of a number, by signs -/
def figs (i : Nat) : List Nat := (Str.ofString (toString (i : Int))).cps.toList
theorem figs_S (i : Nat) : Str.ofString (toString (i : Int)) = S (figs i) := (S_tl _).symm
/-- the number from 0 to 12 that a text is in decimal -/
def numL (l : List Nat) : Option Nat := (List.range 13).find? fun i => decide (figs i = l)
def numV : Option Nat → V
  | none => .non
  | some i => .int (i : Int)
def numD : Option Nat → D
  | none => .non
  | some i => .int (i : Int)
theorem numL_some {l : List Nat} {i : Nat} (h : numL l = some i) : figs i = l ∧ i ≤ 12 := by
  have h1 := List.find?_some h
  have h2 := List.mem_of_find?_eq_some h
  have h3 := List.mem_range.mp h2
  exact ⟨of_decide_eq_true h1, by omega⟩
theorem figs_inj : ∀ i, i < 13 → ∀ j, j < 13 → figs i = figs j → i = j := by decide +kernel
theorem numL_figs {i : Nat} (h : i ≤ 12) : numL (figs i) = some i := by
  cases e : numL (figs i) with
  | none =>
    have := List.find?_eq_none.mp e i (List.mem_range.mpr (by omega))
    exact absurd (decide_eq_true rfl) this
  | some j =>
    obtain ⟨h1, h2⟩ := numL_some e
    rw [figs_inj j (by omega) i (by omega) h1]
/-- both numbers of a word -/
def endsL (l : List Nat) : Option Nat × Option Nat := match TL.par [62] [] l with
  | some (p, q) => (numL p, numL q)
  | none => (numL l, numL [])
section
variable {P : Program} {w : World} {K : PySem.W.Frag} {mg : Str → Option Value} {base : Heap}
def spNumIn : Sp := fun vs H Q _ => ∃ l : List Nat, vs = [.str (S l)] ∧ Q (numV (numL l)) H
theorem ok_numIn {f : Addr} {fd : FuncData} (F : Fun K "number_in" "number_in" sNumIn f fd) (B : NoNames mg) (t : Tok) (mM : mg "MAX_STOPS" = some (.int 12 t)) : FnOk P w K mg base CX0 1 f fd ["word"] spNumIn := by
  refine F.ok scNumIn (fun vs H Q E h => ?_) (fun cdv A outer s H vs Q E hr h => ?_)
  · obtain ⟨l, rfl, _⟩ := h
    rfl
  · obtain ⟨l, rfl, k⟩ := h
    refine ⟨_, pss_cons (ps_for PassesOwn.never rfl (pi_range1 (by rfl) B.range (pa_cons (pe_op op_add (pe_glob (v := .int 12) rfl mM ⟨_, rfl⟩) pe_int) pa_nil)) (pg_name (i := 1) scNumIn.nd rfl (.inl rfl))
        (pss_one (ps_if (pt_cmpR op_eq (pe_callTy call_str_int (by rfl) B.str (by decide +kernel) (pa_cons (pv 1) pa_nil)) (pv 0) (nomark _)) (pss_one (ps_ret (pv 1))) pss_nil))) <|
      pss_one (ps_ret pe_non), ?_⟩
    refine ⟨_, _, rfl, rfl, 13, rfl, by decide, by decide, for_range (lo := 0) (n := 13) (fun i σ H' => ∃ s1, σ = [some (.str (S l)), s1] ∧ H = H' ∧ ∀ j, j < i → figs j ≠ l)
      ⟨none, rfl, rfl, fun j hj => absurd hj (Nat.not_lt_zero _)⟩ ?_ ?_⟩
    · rintro i σ H' hi ⟨s1, rfl, rfl, no⟩
      rw [Int.zero_add]
      refine ⟨_, rfl, _, rfl, ?_, _, rfl, rfl, _, rfl, ?_⟩
      · rw [Int.natAbs_natCast]
        exact Nat.lt_of_le_of_lt (Nat.log2_le_self i) (by omega)
      have e : (decide (V.str (Str.ofString (toString (i : Int))) = V.str (S l))) = decide (figs i = l) := by
        rw [figs_S]
        by_cases h : figs i = l
        · rw [decide_eq_true h, decide_eq_true (by rw [h])]
        · rw [decide_eq_false h, decide_eq_false (fun z => h (S_inj (V.str.inj z)))]
      rw [e]
      refine ite2 (fun y => ?_) (fun y => ?_)
      · have y : figs i = l := of_decide_eq_true y
        refine ⟨_, rfl, ?_⟩
        rw [← y, numL_figs (by omega)] at k
        exact k
      · refine ⟨_, rfl, rfl, fun j hj => ?_⟩
        by_cases z : j = i
        · rw [z]
          exact fun q => y (decide_eq_true q)
        · exact no j (by omega)
    · rintro σ H' ⟨s1, rfl, rfl, no⟩
      have e : numL l = none := List.find?_eq_none.mpr fun i hi z => no i (List.mem_range.mp hi) (of_decide_eq_true z)
      rw [e] at k
      exact k
def spEndsIn : Sp := fun vs H Q _ => ∃ l : List Nat, vs = [.str (S l)] ∧ l.length ≤ 10000000 ∧ ∀ p H', Same H H' → H' p = some (.tup [numV (endsL l).1, numV (endsL l).2]) → Q (.ref p) H'
theorem ok_endsIn {f : Addr} {fd : FuncData} (F : Fun K "ends_in" "ends_in" sEndsIn f fd) (O : Own P w K mg base 1 "number_in" ["word"] spNumIn) : FnOk P w K mg base CX0 2 f fd ["word"] spEndsIn := by
  obtain ⟨fN, fdN, GN, mN, kN, bN⟩ := O.ex
  refine F.ok scEndsIn (fun vs H Q E h => ?_) (fun cdv A outer s H vs Q E hr h => ?_)
  · obtain ⟨l, rfl, _⟩ := h
    rfl
  · obtain ⟨l, rfl, hl, k⟩ := h
    refine ⟨_, pss_cons (ps_asg (pe_partition (pv 0) pe_str) (pg_tup (by rfl) (pgs_cons (pg_name (i := 1) scEndsIn.nd rfl (.inl rfl)) (pgs_cons (pg_name (i := 2) scEndsIn.nd rfl (.inl rfl)) (pgs_cons (pg_name (i := 3) scEndsIn.nd rfl (.inl rfl)) pgs_nil))))) <|
      pss_one (ps_ret (pe_tup (pa_cons (pe_call GN hr rfl mN kN bN .nil pass0 (pa_cons (pv 1) pa_nil)) (pa_cons (pe_call GN hr rfl mN kN bN .nil pass0 (pa_cons (pv 3) pa_nil)) pa_nil)))), ?_⟩
    obtain ⟨p1, p2, p3, ep, e1, e2⟩ : ∃ p1 p2 p3 : List Nat, Txt.partition (S l) (S [62]) = (S p1, S p2, S p3) ∧ numL p1 = (endsL l).1 ∧ numL p3 = (endsL l).2 := by
      unfold endsL
      cases e : TL.par [62] [] l with
      | none => exact ⟨l, [], [], partition_none (by decide) e, rfl, rfl⟩
      | some x => exact ⟨x.1, [62], x.2, partition_some (by decide) e, rfl, rfl⟩
    refine ⟨_, rfl, ⟨_, rfl⟩, S l, S [62], rfl, rfl, by decide, by rw [S_len, sizeLine_eq]; omega, fun p np => ?_⟩
    rw [ep]
    have s1 : Same H (upd H p (.tup [.str (S p1), .str (S p2), .str (S p3)])) := same_new np
    refine ⟨p, _, rfl, SqT.of upd_same, rfl, _, _, rfl, _, _, rfl, _, _, rfl, rfl, ?_⟩
    refine ⟨_, rfl, p1, rfl, _, rfl, p3, rfl, by show 2 ≤ sizeLine; decide, fun q nq => ?_⟩
    rw [e1, e2]
    exact k q _ (s1.trans (same_new nq)) upd_same
end
end Sw
namespace Sw
open PySem L2
abbrev sPair : Stmt := top 7
theorem scPair : FnScope ["value"] ["value"] (defScope sPair) := ⟨rfl, rfl, rfl, by decide +kernel, rfl, by decide +kernel, by decide +kernel⟩
section
variable {P : Program} {w : World} {K : PySem.W.Frag} {mg : Str → Option Value} {base : Heap}
theorem ok_pair {f : Addr} {fd : FuncData} (F : Fun K "is_pair" "is_pair" sPair f fd) (B : NoNames mg) : FnOk P w K mg base CX0 1 f fd ["value"] (spPair K) := by
  refine F.ok scPair (fun vs H Q E h => ?_) (fun cdv A outer s H vs Q E hr h => ?_)
  · obtain ⟨x, d, as, rfl, _⟩ := h
    rfl
  · obtain ⟨x, d, as, rfl, hd, k⟩ := h
    refine ⟨_, pss_one (ps_ret (pe_and (pe_isi (i := 0) (TN := "tuple") rfl (Or.inl rfl) (by decide) (by decide) B.isi B.tuple rfl rfl (by decide +kernel) (by decide) (by decide))
      (pe_one (pe_cmpR op_eq (pe_callB call_len_seq (by rfl) B.len PySem.boot_len (pa_cons (pv 0) pa_nil)) pe_int (nomark _))))), ?_⟩
    refine ⟨_, rfl, x, d, as, "tuple", rfl, by decide, hd, _, rfl, ?_⟩
    have no : isT "tuple" d = false → isPair d = false := fun e => by cases d <;> simp_all [isT, isPair]
    have yes : isT "tuple" d = true → ∃ ds, d = .tup ds := fun e => by cases d <;> first | exact ⟨_, rfl⟩ | (simp_all [isT])
    cases e : isT "tuple" d with
    | false =>
      refine iteF ?_
      rw [no e] at k
      exact k
    | true =>
      refine iteT ?_
      obtain ⟨ds, rfl⟩ := yes e
      simp only [Rep] at hd
      obtain ⟨a, xs, bs, rfl, ha, ra, na, rfl⟩ := hd
      refine ⟨_, rfl, a, xs, rfl, .inr (SqT.of ha), rfl, ?_⟩
      have hl := ra.len
      have ep : isPair (.tup ds) = decide (V.int (xs.length : Int) = V.int 2) := by
        match ds, hl with
        | [], hl => rw [hl]; rfl
        | [_], hl => rw [hl]; rfl
        | [_, _], hl => rw [hl]; rfl
        | _ :: _ :: _ :: r, hl =>
          rw [hl]
          show false = _
          refine (decide_eq_false fun z => ?_).symm
          have z2 : ((_ : Nat) : Int) = 2 := V.int.inj z
          simp only [List.length_cons] at z2
          omega
      rw [ep] at k
      exact k
end
end Sw
namespace Sw
open PySem L2
/-! ### is_stop -/
abbrev sStop : Stmt := top 11
theorem scStop : FnScope ["n", "value"] ["n", "value"] (defScope sStop) := ⟨rfl, rfl, rfl, by decide +kernel, rfl, by decide +kernel, by decide +kernel⟩
section
variable {P : Program} {w : World} {K : PySem.W.Frag} {mg : Str → Option Value} {base : Heap}
def isStop (n : Int) (d : D) : Bool := isWhole 0 (n - 1) d
def spStop (K : PySem.W.Frag) : Sp := fun vs H Q _ => ∃ (x : V) (d : D) (as : List Addr) (n : Int), vs = [.int n, x] ∧ Rep K H d x as ∧ Q (.bl (isStop n d)) H
theorem ok_stop {f : Addr} {fd : FuncData} (F : Fun K "is_stop" "is_stop" sStop f fd) (O : Own P w K mg base 1 "is_integer_between" ["value", "least", "most"] (spBetween K)) : FnOk P w K mg base CX0 2 f fd ["n", "value"] (spStop K) := by
  obtain ⟨fB, fdB, GB, mB, kB, bB⟩ := O.ex
  refine F.ok scStop (fun vs H Q E h => ?_) (fun cdv A outer s H vs Q E hr h => ?_)
  · obtain ⟨x, d, as, n, rfl, _⟩ := h
    rfl
  · obtain ⟨x, d, as, n, rfl, hd, k⟩ := h
    refine ⟨_, pss_one (ps_ret (pe_call GB hr rfl mB kB bB .nil pass0 (pa_cons (pv 1) (pa_cons pe_int (pa_cons (pe_op op_sub (pv 0) pe_int) pa_nil))))), ?_⟩
    exact ⟨_, rfl, _, rfl, _, _, rfl, rfl, x, d, as, 0, n - 1, rfl, hd, k⟩
end
end Sw
namespace Sw
open PySem PySem.Spec PyProof.Rows L2
abbrev sError : Stmt := top 9
abbrev sForm : Stmt := top 10
abbrev sArrow : Stmt := top 12
theorem scForm : FnScope ["value", "n", "arrows"] ["value"] (defScope sForm) := ⟨rfl, rfl, rfl, by decide +kernel, rfl, by decide +kernel, by decide +kernel⟩
theorem scArrow : FnScope ["n", "value", "v", "w"] ["n", "value"] (defScope sArrow) := ⟨rfl, rfl, rfl, by decide +kernel, rfl, by decide +kernel, by decide +kernel⟩
theorem scError : FnScope ["value", "n", "arrows", "spot", "arrow"] ["value"] (defScope sError) := ⟨rfl, rfl, rfl, by decide +kernel, rfl, by decide +kernel, by decide +kernel⟩
def isArrow (n : Int) : D → Bool
  | .tup [.int v, .int w] => (decide (0 ≤ v) && decide (v ≤ n - 1)) && (decide (0 ≤ w) && decide (w ≤ n - 1)) && !decide (v = w)
  | _ => false
def formOf : D → Option (Int × List D)
  | .tup [.int n, .tup as] => if 1 ≤ n ∧ n ≤ 12 then some (n, as) else none
  | _ => none
def twoInts : D → List Int
  | .tup [.int v, .int w] => [v, w]
  | _ => []
def leL (ns ms : List Int) : Bool := Ob.lexAt (fun j => decide (ns.getD j 0 = ms.getD j 0)) (fun j => decide (ns.getD j 0 ≤ ms.getD j 0)) (decide (ns.length ≤ ms.length)) 0 (min ns.length ms.length)
def BadAt (as : List D) (i : Nat) : Prop := ∃ x y, 0 < i ∧ as[i]? = some x ∧ as[i - 1]? = some y ∧ leL (twoInts x) (twoInts y) = true
inductive IsErr : D → D → Prop
  | form {d : D} (h : formOf d = none) : IsErr d (.str "form")
  | arrow {d x : D} {n : Int} {as : List D} {i : Nat} (h : formOf d = some (n, as)) (hx : as[i]? = some x) (hb : isArrow n x = false) (ha : ∀ (j : Nat) (y : D), j < i → as[j]? = some y → isArrow n y = true) : IsErr d (.tup [.str "arrow", .int i])
  | order {d : D} {n : Int} {as : List D} {i : Nat} (h : formOf d = some (n, as)) (ha : ∀ (j : Nat) (y : D), as[j]? = some y → isArrow n y = true) (hb : BadAt as i) (hl : ∀ j, j < i → ¬ BadAt as j) : IsErr d (.tup [.str "order", .int i])
  | fine {d : D} {n : Int} {as : List D} (h : formOf d = some (n, as)) (ha : ∀ (j : Nat) (y : D), as[j]? = some y → isArrow n y = true) (hl : ∀ j, ¬ BadAt as j) : IsErr d .non
theorem IsErr.det {d r r' : D} (h : IsErr d r) (h' : IsErr d r') : r = r' := by
  cases h with
  | form h =>
    cases h' with
    | form => rfl
    | arrow e => rw [h] at e; cases e
    | order e => rw [h] at e; cases e
    | fine e => rw [h] at e; cases e
  | @arrow x n as i h hx hb ha =>
    cases h' with
    | form e => rw [h] at e; cases e
    | @arrow x' n' as' i' e hx' hb' ha' =>
      rw [h] at e
      cases e
      rcases Nat.lt_trichotomy i i' with l | l | l
      · exact absurd (ha' i x l hx) (by rw [hb]; decide)
      · rw [l]
      · exact absurd (ha i' x' l hx') (by rw [hb']; decide)
    | order e ha' =>
      rw [h] at e
      cases e
      exact absurd (ha' i x hx) (by rw [hb]; decide)
    | fine e ha' =>
      rw [h] at e
      cases e
      exact absurd (ha' i x hx) (by rw [hb]; decide)
  | @order n as i h ha hb hl =>
    cases h' with
    | form e => rw [h] at e; cases e
    | @arrow x' n' as' i' e hx' hb' ha' =>
      rw [h] at e
      cases e
      exact absurd (ha i' x' hx') (by rw [hb']; decide)
    | @order n' as' i' e ha' hb' hl' =>
      rw [h] at e
      cases e
      rcases Nat.lt_trichotomy i i' with l | l | l
      · exact absurd hb (hl' i l)
      · rw [l]
      · exact absurd hb' (hl i' l)
    | fine e ha' hl' =>
      rw [h] at e
      cases e
      exact absurd hb (hl' i)
  | @fine n as h ha hl =>
    cases h' with
    | form e => rw [h] at e; cases e
    | @arrow x' n' as' i' e hx' hb' ha' =>
      rw [h] at e
      cases e
      exact absurd (ha i' x' hx') (by rw [hb']; decide)
    | @order n' as' i' e ha' hb' hl' =>
      rw [h] at e
      cases e
      exact absurd hb' (hl i')
    | fine => rfl
section
variable {P : Program} {w : World} {K : PySem.W.Frag} {mg : Str → Option Value} {base : Heap}
end
section
variable {P : Program} {w : World} {K : PySem.W.Frag} {mg : Str → Option Value} {base : Heap}
def spArrow (K : PySem.W.Frag) : Sp := fun vs H Q _ => ∃ (x : V) (d : D) (as : List Addr) (n : Int), vs = [.int n, x] ∧ Rep K H d x as ∧ Q (.bl (isArrow n d)) H
theorem arrow_pair {n : Int} {d : D} (h : isPair d = false) : isArrow n d = false := by
  cases d with
  | tup ds =>
    match ds, h with
    | [a, b], h => cases h
    | [], _ => rfl
    | [_], _ =>
      unfold isArrow
      split
      · rename_i e; cases e
      · rfl
    | _ :: _ :: _ :: _, _ =>
      unfold isArrow
      split
      · rename_i e; cases e
      · rfl
  | _ => rfl
theorem stop_int {n : Int} {d : D} (h : isStop n d = true) : ∃ i, d = .int i := by
  cases d <;> first | exact ⟨_, rfl⟩ | (cases h)
theorem arrow_two {n : Int} {a b : D} : isArrow n (.tup [a, b]) = true ↔ ∃ v w, a = .int v ∧ b = .int w ∧ isStop n a = true ∧ isStop n b = true ∧ ¬ v = w := by
  constructor
  · intro h
    cases a with
    | int v =>
      cases b with
      | int w =>
        simp only [isArrow, Bool.and_eq_true, Bool.not_eq_true', decide_eq_true_eq, decide_eq_false_iff_not] at h
        exact ⟨v, w, rfl, rfl, by simp [isStop, isWhole, h.1.1.1, h.1.1.2], by simp [isStop, isWhole, h.1.2.1, h.1.2.2], h.2⟩
      | _ => cases h
    | _ => cases h
  · rintro ⟨v, w, rfl, rfl, h1, h2, h3⟩
    simp only [isStop, isWhole, Bool.and_eq_true, decide_eq_true_eq] at h1 h2
    simp [isArrow, h1.1, h1.2, h2.1, h2.2, h3]
theorem ok_arrow {f : Addr} {fd : FuncData} (F : Fun K "is_arrow" "is_arrow" sArrow f fd) (O1 : Own P w K mg base 1 "is_pair" ["value"] (spPair K)) (O2 : Own P w K mg base 2 "is_stop" ["n", "value"] (spStop K)) : FnOk P w K mg base CX0 3 f fd ["n", "value"] (spArrow K) := by
  obtain ⟨fP, fdP, GP, mP, kP, bP⟩ := O1.ex
  obtain ⟨fS, fdS, GS, mS, kS, bS⟩ := O2.ex
  refine F.ok scArrow (fun vs H Q E h => ?_) (fun cdv A outer s H vs Q E hr h => ?_)
  · obtain ⟨x, d, as, n, rfl, _⟩ := h
    rfl
  · obtain ⟨x, d, as, n, rfl, hd, k⟩ := h
    have hr1 : Room 1 _ := hr.mono (by decide)
    refine ⟨_, pss_cons (ps_if (pt_not (pt_val (pe_call GP hr1 rfl mP kP bP .nil pass0 (pa_cons (pv 1) pa_nil)))) (pss_one (ps_ret pe_bl)) pss_nil)
      (pss_cons (ps_asg (pv 1) (pg_tup (by rfl) (pgs_cons (pg_name (i := 2) scArrow.nd rfl (.inl rfl)) (pgs_cons (pg_name (i := 3) scArrow.nd rfl (.inl rfl)) pgs_nil))))
      (pss_one (ps_ret (pe_and (pe_call GS hr rfl mS kS bS .nil pass0 (pa_cons (pv 0) (pa_cons (pv 2) pa_nil))) (pe_and (pe_call GS hr rfl mS kS bS .nil pass0 (pa_cons (pv 0) (pa_cons (pv 3) pa_nil))) (pe_one (pe_cmpR op_ne (pv 2) (pv 3) (nomark _)))))))), ?_⟩
    refine ⟨_, rfl, x, d, as, rfl, hd, _, rfl, ?_⟩
    cases e : isPair d with
    | false =>
      refine iteT ?_
      rw [arrow_pair e] at k
      exact k
    | true =>
      refine iteF ?_
      obtain ⟨a, b, rfl⟩ := two_of e
      simp only [Rep, RepAll] at hd
      obtain ⟨p, xs, bs, rfl, hp, ⟨y, r, b1, c1, rfl, ha, ⟨z, r2, b2, c2, rfl, hb, ⟨rfl, rfl⟩, rfl⟩, rfl⟩, na, rfl⟩ := hd
      refine ⟨_, rfl, p, [y, z], rfl, SqT.of hp, rfl, y, [z], rfl, z, [], rfl, rfl, ?_⟩
      refine ⟨_, rfl, _, rfl, y, a, b1, n, rfl, ha, _, rfl, ?_⟩
      cases e1 : isStop n a with
      | false =>
        refine iteF ?_
        have : isArrow n (.tup [a, b]) = false := Bool.eq_false_iff.mpr fun h => by
          obtain ⟨v, w, _, _, h1, _⟩ := arrow_two.mp h
          rw [e1] at h1
          cases h1
        rw [this] at k
        exact k
      | true =>
        refine iteT ⟨_, rfl, _, rfl, z, b, b2, n, rfl, hb, _, rfl, ?_⟩
        cases e2 : isStop n b with
        | false =>
          refine iteF ?_
          have : isArrow n (.tup [a, b]) = false := Bool.eq_false_iff.mpr fun h => by
            obtain ⟨v, w, _, _, _, h1, _⟩ := arrow_two.mp h
            rw [e2] at h1
            cases h1
          rw [this] at k
          exact k
        | true =>
          obtain ⟨v, rfl⟩ := stop_int e1
          obtain ⟨w', rfl⟩ := stop_int e2
          simp only [Rep] at ha hb
          obtain ⟨rfl, rfl⟩ := ha
          obtain ⟨rfl, rfl⟩ := hb
          refine iteT ⟨_, rfl, _, rfl, rfl, ?_⟩
          have e3 : isArrow n (.tup [.int v, .int w']) = !decide (V.int v = V.int w') := by
            by_cases ev : v = w'
            · subst ev
              rw [decide_eq_true rfl]
              exact Bool.eq_false_iff.mpr fun h => by
                obtain ⟨_, _, e1, e2, _, _, h1⟩ := arrow_two.mp h
                cases e1
                cases e2
                exact h1 rfl
            · rw [decide_eq_false (fun z => ev (V.int.inj z))]
              exact arrow_two.mpr ⟨v, w', rfl, rfl, e1, e2, ev⟩
          rw [e3] at k
          exact k
end
section
variable {P : Program} {w : World} {K : PySem.W.Frag} {mg : Str → Option Value} {base : Heap}
def isForm (d : D) : Bool := (formOf d).isSome
theorem form_two {d : D} (h : isForm d = true) : ∃ n ds, d = .tup [.int n, .tup ds] ∧ formOf d = some (n, ds) ∧ 1 ≤ n ∧ n ≤ 12 := by
  unfold isForm formOf at h
  split at h
  · rename_i n ds
    split at h
    · rename_i hn
      refine ⟨n, ds, rfl, ?_, hn⟩
      simp [formOf, hn]
    · cases h
  · cases h
theorem form_of {d a b : D} (e : d = .tup [a, b]) : isForm d = (isWhole 1 12 a && isT "tuple" b) := by
  subst e
  cases a with
  | int n =>
    cases b with
    | tup ds =>
      by_cases h : 1 ≤ n ∧ n ≤ 12
      · simp [isForm, formOf, isWhole, isT, h]
      · have h2 : (decide (1 ≤ n) && decide (n ≤ 12)) = false := by
          refine Bool.eq_false_iff.mpr fun z => h ?_
          simpa using z
        simp [isForm, formOf, isWhole, isT, h, h2]
    | _ => simp [isForm, formOf, isWhole, isT]
  | _ => simp [isForm, formOf, isWhole, isT]
theorem form_pair {d : D} (h : isPair d = false) : isForm d = false := by
  refine Bool.eq_false_iff.mpr fun z => ?_
  obtain ⟨n, ds, rfl, _⟩ := form_two z
  cases h
def spForm (K : PySem.W.Frag) : Sp := fun vs H Q _ => ∃ (x : V) (d : D) (as : List Addr), vs = [x] ∧ Rep K H d x as ∧ Q (.bl (isForm d)) H
theorem ok_form {f : Addr} {fd : FuncData} (F : Fun K "has_net_form" "has_net_form" sForm f fd) (B : NoNames mg) (t : Tok) (mM : mg "MAX_STOPS" = some (.int 12 t))
    (O1 : Own P w K mg base 1 "is_pair" ["value"] (spPair K)) (O2 : Own P w K mg base 1 "is_integer_between" ["value", "least", "most"] (spBetween K)) : FnOk P w K mg base CX0 2 f fd ["value"] (spForm K) := by
  obtain ⟨fP, fdP, GP, mP, kP, bP⟩ := O1.ex
  obtain ⟨fB, fdB, GB, mB, kB, bB⟩ := O2.ex
  refine F.ok scForm (fun vs H Q E h => ?_) (fun cdv A outer s H vs Q E hr h => ?_)
  · obtain ⟨x, d, as, rfl, _⟩ := h
    rfl
  · obtain ⟨x, d, as, rfl, hd, k⟩ := h
    refine ⟨_, pss_cons (ps_if (pt_not (pt_val (pe_call GP hr rfl mP kP bP .nil pass0 (pa_cons (pv 0) pa_nil)))) (pss_one (ps_ret pe_bl)) pss_nil)
      (pss_cons (ps_asg (pv 0) (pg_tup (by rfl) (pgs_cons (pg_name (i := 1) scForm.nd rfl (.inl rfl)) (pgs_cons (pg_name (i := 2) scForm.nd rfl (.inl rfl)) pgs_nil))))
      (pss_one (ps_ret (pe_and (pe_call GB hr rfl mB kB bB .nil pass0 (pa_cons (pv 1) (pa_cons pe_int (pa_cons (pe_glob (v := .int 12) rfl mM ⟨_, rfl⟩) pa_nil))))
        (pe_one (pe_isi (i := 2) (TN := "tuple") rfl (Or.inl rfl) (by decide) (by decide) B.isi B.tuple rfl rfl (by decide +kernel) (by decide) (by decide))))))), ?_⟩
    refine ⟨_, rfl, x, d, as, rfl, hd, _, rfl, ?_⟩
    cases e : isPair d with
    | false =>
      refine iteT ?_
      rw [form_pair e] at k
      exact k
    | true =>
      refine iteF ?_
      obtain ⟨a, b, rfl⟩ := two_of e
      rw [form_of rfl] at k
      simp only [Rep, RepAll] at hd
      obtain ⟨p, xs, bs, rfl, hp, ⟨y, r, b1, c1, rfl, ha, ⟨z, r2, b2, c2, rfl, hb, ⟨rfl, rfl⟩, rfl⟩, rfl⟩, na, rfl⟩ := hd
      refine ⟨_, rfl, p, [y, z], rfl, SqT.of hp, rfl, y, [z], rfl, z, [], rfl, rfl, ?_⟩
      refine ⟨_, rfl, y, a, b1, 1, 12, rfl, ha, _, rfl, ?_⟩
      cases e1 : isWhole 1 12 a with
      | false =>
        refine iteF ?_
        rw [e1] at k
        exact k
      | true =>
        rw [e1] at k
        exact iteT ⟨_, rfl, z, b, b2, "tuple", rfl, by decide, hb, k⟩
theorem arrow_ints {n : Int} {d : D} (h : isArrow n d = true) : ∃ v w, d = .tup [.int v, .int w] := by
  unfold isArrow at h
  split at h
  · exact ⟨_, _, rfl⟩
  · cases h
theorem rep_two {H : Hp} {v w : Int} {x : V} {as : List Addr} (h : Rep K H (.tup [.int v, .int w]) x as) : ∃ a, x = .ref a ∧ SqT K H a (([v, w] : List Int).map V.int) := by
  simp only [Rep, RepAll] at h
  obtain ⟨p, xs, bs, rfl, hp, ⟨y, r, b1, c1, rfl, ⟨rfl, rfl⟩, ⟨z, r2, b2, c2, rfl, ⟨rfl, rfl⟩, ⟨rfl, rfl⟩, rfl⟩, rfl⟩, na, rfl⟩ := h
  exact ⟨p, rfl, SqT.of hp⟩
def spError (K : PySem.W.Frag) : Sp := fun vs H Q _ => ∃ (x : V) (d : D) (as : List Addr), vs = [x] ∧ Rep K H d x as ∧ wt d ≤ 10000000 ∧ ∀ (r : D) (v : V) (bs : List Addr) (H' : Hp), IsErr d r → Same H H' → Rep K H' r v bs → (∀ b ∈ bs, H b = none) → small r → wt r ≤ 100 → dep r ≤ 1 → Q v H'
theorem ok_error {f : Addr} {fd : FuncData} (F : Fun K "net_error" "net_error" sError f fd) (B : NoNames mg)
    (O1 : Own P w K mg base 2 "has_net_form" ["value"] (spForm K)) (O2 : Own P w K mg base 3 "is_arrow" ["n", "value"] (spArrow K)) : FnOk P w K mg base CX0 4 f fd ["value"] (spError K) := by
  obtain ⟨fF, fdF, GF, mF, kF, bF⟩ := O1.ex
  obtain ⟨fA, fdA, GA, mA, kA, bA⟩ := O2.ex
  refine F.ok scError (fun vs H Q E h => ?_) (fun cdv A outer s H vs Q E hr h => ?_)
  · obtain ⟨x, d, as, rfl, _⟩ := h
    rfl
  · obtain ⟨x, d, as, rfl, hd, hw, k⟩ := h
    have hr2 : Room 2 _ := hr.mono (by decide)
    refine ⟨_, pss_cons (ps_if (pt_not (pt_val (pe_call GF hr2 rfl mF kF bF .nil pass0 (pa_cons (pv 0) pa_nil)))) (pss_one (ps_ret pe_str)) pss_nil)
      (pss_cons (ps_asg (pv 0) (pg_tup (by rfl) (pgs_cons (pg_name (i := 1) scError.nd rfl (.inl rfl)) (pgs_cons (pg_name (i := 2) scError.nd rfl (.inl rfl)) pgs_nil))))
      (pss_cons (ps_for PassesOwn.never rfl (pi_enumT (by rfl) B.enumerate (pa_cons (pv 2) pa_nil)) (pg_tup rfl (pgs_cons (pg_name (i := 3) scError.nd rfl (.inl rfl)) (pgs_cons (pg_name (i := 4) scError.nd rfl (.inl rfl)) pgs_nil)))
        (pss_one (ps_if (pt_not (pt_val (pe_call GA hr rfl mA kA bA .nil pass0 (pa_cons (pv 1) (pa_cons (pv 4) pa_nil))))) (pss_one (ps_ret (pe_tup (pa_cons pe_str (pa_cons (pv 3) pa_nil))))) pss_nil)))
      (pss_cons (ps_for PassesOwn.never rfl (pi_range2 (by rfl) B.range (pa_cons pe_int (pa_cons (pe_callB call_len_seq (by rfl) B.len PySem.boot_len (pa_cons (pv 2) pa_nil)) pa_nil))) (pg_name (i := 3) scError.nd rfl (.inl rfl))
        (pss_one (ps_if (pt_cmpR (op_leT hr.units0) (pe_ix ix_tup (pv 2) (pv 3) (fun _ _ => rfl)) (pe_ix ix_tup (pv 2) (pe_op op_sub (pv 3) pe_int) (fun _ _ => rfl)) (nomark _)) (pss_one (ps_ret (pe_tup (pa_cons pe_str (pa_cons (pv 3) pa_nil))))) pss_nil)))
      (pss_one (ps_ret pe_non))))), ?_⟩
    refine ⟨_, rfl, x, d, as, rfl, hd, _, rfl, ?_⟩
    cases e : isForm d with
    | false =>
      refine iteT ?_
      have hf : formOf d = none := by
        unfold isForm at e
        cases q : formOf d with
        | none => rfl
        | some z => rw [q] at e; cases e
      exact k (.str "form") (.str "form") [] H (.form hf) (Same.refl H) (by simp [Rep]) (fun _ h => absurd h (by simp)) (by simp only [small]) (by simp only [wt]; decide +kernel) (by simp only [dep]; decide)
    | true =>
      refine iteF ?_
      obtain ⟨n, ds, rfl, hf, hn⟩ := form_two e
      simp only [Rep, RepAll] at hd
      obtain ⟨p, xs, bs, rfl, hp, ⟨y, r, b1, c1, rfl, ⟨rfl, rfl⟩, ⟨z, r2, b2, c2, rfl, ⟨a, ys, cs, rfl, ha, hds, na, rfl⟩, ⟨rfl, rfl⟩, rfl⟩, rfl⟩, nap, rfl⟩ := hd
      refine ⟨_, rfl, p, _, rfl, SqT.of hp, rfl, _, _, rfl, _, [], rfl, rfl, ?_⟩
      have hl := hds.len
      have hsz : ys.length ≤ sizeLine := by
        simp only [wt, wtAll] at hw
        have h2 := wt_len ds
        rw [hl, sizeLine_eq]
        omega
      refine ⟨_, rfl, a, ys, rfl, SqT.of ha, for_it walk_te (fun i σ H' => (∃ s3 s4, σ = [some (.ref p), some (.int n), some (.ref a), s3, s4]) ∧ Same H H' ∧ ∀ (j : Nat) (y : D), j < i → ds[j]? = some y → isArrow n y = true)
        ⟨⟨_, _, rfl⟩, Same.refl H, fun j y h => absurd h (Nat.not_lt_zero _)⟩ (fun i σ H' _ h => SqT.of (h.2.1 _ _ ha)) ?_ ?_⟩
      · rintro i x σ H1 H2 hi ⟨⟨s3, s4, rfl⟩, s1, q⟩ ⟨T, x1, x2, rfl, nT, rfl, e1, e2⟩
        obtain rfl : V.int (i : Nat) = x1 := Option.some.inj e1
        refine ⟨T, [.int (i : Nat), x2], rfl, .inl (.inl upd_same), rfl, _, [x2], rfl, x2, [], rfl, rfl, ?_⟩
        have s2 : Same H (upd H1 T (.tup [.int (i : Nat), x2])) := s1.trans (same_new nT)
        obtain ⟨d2, b2, hd2, hr2', _⟩ := hds.at2 e2
        refine ⟨_, rfl, _, rfl, x2, d2, b2, n, rfl, hr2'.same s2, _, rfl, ?_⟩
        cases ea : isArrow n d2 with
        | true =>
          refine iteF ⟨⟨_, _, rfl⟩, s2, fun j y hj hy => ?_⟩
          rcases Nat.lt_succ_iff_lt_or_eq.mp hj with z | z
          · exact q j y z hy
          · subst z
            rw [hd2] at hy
            cases hy
            exact ea
        | false =>
          refine iteT ⟨_, rfl, by show 2 ≤ sizeLine; decide, fun p2 np2 => ?_⟩
          have hp2 : H p2 = none := s2.free np2
          have hlt : i ≤ sizeLine := Nat.le_trans (Nat.le_of_lt hi) hsz
          have hw := int_wt hlt
          refine k (.tup [.str "arrow", .int i]) _ _ _ (.arrow hf hd2 ea q) (s2.trans (same_new np2)) (rep_err np2) (fun b hb => ?_) ?_ ?_ ?_
          · obtain rfl := List.mem_singleton.mp hb
            exact hp2
          · simp only [small, smallAll]
            exact ⟨trivial, hw.2, trivial⟩
          · have : (reprText ("arrow" : Str)).length = 7 := by decide +kernel
            simp only [wt, wtAll, this]
            omega
          · simp only [dep, depAll]
            decide
      · rintro σ H1 ⟨⟨s3, s4, rfl⟩, s1, q⟩
        have qa : ∀ (j : Nat) (y : D), ds[j]? = some y → isArrow n y = true := fun j y hy => q j y (by rw [hl]; exact (List.getElem?_eq_some_iff.mp hy).1) hy
        have e0 : V.int ((ys.length : Nat) : Int) = V.int (ys.length : Int) := rfl
        have small62 : (ys.length : Int) < 2 ^ 62 := by
          rw [sizeLine_eq] at hsz
          omega
        refine ⟨_, rfl, a, ys, rfl, .inr (SqT.of (s1 _ _ ha)), 1, (ys.length : Int), rfl, ⟨by decide, by decide, by omega, small62⟩, for_range (lo := 1) (n := ((ys.length : Int) - 1).toNat)
          (fun i σ H' => (∃ s3 s4, σ = [some (.ref p), some (.int n), some (.ref a), s3, s4]) ∧ Same H H' ∧ ∀ j, j < i + 1 → ¬ BadAt ds j)
          ⟨⟨_, _, rfl⟩, s1, fun j hj hb => ?_⟩ ?_ ?_⟩
        · obtain ⟨_, _, h0, _⟩ := hb
          omega
        · rintro i σ H2 hi ⟨⟨s3, s4, rfl⟩, s2, ql⟩
          have hi1 : i + 1 < ys.length := by omega
          have hi0 : i < ys.length := by omega
          have g1 : ys[i + 1]? = some ys[i + 1] := List.getElem?_eq_getElem hi1
          have g0 : ys[i]? = some ys[i] := List.getElem?_eq_getElem hi0
          obtain ⟨d1, b1, hd1, r1, _⟩ := hds.at2 g1
          obtain ⟨d0, b0, hd0, r0, _⟩ := hds.at2 g0
          obtain ⟨v1, w1, rfl⟩ := arrow_ints (qa _ _ hd1)
          obtain ⟨v0, w0, rfl⟩ := arrow_ints (qa _ _ hd0)
          obtain ⟨a1, ea1, t1⟩ := rep_two (r1.same s2)
          obtain ⟨a0, ea0, t0⟩ := rep_two (r0.same s2)
          refine ⟨_, rfl, _, rfl, a, ys, _, _, rfl, rfl, SqT.of (s2 _ _ ha), at_of (j := i + 1) (by omega) g1, ?_⟩
          refine ⟨_, rfl, _, rfl, _, _, rfl, rfl, a, ys, _, _, rfl, rfl, SqT.of (s2 _ _ ha), at_of (j := i) (by omega) g0, ?_⟩
          refine ⟨a1, a0, [v1, w1], [v0, w0], ea1, ea0, t1, t0, _, rfl, ?_⟩
          refine ite2 (fun z => ?_) (fun z => ?_)
          · refine ⟨_, rfl, by show 2 ≤ sizeLine; decide, fun p2 np2 => ?_⟩
            have hp2 : H p2 = none := s2.free np2
            have ei : (1 : Int) + (i : Int) = ((i + 1 : Nat) : Int) := by omega
            have hw2 := int_wt (i := i + 1) (by omega)
            rw [ei]
            refine k (.tup [.str "order", .int ((i + 1 : Nat) : Int)]) _ _ _ (.order hf qa ⟨_, _, Nat.succ_pos i, hd1, hd0, z⟩ ql) (s2.trans (same_new np2)) (rep_err np2) (fun b hb => ?_) ?_ ?_ ?_
            · obtain rfl := List.mem_singleton.mp hb
              exact hp2
            · simp only [small, smallAll]
              exact ⟨trivial, hw2.2, trivial⟩
            · have : (reprText ("order" : Str)).length = 7 := by decide +kernel
              simp only [wt, wtAll, this]
              omega
            · simp only [dep, depAll]
              decide
          · refine ⟨⟨_, _, rfl⟩, s2, fun j hj hb => ?_⟩
            rcases Nat.lt_succ_iff_lt_or_eq.mp hj with y | y
            · exact ql j y hb
            · subst y
              obtain ⟨x', y', _, h1, h2, h3⟩ := hb
              rw [hd1] at h1
              cases h1
              rw [show i + 1 - 1 = i from rfl, hd0] at h2
              cases h2
              exact z h3
        · rintro σ H2 ⟨⟨s3, s4, rfl⟩, s2, ql⟩
          refine k .non .non [] H2 (.fine hf qa fun j hb => ?_) s2 (by simp [Rep]) (fun _ h => absurd h (by simp)) (by simp only [small]) (by simp only [wt]; decide) (by simp only [dep]; decide)
          obtain ⟨x', y', h0, h1, _⟩ := id hb
          have hj : j < ds.length := (List.getElem?_eq_some_iff.mp h1).1
          exact ql j (by omega) hb
end
end Sw
namespace Sw
open PySem PySem.Spec PyProof.Rows
/-! ### head, *rest = a list -/
section
variable {prog : Program} {w : World} {A : Around} {E : Value → Shared → Prop} {s : Shared}
theorem walk_rest {I l : Addr} {its : Array Value} (hh : A.handled = none) (hne : l ≠ I) (hs : 1 ≤ its.size) :
    WalksS prog w A I [I, l] [I] (fun a b => b = a) (its.size - 1) (fun i v => its[i + 1]? = some v) (fun i s => s.heap.IsListIter I l (i + 1) ∧ s.heap.IsList l its) where
  sub := fun b hb => by rw [List.mem_singleton.mp hb]; exact List.mem_cons_self
  grefl := fun _ => rfl
  gtrans := fun _ _ _ h1 h2 => h2.trans h1
  frame := fun i s h' tk st _ k => by
    obtain ⟨⟨o, ho, r⟩, ⟨o2, ho2, r2⟩⟩ := st
    exact ⟨⟨o, k I (by simp) _ ho, r⟩, ⟨o2, k l (by simp) _ ho2, r2⟩⟩
  item := fun i s Q E hi st hQ => by
    obtain ⟨h1, h2⟩ := st
    refine wpAny_pyNext_list_item h1 h2 (x := its[i + 1]) (by rw [Array.getElem?_eq_getElem (by omega)]) fun h' h3 h4 => ?_
    refine hQ _ _ (by rw [Array.getElem?_eq_getElem (by omega)]) ⟨h3, h2.extBut h4.extBut hne⟩ ⟨fun b o hb e => h4.extBut b o (fun z => hb (by rw [z]; exact List.mem_singleton.mpr rfl)) e, rfl, rfl, rfl, Nat.le_refl _⟩
  done := fun s Q E st hQ => by
    obtain ⟨h1, h2⟩ := st
    refine wpAny_pyNext_list_end hh h1 h2 (by rw [Array.getElem?_eq_none (by omega)]) fun h' h4 => ?_
    exact hQ _ ⟨fun b o hb e => h4 b o (fun z => hb (by rw [z]; exact List.mem_singleton.mpr rfl)) e, rfl, rfl, rfl, Nat.le_refl _⟩
  self := fun i s Q E st hQ => wpAny_pyIter_listiter st.1 hQ
theorem unpack_head {l : Addr} {v : Value} {vs : List Value} {targets : List (Bool × (Value → Sem Unit))} {Q : Unit → Shared → Prop} (hh : A.handled = none) (hl : s.heap.IsList l (v :: vs).toArray) (hz : vs.length ≤ sizeLine)
    (hn : targets.length = 2) (hstar : targets.findIdx? (·.1) = some 1)
    (h : ∀ (h' : Heap) (tk : Nat), (∀ b o, s.heap.get? b = some o → h'.get? b = some o) → wpAny (model prog w) A (assignInOrder (targets.map (·.2)) [v, .ref h'.objs.size]) Q E { s with heap := h'.push { cls := .type "list", data := .seq vs.toArray }, toks := tk }) :
    wpAny (model prog w) A (unpack (.ref l) targets) Q E s := by
  have hlt : l ≠ s.heap.objs.size := by obtain ⟨o, ho, _⟩ := hl; exact Nat.ne_of_lt (Heap.lt_size ho)
  unfold unpack
  rw [hn, hstar]
  refine wpAny_bind (wpAny_holding ?_)
  unfold unpackItems
  refine wpAny_bind ?_
  unfold notIterableAtAll
  refine wpAny_bind (wpAny_specialOf hl.typeIs F.slot_list_iter.lookup ?_)
  refine wpAny_pure ?_
  simp only [Bool.false_eq_true, if_false]
  refine wpAny_bind (wpAny_holding (wpAny_pyIter_list hl ?_))
  have hit0 : (s.heap.push { cls := .type "list_iterator", data := .fields #[.ref l, .int 0 0] }).IsListIter s.heap.objs.size l 0 := ⟨_, Heap.get?_push_size _ rfl, rfl, rfl⟩
  have hl0 := hl.push { cls := .type "list_iterator", data := .fields #[.ref l, .int 0 0] }
  have k0 : ∀ b o, s.heap.get? b = some o → (s.heap.push { cls := .type "list_iterator", data := .fields #[.ref l, .int 0 0] }).get? b = some o := fun b o e => Heap.get?_push_of_some _ e
  have z0 : (s.heap.push { cls := .type "list_iterator", data := .fields #[.ref l, .int 0 0] }).objs.size = s.heap.objs.size + 1 := Heap.size_push ..
  generalize (s.heap.push { cls := .type "list_iterator", data := .fields #[.ref l, .int 0 0] }) = h0 at hit0 hl0 k0 z0 ⊢
  refine wpAny_bind (wpAny_holding ?_)
  show wpAny _ _ (pyNext (.ref s.heap.objs.size) >>= _) _ _ _
  refine wpAny_bind (wpAny_pyNext_list_item hit0 hl0 (x := v) rfl fun h1 hit1 s1 => ?_)
  show wpAny _ _ (holding [v] (pure []) >>= _) _ _ _
  refine wpAny_bind (wpAny_holding (wpAny_pure ?_))
  refine wpAny_pure ?_
  rw [if_neg (by simp)]
  have hl1 := hl0.extBut s1.extBut hlt
  have szs : (v :: vs).toArray.size - 1 = vs.length := by simp
  have W := walk_rest (prog := prog) (w := w) (A := A.in1) (I := s.heap.objs.size) (l := l) (its := (v :: vs).toArray) hh hlt (by simp)
  rw [szs] at W
  have k1 : ∀ b o, s.heap.get? b = some o → h1.get? b = some o := fun b o e => s1.extBut b o (Nat.ne_of_lt (Heap.lt_size e)) (k0 b o e)
  refine wpAny_bind (wpAny_holding (wpAny_collect_iter (.inr (.inr (.inl rfl))) W (fun i s st => st.1.typeIs) ⟨hit1, hl1⟩ (fun b hb => ?_) (by simp) (fun s' acc mv ia => ?_) hz))
  · rcases List.mem_cons.mp hb with z | z
    · rw [z]
      obtain ⟨o, ho, _⟩ := hit1
      exact Heap.lt_size ho
    · rw [List.mem_singleton.mp z]
      obtain ⟨o, ho, _⟩ := hl1
      exact Heap.lt_size ho
  · have ea : acc.toList = vs := by
      refine List.ext_getElem? fun i => ?_
      obtain ⟨i1, i2⟩ := ia
      by_cases hi : i < vs.length
      · have e1 : acc[i]? = some acc[i] := by rw [Array.getElem?_eq_getElem (by omega)]
        have e2 := i2 i _ e1
        rw [Array.getElem?_toList, e1, ← e2]
        simp
      · rw [List.getElem?_eq_none (by rw [Array.length_toList]; omega), List.getElem?_eq_none (by omega)]
    rw [ea]
    rw [if_neg (by simp)]
    have k2 : ∀ b o, s.heap.get? b = some o → s'.heap.get? b = some o := fun b o e => mv.heap b o (fun z => Nat.ne_of_lt (Heap.lt_size e) (List.mem_singleton.mp z)) (k1 b o e)
    obtain ⟨hp, g, dr, tk, os⟩ := s'
    obtain ⟨_, g1, g2, g3, _⟩ := mv
    dsimp only at g1 g2 g3 k2
    subst g1
    subst g2
    subst g3
    refine wpAny_bind (wpAny_newList ?_ (by simpa using hz))
    refine wpAny_pure ?_
    rw [show (2 - 1 - 1 : Nat) = 0 from rfl, Nat.sub_zero, List.drop_length, List.take_length]
    exact h hp tk k2
end
end Sw
namespace Sw
open PySem PySem.Spec PyProof.Rows L2
section
variable {X : Cx} {pos : Pos}
/-- head, *rest = a list of one item or more: rest is a new list -/
def gHead (K : PySem.W.Frag) (t : TGs) : TG := fun v σ H Q => ∃ a x xs, v = .ref a ∧ SqL K H a (x :: xs) ∧ ∀ r, H r = none → t [x, .ref r] σ (upd H r (.lst xs)) Q
theorem pg_head {es : List Expr} {k : Nat} {t : TGs} (hc : X.calm = true) (h : PGs X es t)
    (hn : (assignEach es X.env).length = 2 := by rfl) (hst : (assignEach es X.env).findIdx? (·.1) = some 1 := by rfl) : PG X (.Tuple es k pos) (gHead X.K t) := by
  refine ⟨fun pins s σ H v u Q I r hw => ?_⟩
  obtain ⟨a, x, xs, e1, hq, hw⟩ := hw
  subst e1
  cases r
  obtain ⟨its, rv, hl, hz⟩ := I.list hq
  cases rv with
  | cons rx rr =>
    rw [arm_assign_Tuple]
    refine wpAny_bind (wpAny_standAt (unpack_head (I.ok.hd hc) hl.isList ?_ hn hst fun h' tk kp => ?_))
    · have := rr.length
      rw [List.length_cons] at hz
      omega
    · have I1 : Inv X pins σ H { s with heap := h', toks := tk } := I.kept (t' := tk) kp
      have I2 : Inv X pins σ (upd H h'.objs.size (.lst xs)) { s with heap := h'.push { cls := .type "list", data := .seq _ }, toks := tk } :=
        I1.laid (t' := tk) (fun b o e => Heap.get?_push_of_some _ e) (Nat.le_refl _) (show ObjOk X.prog X.w _ _ _ (.lst xs) from ⟨by rw [List.length_cons] at hz; omega, _, 0, rr, Heap.get?_push_size _ rfl⟩)
      exact h.run pins _ σ _ [x, .ref h'.objs.size] _ Q I2 (.cons rx (.cons (show RelV (.ref _) _ from rfl) .nil)) (hw _ (I1.hok.fresh (Nat.le_refl _)))
/-- (head, *rest) as targets: the starred one is assigned as its name is -/
theorem pgs_star {e : Expr} {p : Pos} {t : TG} (h1 : PG X e t) : PGs X [.Starred e p] (gCons t gNil) := by
  refine ⟨fun pins s σ H vs us Q I r h => ?_⟩
  obtain ⟨v, vr, e1, h⟩ := h
  subst e1
  cases r with
  | cons r rr =>
    show wpAny _ _ (assignInOrder (assign e X.env :: []) _) _ _ _
    refine assignInOrder_cons (thn (h1.run pins s σ H _ _ _ I r h) fun _ s1 ⟨σ1, H1, I1, q1⟩ => ?_)
    obtain ⟨e2, q1⟩ := q1
    subst e2
    cases rr
    exact assignInOrder_nil ⟨σ1, H1, I1, q1⟩
end
end Sw
namespace Sw
open PySem L2
abbrev sDeck : Stmt := top 19
abbrev sDraw : Stmt := top 20
abbrev sPick : Stmt := top 21
abbrev sMixed : Stmt := top 22
theorem scDeck : FnScope ["script", "deck", "cell", "whole", "state"] ["script"] (defScope sDeck) := ⟨rfl, rfl, rfl, by decide +kernel, rfl, by decide +kernel, by decide +kernel⟩
theorem scDraw : FnScope ["deck", "many", "whole", "one", "two"] ["deck", "many"] (defScope sDraw) := ⟨rfl, rfl, rfl, by decide +kernel, rfl, by decide +kernel, by decide +kernel⟩
theorem scPick : FnScope ["deck", "items"] ["deck", "items"] (defScope sPick) := ⟨rfl, rfl, rfl, by decide +kernel, rfl, by decide +kernel, by decide +kernel⟩
theorem scMixed : FnScope ["deck", "items", "left", "found"] ["deck", "items"] (defScope sMixed) := ⟨rfl, rfl, rfl, by decide +kernel, rfl, by decide +kernel, by decide +kernel⟩
/-! ### the deck -/
def kD : Key := .inr "deep"
def kS : Key := .inr "state"
theorem kDS : ¬ kD = kS := by decide +kernel
theorem kSD : ¬ kS = kD := by decide +kernel
def deckL (d : Addr) (st : Int) : List (Key × V) := [(kD, .ref d), (kS, .int st)]
theorem deck_deep (d : Addr) (st : Int) : valV (deckL d st) kD = some (.ref d) := by
  show ((deckL d st).find? fun kv => decide (kv.1 = kD)).map (·.2) = _
  unfold deckL
  rw [List.find?_cons, decide_eq_true rfl]
  rfl
theorem deck_state (d : Addr) (st : Int) : valV (deckL d st) kS = some (.int st) := by
  show ((deckL d st).find? fun kv => decide (kv.1 = kS)).map (·.2) = _
  unfold deckL
  rw [List.find?_cons, decide_eq_false kDS, List.find?_cons, decide_eq_true rfl]
  rfl
theorem deck_put_deep (d e : Addr) (st : Int) : putK (deckL d st) kD (.ref e) = deckL e st := by
  unfold putK deckL
  rw [if_pos (by simp)]
  simp [kSD]
theorem deck_put_state (d : Addr) (st z : Int) : putK (deckL d st) kS (.int z) = deckL d z := by
  unfold putK deckL
  rw [if_pos (by simp)]
  simp [kDS]
theorem deck_new (d : Addr) (st : Int) : mergeK [] [(kD, V.ref d), (kS, V.int st)] = deckL d st := by
  show putK (putK [] kD (.ref d)) kS (.int st) = _
  have e1 : putK ([] : List (Key × V)) kD (.ref d) = [(kD, .ref d)] := by simp [putK]
  rw [e1]
  unfold putK deckL
  rw [if_neg (by simp [kDS])]
  rfl
/-- a deck at p, its deep cells at d: at most m -/
structure Deck (H : Hp) (p d : Addr) (m : Nat) : Prop where
  ex : ∃ (ns : List Int) (st : Int), H p = some (.dK (deckL d st)) ∧ H d = some (.lst (ns.map V.int)) ∧ ns.length ≤ m ∧ (∀ n ∈ ns, 0 ≤ n) ∧ 0 ≤ st ∧ st < 2 ^ 61
theorem Deck.same {H H' : Hp} {p d : Addr} {m : Nat} (D : Deck H p d m) (s : Same H H') : Deck H' p d m := by
  obtain ⟨ns, st, h1, h2, r⟩ := D.ex
  exact ⟨ns, st, s _ _ h1, s _ _ h2, r⟩
theorem Deck.ne {H : Hp} {p d : Addr} {m : Nat} (D : Deck H p d m) : p ≠ d := by
  obtain ⟨ns, st, h1, h2, r⟩ := D.ex
  exact ne_of h1 h2 (by intro z; cases z)
theorem Deck.mono {H : Hp} {p d : Addr} {m k : Nat} (D : Deck H p d m) (h : m ≤ k) : Deck H p d k := by
  obtain ⟨ns, st, h1, h2, h3, r⟩ := D.ex
  exact ⟨ns, st, h1, h2, Nat.le_trans h3 h, r⟩
theorem dget_deep {H : Hp} {p d : Addr} {st : Int} (h : H p = some (.dK (deckL d st))) : DGet H p (.str "deep") (some (.ref d)) := by
  have q := DGet.k (k := kD) h
  rw [deck_deep] at q
  exact q
theorem dget_state {H : Hp} {p d : Addr} {st : Int} (h : H p = some (.dK (deckL d st))) : DGet H p (.str "state") (some (.int st)) := by
  have q := DGet.k (k := kS) h
  rw [deck_state] at q
  exact q
theorem dput_deep {H : Hp} {p d : Addr} {st : Int} (e : Addr) (h : H p = some (.dK (deckL d st))) : DPut H p (.str "deep") (.ref e) (upd H p (.dK (deckL e st))) := by
  have q := DPut.k (k := kD) (v := .ref e) h (by show 2 < sizeLine; rw [sizeLine_eq]; omega)
  rw [deck_put_deep] at q
  exact q
theorem dput_state {H : Hp} {p d : Addr} {st : Int} (z : Int) (h : H p = some (.dK (deckL d st))) : DPut H p (.str "state") (.int z) (upd H p (.dK (deckL d z))) := by
  have q := DPut.k (k := kS) (v := .int z) h (by show 2 < sizeLine; rw [sizeLine_eq]; omega)
  rw [deck_put_state] at q
  exact q
theorem cut_int (ns : List Int) (lo hi : Option Int) : ∃ ms : List Int, cutV (ns.map V.int) lo hi = ms.map V.int ∧ ms.length ≤ ns.length := by
  refine ⟨(ns.drop (HT.sIx (ns.map V.int).length 0 lo)).take (HT.sIx (ns.map V.int).length (ns.map V.int).length hi - HT.sIx (ns.map V.int).length 0 lo), ?_, ?_⟩
  · unfold cutV
    rw [List.map_take, List.map_drop]
  · rw [List.length_take, List.length_drop]
    omega
section
variable {P : Program} {w : World} {K : PySem.W.Frag} {mg : Str → Option Value} {base : Heap}
def spDeck (K : PySem.W.Frag) : Sp := fun vs H Q _ => ∃ (a : Addr) (ns : List Int), vs = [.ref a] ∧ SqL K H a (ns.map V.int) ∧ ns.length ≤ 63 ∧ ∀ (p d : Addr) (H' : Hp), Same H H' → H p = none → H d = none → Deck H' p d 63 → Q (.ref p) H'
theorem ok_deck {f : Addr} {fd : FuncData} (F : Fun K "_law_deck" "_law_deck" sDeck f fd) (B : NoNames mg) : FnOk P w K mg base CX0 1 f fd ["script"] (spDeck K) := by
  refine F.ok scDeck (fun vs H Q E h => ?_) (fun cdv A outer s H vs Q E hr h => ?_)
  · obtain ⟨a, ns, rfl, _⟩ := h
    rfl
  · obtain ⟨a, ns, rfl, hS, hl, k⟩ := h
    have hu := hu_of hr
    refine ⟨_, pss_cons (ps_set (i := 1) scDeck.nd rfl (.inl rfl) (pe_disp (pps_cons pe_str (pe_lst pa_nil) (pps_cons pe_str (pe_op op_add pe_int (pe_callB call_len_seq (by rfl) B.len PySem.boot_len (pa_cons (pe_slice sl_list (pv 0) po_none (po_some pe_int)) pa_nil))) pps_nil)) (by rfl) (by rfl) (fun z => by cases z) (by decide)))
      (pss_cons (ps_for PassesOwn.never rfl (pi_list (pe_slice sl_list (pv 0) po_none (po_some pe_int))) (pg_name (i := 2) scDeck.nd rfl (.inl rfl))
        (pss_cons (ps_set (i := 3) scDeck.nd rfl (.inl rfl) (pe_callB call_abs (by rfl) B.abs (by decide +kernel) (pa_cons (pv 2) pa_nil)))
        (pss_cons (ps_if (pt_cmpR op_ge (pv 3) (pe_op op_pow pe_int pe_int) (nomark _)) (pss_one (ps_dput hu (pv 1) pe_str (pe_op op_cat (pe_lst (pa_cons (pv 3) pa_nil)) (pe_dget hu (pv 1) pe_str (fun _ _ => rfl))) rfl)) pss_nil)
        (pss_cons (ps_set (i := 4) scDeck.nd rfl (.inl rfl) (pe_op op_add (pe_op op_mul (pe_op op_add (pe_op op_add (pe_op op_add (pe_dget hu (pv 1) pe_str (fun _ _ => rfl)) (pe_op op_mul pe_int (pv 3)))
            (pe_callTy call_int1 (by rfl) B.int (by decide +kernel) (pa_cons (pe_cmpR op_lt (pv 2) pe_int (nomark _)) pa_nil))) pe_int) pe_int) pe_int))
        (pss_one (ps_dput hu (pv 1) pe_str (pe_op op_mod (pe_callTy call_int1 (by rfl) B.int (by decide +kernel) (pa_cons (pv 4) pa_nil)) pe_int) rfl))))))
      (pss_one (ps_ret (pv 1)))), ?_⟩
    -- the deck
    intro p np
    refine ⟨Nat.zero_le _, fun l nl => ?_⟩
    have nlp : p ≠ l := fun z => by
      rw [z, upd_same] at nl
      cases nl
    have nl0 : H l = none := by
      rw [upd_ne nlp.symm] at nl
      exact nl
    have s1 : Same H (upd (upd H p (.dK [])) l (.lst [])) := (same_new np).trans (same_new nl)
    obtain ⟨ms, em, lm⟩ := cut_int ns none (some 63)
    refine ⟨_, rfl, 63, rfl, a, ns.map V.int, rfl, s1.seq hS, fun c nc => ?_⟩
    rw [em]
    refine ⟨c, _, rfl, .inl (SqL.of upd_same), _, _, rfl, rfl, ?_⟩
    have s2 := s1.trans (same_new (o := .lst (ms.map V.int)) nc)
    have ncp : p ≠ c := fun z => by
      rw [← z, upd_ne nlp, upd_same] at nc
      cases nc
    have ncl : l ≠ c := fun z => by
      rw [← z, upd_same] at nc
      cases nc
    refine ⟨by rw [upd_ne ncp, upd_ne nlp, upd_same], [(kD, .ref l), (kS, .int (1279802 + ((ms.map V.int).length : Int)))], rfl, by show 2 ≤ 15; decide, ?_⟩
    rw [deck_new]
    have em2 : (ms.map V.int).length ≤ 63 := by
      rw [List.length_map]
      omega
    have d0 : Deck (upd (upd (upd (upd H p (.dK [])) l (.lst [])) c (.lst (ms.map V.int))) p (.dK (deckL l (1279802 + ((ms.map V.int).length : Int))))) p l 0 :=
      ⟨[], _, upd_same, by rw [upd_ne nlp.symm, upd_ne ncl, upd_same]; rfl, Nat.le_refl _, fun _ h => absurd h (by simp), by omega, by omega⟩
    have s3 : Same H (upd (upd (upd (upd H p (.dK [])) l (.lst [])) c (.lst (ms.map V.int))) p (.dK (deckL l (1279802 + ((ms.map V.int).length : Int))))) := fun b o e => by
      rw [upd_ne (ne_of_none e np)]
      exact s2 b o e
    -- for cell in script[:63]
    refine ⟨_, rfl, 63, rfl, a, ns.map V.int, rfl, s3.seq hS, fun c2 nc2 => ?_⟩
    rw [em]
    have s4 := s3.trans (same_new (o := .lst (ms.map V.int)) nc2)
    have p0 : ∀ {H' : Hp}, (∃ d', Deck H' p d' 0) → True := fun _ => trivial
    refine ⟨c2, rfl, ⟨_, SqL.of upd_same⟩, for_it (walk_list (xs := ms.map V.int)) (fun i σ H' => ∃ s2 s3 s4 d', σ = [some (.ref a), some (.ref p), s2, s3, s4] ∧ Same H H' ∧ H' c2 = some (.lst (ms.map V.int)) ∧ H d' = none ∧ Deck H' p d' i)
      ⟨none, none, none, l, rfl, s4, upd_same, nl0, d0.same (same_new nc2)⟩ (fun i σ H' _ h => by obtain ⟨_, _, _, _, _, _, h3, _⟩ := h; exact SqL.of h3) ?_ ?_⟩
    · rintro i x σ H0 H1 hi ⟨t2, t3, t4, d', rfl, w1, w2, w3, D⟩ ⟨rfl, ex⟩
      obtain ⟨z, rfl⟩ : ∃ z, x = V.int z := by
        rw [List.getElem?_map] at ex
        cases q : ms[i]? with
        | none => rw [q] at ex; cases ex
        | some z => rw [q] at ex; exact ⟨z, (Option.some.inj ex).symm⟩
      have hi63 : i < 63 := by
        rw [List.length_map] at hi
        omega
      -- whole = abs(cell)
      refine ⟨_, rfl, z, rfl, ?_⟩
      obtain ⟨deep, st, hp1, hd1, hl1, hn1, hs1, hs2⟩ := id D.ex
      have hW : 0 ≤ (if z < 0 then -z else z) := by split <;> omega
      generalize (if z < 0 then -z else z) = W at hW ⊢
      refine ⟨_, rfl, _, _, rfl, rfl, ⟨by decide, by decide, by decide⟩, _, _, rfl, rfl, _, rfl, ?_⟩
      refine ite2 (fun _ => ?yes) (fun _ => ?no)
      case' yes =>
        -- deck["deep"] = [whole] + deck["deep"]
        refine ⟨_, rfl, by show 1 ≤ sizeLine; decide, fun q nq => ?_⟩
        have sq : Same H1 (upd H1 q (.lst [.int W])) := same_new nq
        refine ⟨_, rfl, p, _, rfl, dget_deep (sq _ _ hp1), q, d', _, _, rfl, rfl, upd_same, sq _ _ hd1, ?_, fun e ne => ?_⟩
        · rw [List.length_map, sizeLine_eq]
          show 1 + deep.length ≤ _
          omega
        have se := sq.trans (same_new (o := .lst ([V.int W] ++ deep.map V.int)) ne)
        refine ⟨_, rfl, p, _, rfl, dput_deep e (se _ _ hp1), ?_⟩
        have ep : e ≠ p := fun y => by
          rw [y, sq _ _ hp1] at ne
          cases ne
        have cp : c2 ≠ p := ne_of w2 hp1 (by intro y; cases y)
        have e0 : H e = none := w1.free (sq.free ne)
        have y1 : Same H (upd (upd (upd H1 q (.lst [.int W])) e (.lst ([V.int W] ++ deep.map V.int))) p (.dK (deckL e st))) := fun b o h => by
          rw [upd_ne (ne_of_none h np)]
          exact se _ _ (w1 b o h)
        have y2 : (upd (upd (upd H1 q (.lst [.int W])) e (.lst ([V.int W] ++ deep.map V.int))) p (.dK (deckL e st))) c2 = some (.lst (ms.map V.int)) := by
          rw [upd_ne cp]
          exact se _ _ w2
        have y3 : ∃ (d2 : Addr) (deep2 : List Int) (st2 : Int), (H d2 = none ∧ (upd (upd (upd H1 q (.lst [.int W])) e (.lst ([V.int W] ++ deep.map V.int))) p (.dK (deckL e st))) p = some (.dK (deckL d2 st2)) ∧
            (upd (upd (upd H1 q (.lst [.int W])) e (.lst ([V.int W] ++ deep.map V.int))) p (.dK (deckL e st))) d2 = some (.lst (deep2.map V.int)) ∧ deep2.length ≤ i + 1 ∧ (∀ n ∈ deep2, 0 ≤ n)) ∧ 0 ≤ st2 ∧ st2 < 2 ^ 61 :=
          ⟨e, W :: deep, st, ⟨e0, upd_same, by rw [upd_ne ep, upd_same]; rfl, by simp only [List.length_cons]; omega, fun n hn => by
            rcases List.mem_cons.mp hn with y | y
            · rw [y]; exact hW
            · exact hn1 n y⟩, hs1, hs2⟩
        generalize (upd (upd (upd H1 q (.lst [.int W])) e (.lst ([V.int W] ++ deep.map V.int))) p (.dK (deckL e st))) = H2 at y1 y2 y3 ⊢
      case' no =>
        have y1 : Same H H1 := w1
        have y2 : H1 c2 = some (.lst (ms.map V.int)) := w2
        have y3 : ∃ (d2 : Addr) (deep2 : List Int) (st2 : Int), (H d2 = none ∧ H1 p = some (.dK (deckL d2 st2)) ∧ H1 d2 = some (.lst (deep2.map V.int)) ∧ deep2.length ≤ i + 1 ∧ (∀ n ∈ deep2, 0 ≤ n)) ∧ 0 ≤ st2 ∧ st2 < 2 ^ 61 :=
          ⟨d', deep, st, ⟨w3, hp1, hd1, by omega, hn1⟩, hs1, hs2⟩
        generalize H1 = H2 at y1 y2 y3 ⊢
      all_goals
        obtain ⟨d2, deep2, st2, ⟨g0, g1, g2, g3, g4⟩, g5, g6⟩ := y3
        -- state
        refine ⟨_, rfl, p, _, rfl, dget_state g1, _, rfl, _, _, rfl, rfl, .inl ⟨by decide, by decide⟩, _, _, rfl, rfl, ?_⟩
        refine ⟨_, rfl, _, _, rfl, rfl, .inr ⟨_, rfl, _, _, rfl, rfl, ?_⟩⟩
        refine ⟨_, _, rfl, rfl, _, _, rfl, rfl, .inr ⟨by decide, by decide⟩, _, _, rfl, rfl, ?_⟩
        refine ⟨_, rfl, .inl ⟨_, rfl, _, _, rfl, rfl, (by show (0 : Int) < 2305843009213693951; decide), _, rfl, p, _, rfl, dput_state _ g1, ?_⟩⟩
        have np2 : p ≠ d2 := ne_of g1 g2 (by intro y; cases y)
        have cp : c2 ≠ p := ne_of y2 g1 (by intro y; cases y)
        refine ⟨_, _, _, d2, rfl, fun b o h => ?_, ?_, g0, ⟨deep2, _, upd_same, ?_, g3, g4, Int.emod_nonneg _ (by decide), Int.lt_of_lt_of_le (Int.emod_lt_of_pos _ (by decide)) (by decide)⟩⟩
        · rw [upd_ne (ne_of_none h np)]
          exact y1 b o h
        · rw [upd_ne cp]
          exact y2
        · rw [upd_ne np2.symm]
          exact g2
    · rintro σ H1 ⟨t2, t3, t4, d', rfl, w1, w2, w3, D⟩
      refine ⟨_, rfl, k p d' H1 w1 np w3 (D.mono ?_)⟩
      rw [List.length_map]
      omega
end
end Sw
namespace Sw
open PySem L2
/-- all but the deck stands -/
def Kp (p d : Addr) (H H' : Hp) : Prop := ∀ b o, H b = some o → b ≠ p → b ≠ d → H' b = some o
theorem Kp.of {p d : Addr} {H H' : Hp} (s : Same H H') : Kp p d H H' := fun b o e _ _ => s b o e
theorem Kp.refl {p d : Addr} {H : Hp} : Kp p d H H := fun _ _ e _ _ => e
theorem Kp.trans {p d : Addr} {H H1 H2 : Hp} (s : Kp p d H H1) (t : Kp p d H1 H2) : Kp p d H H2 := fun b o e n1 n2 => t b o (s b o e n1 n2) n1 n2
theorem Kp.new {p d : Addr} {H : Hp} {a : Addr} {o : HO} (h : H a = none) : Kp p d H (upd H a o) := .of (same_new h)
theorem Deck.ne_none {H : Hp} {p d : Addr} {m : Nat} (D : Deck H p d m) {a : Addr} (h : H a = none) : a ≠ p ∧ a ≠ d := by
  obtain ⟨ns, st, h1, h2, r⟩ := D.ex
  refine ⟨fun z => ?_, fun z => ?_⟩
  · rw [z, h1] at h
    cases h
  · rw [z, h2] at h
    cases h
/-- what is not yet stands not behind either -/
theorem Deck.free {H H' : Hp} {p d : Addr} {m : Nat} (D : Deck H p d m) (s : Kp p d H H') {a : Addr} (h : H' a = none) (D' : Deck H' p d m) : H a = none := by
  cases e : H a with
  | none => rfl
  | some o =>
    have n := D'.ne_none h
    have := s a o e n.1 n.2
    rw [this] at h
    cases h
theorem eqv_nil (ns : List Int) : (!PyData.eqv (.list (ns.map PyData.int)) (.list [])) = decide (ns ≠ []) := by
  cases ns with
  | nil => simp [PyData.eqv, PyData.eqvAll]
  | cons a r => simp [PyData.eqv, PyData.eqvAll]
theorem dpInts {K : PySem.W.Frag} {H : Hp} : ∀ ns : List Int, DpAll K H (ns.map V.int) (ns.map PyData.int)
  | [] => .nil
  | n :: r => .cons (.int n) (dpInts r)
theorem last_ints {ns : List Int} (h : ns ≠ []) : ∃ n ms, ns = ms ++ [n] ∧ (ns.map V.int)[(ns.map V.int).length - 1]? = some (.int n) ∧ (ns.map V.int).dropLast = ms.map V.int := by
  refine ⟨ns.getLast h, ns.dropLast, (List.dropLast_concat_getLast h).symm, ?_, ?_⟩
  · rw [List.getElem?_map, List.length_map]
    rw [← List.getLast?_eq_getElem?, List.getLast?_eq_some_getLast h]
    rfl
  · rw [List.map_dropLast]
section
variable {P : Program} {w : World} {K : PySem.W.Frag} {mg : Str → Option Value} {base : Heap}
def spDraw : Sp := fun vs H Q _ => ∃ (p d : Addr) (m : Int), vs = [.ref p, .int m] ∧ Deck H p d 63 ∧ m < 1000000 ∧ ∀ (r : Int) (H' : Hp), 0 ≤ r → (1 ≤ m → r < m) → (m < 2 → r = 0) → Deck H' p d 63 → Kp p d H H' → Q (.int r) H'
theorem ok_draw {f : Addr} {fd : FuncData} (F : Fun K "_law_draw" "_law_draw" sDraw f fd) (B : NoNames mg) : FnOk P w K mg base CX0 1 f fd ["deck", "many"] (spDraw) := by
  refine F.ok scDraw (fun vs H Q E h => ?_) (fun cdv A outer s H vs Q E hr h => ?_)
  · obtain ⟨p, d, m, rfl, _⟩ := h
    rfl
  · obtain ⟨p, d, m, rfl, D, hm, k⟩ := h
    have hu := hu_of hr
    refine ⟨_, pss_cons (ps_if (pt_cmpR op_lt (pv 1) pe_int (nomark _)) (pss_one (ps_ret pe_int)) pss_nil)
      (pss_cons (ps_if (pt_cmpR (op_neD hr.units) (pe_dget hu (pv 0) pe_str (fun _ _ => rfl)) (pe_lst pa_nil) (nomark _))
        (pss_cons (ps_set (i := 2) scDraw.nd rfl (.inl rfl) (pe_bm0 PySem.F.plainAttrs_list PySem.F.slot_list_pop PySem.F.type_list_pop mt_pop (pe_dget hu (pv 0) pe_str (fun _ _ => rfl))))
        (pss_cons (ps_if (pt_cmpR op_ge (pv 2) (pv 1) (nomark _)) (pss_one (ps_expr (pe_bm PySem.F.plainAttrs_list PySem.F.slot_list_append PySem.F.type_list_append mt_append (pe_dget hu (pv 0) pe_str (fun _ _ => rfl)) (pa_cons (pe_op op_fdiv (pv 2) (pv 1)) pa_nil)))) pss_nil)
        (pss_one (ps_ret (pe_op op_mod (pe_callTy call_int1 (by rfl) B.int (by decide +kernel) (pa_cons (pv 2) pa_nil)) (pv 1)))))) pss_nil)
      (pss_cons (ps_set (i := 3) scDraw.nd rfl (.inl rfl) (pe_op op_mod (pe_callTy call_int1 (by rfl) B.int (by decide +kernel) (pa_cons (pe_op op_add (pe_op op_mul (pe_dget hu (pv 0) pe_str (fun _ _ => rfl)) pe_int) pe_int) pa_nil)) pe_int))
      (pss_cons (ps_dput hu (pv 0) pe_str (pv 3) rfl)
      (pss_cons (ps_set (i := 4) scDraw.nd rfl (.inl rfl) (pe_op op_mod (pe_callTy call_int1 (by rfl) B.int (by decide +kernel) (pa_cons (pe_op op_add (pe_op op_add (pe_op op_mul (pv 3) (pv 3)) (pe_op op_mul pe_int (pv 3))) pe_int) pa_nil)) pe_int))
      (pss_one (ps_ret (pe_op op_mod (pe_callTy call_int1 (by rfl) B.int (by decide +kernel) (pa_cons (pe_op op_fdiv (pv 4) pe_int) pa_nil)) (pv 1)))))))), ?_⟩
    obtain ⟨ns, st, hp, hd, hl, hn, hs1, hs2⟩ := id D.ex
    refine ⟨_, rfl, _, _, rfl, rfl, _, rfl, ?_⟩
    refine ite2 (fun z => ?_) (fun z => ?_)
    · have z : m < 2 := of_decide_eq_true z
      exact k 0 H (by decide) (fun _ => by omega) (fun _ => rfl) D .refl
    have z : ¬ m < 2 := fun q => z (decide_eq_true q)
    refine ⟨_, rfl, p, _, rfl, dget_deep hp, by show 0 ≤ sizeLine; exact Nat.zero_le _, fun e ne => ?_⟩
    have se : Same H (upd H e (.lst [])) := same_new ne
    refine ⟨.list (ns.map PyData.int), .list [], .lst (SqL.of (se _ _ hd)) (dpInts ns), .lst (SqL.of upd_same) .nil, PySem.W.ke_shaped_ints ns, rfl, _, rfl, ?_⟩
    rw [eqv_nil]
    refine ite2 (fun y => ?_) (fun y => ?_)
    · obtain ⟨n, ms, rfl, hlast, hdrop⟩ := last_ints (of_decide_eq_true y)
      have hn0 : 0 ≤ n := hn n (by simp)
      refine ⟨_, rfl, p, _, rfl, dget_deep (se _ _ hp), .inl ⟨rfl, _, SqL.of (se _ _ hd)⟩, d, _, _, rfl, rfl, se _ _ hd, hlast, ?_⟩
      rw [hdrop]
      have hpd := D.ne
      have h1 : (upd (upd H e (.lst [])) d (.lst (ms.map V.int))) p = some (.dK (deckL d st)) := by
        rw [upd_ne hpd]
        exact se _ _ hp
      have h2 : (upd (upd H e (.lst [])) d (.lst (ms.map V.int))) d = some (.lst (ms.map V.int)) := upd_same
      have h3 : Kp p d H (upd (upd H e (.lst [])) d (.lst (ms.map V.int))) := fun b o e n1 n2 => by
        rw [upd_ne n2]
        exact se _ _ e
      have hl' : ms.length + 1 ≤ 63 := by simpa using hl
      have hn' : ∀ x ∈ ms, 0 ≤ x := fun x hx => hn x (by simp [hx])
      generalize (upd (upd H e (.lst [])) d (.lst (ms.map V.int))) = H1 at h1 h2 h3 ⊢
      have D1 : Deck H1 p d 63 := ⟨ms, st, h1, h2, by omega, hn', hs1, hs2⟩
      refine ⟨_, rfl, _, rfl, _, _, rfl, rfl, _, rfl, ?_⟩
      refine ite2 (fun x => ?_) (fun x => ?_)
      · have x : m ≤ n := of_decide_eq_true x
        refine ⟨_, rfl, p, _, rfl, dget_deep h1, .inl ⟨rfl, _, SqL.of h2⟩, _, rfl, _, rfl, _, _, rfl, rfl, ⟨by omega, by omega⟩, d, _, _, rfl, rfl, h2, ?_, ?_⟩
        · rw [List.length_map, sizeLine_eq]
          omega
        refine ⟨_, rfl, .inl ⟨_, rfl, _, rfl, _, _, rfl, rfl, by show 0 < m; omega, ?_⟩⟩
        refine k _ _ (Int.emod_nonneg _ (by omega)) (fun _ => Int.emod_lt_of_pos _ (by omega)) (fun y => absurd y (by omega)) ⟨ms ++ [n / m], st, ?_, ?_, ?_, ?_, hs1, hs2⟩ (h3.trans fun b o e n1 n2 => ?_)
        · rw [upd_ne hpd]
          exact h1
        · rw [upd_same, List.map_append]
          rfl
        · simp
          omega
        · intro x hx
          rcases List.mem_append.mp hx with q | q
          · exact hn' x q
          · rw [List.mem_singleton.mp q]
            exact Int.ediv_nonneg hn0 (by omega)
        · rw [upd_ne n2]
          exact e
      · refine ⟨_, rfl, .inl ⟨_, rfl, _, rfl, _, _, rfl, rfl, by show 0 < m; omega, ?_⟩⟩
        exact k _ _ (Int.emod_nonneg _ (by omega)) (fun _ => Int.emod_lt_of_pos _ (by omega)) (fun y => absurd y (by omega)) D1 h3
    · have D1 := D.same se
      generalize (upd H e (.lst [])) = H1 at se D1
      obtain ⟨ns, st, hp, hd, hl, hn, hs1, hs2⟩ := id D1.ex
      refine ⟨_, rfl, p, _, rfl, dget_state hp, _, _, rfl, rfl, .inl ⟨by omega, by omega⟩, _, _, rfl, rfl, ?_⟩
      refine .inl ⟨_, rfl, _, _, rfl, rfl, (by show (0 : Int) < 2305843009213693951; decide), ?_⟩
      dsimp only
      have o1 : 0 ≤ (st * 1181783497276652981 + 88172645463325) % 2305843009213693951 := Int.emod_nonneg _ (by decide)
      have o2 : (st * 1181783497276652981 + 88172645463325) % 2305843009213693951 < 2305843009213693951 := Int.emod_lt_of_pos _ (by decide)
      generalize (st * 1181783497276652981 + 88172645463325) % 2305843009213693951 = one at o1 o2 ⊢
      refine ⟨_, rfl, _, rfl, p, _, rfl, dput_state one hp, ?_⟩
      refine ⟨_, rfl, _, rfl, _, _, rfl, rfl, .inl ⟨by omega, by omega⟩, _, rfl, _, _, rfl, rfl, .inl ⟨by decide, by decide⟩, _, _, rfl, rfl, _, _, rfl, rfl, ?_⟩
      refine .inl ⟨_, rfl, _, _, rfl, rfl, (by show (0 : Int) < 2305843009213693921; decide), ?_⟩
      dsimp only
      generalize (one * one + 374761393 * one + 11) % 2305843009213693921 = two
      refine ⟨_, rfl, _, _, rfl, rfl, ⟨by decide, by decide⟩, ?_⟩
      refine .inl ⟨_, rfl, _, rfl, _, _, rfl, rfl, by show 0 < m; omega, ?_⟩
      refine k _ _ (Int.emod_nonneg _ (by omega)) (fun _ => Int.emod_lt_of_pos _ (by omega)) (fun y => absurd y (by omega)) ⟨ns, one, upd_same, ?_, hl, hn, o1, by omega⟩ (fun b o e n1 n2 => ?_)
      · rw [upd_ne (D1.ne).symm]
        exact hd
      · rw [upd_ne n1]
        exact se _ _ e
end
end Sw
namespace Sw
open PySem L2
theorem erase_map {α β : Type} (f : α → β) : ∀ (l : List α) (i : Nat), (l.map f).eraseIdx i = (l.eraseIdx i).map f
  | [], _ => rfl
  | _ :: _, 0 => rfl
  | a :: r, i + 1 => by
    show f a :: (r.map f).eraseIdx i = f a :: (r.eraseIdx i).map f
    rw [erase_map f r i]
theorem Deck.kne {H : Hp} {p d : Addr} {m : Nat} (D : Deck H p d m) {a : Addr} {xs : List V} (h : H a = some (.lst xs)) : a ≠ p := by
  obtain ⟨ns, st, h1, h2, r⟩ := D.ex
  exact ne_of h h1 (by intro y; cases y)
theorem Deck.tne {H : Hp} {p d : Addr} {m : Nat} (D : Deck H p d m) {a : Addr} {xs : List V} (h : H a = some (.tup xs)) : a ≠ p ∧ a ≠ d := by
  obtain ⟨ns, st, h1, h2, r⟩ := D.ex
  exact ⟨ne_of h h1 (by intro y; cases y), ne_of h h2 (by intro y; cases y)⟩
theorem Deck.upd {H : Hp} {p d a : Addr} {m : Nat} {o : HO} (D : Deck H p d m) (h1 : a ≠ p) (h2 : a ≠ d) : Deck (L2.upd H a o) p d m := by
  obtain ⟨ns, st, e1, e2, r⟩ := D.ex
  exact ⟨ns, st, by rw [upd_ne h1.symm]; exact e1, by rw [upd_ne h2.symm]; exact e2, r⟩
section
variable {P : Program} {w : World} {K : PySem.W.Frag} {mg : Str → Option Value} {base : Heap}
def spPick : Sp := fun vs H Q _ => ∃ (p d a : Addr) (xs : List V), vs = [.ref p, .ref a] ∧ Deck H p d 63 ∧ H a = some (.lst xs) ∧ a ≠ d ∧ xs ≠ [] ∧ xs.length < 1000000 ∧ ∀ (x : V) (H' : Hp), x ∈ xs → Deck H' p d 63 → Kp p d H H' → Q x H'
theorem ok_pick {f : Addr} {fd : FuncData} (F : Fun K "_law_pick" "_law_pick" sPick f fd) (B : NoNames mg) (O : Own P w K mg base 1 "_law_draw" ["deck", "many"] spDraw) : FnOk P w K mg base CX0 2 f fd ["deck", "items"] (spPick) := by
  obtain ⟨fD, fdD, GD, mD, kD, bD⟩ := O.ex
  refine F.ok scPick (fun vs H Q E h => ?_) (fun cdv A outer s H vs Q E hr h => ?_)
  · obtain ⟨p, d, a, xs, rfl, _⟩ := h
    rfl
  · obtain ⟨p, d, a, xs, rfl, D, ha, nd, hx, hl, k⟩ := h
    refine ⟨_, pss_one (ps_ret (pe_ix ix_list (pv 1) (pe_call GD hr rfl mD kD bD .nil pass0 (pa_cons (pv 0) (pa_cons (pe_callB call_len_seq (by rfl) B.len PySem.boot_len (pa_cons (pv 1) pa_nil)) pa_nil))) (fun _ _ => rfl))), ?_⟩
    have hpos : 0 < xs.length := List.length_pos_iff.mpr hx
    refine ⟨_, rfl, _, rfl, _, rfl, a, xs, rfl, .inl (SqL.of ha), p, d, (xs.length : Int), rfl, D, by omega, fun r H' r0 r1 r2 D' kp => ?_⟩
    have ha' := kp _ _ ha (D.kne ha) nd
    have hr : r < (xs.length : Int) := r1 (by omega)
    obtain ⟨i, rfl⟩ := Int.eq_ofNat_of_zero_le r0
    have hi : i < xs.length := by omega
    exact ⟨a, xs, _, xs[i], rfl, rfl, SqL.of ha', at_of (j := i) rfl (List.getElem?_eq_getElem hi), k _ _ (List.getElem_mem hi) D' kp⟩
def spMixed : Sp := fun vs H Q _ => ∃ (p d a : Addr) (ns : List Int), vs = [.ref p, .ref a] ∧ Deck H p d 63 ∧ H a = some (.lst (ns.map V.int)) ∧ ns.length < 1000000 ∧ ∀ (r : Addr) (ms : List Int) (H' : Hp), Deck H' p d 63 → Kp p d H H' → H r = none → H' r = some (.lst (ms.map V.int)) → ms.length = ns.length → (∀ m ∈ ms, m ∈ ns) → Q (.ref r) H'
theorem ok_mixed {f : Addr} {fd : FuncData} (F : Fun K "_law_mixed" "_law_mixed" sMixed f fd) (B : NoNames mg) (O : Own P w K mg base 1 "_law_draw" ["deck", "many"] spDraw) : FnOk P w K mg base CX0 2 f fd ["deck", "items"] (spMixed) := by
  obtain ⟨fD, fdD, GD, mD, kD, bD⟩ := O.ex
  refine F.ok scMixed (fun vs H Q E h => ?_) (fun cdv A outer s H vs Q E hr h => ?_)
  · obtain ⟨p, d, a, ns, rfl, _⟩ := h
    rfl
  · obtain ⟨p, d, a, ns, rfl, D, ha, hl, k⟩ := h
    refine ⟨_, pss_cons (ps_par (i := 2) (j := 3) rfl scMixed.nd rfl rfl (by decide) rfl rfl (pa_cons (pe_callTy call_list_of (by rfl) B.list (by decide +kernel) (pa_cons (pv 1) pa_nil)) (pa_cons (pe_lst pa_nil) pa_nil)) (by rfl))
      (pss_cons (ps_while PassesOwn.never (pt_cmpR (op_neD hr.units) (pv 2) (pe_lst pa_nil) (nomark _))
        (pss_one (ps_expr (pe_bm PySem.F.plainAttrs_list PySem.F.slot_list_append PySem.F.type_list_append mt_append (pv 3)
          (pa_cons (pe_bm PySem.F.plainAttrs_list PySem.F.slot_list_pop PySem.F.type_list_pop mt_popAt (pv 2)
            (pa_cons (pe_call GD hr rfl mD kD bD .nil pass0 (pa_cons (pv 0) (pa_cons (pe_callB call_len_seq (by rfl) B.len PySem.boot_len (pa_cons (pv 2) pa_nil)) pa_nil))) pa_nil)) pa_nil)))))
      (pss_one (ps_ret (pv 3)))), ?_⟩
    refine ⟨_, rfl, a, _, rfl, .inl (SqL.of ha), fun l nl => ⟨by show 0 ≤ sizeLine; exact Nat.zero_le _, fun g ng => ⟨_, _, rfl, ?_⟩⟩⟩
    have s1 : Same H (L2.upd H l (.lst (ns.map V.int))) := same_new nl
    have s2 := s1.trans (same_new (o := .lst []) ng)
    have ngl : g ≠ l := fun z => by
      rw [z, upd_same] at ng
      cases ng
    refine ⟨fun m σ H' => ∃ ls fs : List Int, σ = [some (.ref p), some (.ref a), some (.ref l), some (.ref g)] ∧ Deck H' p d 63 ∧ Kp p d H H' ∧ H' l = some (.lst (ls.map V.int)) ∧ H' g = some (.lst (fs.map V.int)) ∧ l ≠ d ∧ g ≠ d ∧ ls.length = m ∧ ls.length + fs.length = ns.length ∧ (∀ x ∈ ls, x ∈ ns) ∧ (∀ x ∈ fs, x ∈ ns),
      ⟨ns.length, ns, [], rfl, D.same s2, .of s2, by rw [upd_ne ngl.symm, upd_same], upd_same, (D.ne_none nl).2, (D.ne_none (s1.free ng)).2, rfl, rfl, fun _ h => h, fun _ h => absurd h (by simp)⟩, ?_⟩
    rintro m σ H1 ⟨ls, fs, rfl, D1, k1, h1, h2, n1, n2, rfl, hlen, m1, m2⟩
    refine ⟨_, rfl, by show 0 ≤ sizeLine; exact Nat.zero_le _, fun e ne => ?_⟩
    have se : Same H1 (L2.upd H1 e (.lst [])) := same_new ne
    refine ⟨.list (ls.map PyData.int), .list [], .lst (SqL.of (se _ _ h1)) (dpInts ls), .lst (SqL.of upd_same) .nil, PySem.W.ke_shaped_ints ls, rfl, _, rfl, ?_⟩
    have D2 := D1.same se
    have k2 := k1.trans (.of se)
    have h1' := se _ _ h1
    have h2' := se _ _ h2
    generalize (L2.upd H1 e (.lst [])) = H2 at D2 k2 h1' h2' ⊢
    rw [eqv_nil]
    refine ite2 (fun y => ?_) (fun y => ?_)
    · have y : ls ≠ [] := of_decide_eq_true y
      have hpos : 0 < ls.length := List.length_pos_iff.mpr y
      refine ⟨fun σ' H' => ∃ m', m' < ls.length ∧ ∃ ls fs : List Int, σ' = [some (.ref p), some (.ref a), some (.ref l), some (.ref g)] ∧ Deck H' p d 63 ∧ Kp p d H H' ∧ H' l = some (.lst (ls.map V.int)) ∧ H' g = some (.lst (fs.map V.int)) ∧ l ≠ d ∧ g ≠ d ∧ ls.length = m' ∧ ls.length + fs.length = ns.length ∧ (∀ x ∈ ls, x ∈ ns) ∧ (∀ x ∈ fs, x ∈ ns), fun _ _ h => h, ?_⟩
      refine ⟨_, rfl, .inl ⟨rfl, _, SqL.of h2'⟩, _, rfl, .inl ⟨rfl, _, SqL.of h1'⟩, _, rfl, _, rfl, l, ls.map V.int, rfl, .inl (SqL.of h1'), p, d, ((ls.map V.int).length : Int), rfl, D2, ?_, fun r H3 r0 r1 r2 D3 k3 => ?_⟩
      · rw [List.length_map]
        omega
      have h1 := k3 _ _ h1' (D2.kne h1') n1
      have h2 := k3 _ _ h2' (D2.kne h2') n2
      have np1 := D2.kne h1'
      have np2 := D2.kne h2'
      have hr : r < ((ls.map V.int).length : Int) := r1 (by rw [List.length_map]; omega)
      obtain ⟨i, rfl⟩ := Int.eq_ofNat_of_zero_le r0
      have hi : i < ls.length := by
        rw [List.length_map] at hr
        omega
      have hz : ((ls.map V.int).eraseIdx i) = (ls.eraseIdx i).map V.int := by
        exact erase_map _ ls i
      refine ⟨l, _, _, i, .int ls[i], rfl, rfl, h1, by omega, by omega, ?_, ?_, ?_⟩
      · exact PySem.seqIndex_of r0 hr
      · rw [List.getElem?_map, List.getElem?_eq_getElem hi]
        rfl
      rw [hz]
      refine ⟨g, fs.map V.int, _, rfl, rfl, by rw [upd_ne ngl]; exact h2, ?_, ?_⟩
      · rw [List.length_map, sizeLine_eq]
        omega
      have le : (ls.eraseIdx i).length + 1 = ls.length := by
        rw [List.length_eraseIdx_of_lt hi]
        omega
      refine ⟨(ls.eraseIdx i).length, by omega, ls.eraseIdx i, fs ++ [ls[i]], rfl, (D3.upd np1 n1).upd np2 n2, ?_, ?_, ?_, n1, n2, rfl, ?_, ?_, ?_⟩
      · intro b o e q1 q2
        rw [upd_ne (ne_of_none e (s1.free ng)), upd_ne (ne_of_none e nl)]
        exact k3 _ _ (k2 _ _ e q1 q2) q1 q2
      · rw [upd_ne ngl.symm, upd_same]
      · rw [upd_same, List.map_append]
        rfl
      · rw [List.length_append, List.length_singleton]
        omega
      · exact fun x hx => m1 x (List.mem_of_mem_eraseIdx hx)
      · intro x hx
        rcases List.mem_append.mp hx with q | q
        · exact m2 x q
        · rw [List.mem_singleton.mp q]
          exact m1 _ (List.getElem_mem hi)
    · have y : ls = [] := by
        refine Classical.byContradiction fun q => y (decide_eq_true q)
      subst y
      refine ⟨_, rfl, k g fs H2 D2 k2 ?_ h2' (by simpa using hlen) m2⟩
      exact s1.free ng
end
end Sw
namespace Sw
open PySem L2
/-! ### expressions that give data -/
abbrev SH := L2.St → Hp → Prop
/-- what is free may be used, and what S says holds -/
structure Fit (S : SH) (U : L2.St → Addr → Prop) (σ : L2.St) (H : Hp) : Prop where
  s : S σ H
  u : ∀ a, H a = none → U σ a
def tDat (K : PySem.W.Frag) (S : SH) (U : L2.St → Addr → Prop) (w k : Nat) : TE := fun σ H Q => Fit S U σ H ∧ ∀ (x : V) (dd : D) (as : List Addr) (H' : Hp), Rep K H' dd x as → (∀ a ∈ as, U σ a) → Same H H' → small dd → wt dd ≤ w → dep dd ≤ k → Q x H'
def tDats (K : PySem.W.Frag) (S : SH) (U : L2.St → Addr → Prop) (w k m : Nat) : TA := fun σ H Q => Fit S U σ H ∧ ∀ (xs : List V) (ds : List D) (as : List Addr) (H' : Hp), xs.length = m → RepAll K H' ds xs as → (∀ a ∈ as, U σ a) → Same H H' → smallAll ds → wtAll ds ≤ w → depAll ds ≤ k → Q xs H'
/-- a new list of data -/
def tDatL (K : PySem.W.Frag) (S : SH) (U : L2.St → Addr → Prop) (w k m : Nat) : TE := fun σ H Q => Fit S U σ H ∧ ∀ (l : Addr) (xs : List V) (ds : List D) (as : List Addr) (H' : Hp), H l = none → H' l = some (.lst xs) → l ∉ as → xs.length = m → RepAll K H' ds xs as → (∀ a ∈ as, U σ a) → Same H H' → smallAll ds → wtAll ds ≤ w → depAll ds ≤ k → Q (.ref l) H'
def SMono (S : SH) : Prop := ∀ σ H H', S σ H → Same H H' → S σ H'
theorem Fit.same {S : SH} {U : L2.St → Addr → Prop} {σ : L2.St} {H H' : Hp} (hS : SMono S) (f : Fit S U σ H) (s : Same H H') : Fit S U σ H' := ⟨hS σ H H' f.s s, fun a h => f.u a (s.free h)⟩
theorem pe_weak {X : Cx} {e : Expr} {t t' : TE} (h : PE X e t) (hw : ∀ σ H Q, t' σ H Q → t σ H Q) : PE X e t' := ⟨fun pins s σ H Q I q => h.run pins s σ H Q I (hw σ H Q q)⟩
theorem pa_weak {X : Cx} {es : List Expr} {t t' : TA} (h : PA X es t) (hw : ∀ σ H Q, t' σ H Q → t σ H Q) : PA X es t' := ⟨fun pos pins s σ H Q I q => h.run pos pins s σ H Q I (hw σ H Q q)⟩
section
variable {X : Cx} {S : SH} {U : L2.St → Addr → Prop} {e : Expr} {es : List Expr} {w k : Nat}
theorem dat_le {w' k' : Nat} (h : PE X e (tDat X.K S U w k)) (hw : w ≤ w') (hk : k ≤ k') : PE X e (tDat X.K S U w' k') :=
  pe_weak h fun σ H Q q => ⟨q.1, fun x dd as H' h1 h2 h3 h4 h5 h6 => q.2 x dd as H' h1 h2 h3 h4 (by omega) (by omega)⟩
theorem dat_of {t : TE} (h : PE X e t) (ht : ∀ σ H Q, S σ H → (∀ v dd, Rep X.K H dd v [] → small dd → wt dd ≤ w → dep dd ≤ k → Q v H) → t σ H Q) : PE X e (tDat X.K S U w k) :=
  pe_weak h fun σ H Q q => ht σ H Q q.1.s fun v dd h1 h2 h3 h4 => q.2 v dd [] H h1 (fun _ h => absurd h (by simp)) (Same.refl H) h2 h3 h4
theorem int_ok {K : PySem.W.Frag} {H : Hp} {i : Int} {w k : Nat} (hi : i.natAbs < 10 ^ w) (hw : 0 < w) (hw2 : w ≤ 40) : Rep K H (.int i) (.int i) [] ∧ small (.int i) ∧ wt (.int i) ≤ w + 1 ∧ dep (.int i) ≤ k := by
  refine ⟨by simp [Rep], ?_, ?_, by simp only [dep]; omega⟩
  · simp only [small]
    exact PySem.Spec.log2_small (Nat.lt_of_lt_of_le hi (Nat.le_trans (Nat.pow_le_pow_right (by decide) hw2) (by decide +kernel)))
  · simp only [wt]
    rw [PySem.ofString_length]
    exact int_text_length_le10 hw hi
theorem dat_int {i : Int} {t : TE} (h : PE X e t) (ht : ∀ σ H Q, Q (.int i) H → t σ H Q) (hi : i.natAbs < 10 ^ w := by decide +kernel) (hw : 0 < w := by decide) (hw2 : w ≤ 40 := by decide) : PE X e (tDat X.K S U (w + 1) k) :=
  dat_of h fun σ H Q _ q => ht σ H Q (by
    obtain ⟨h1, h2, h3, h4⟩ := int_ok (K := X.K) (H := H) (k := k) hi hw hw2
    exact q _ _ h1 h2 h3 h4)
/-- a slot that holds a small whole number -/
def SInt (S : SH) (i : Nat) : Prop := ∀ σ H, S σ H → ∃ v, σ[i]? = some (some (.int v)) ∧ v.natAbs < 10 ^ 3
theorem dat_var {i : Nat} (h : PE X e (tVar i)) (hS : SInt S i) : PE X e (tDat X.K S U 4 k) :=
  dat_of h fun σ H Q hs q => by
    obtain ⟨v, e, hv⟩ := hS σ H hs
    obtain ⟨h1, h2, h3, h4⟩ := int_ok (K := X.K) (H := H) (k := k) hv (by decide) (by decide)
    exact ⟨_, e, q _ _ h1 h2 h3 h4⟩
theorem dat_bl {t : TE} (h : PE X e t) (ht : ∀ σ H Q, S σ H → (∀ b, Q (.bl b) H) → t σ H Q) : PE X e (tDat X.K S U 5 k) :=
  dat_of h fun σ H Q hs q => ht σ H Q hs fun b => q _ (.bl b) (by simp [Rep]) (by simp only [small]) (by simp only [wt]; omega) (by simp only [dep]; omega)
theorem dat_true {b : Bool} (h : PE X e (tC (.bl b))) : PE X e (tDat X.K S U 5 k) := dat_bl h fun σ H Q _ q => q b
theorem dat_non (h : PE X e (tC .non)) : PE X e (tDat X.K S U 4 k) :=
  dat_of h fun σ H Q _ q => q .non .non (by simp [Rep]) (by simp only [small]) (by simp only [wt]; omega) (by simp only [dep]; omega)
theorem dat_str {x : Str} (h : PE X e (tC (.str x))) (hw : (reprText x).length ≤ w := by decide +kernel) : PE X e (tDat X.K S U w k) :=
  dat_of h fun σ H Q _ q => q (.str x) (.str x) (by simp [Rep]) (by simp only [small]) (by simp only [wt]; omega) (by simp only [dep]; omega)
theorem dat_dct {pos : Pos} : PE X (.Dict [] [] pos) (tDat X.K S U 2 (k + 1)) :=
  pe_weak pe_dnewK fun σ H Q q p np => q.2 _ .dct [p] _ (by simp only [Rep]; exact ⟨p, rfl, upd_same, rfl⟩) (fun a ha => by rw [List.mem_singleton.mp ha]; exact q.1.u p np) (same_new np) (by simp only [small]) (by simp only [wt]; omega) (by simp only [dep]; omega)
theorem dats_nil : PA X [] (tDats X.K S U 0 k 0) := pa_weak pa_nil fun σ H Q q => q.2 [] [] [] H rfl (by simp [RepAll]) (fun _ h => absurd h (by simp)) (Same.refl H) (by simp only [smallAll]) (by simp only [wtAll]; omega) (by simp only [depAll]; omega)
theorem dats_cons {w' m : Nat} (hS : SMono S) (ha : PE X e (tDat X.K S U w k)) (hr : PA X es (tDats X.K S U w' k m)) (hs : starEach (e :: es) X.env = (false, eval e X.env) :: starEach es X.env := by rfl) : PA X (e :: es) (tDats X.K S U (w + 2 + w') k (m + 1)) :=
  pa_weak (pa_cons ha hr hs) fun σ H Q q => ⟨q.1, fun x dd as H1 h1 h2 h3 h4 h5 h6 => ⟨q.1.same hS h3, fun xs ds bs H2 lm l1 l2 l3 l4 l5 l6 =>
    q.2 (x :: xs) (dd :: ds) (as ++ bs) H2 (by rw [List.length_cons, lm]) (by simp only [RepAll]; exact ⟨x, xs, as, bs, rfl, h1.same l3, l1, rfl⟩) (fun a ha => (List.mem_append.mp ha).elim (h2 a) (l2 a)) (h3.trans l3) (by simp only [smallAll]; exact ⟨h4, l4⟩) (by simp only [wtAll]; omega) (by simp only [depAll]; omega)⟩⟩
theorem wlen {K : PySem.W.Frag} {H : Hp} {xs : List V} {ds : List D} {as : List Addr} (h : RepAll K H ds xs as) (hw : wtAll ds ≤ 10000000) : xs.length ≤ sizeLine := by
  have h1 := wt_len ds
  rw [h.len, sizeLine_eq]
  omega
theorem nmem {K : PySem.W.Frag} {H : Hp} {xs : List V} {ds : List D} {as : List Addr} {a : Addr} (h : RepAll K H ds xs as) (ha : H a = none) : a ∉ as := fun z => by
  obtain ⟨o, e⟩ := h.tracked a z
  rw [ha] at e
  cases e
theorem dat_tup {x1 m : Nat} {pos : Pos} (h : PA X es (tDats X.K S U w k m)) (hS : SMono S) (hw : w ≤ 10000000 := by decide) : PE X (.Tuple es x1 pos) (tDat X.K S U (w + 3) (k + 1)) :=
  pe_weak (pe_tup h) fun σ H Q q => ⟨q.1, fun xs ds as H1 hm h1 h2 h3 h4 h5 h6 => ⟨wlen h1 (by omega), fun p np =>
    q.2 (.ref p) (.tup ds) (p :: as) _ (by simp only [Rep]; exact ⟨p, xs, as, rfl, upd_same, h1.same (same_new np), nmem h1 np, rfl⟩) (fun a ha => (List.mem_cons.mp ha).elim (fun z => by rw [z]; exact (q.1.same hS h3).u p np) (h2 a)) (h3.trans (same_new np)) (by simp only [small]; exact h4) (by simp only [wt]; omega) (by simp only [dep]; omega)⟩⟩
theorem dat_lst {m : Nat} {pos : Pos} (h : PA X es (tDats X.K S U w k m)) (hS : SMono S) (hw : w ≤ 10000000 := by decide) : PE X (.List es pos) (tDat X.K S U (w + 3) (k + 1)) :=
  pe_weak (pe_lst h) fun σ H Q q => ⟨q.1, fun xs ds as H1 hm h1 h2 h3 h4 h5 h6 => ⟨wlen h1 (by omega), fun p np =>
    q.2 (.ref p) (.lst ds) (p :: as) _ (by simp only [Rep]; exact ⟨p, xs, as, rfl, upd_same, h1.same (same_new np), nmem h1 np, rfl⟩) (fun a ha => (List.mem_cons.mp ha).elim (fun z => by rw [z]; exact (q.1.same hS h3).u p np) (h2 a)) (h3.trans (same_new np)) (by simp only [small]; exact h4) (by simp only [wt]; omega) (by simp only [dep]; omega)⟩⟩
theorem datL_lst {m : Nat} {pos : Pos} (h : PA X es (tDats X.K S U w k m)) (hS : SMono S) (hw : w ≤ 10000000 := by decide) : PE X (.List es pos) (tDatL X.K S U w k m) :=
  pe_weak (pe_lst h) fun σ H Q q => ⟨q.1, fun xs ds as H1 hm h1 h2 h3 h4 h5 h6 => ⟨wlen h1 (by omega), fun p np =>
    q.2 p xs ds as _ (h3.free np) upd_same (nmem h1 np) hm (h1.same (same_new np)) h2 (h3.trans (same_new np)) h4 (by omega) (by omega)⟩⟩
/-- an own error with an __init__ -/
structure XE (P : Program) (K : PySem.W.Frag) (mg : Str → Option Value) (x msg fld : Str) : Prop where
  ex : ∃ C fI file, XCls K C ∧ XInit K C fI msg fld fld file ∧ mg x = some (.ref C) ∧ ((P.main.file : Str) == file) = true ∧ (P.main.scope.names.lookup ("super" : Str)).isSome = false ∧ XGood K C x
/-- an own error without -/
structure XU (K : PySem.W.Frag) (mg : Str → Option Value) (x : Str) : Prop where
  ex : ∃ (C : Addr) (bmB : List Value) (B newId initId : String), ExcBaseFacts B newId initId bmB ∧ PySem.W.excIn K C bmB newId = true ∧ PySem.W.keepIn K (.ref C) = true ∧ mg x = some (.ref C) ∧ XGood K C x
theorem wt_exc {C : Addr} {n : Str} (h : n.length ≤ 60) : wt (.exc C n none) ≤ 62 := by
  simp only [wt, xText]
  rw [PySem.Str.length_append]
  have : ("()" : Str).length = 2 := by decide +kernel
  omega
theorem wt_exc1 {C : Addr} {n m : Str} (h : n.length ≤ 60) (hm : (reprText m).length ≤ 40) : wt (.exc C n (some m)) ≤ 102 := by
  simp only [wt, xText]
  rw [PySem.Str.length_append, PySem.Str.length_append, PySem.Str.length_append]
  have h1 : ("(" : Str).length = 1 := by decide +kernel
  have h2 : (")" : Str).length = 1 := by decide +kernel
  omega
theorem dat_xe {x msg fld : Str} {pos p : Pos} {kr : Nat} (E : XE X.prog X.K X.mg x msg fld) (hmsg : (reprText msg).length ≤ 40) (hdb : (x == ("__debug__" : Str)) = false) (B : NoNames X.mg) (hr : Room kr X.A) (h1r : 1 ≤ kr) (hS : SMono S) (hg : Gl X x) (he : PE X e (tDat X.K S U w k)) (hst : starEach [e] X.env = (false, eval e X.env) :: starEach [] X.env := by rfl) :
    PE X (.Call (.Name x p) [e] [] pos) (tDat X.K S U 102 (k + 3)) := by
  obtain ⟨C, fI, file, T, F, hm, hf, ht, G⟩ := E.ex
  refine pe_weak (pe_xmk T F (hr.mono h1r) hg hm B.super hf ht he hst hdb) fun σ H Q q => ⟨q.1, fun x' dd as H1 l1 l2 l3 l4 l5 l6 => fun a t1 dx na nt nd n1 n2 n3 => ?_⟩
  have u := (q.1.same hS l3).u
  refine q.2 (.ref a) (.exc C x (some msg)) [a, t1, dx] _ ?_ (fun b hb => ?_) ?_ (by simp only [small]) (wt_exc1 G.len hmsg) (by simp only [dep]; omega)
  · simp only [Rep]
    refine ⟨a, t1, some dx, rfl, upd_same, ?_, fun d hd => ?_, G, rfl⟩
    · rw [upd_ne n1, upd_same]
      rfl
    · cases hd
      rw [upd_ne n2, upd_ne n3, upd_same]
  · simp only [List.mem_cons, List.not_mem_nil, or_false] at hb
    rcases hb with rfl | rfl | rfl
    · exact u _ na
    · exact u _ nt
    · exact u _ nd
  · refine l3.trans fun b o hb => ?_
    rw [upd_ne (ne_of_none hb na), upd_ne (ne_of_none hb nt), upd_ne (ne_of_none hb nd)]
    exact hb
theorem dat_xu {x : Str} {pos p : Pos} (E : XU X.K X.mg x) (hdb : (x == ("__debug__" : Str)) = false) (hg : Gl X x) : PE X (.Call (.Name x p) [] [] pos) (tDat X.K S U 62 (k + 3)) := by
  obtain ⟨C, bmB, Bn, newId, initId, F, q, kC, hm, G⟩ := E.ex
  refine pe_weak (pe_xmk0 (k := 0) F q kC hg hm hdb) fun σ H Q q a t1 na nt n1 => ?_
  refine q.2 (.ref a) (.exc C x none) [a, t1] _ ?_ (fun b hb => ?_) ?_ (by simp only [small]) (wt_exc G.len) (by simp only [dep]; omega)
  · simp only [Rep]
    refine ⟨a, t1, none, rfl, upd_same, ?_, fun d hd => (nomatch hd), G, rfl⟩
    rw [upd_ne n1, upd_same]
    rfl
  · simp only [List.mem_cons, List.not_mem_nil, or_false] at hb
    rcases hb with rfl | rfl
    · exact q.1.u _ na
    · exact q.1.u _ nt
  · intro b o hb
    rw [upd_ne (ne_of_none hb na), upd_ne (ne_of_none hb nt)]
    exact hb
end
end Sw
namespace Sw
open PySem L2
/-- a statement kept to what it is to do with the slots and the heap -/
def tCut (J J' : L2.St → Hp → Prop) : TS := fun D σ H => J σ H ∧ ∀ σ' H', J' σ' H' → D.nx σ' H'
theorem ps_cut {X : Cx} {st : Stmt} {t : TS} {J J' : L2.St → Hp → Prop} (h : PS X st t) (hJ : ∀ D σ H, J σ H → (∀ σ' H', J' σ' H' → D.nx σ' H') → t D σ H) : PS X st (tCut J J') :=
  ⟨fun pins s σ H D I q => h.run pins s σ H D I (hJ D σ H q.1 q.2)⟩
def Inn (n a : Int) : Prop := 0 ≤ a ∧ a < n
/-- tuples stand -/
def TupS (H H' : Hp) : Prop := ∀ b xs, H b = some (.tup xs) → H' b = some (.tup xs)
theorem TupS.of {H H' : Hp} (s : Same H H') : TupS H H' := fun b xs e => s _ _ e
theorem TupS.refl {H : Hp} : TupS H H := fun _ _ e => e
theorem TupS.trans {H H1 H2 : Hp} (s : TupS H H1) (t : TupS H1 H2) : TupS H H2 := fun b xs e => t _ _ (s _ _ e)
theorem TupS.kp {H H' : Hp} {p d : Addr} {m : Nat} (D : Deck H p d m) (s : Kp p d H H') : TupS H H' := fun b xs e => s _ _ e (D.tne e).1 (D.tne e).2
/-- a list, a dict is written -/
theorem TupS.upd {H : Hp} {a : Addr} {o : HO} (h : ∀ xs, H a ≠ some (.tup xs)) : TupS H (L2.upd H a o) := fun b xs e => by
  rw [upd_ne (fun z => h xs (by rw [← z]; exact e))]
  exact e
theorem Kp.free {H H' : Hp} {p d : Addr} {m : Nat} (s : Kp p d H H') (D' : Deck H' p d m) {a : Addr} (h : H' a = none) : H a = none := by
  cases e : H a with
  | none => rfl
  | some o =>
    have n := D'.ne_none h
    have := s a o e n.1 n.2
    rw [this] at h
    cases h
end Sw
namespace Sw
open PySem L2
/-- off the deck -/
def Off (p d : Addr) : Addr → Prop := fun a => a ≠ p ∧ a ≠ d
/-- the deck, and U: addresses off the deck, what is free and all tuples among them -/
structure Dk (H : Hp) (p d : Addr) (U : Addr → Prop) : Prop where
  dk : Deck H p d 63
  off : ∀ a, U a → Off p d a
  free : ∀ a, H a = none → U a
  tup : ∀ a zs, H a = some (.tup zs) → U a
theorem Dk.kp {H H' : Hp} {p d : Addr} {U : Addr → Prop} (D : Dk H p d U) (s : Kp p d H H') (D' : Deck H' p d 63) : Dk H' p d U := by
  have fr : ∀ a, H' a = none → H a = none := fun a h => by
    cases e : H a with
    | none => rfl
    | some o =>
      have n := D'.ne_none h
      have := s a o e n.1 n.2
      rw [this] at h
      cases h
  refine ⟨D', D.off, fun a h => D.free a (fr a h), fun a zs h => ?_⟩
  cases e : H a with
  | none => exact D.free a e
  | some o =>
    have n := D'.tne h
    have := s a o e n.1 n.2
    rw [this] at h
    cases h
    exact D.tup a zs e
theorem Dk.same {H H' : Hp} {p d : Addr} {U : Addr → Prop} (D : Dk H p d U) (s : Same H H') : Dk H' p d U := D.kp (.of s) (D.dk.same s)
/-- x is data of a bounded kind, made of things of U -/
def Dat (K : PySem.W.Frag) (U : Addr → Prop) (w k : Nat) (H : Hp) (x : V) : Prop := ∃ dd as, Rep K H dd x as ∧ (∀ a ∈ as, U a) ∧ small dd ∧ wt dd ≤ w ∧ dep dd ≤ k
theorem Dat.keep {K : PySem.W.Frag} {p d : Addr} {U : Addr → Prop} {w k : Nat} {H H' : Hp} {x : V} (h : Dat K U w k H x) (o : ∀ a, U a → Off p d a) (s : Kp p d H H') : Dat K U w k H' x := by
  obtain ⟨dd, as, h1, h2, h3⟩ := h
  exact ⟨dd, as, h1.keep fun b hb y e => s b y e (o b (h2 b hb)).1 (o b (h2 b hb)).2, h2, h3⟩
theorem Dat.le {K : PySem.W.Frag} {U : Addr → Prop} {w k w' k' : Nat} {H : Hp} {x : V} (h : Dat K U w k H x) (h1 : w ≤ w') (h2 : k ≤ k') : Dat K U w' k' H x := by
  obtain ⟨dd, as, h3, h4, h5, h6, h7⟩ := h
  exact ⟨dd, as, h3, h4, h5, by omega, by omega⟩
theorem Dat.all {K : PySem.W.Frag} {U : Addr → Prop} {w k : Nat} {H : Hp} {xs : List V} {ds : List D} {as : List Addr} (h : RepAll K H ds xs as) (hu : ∀ a ∈ as, U a) (hs : smallAll ds) (hw : wtAll ds ≤ w) (hk : depAll ds ≤ k) : ∀ x ∈ xs, Dat K U w k H x := fun x hx => by
  obtain ⟨i, hi, e⟩ := List.getElem_of_mem hx
  obtain ⟨dd, bs, h1, h2, h3⟩ := h.at2 (i := i) (x := x) (by rw [List.getElem?_eq_getElem hi, e])
  have hm := List.mem_of_getElem? h1
  have := wt_mem hm
  have := dep_mem hm
  exact ⟨dd, bs, h2, fun a ha => hu a (h3 a ha), small_mem hs hm, by omega, by omega⟩
/-- a list of data -/
theorem dats_rep {K : PySem.W.Frag} {U : Addr → Prop} {w k : Nat} {H : Hp} : ∀ {xs : List V}, (∀ x ∈ xs, Dat K U w k H x) → ∃ ds as, RepAll K H ds xs as ∧ (∀ a ∈ as, U a) ∧ smallAll ds ∧ wtAll ds ≤ xs.length * (w + 2) ∧ depAll ds ≤ k
  | [], _ => ⟨[], [], by simp [RepAll], fun _ h => absurd h (by simp), by simp [smallAll], by simp [wtAll], by simp [depAll]⟩
  | x :: r, h => by
    obtain ⟨dd, as, h1, h2, h3, h4, h5⟩ := h x (by simp)
    obtain ⟨ds, bs, l1, l2, l3, l4, l5⟩ := dats_rep (xs := r) fun y hy => h y (by simp [hy])
    refine ⟨dd :: ds, as ++ bs, ?_, fun c hc => (List.mem_append.mp hc).elim (h2 c) (l2 c), ?_, ?_, ?_⟩
    · simp only [RepAll]
      exact ⟨x, r, as, bs, rfl, h1, l1, rfl⟩
    · simp only [smallAll]
      exact ⟨h3, l3⟩
    · simp only [wtAll, List.length_cons, Nat.succ_mul]
      omega
    · simp only [depAll]
      omega
/-- a new tuple of data -/
theorem Dat.newTup {K : PySem.W.Frag} {T : Addr} {U : Addr → Prop} {w k : Nat} {H : Hp} {xs : List V} (h : ∀ x ∈ xs, Dat K U w k H x) (nT : H T = none) (o : U T) : Dat K U (xs.length * (w + 2) + 3) (k + 1) (upd H T (.tup xs)) (.ref T) := by
  obtain ⟨ds, as, l1, l2, l3, l4, l5⟩ := dats_rep h
  refine ⟨.tup ds, T :: as, ?_, fun c hc => ?_, by simp only [small]; exact l3, by simp only [wt]; omega, by simp only [dep]; omega⟩
  · simp only [Rep]
    exact ⟨T, _, as, rfl, upd_same, l1.same (same_new nT), nmem l1 nT, rfl⟩
  · rcases List.mem_cons.mp hc with z | z
    · rw [z]; exact o
    · exact l2 c z
theorem Dat.int {K : PySem.W.Frag} {U : Addr → Prop} {w k : Nat} {H : Hp} {i : Int} (h : i.natAbs < 1000) (hw : 4 ≤ w) : Dat K U w k H (.int i) := by
  obtain ⟨i1, i2, i3, i4⟩ := int_ok (K := K) (H := H) (i := i) (w := 3) (k := k) h (by decide) (by decide)
  exact ⟨_, [], i1, fun _ h => absurd h (by simp), i2, by omega, i4⟩
end Sw
namespace Sw
open PySem PySem.Spec PyProof.Rows L2
/-- pairs of a tuple and a value, as they are laid: the key, its address, the value -/
abbrev PT := List Key × Addr × V
def PairT (K : PySem.W.Frag) (H : Hp) (p : Addr) (q : PT) : Prop := SqT K H p [.ref q.2.1, q.2.2] ∧ H q.2.1 = some (.tup (q.1.map kV))
theorem pairsT_of {X : Cx} {pins : List (Addr × Obj)} {σ : L2.St} {H : Hp} {s : Shared} (I : Inv X pins σ H s) : ∀ {ps : List Addr} {qs : List PT}, Paired (PairT X.K H) ps qs →
    ∃ prs : List (List Key × Addr × Value), Paired (fun (q : PT) (r : List Key × Addr × Value) => q.1 = r.1 ∧ q.2.1 = r.2.1 ∧ RelV q.2.2 r.2.2) qs prs ∧ prs.length = ps.length ∧
      ∀ (j : Nat) (r : List Key × Addr × Value), prs[j]? = some r → ∃ p, ps[j]? = some p ∧ s.heap.IsTuple p #[.ref r.2.1, r.2.2]
  | _, _, .nil => ⟨[], .nil, rfl, fun j r e => by simp at e⟩
  | _, _, .cons (a := p) (b := q) h t => by
    obtain ⟨prs, r, hl, hp⟩ := pairsT_of I t
    obtain ⟨its, rv, ht, _⟩ := I.tuple h.1
    obtain ⟨u, y, ei, ru, ry⟩ := vals2 rv
    subst ei
    cases (show u = Value.ref q.2.1 from ru)
    refine ⟨(q.1, q.2.1, y) :: prs, .cons ⟨rfl, rfl, ry⟩ r, by simp [hl], fun j z e => ?_⟩
    cases j with
    | zero =>
      obtain rfl : (q.1, q.2.1, y) = z := by simpa using e
      exact ⟨p, rfl, ht⟩
    | succ j =>
      obtain ⟨p2, h1, h2⟩ := hp j z (by simpa using e)
      exact ⟨p2, by simpa using h1, h2⟩
theorem stored_mem {κ : Type} [DecidableEq κ] {xs : List (κ × Addr × Value)} {k : κ} {a : Addr} {v : Value} {z : κ × Addr × Value} (h : z ∈ storedH xs k a v) : z = (k, a, v) ∨ z ∈ xs ∨ ∃ y ∈ xs, z = (y.1, y.2.1, v) := by
  unfold storedH at h
  split at h
  · obtain ⟨y, hy, e⟩ := List.mem_map.mp h
    unfold putAt at e
    split at e
    · exact .inr (.inr ⟨y, hy, e.symm⟩)
    · exact .inr (.inl (e ▸ hy))
  · rcases List.mem_append.mp h with q | q
    · exact .inr (.inl q)
    · exact .inl (by simpa using q)
theorem storedAll_mem {κ : Type} [DecidableEq κ] : ∀ (ps xs : List (κ × Addr × Value)) (z : κ × Addr × Value), z ∈ storedAllH xs ps →
    (∃ y, (y ∈ xs ∨ y ∈ ps) ∧ y.1 = z.1 ∧ y.2.1 = z.2.1) ∧ ∃ y, (y ∈ xs ∨ y ∈ ps) ∧ y.2.2 = z.2.2
  | [], xs, z, h => ⟨⟨z, .inl h, rfl, rfl⟩, z, .inl h, rfl⟩
  | p :: ps, xs, z, h => by
    obtain ⟨⟨y, hy, e1, e2⟩, y', hy', e3⟩ := storedAll_mem ps (storedH xs p.1 p.2.1 p.2.2) z h
    constructor
    · rcases hy with hy | hy
      · rcases stored_mem hy with q | q | ⟨t, q, e⟩
        · exact ⟨p, .inr (by simp), by rw [q] at e1; exact e1, by rw [q] at e2; exact e2⟩
        · exact ⟨y, .inl q, e1, e2⟩
        · exact ⟨t, .inl q, by rw [e] at e1; exact e1, by rw [e] at e2; exact e2⟩
      · exact ⟨y, .inr (by simp [hy]), e1, e2⟩
    · rcases hy' with hy | hy
      · rcases stored_mem hy with q | q | ⟨t, q, e⟩
        · exact ⟨p, .inr (by simp), by rw [q] at e3; exact e3⟩
        · exact ⟨y', .inl q, e3⟩
        · exact ⟨p, .inr (by simp), by rw [e] at e3; exact e3⟩
      · exact ⟨y', .inr (by simp [hy]), e3⟩
theorem stored_keep {κ : Type} [DecidableEq κ] {xs : List (κ × Addr × Value)} {k : κ} {a : Addr} {v : Value} {y : κ × Addr × Value} (h : y ∈ xs) : ∃ z ∈ storedH xs k a v, z.1 = y.1 := by
  unfold storedH
  split
  · refine ⟨putAt k v y, List.mem_map.mpr ⟨y, h, rfl⟩, ?_⟩
    unfold putAt
    split <;> rfl
  · exact ⟨y, List.mem_append.mpr (.inl h), rfl⟩
theorem stored_has {κ : Type} [DecidableEq κ] {xs : List (κ × Addr × Value)} {k : κ} {a : Addr} {v : Value} : ∃ z ∈ storedH xs k a v, z.1 = k := by
  by_cases e : (atKey xs k).isSome = true
  · obtain ⟨y, hy, e2⟩ : ∃ y ∈ xs, y.1 = k := by
      unfold atKey at e
      cases q : xs.find? (fun x => decide (x.1 = k)) with
      | none =>
        rw [q] at e
        cases e
      | some y => exact ⟨y, List.mem_of_find?_eq_some q, by simpa using List.find?_some q⟩
    obtain ⟨z, hz, e3⟩ := stored_keep (k := k) (a := a) (v := v) hy
    exact ⟨z, hz, e3.trans e2⟩
  · unfold storedH
    rw [if_neg e]
    exact ⟨(k, a, v), List.mem_append.mpr (.inr (by simp)), rfl⟩
theorem storedAll_has {κ : Type} [DecidableEq κ] : ∀ (ps xs : List (κ × Addr × Value)) (y : κ × Addr × Value), y ∈ xs ∨ y ∈ ps → ∃ z ∈ storedAllH xs ps, z.1 = y.1
  | [], xs, y, h => ⟨y, h.elim id (fun z => absurd z (by simp)), rfl⟩
  | p :: ps, xs, y, h => by
    show ∃ z ∈ storedAllH (storedH xs p.1 p.2.1 p.2.2) ps, z.1 = y.1
    rcases h with h | h
    · obtain ⟨z, hz, e⟩ := stored_keep (k := p.1) (a := p.2.1) (v := p.2.2) h
      obtain ⟨z2, h2, e2⟩ := storedAll_has ps _ z (.inl hz)
      exact ⟨z2, h2, e2.trans e⟩
    · rcases List.mem_cons.mp h with rfl | h
      · obtain ⟨z, hz, e⟩ := stored_has (xs := xs) (k := y.1) (a := y.2.1) (v := y.2.2)
        obtain ⟨z2, h2, e2⟩ := storedAll_has ps _ z (.inl hz)
        exact ⟨z2, h2, e2.trans e⟩
      · exact storedAll_has ps _ y (.inr h)
theorem storedAll_len {κ : Type} [DecidableEq κ] : ∀ (ps xs : List (κ × Addr × Value)), (storedAllH xs ps).length ≤ xs.length + ps.length
  | [], xs => Nat.le_refl _
  | p :: ps, xs => by
    have h := storedAll_len ps (storedH xs p.1 p.2.1 p.2.2)
    have h2 := storedH_length xs p.1 p.2.1 p.2.2
    show (storedAllH (storedH xs p.1 p.2.1 p.2.2) ps).length ≤ _
    simp only [List.length_cons]
    omega
theorem paired_mem {α β : Type} {F : α → β → Prop} : ∀ {l : List α} {m : List β} {b : β}, Paired F l m → b ∈ m → ∃ a ∈ l, F a b
  | _, _, b, .nil, h => by cases h
  | _, _, b, .cons h t, hb => by
    rcases List.mem_cons.mp hb with e | e
    · exact ⟨_, List.mem_cons_self .., e ▸ h⟩
    · obtain ⟨a, h1, h2⟩ := paired_mem t e
      exact ⟨a, List.mem_cons_of_mem _ h1, h2⟩
theorem paired_memL {α β : Type} {F : α → β → Prop} : ∀ {l : List α} {m : List β} {a : α}, Paired F l m → a ∈ l → ∃ b ∈ m, F a b
  | _, _, a, .nil, h => by cases h
  | _, _, a, .cons h t, ha => by
    rcases List.mem_cons.mp ha with e | e
    · exact ⟨_, List.mem_cons_self .., e ▸ h⟩
    · obtain ⟨b, h1, h2⟩ := paired_memL t e
      exact ⟨b, List.mem_cons_of_mem _ h1, h2⟩
/-- dict(xs), xs a list of pairs whose first things are tuples: its keys are just theirs -/
theorem call_dictTE {X : Cx} {k : Nat} (hr : Room k X.A) (hcalm : X.calm = true) : CallR X (.type "dict") (fun xs H Q => ∃ (a : Addr) (ps : List Addr) (qs : List PT), xs = [.ref a] ∧ SqL X.K H a (ps.map V.ref) ∧ Paired (PairT X.K H) ps qs ∧
    ∀ (d : Addr) (kvs : List (List Key × V)), H d = none → kvs.length ≤ ps.length → (∀ kv ∈ kvs, ∃ q ∈ qs, q.1 = kv.1) → (∀ q ∈ qs, ∃ kv ∈ kvs, kv.1 = q.1) → Q (.ref d) (upd H d (.dT kvs))) := by
  intro pins s σ H xs us Q I r q
  obtain ⟨a, ps, qs, rfl, hq, hp, q⟩ := q
  obtain ⟨u, rfl, rx⟩ := vals1 r
  cases rx
  obtain ⟨its, rv, pl, hz⟩ := I.list hq
  obtain rfl := refs_at rv
  rw [List.length_map] at hz
  obtain ⟨prs, rel, hl, hpr⟩ := pairsT_of I hp
  obtain ⟨o, n, ho, hc, hd, hdat⟩ := pl
  have un := hr.units
  let psV : List (Value × Value) := prs.map fun r => (.ref r.2.1, r.2.2)
  let Ts : Nat → Addr := fun j => ps.getD j 0
  have hlen : psV.length = ps.length := by simp [psV, hl]
  have keyAt : ∀ r ∈ prs, H r.2.1 = some (.tup (r.1.map kV)) := fun r hr => by
    obtain ⟨t, ht, e1, e2, _⟩ := paired_mem rel hr
    have back : ∀ {l : List Addr} {m : List PT}, Paired (PairT X.K H) l m → t ∈ m → H t.2.1 = some (.tup (t.1.map kV)) := fun h hm => by
      obtain ⟨_, _, z⟩ := paired_mem h hm
      exact z.2
    rw [← e1, ← e2]
    exact back hp ht
  have okP : PlainSeq "list" s.heap a (ps.map Value.ref).toArray ∧ PairItems s.heap (ps.map Value.ref).toArray Ts psV := by
    refine ⟨⟨o, n, ho, hc, hd, hdat⟩, by simp [hlen], fun j kk v e => ?_⟩
    obtain ⟨r, er, e2⟩ : ∃ r, prs[j]? = some r ∧ (Value.ref r.2.1, r.2.2) = (kk, v) := by
      simp only [psV, List.getElem?_map] at e
      cases z : prs[j]? with
      | none => rw [z] at e; simp at e
      | some r => rw [z] at e; exact ⟨r, rfl, by simpa using e⟩
    cases e2
    obtain ⟨p, h1, h2⟩ := hpr j r er
    have eT : Ts j = p := by simp [Ts, List.getD, h1]
    refine ⟨by simp [h1, eT], .inl (by rw [eT]; exact h2)⟩
  have hsz : psV.length ≤ sizeLine := by rw [hlen]; exact hz
  refine call_dict_pairsH (knd := tupleKind (mixKind X.prog X.w)) (ps := prs) (PairArg.list a (ps.map Value.ref).toArray Ts psV) (I.ok.hd hcalm) (by show X.A.units + 1 + 1 < cLine; omega) okP ⟨by simp [psV], fun i key v hrel => ?_⟩ (fun h' hk x hx => ?_) hsz fun h' tk hd' hk => ?_
  · have e : psV[i]? = some (key, v) := hrel
    simp only [psV, List.getElem?_map] at e
    cases z : prs[i]? with
    | none => rw [z] at e; simp at e
    | some r =>
      rw [z] at e
      obtain ⟨rk, rb, rv'⟩ := r
      have e2 : (Value.ref rb, rv') = (key, v) := by simpa using e
      cases e2
      exact ⟨rk, rb, rfl, rfl⟩
  · obtain ⟨o', its', n', h1, h2, h3, h4⟩ := key_of I.hok (keyAt x hx)
    exact ⟨o', its', n', hk _ _ (Nat.ne_of_lt (Heap.lt_size h1)) (by simp) h1, h2, h3, h4⟩
  · have hm : (s.heap.objs.size == sysModules) = false := beq_eq_false_iff_ne.mpr (Nat.ne_of_gt I.big)
    have hn : H s.heap.objs.size = none := I.hok.fresh (Nat.le_refl _)
    have hll : (storedAllH [] prs).length ≤ ps.length := by
      have := storedAll_len prs []
      rw [List.length_nil, Nat.zero_add, hl] at this
      exact this
    have vOf : ∀ z ∈ storedAllH [] prs, ∃ y, RelV y z.2.2 := fun z hz => by
      obtain ⟨_, y, hy, e⟩ := storedAll_mem prs [] z hz
      rcases hy with hy | hy
      · cases hy
      · obtain ⟨t, _, _, _, e3⟩ := paired_mem rel hy
        exact ⟨t.2.2, by rw [← e]; exact e3⟩
    have kOf : ∀ z ∈ storedAllH [] prs, H z.2.1 = some (.tup (z.1.map kV)) ∧ ∃ q ∈ qs, q.1 = z.1 := fun z hz => by
      obtain ⟨⟨y, hy, e1, e2⟩, _⟩ := storedAll_mem prs [] z hz
      rcases hy with hy | hy
      · cases hy
      · refine ⟨by rw [← e1, ← e2]; exact keyAt y hy, ?_⟩
        obtain ⟨t, ht, e3, _, _⟩ := paired_mem rel hy
        exact ⟨t, ht, e3.trans e1⟩
    obtain ⟨kvs, hkv⟩ : ∃ kvs : List (List Key × V), Paired (fun (p : List Key × V) (z : List Key × Addr × Value) => p.1 = z.1 ∧ (upd H s.heap.objs.size (.dT kvs)) z.2.1 = some (.tup (p.1.map kV)) ∧ RelV p.2 z.2.2) kvs (storedAllH [] prs) ∧ ∀ kv ∈ kvs, ∃ q ∈ qs, q.1 = kv.1 := by
      have mk : ∀ l : List (List Key × Addr × Value), (∀ z ∈ l, (∃ y, RelV y z.2.2) ∧ H z.2.1 = some (.tup (z.1.map kV)) ∧ ∃ q ∈ qs, q.1 = z.1) →
          ∃ kvs : List (List Key × V), Paired (fun (p : List Key × V) (z : List Key × Addr × Value) => p.1 = z.1 ∧ H z.2.1 = some (.tup (p.1.map kV)) ∧ RelV p.2 z.2.2) kvs l ∧ ∀ kv ∈ kvs, ∃ q ∈ qs, q.1 = kv.1 := by
        intro l
        induction l with
        | nil => intro _; exact ⟨[], .nil, fun _ h => by cases h⟩
        | cons z l ih =>
          intro hz
          obtain ⟨⟨y, hy⟩, hk', hq'⟩ := hz z (List.mem_cons_self ..)
          obtain ⟨kvs, h1, h2⟩ := ih fun t ht => hz t (List.mem_cons_of_mem _ ht)
          refine ⟨(z.1, y) :: kvs, .cons ⟨rfl, hk', hy⟩ h1, fun kv hkv => ?_⟩
          rcases List.mem_cons.mp hkv with e | e
          · rw [e]; exact hq'
          · exact h2 kv e
      obtain ⟨kvs, h1, h2⟩ := mk (storedAllH [] prs) fun z hz => ⟨vOf z hz, kOf z hz⟩
      exact ⟨kvs, Paired.mapP h1 fun p z h => ⟨h.1, by rw [upd_ne (ne_of_none h.2.1 hn)]; exact h.2.1, h.2.2⟩, h2⟩
    have hkl : kvs.length = (storedAllH [] prs).length := hkv.1.length
    obtain ⟨o', es, ep, h1, h2, h3, h4, _, h5⟩ := hd'
    exact ⟨.ref s.heap.objs.size, upd H s.heap.objs.size (.dT kvs), I.laid (t' := tk) (fun b o e => hk b o (by simp) e) (Nat.le_refl _)
      (show ObjOk X.prog X.w _ _ _ (.dT kvs) from ⟨by omega, hm, storedAllH [] prs, hkv.1, o', es, ep, h1, h2, h3, h4, h5⟩), rfl, q _ kvs hn (by omega) hkv.2 fun t ht => by
        obtain ⟨r, hr, e⟩ := paired_memL rel ht
        obtain ⟨z, hz, e2⟩ := storedAll_has prs [] r (.inr hr)
        obtain ⟨kv, hk, e3⟩ := paired_mem hkv.1 hz
        exact ⟨kv, hk, e3.1.trans (e2.trans e.1.symm)⟩⟩
/-- the same, told less -/
theorem call_dictT {X : Cx} {k : Nat} (hr : Room k X.A) (hcalm : X.calm = true) : CallR X (.type "dict") (fun xs H Q => ∃ (a : Addr) (ps : List Addr) (qs : List PT), xs = [.ref a] ∧ SqL X.K H a (ps.map V.ref) ∧ Paired (PairT X.K H) ps qs ∧
    ∀ (d : Addr) (kvs : List (List Key × V)), H d = none → kvs.length ≤ ps.length → (∀ kv ∈ kvs, ∃ q ∈ qs, q.1 = kv.1) → Q (.ref d) (upd H d (.dT kvs))) := by
  intro pins s σ H xs us Q I r q
  obtain ⟨a, ps, qs, e, hq, hp, q⟩ := q
  exact call_dictTE hr hcalm pins s σ H xs us Q I r ⟨a, ps, qs, e, hq, hp, fun d kvs h1 h2 h3 _ => q d kvs h1 h2 h3⟩
end Sw
namespace Sw
open PySem L2
/-- an arrow of whole numbers below n -/
def Arr (n : Int) (H : Hp) (x : V) : Prop := ∃ t a b, x = .ref t ∧ H t = some (.tup [.int a, .int b]) ∧ Inn n a ∧ Inn n b
def Arrs (n : Int) (H : Hp) (xs : List V) : Prop := ∀ x ∈ xs, Arr n H x
def KOk (n : Int) (k : List Key) : Prop := ∃ a b : Int, k = [.inl a, .inl b] ∧ Inn n a ∧ Inn n b
def PairH (H : Hp) (p : Addr) (q : PT) : Prop := H p = some (.tup [.ref q.2.1, q.2.2]) ∧ H q.2.1 = some (.tup (q.1.map kV))
theorem PairH.t {K : PySem.W.Frag} {H : Hp} {p : Addr} {q : PT} (h : PairH H p q) : PairT K H p q := ⟨SqT.of h.1, h.2⟩
theorem Arr.keep {n : Int} {H H' : Hp} {x : V} (h : Arr n H x) (s : TupS H H') : Arr n H' x := by
  obtain ⟨t, a, b, e, h, r⟩ := h
  exact ⟨t, a, b, e, s _ _ h, r⟩
theorem Arrs.keep {n : Int} {H H' : Hp} {xs : List V} (h : Arrs n H xs) (s : TupS H H') : Arrs n H' xs := fun x hx => (h x hx).keep s
theorem PairH.keep {H H' : Hp} {p : Addr} {q : PT} (h : PairH H p q) (s : TupS H H') : PairH H' p q := ⟨s _ _ h.1, s _ _ h.2⟩
theorem paired_mono {α β : Type} {F G : α → β → Prop} (h : ∀ a b, F a b → G a b) : ∀ {l : List α} {m : List β}, Paired F l m → Paired G l m
  | _, _, .nil => .nil
  | _, _, .cons x t => .cons (h _ _ x) (paired_mono h t)
theorem paired_app {α β : Type} {F : α → β → Prop} : ∀ {l l' : List α} {m m' : List β}, Paired F l m → Paired F l' m' → Paired F (l ++ l') (m ++ m')
  | _, _, _, _, .nil, h => h
  | _, _, _, _, .cons x t, h => .cons x (paired_app t h)
/-- the list of pairs that a block has made so far -/
def PV (D : Addr) (H1 : Hp) (n : Int) (i : Nat) (H : Hp) : Prop := ∃ ps qs, H D = some (.lst (ps.map V.ref)) ∧ Paired (PairH H) ps qs ∧ (∀ q ∈ qs, KOk n q.1) ∧ ps.length ≤ i ∧ H1 D = none ∧ Same H1 H
theorem PV.start {D : Addr} {H1 : Hp} {n : Int} (h : H1 D = none) : PV D H1 n 0 (L2.upd H1 D (.lst [])) :=
  ⟨[], [], upd_same, .nil, fun _ h => absurd h (by simp), Nat.le_refl _, h, same_new h⟩
theorem PV.add {D : Addr} {H1 : Hp} {n : Int} {i : Nat} {H H2 : Hp} {t k : Addr} {a b : Int} {v : V} (h : PV D H1 n i H) (s : Same H H2) (hi : i < 1000) (ht : H2 t = some (.tup [.ref k, v])) (hk : H2 k = some (.tup [.int a, .int b])) (ia : Inn n a) (ib : Inn n b) :
    ∃ acc, H2 D = some (.lst acc) ∧ acc.length < sizeLine ∧ PV D H1 n (i + 1) (L2.upd H2 D (.lst (acc ++ [.ref t]))) := by
  obtain ⟨ps, qs, h1, h2, h3, h4, h5, h6⟩ := h
  have hD := s _ _ h1
  have ts : TupS H2 (L2.upd H2 D (.lst (ps.map V.ref ++ [.ref t]))) := TupS.upd fun xs z => by
    rw [hD] at z
    cases z
  refine ⟨_, hD, ?_, ps ++ [t], qs ++ [([.inl a, .inl b], k, v)], ?_, (paired_mono (fun _ _ x => x.keep ((TupS.of s).trans ts)) h2).snoc (b := (([.inl a, .inl b] : List Key), k, v)) ⟨ts _ _ ht, ts k [.int a, .int b] hk⟩, fun q hq => ?_, ?_, h5, fun c o e => ?_⟩
  · rw [List.length_map, sizeLine_eq]
    omega
  · rw [upd_same, List.map_append]
    rfl
  · rcases List.mem_append.mp hq with z | z
    · exact h3 q z
    · rw [List.mem_singleton.mp z]
      exact ⟨a, b, rfl, ia, ib⟩
  · rw [List.length_append, List.length_singleton]
    omega
  · rw [upd_ne (ne_of_none e h5)]
    exact s _ _ (h6 _ _ e)
/-- the list of arrows that a block has made so far -/
def EV (q : Prop) (D : Addr) (H1 : Hp) (n : Int) (i : Nat) (H : Hp) : Prop := ∃ xs, H D = some (.lst xs) ∧ Arrs n H xs ∧ (xs.length ≤ i ∧ (q → xs.length = i)) ∧ H1 D = none ∧ Same H1 H
theorem EV.start {q : Prop} {D : Addr} {H1 : Hp} {n : Int} (h : H1 D = none) : EV q D H1 n 0 (L2.upd H1 D (.lst [])) :=
  ⟨[], upd_same, fun _ h => absurd h (by simp), ⟨Nat.le_refl _, fun _ => rfl⟩, h, same_new h⟩
theorem EV.skip {D : Addr} {H1 : Hp} {n : Int} {i : Nat} {H : Hp} (h : EV False D H1 n i H) : EV False D H1 n (i + 1) H := by
  obtain ⟨xs, h1, h2, h3, r⟩ := h
  exact ⟨xs, h1, h2, ⟨by omega, fun z => z.elim⟩, r⟩
theorem EV.add {q : Prop} {D : Addr} {H1 : Hp} {n : Int} {i : Nat} {H H2 : Hp} {t : Addr} {a b : Int} (h : EV q D H1 n i H) (s : Same H H2) (hi : i < 1000) (ht : H2 t = some (.tup [.int a, .int b])) (ia : Inn n a) (ib : Inn n b) :
    ∃ acc, H2 D = some (.lst acc) ∧ acc.length < sizeLine ∧ EV q D H1 n (i + 1) (L2.upd H2 D (.lst (acc ++ [.ref t]))) := by
  obtain ⟨xs, h1, h2, h4, h5, h6⟩ := h
  have hD := s _ _ h1
  have ts : TupS H2 (L2.upd H2 D (.lst (xs ++ [.ref t]))) := TupS.upd fun xs z => by
    rw [hD] at z
    cases z
  refine ⟨_, hD, ?_, xs ++ [.ref t], upd_same, fun q hq => ?_, ?_, h5, fun c o e => ?_⟩
  · rw [sizeLine_eq]
    omega
  · rcases List.mem_append.mp hq with z | z
    · exact (h2 q z).keep ((TupS.of s).trans ts)
    · rw [List.mem_singleton.mp z]
      exact ⟨t, a, b, rfl, ts _ _ ht, ia, ib⟩
  · rw [List.length_append, List.length_singleton]
    exact ⟨by omega, fun z => by rw [h4.2 z]⟩
  · rw [upd_ne (ne_of_none e h5)]
    exact s _ _ (h6 _ _ e)
/-- what the making of a net carries -/
def NJ (p d : Addr) (n : Int) (H0 : Hp) (m : Nat) (σ : L2.St) (H : Hp) : Prop :=
  ∃ (sort : Int) (o g e : Addr) (sv st : Option V) (os : List Int) (es : List V) (kvs : List (List Key × V)),
    σ = [some (.ref p), some (.int n), some (.int sort), some (.ref o), some (.ref g), some (.ref e), sv, st, none, none] ∧ Inn 8 sort ∧ Deck H p d 63 ∧ Kp p d H0 H ∧
    (H o = some (.lst (os.map V.int)) ∧ o ≠ d ∧ (os.length : Int) = n ∧ ∀ a ∈ os, Inn n a) ∧ (H g = some (.dT kvs) ∧ (∀ kv ∈ kvs, KOk n kv.1) ∧ kvs.length ≤ m ∧ H0 g = none) ∧
    (H e = some (.lst es) ∧ e ≠ d ∧ Arrs n H es ∧ es ≠ [] ∧ es.length ≤ 144)
theorem NJ.turn {p d : Addr} {n : Int} {H0 H : Hp} {m : Nat} {σ : L2.St} {x : Option V} (j : NJ p d n H0 m σ H) : NJ p d n H0 m (σ.set 7 x) H := by
  obtain ⟨sort, o, g, e, sv, st, os, es, kvs, rfl, r⟩ := j
  exact ⟨sort, o, g, e, sv, x, os, es, kvs, rfl, r⟩
theorem putK_keys {n : Int} {kvs : List (List Key × V)} {k : List Key} {v : V} (h : ∀ kv ∈ kvs, KOk n kv.1) (hk : KOk n k) : ∀ kv ∈ putK kvs k v, KOk n kv.1 := by
  intro kv hkv
  unfold putK at hkv
  split at hkv
  · obtain ⟨z, hz, e⟩ := List.mem_map.mp hkv
    have := h z hz
    split at e
    · rw [← e]; exact this
    · rw [← e]; exact this
  · rcases List.mem_append.mp hkv with z | z
    · exact h kv z
    · rw [List.mem_singleton.mp z]
      exact hk
theorem NJ.same {p d : Addr} {n : Int} {H0 H H' : Hp} {m : Nat} {σ : L2.St} (j : NJ p d n H0 m σ H) (s : Same H H') : NJ p d n H0 m σ H' := by
  obtain ⟨sort, o, g, e, sv, st, os, es, kvs, rfl, i1, D1, k1, ⟨h1, h2, h3, h4⟩, ⟨g1, g2, g3, g4⟩, e1, e2, e3, e4, e5⟩ := j
  exact ⟨sort, o, g, e, sv, st, os, es, kvs, rfl, i1, D1.same s, k1.trans (.of s), ⟨s _ _ h1, h2, h3, h4⟩, ⟨s _ _ g1, g2, g3, g4⟩, s _ _ e1, e2, e3.keep (.of s), e4, e5⟩
theorem NJ.put {p d g2 : Addr} {n : Int} {H0 H H' : Hp} {m m' : Nat} {σ : L2.St} {ks : List (List Key × V)} (j : NJ p d n H0 m σ H) (s : Same H H') (ng : H' g2 = none) (k1 : ∀ kv ∈ ks, KOk n kv.1) (k2 : ks.length ≤ m') : NJ p d n H0 m' (σ.set 4 (some (.ref g2))) (L2.upd H' g2 (.dT ks)) := by
  obtain ⟨sort, o, g, e, sv, st, os, es, kvs, rfl, i1, D1, k, ⟨h1, h2, h3, h4⟩, ⟨g1, _, g3⟩, e1, e2, e3, e4, e5⟩ := j
  have s2 : Same H (L2.upd H' g2 (.dT ks)) := s.trans (same_new ng)
  exact ⟨sort, o, g2, e, sv, st, os, es, ks, rfl, i1, D1.same s2, k.trans (.of s2), ⟨s2 _ _ h1, h2, h3, h4⟩, ⟨upd_same, k1, k2, (k.trans (.of s)).free (D1.same s) ng⟩, s2 _ _ e1, e2, e3.keep (.of s2), e4, e5⟩
theorem PV.dict {K : PySem.W.Frag} {p d D : Addr} {n : Int} {H0 H1 H : Hp} {i m m' : Nat} {σ : L2.St} (h : PV D H1 n i H) (j : NJ p d n H0 m σ H1) (hi : i ≤ m') {Q : VK} (k : ∀ g' H', NJ p d n H0 m' (σ.set 4 (some (.ref g'))) H' → Q (.ref g') H') :
    ∃ (a : Addr) (ps : List Addr) (qs : List PT), [V.ref D] = [.ref a] ∧ SqL K H a (ps.map V.ref) ∧ Paired (PairT K H) ps qs ∧
      ∀ (d : Addr) (kvs : List (List Key × V)), H d = none → kvs.length ≤ ps.length → (∀ kv ∈ kvs, ∃ q ∈ qs, q.1 = kv.1) → Q (.ref d) (L2.upd H d (.dT kvs)) := by
  obtain ⟨ps, qs, h1, h2, h3, h4, h5, h6⟩ := h
  refine ⟨D, ps, qs, rfl, SqL.of h1, paired_mono (fun _ _ x => x.t) h2, fun g' kvs ng l1 l2 => k g' _ (j.put h6 ng (fun kv hkv => ?_) (by omega))⟩
  obtain ⟨q, hq, e⟩ := l2 kv hkv
  rw [← e]
  exact h3 q hq
theorem PV.cat {D1 D2 : Addr} {n : Int} {H1 Ha Hb0 Hb : Hp} {i1 i2 : Nat} (a : PV D1 H1 n i1 Ha) (s : Same Ha Hb0) (b : PV D2 Hb0 n i2 Hb) (hi : i1 + i2 ≤ 1000) :
    ∃ xs zs, Hb D1 = some (.lst xs) ∧ Hb D2 = some (.lst zs) ∧ xs.length + zs.length ≤ sizeLine ∧ ∀ c, Hb c = none → PV c H1 n (i1 + i2) (L2.upd Hb c (.lst (xs ++ zs))) := by
  obtain ⟨ps, qs, h1, h2, h3, h4, h5, h6⟩ := a
  obtain ⟨ps2, qs2, l1, l2, l3, l4, l5, l6⟩ := b
  have sb := s.trans l6
  refine ⟨_, _, sb _ _ h1, l1, ?_, fun c nc => ?_⟩
  · rw [List.length_map, List.length_map, sizeLine_eq]
    omega
  · have sc : Same Hb (L2.upd Hb c (.lst (ps.map V.ref ++ ps2.map V.ref))) := same_new nc
    have nc1 : H1 c = none := (h6.trans sb).free nc
    refine ⟨ps ++ ps2, qs ++ qs2, ?_, paired_app (paired_mono (fun _ _ x => x.keep (.of (sb.trans sc))) h2) (paired_mono (fun _ _ x => x.keep (.of sc)) l2), fun q hq => (List.mem_append.mp hq).elim (h3 q) (l3 q), ?_, nc1, (h6.trans sb).trans sc⟩
    · rw [upd_same, List.map_append]
    · rw [List.length_append]
      omega
/-- whole numbers below n -/
def Ins (n : Int) (xs : List V) : Prop := ∀ x ∈ xs, ∃ a, x = .int a ∧ Inn n a
theorem Ins.of {n : Int} {os : List Int} (h : ∀ a ∈ os, Inn n a) : Ins n (os.map V.int) := fun x hx => by
  obtain ⟨a, ha, rfl⟩ := List.mem_map.mp hx
  exact ⟨a, rfl, h a ha⟩
theorem Ins.cut {n : Int} {xs : List V} (h : Ins n xs) (lo hi : Option Int) : Ins n (cutV xs lo hi) := fun x hx => h x (List.mem_of_mem_drop (List.mem_of_mem_take hx))
theorem Ins.app {n : Int} {xs ys : List V} (h : Ins n xs) (h' : Ins n ys) : Ins n (xs ++ ys) := fun x hx => (List.mem_append.mp hx).elim (h x) (h' x)
theorem Ins.at {n : Int} {xs : List V} {i : Nat} {x : V} (h : Ins n xs) (e : xs[i]? = some x) : ∃ a, x = .int a ∧ Inn n a := h x (List.mem_of_getElem? e)
end Sw
namespace Sw
open PySem L2
/-! ### nets as data -/
theorem arr_rep {K : PySem.W.Frag} {n : Int} {H : Hp} {x : V} (hn : n ≤ 12) (h : Arr n H x) : ∃ dd as, Rep K H dd x as ∧ (∀ c ∈ as, ∃ v w : Int, H c = some (.tup [.int v, .int w])) ∧ small dd ∧ wt dd ≤ 15 ∧ dep dd ≤ 1 := by
  obtain ⟨t, a, b, rfl, ht, ha, hb⟩ := h
  obtain ⟨a1, a2, a3, _⟩ := int_ok (K := K) (H := H) (i := a) (w := 3) (k := 0) (by have := ha.1; have := ha.2; omega) (by decide) (by decide)
  obtain ⟨b1, b2, b3, _⟩ := int_ok (K := K) (H := H) (i := b) (w := 3) (k := 0) (by have := hb.1; have := hb.2; omega) (by decide) (by decide)
  refine ⟨.tup [.int a, .int b], [t], ?_, fun c hc => ?_, ?_, ?_, by simp [dep, depAll]⟩
  · simp only [Rep, RepAll]
    exact ⟨t, _, [], rfl, ht, ⟨_, _, [], [], rfl, ⟨rfl, rfl⟩, ⟨_, _, [], [], rfl, ⟨rfl, rfl⟩, ⟨rfl, rfl⟩, rfl⟩, rfl⟩, by simp, rfl⟩
  · rw [List.mem_singleton.mp hc]
    exact ⟨a, b, ht⟩
  · simp only [small, smallAll]
    simp only [small] at a2 b2
    exact ⟨a2, b2, trivial⟩
  · simp only [wt, wtAll] at a3 b3 ⊢
    omega
theorem arrs_rep {K : PySem.W.Frag} {n : Int} {H : Hp} (hn : n ≤ 12) : ∀ {xs : List V}, Arrs n H xs → ∃ ds as, RepAll K H ds xs as ∧ (∀ c ∈ as, ∃ v w : Int, H c = some (.tup [.int v, .int w])) ∧ smallAll ds ∧ wtAll ds ≤ xs.length * 17 ∧ depAll ds ≤ 1
  | [], _ => ⟨[], [], by simp [RepAll], fun _ h => absurd h (by simp), by simp [smallAll], by simp [wtAll], by simp [depAll]⟩
  | x :: r, h => by
    obtain ⟨dd, as, h1, h2, h3, h4, h5⟩ := arr_rep (K := K) hn (h x (by simp))
    obtain ⟨ds, bs, l1, l2, l3, l4, l5⟩ := arrs_rep (K := K) (xs := r) hn fun y hy => h y (by simp [hy])
    refine ⟨dd :: ds, as ++ bs, ?_, fun c hc => (List.mem_append.mp hc).elim (h2 c) (l2 c), ?_, ?_, ?_⟩
    · simp only [RepAll]
      exact ⟨x, r, as, bs, rfl, h1, l1, rfl⟩
    · simp only [smallAll]
      exact ⟨h3, l3⟩
    · simp only [wtAll, List.length_cons]
      omega
    · simp only [depAll]
      omega
/-- a net as it stands at a, its arrows at b -/
structure NetAt (n : Int) (H : Hp) (a b : Addr) (ts : List V) : Prop where
  a : H a = some (.tup [.int n, .ref b])
  b : H b = some (.tup ts)
  arr : Arrs n H ts
  len : ts.length ≤ 200
  n1 : 1 ≤ n
  n2 : n ≤ 12
theorem NetAt.keep {n : Int} {H H' : Hp} {a b : Addr} {ts : List V} (N : NetAt n H a b ts) (s : TupS H H') : NetAt n H' a b ts := ⟨s _ _ N.a, s _ _ N.b, N.arr.keep s, N.len, N.n1, N.n2⟩
theorem NetAt.repB {K : PySem.W.Frag} {n : Int} {H : Hp} {a b : Addr} {ts : List V} (N : NetAt n H a b ts) : ∃ ds as, Rep K H (.tup ds) (.ref b) (b :: as) ∧ (∀ c ∈ as, ∃ v w : Int, H c = some (.tup [.int v, .int w])) ∧ small (.tup ds) ∧ wt (.tup ds) ≤ 3403 ∧ dep (.tup ds) ≤ 2 := by
  obtain ⟨ds, as, h1, h2, h3, h4, h5⟩ := arrs_rep (K := K) N.n2 N.arr
  refine ⟨ds, as, ?_, h2, by simp only [small]; exact h3, ?_, by simp only [dep]; omega⟩
  · simp only [Rep]
    refine ⟨b, ts, as, rfl, N.b, h1, fun z => ?_, rfl⟩
    obtain ⟨v, w, e⟩ := h2 b z
    rw [N.b] at e
    cases e
    obtain ⟨t, _, _, e, _⟩ := N.arr (.int v) (by simp)
    cases e
  · have := N.len
    simp only [wt]
    omega
theorem NetAt.rep {K : PySem.W.Frag} {n : Int} {H : Hp} {a b : Addr} {ts : List V} (N : NetAt n H a b ts) : ∃ dd as, Rep K H dd (.ref a) as ∧ (∀ c ∈ as, ∃ zs, H c = some (.tup zs)) ∧ small dd ∧ wt dd ≤ 3500 ∧ dep dd ≤ 3 := by
  obtain ⟨ds, as, h1, h2, h3, h4, h5⟩ := N.repB (K := K)
  obtain ⟨i1, i2, i3, _⟩ := int_ok (K := K) (H := H) (i := n) (w := 3) (k := 0) (by have := N.n1; have := N.n2; omega) (by decide) (by decide)
  refine ⟨.tup [.int n, .tup ds], a :: b :: as, ?_, fun c hc => ?_, ?_, ?_, by simp only [dep, depAll] at h5 ⊢; omega⟩
  · rw [Rep]
    refine ⟨a, _, b :: as, rfl, N.a, ?_, fun z => ?_, rfl⟩
    · rw [RepAll]
      refine ⟨_, _, [], b :: as, rfl, i1, ?_, rfl⟩
      rw [RepAll]
      refine ⟨_, _, b :: as, [], rfl, h1, by simp [RepAll], by simp⟩
    · rcases List.mem_cons.mp z with z | z
      · have e := N.b
        rw [← z, N.a] at e
        cases e
        obtain ⟨t, _, _, e, _⟩ := N.arr (.int n) (by simp)
        cases e
      · obtain ⟨v, w, e⟩ := h2 a z
        rw [N.a] at e
        cases e
  · rcases List.mem_cons.mp hc with z | z
    · rw [z]; exact ⟨_, N.a⟩
    · rcases List.mem_cons.mp z with z | z
      · rw [z]; exact ⟨_, N.b⟩
      · obtain ⟨v, w, e⟩ := h2 c z
        exact ⟨_, e⟩
  · simp only [small, smallAll] at h3 i2 ⊢
    exact ⟨i2, h3, trivial⟩
  · simp only [wt, wtAll] at h4 i3 ⊢
    omega
theorem NetAt.datA {K : PySem.W.Frag} {n : Int} {H : Hp} {p d a b : Addr} {U : Addr → Prop} {ts : List V} (N : NetAt n H a b ts) (D : Dk H p d U) : Dat K U 3500 3 H (.ref a) := by
  obtain ⟨dd, as, h1, h2, h3, h4, h5⟩ := N.rep (K := K)
  refine ⟨dd, as, h1, fun c hc => ?_, h3, h4, h5⟩
  obtain ⟨zs, e⟩ := h2 c hc
  exact D.tup _ _ e
theorem NetAt.datB {K : PySem.W.Frag} {n : Int} {H : Hp} {p d a b : Addr} {U : Addr → Prop} {ts : List V} (N : NetAt n H a b ts) (D : Dk H p d U) : Dat K U 3500 3 H (.ref b) := by
  obtain ⟨ds, as, h1, h2, h3, h4, h5⟩ := N.repB (K := K)
  refine ⟨.tup ds, b :: as, h1, fun c hc => ?_, h3, by omega, by omega⟩
  rcases List.mem_cons.mp hc with z | z
  · rw [z]
    exact D.tup _ _ N.b
  · obtain ⟨v, w, e⟩ := h2 c z
    exact D.tup _ _ e
theorem Arr.dat {K : PySem.W.Frag} {p d : Addr} {U : Addr → Prop} {n : Int} {H : Hp} {x : V} (D : Dk H p d U) (hn : n ≤ 12) (h : Arr n H x) : Dat K U 300 10 H x := by
  obtain ⟨dd, as, h1, h2, h3, h4, h5⟩ := arr_rep (K := K) hn h
  refine ⟨dd, as, h1, fun c hc => ?_, h3, by omega, by omega⟩
  obtain ⟨v, w, e⟩ := h2 c hc
  exact D.tup _ _ e
end Sw
namespace Sw
open PySem L2
/-! ### what a heap's dict is known to be: no key twice -/
def NdT (H : Hp) : Prop := ∀ a kvs, H a = some (.dT kvs) → (kvs.map Prod.fst).Nodup
theorem paired_fst {α β γ : Type} {F : α → β → Prop} {f : α → γ} {g : β → γ} (h : ∀ a b, F a b → f a = g b) : ∀ {l : List α} {m : List β}, Paired F l m → l.map f = m.map g
  | _, _, .nil => rfl
  | _, _, .cons x t => by rw [List.map_cons, List.map_cons, h _ _ x, paired_fst h t]
theorem nd_inv {X : Cx} {pins : List (Addr × Obj)} {σ : L2.St} {H : Hp} {s : Shared} (I : Inv X pins σ H s) : NdT H := fun a kvs e => by
  obtain ⟨_, _, xs, pr, o, es, ep, _, _, _, _, nd⟩ := (show ObjOk X.prog X.w H s.heap a (.dT kvs) from I.hok a _ e)
  rw [paired_fst (f := Prod.fst) (g := fun z : List Key × Addr × Value => z.1) (fun a b h => h.1) pr]
  exact nd
theorem ps_fact {X : Cx} {st : Stmt} {t : TS} (h : PS X st t) : PS X st (fun D σ H => NdT H → t D σ H) := ⟨fun pins s σ H D I q => h.run pins s σ H D I (q (nd_inv I))⟩
/-- a key as a pair, if its things are two unlike ones -/
def kPair (kv : List Key × V) : Option (Int × Int) := match kv.1 with
  | [.inl a, .inl b] => if a = b then none else some (a, b)
  | _ => none
def kPairs (kvs : List (List Key × V)) : List (Int × Int) := kvs.filterMap kPair
theorem kPair_inj {x y : List Key × V} {e : Int × Int} (h1 : kPair x = some e) (h2 : kPair y = some e) : x.1 = y.1 := by
  have sol : ∀ z : List Key × V, kPair z = some e → z.1 = [.inl e.1, .inl e.2] := fun z hz => by
    unfold kPair at hz
    split at hz
    · rename_i a b q
      split at hz
      · cases hz
      · cases hz
        exact q
    · cases hz
  rw [sol x h1, sol y h2]
theorem kPairs_nd {kvs : List (List Key × V)} (h : (kvs.map Prod.fst).Nodup) : (kPairs kvs).Nodup := by
  unfold kPairs
  refine List.pairwise_filterMap.mpr ?_
  refine (List.pairwise_map.mp h).imp ?_
  intro x y ne a ha b hb z
  subst z
  exact ne (kPair_inj ha hb)
theorem kPairs_ne {kvs : List (List Key × V)} : ∀ e ∈ kPairs kvs, e.1 ≠ e.2 := fun e he => by
  obtain ⟨x, _, hx⟩ := List.mem_filterMap.mp he
  unfold kPair at hx
  split at hx
  · split at hx
    · cases hx
    · rename_i q
      cases hx
      exact q
  · cases hx
/-- pairs below n, each once, are n * n at most -/
theorem pigeon : ∀ (m : Nat) (l : List Nat), l.Nodup → (∀ x ∈ l, x < m) → l.length ≤ m
  | 0, l, _, h => by
    cases l with
    | nil => exact Nat.le_refl _
    | cons a r => exact absurd (h a (by simp)) (Nat.not_lt_zero _)
  | m + 1, l, nd, h => by
    have h1 := pigeon m (l.erase m) (nd.erase m) fun x hx => by
      have h2 := h x (List.mem_of_mem_erase hx)
      have : x ≠ m := fun z => by
        rw [z] at hx
        exact (List.Nodup.not_mem_erase nd) hx
      omega
    have h3 := List.length_erase_of_mem (a := m) (l := l)
    by_cases hm : m ∈ l
    · have := h3 hm
      omega
    · rw [List.erase_of_not_mem hm] at h1
      omega
theorem pairs_le {n : Int} {ars : List (Int × Int)} (nd : ars.Nodup) (h : ∀ e ∈ ars, Inn n e.1 ∧ Inn n e.2) : ars.length ≤ n.toNat * n.toNat := by
  have inj : (ars.map fun e => e.1.toNat * n.toNat + e.2.toNat).Nodup := by
    refine List.pairwise_map.mpr (List.Pairwise.imp_of_mem ?_ nd)
    intro a b ha hb ne z
    obtain ⟨a1, a2⟩ := h a ha
    obtain ⟨b1, b2⟩ := h b hb
    have a2' : a.2.toNat < n.toNat := by have := a2.1; have := a2.2; omega
    have b2' : b.2.toNat < n.toNat := by have := b2.1; have := b2.2; omega
    have np : 0 < n.toNat := by omega
    have q1 : (a.1.toNat * n.toNat + a.2.toNat) / n.toNat = a.1.toNat := by
      rw [Nat.mul_comm, Nat.mul_add_div np, Nat.div_eq_of_lt a2', Nat.add_zero]
    have q2 : (b.1.toNat * n.toNat + b.2.toNat) / n.toNat = b.1.toNat := by
      rw [Nat.mul_comm, Nat.mul_add_div np, Nat.div_eq_of_lt b2', Nat.add_zero]
    have e1 : a.1.toNat = b.1.toNat := by rw [← q1, ← q2, z]
    rw [e1] at z
    have e2 : a.2.toNat = b.2.toNat := by omega
    refine ne (Prod.ext ?_ ?_)
    · have := a1.1; have := b1.1; omega
    · have := a2.1; have := b2.1; omega
  have := pigeon (n.toNat * n.toNat) _ inj fun x hx => by
    obtain ⟨e, he, rfl⟩ := List.mem_map.mp hx
    obtain ⟨a1, a2⟩ := h e he
    have l1 : e.1.toNat < n.toNat := by have := a1.1; have := a1.2; omega
    have l2 : e.2.toNat < n.toNat := by have := a2.1; have := a2.2; omega
    calc e.1.toNat * n.toNat + e.2.toNat < e.1.toNat * n.toNat + n.toNat := by omega
      _ = (e.1.toNat + 1) * n.toNat := by rw [Nat.add_mul, Nat.one_mul]
      _ ≤ n.toNat * n.toNat := Nat.mul_le_mul_right _ l1
  rwa [List.length_map] at this
/-- ascending pairs -/
def lt2 (e f : Int × Int) : Prop := e.1 < f.1 ∨ (e.1 = f.1 ∧ e.2 < f.2)
theorem asc_of {l : List (Int × Int)} (nd : l.Nodup) (h : l.Pairwise fun x y => SrtO.lexB y x = false) : l.Pairwise lt2 := by
  refine (List.Pairwise.and nd h).imp ?_
  rintro a b ⟨ne, hb⟩
  have hb := SrtO.lexB_no.mp hb
  unfold lt2
  by_cases q : a.1 = b.1
  · refine .inr ⟨q, ?_⟩
    have : a.2 ≠ b.2 := fun z => ne (Prod.ext q z)
    omega
  · exact .inl (by omega)
end Sw
namespace Sw
open PySem L2
abbrev sNet : Stmt := top 23
abbrev nNet : List Str := ["deck", "n", "sort", "order", "found", "every", "v", "turn", "w", "pair"]
theorem scNet : FnScope nNet ["deck", "n"] (defScope sNet) := ⟨rfl, rfl, rfl, by decide +kernel, rfl, by decide +kernel, by decide +kernel⟩
theorem putK_le (c : List (List Key × V)) (k : List Key) (x : V) : (putK c k x).length ≤ c.length + 1 := by
  unfold putK
  split
  · rw [List.length_map]
    omega
  · rw [List.length_append, List.length_singleton]
    omega
/-- the two ends of an arrow of the heap -/
def endsOf (H : Hp) (x : V) : Int × Int := match x with
  | .ref t => (match H t with
    | some (.tup [.int a, .int b]) => (a, b)
    | _ => (0, 0))
  | _ => (0, 0)
theorem endsOf_arr {n : Int} {H : Hp} {x : V} (h : Arr n H x) : ∃ t, x = .ref t ∧ H t = some (.tup [.int (endsOf H x).1, .int (endsOf H x).2]) := by
  obtain ⟨t, a, b, rfl, ht, _⟩ := h
  refine ⟨t, rfl, ?_⟩
  simp only [endsOf, ht]
/-- the list of arrows that a block has made so far of the keys of a dict -/
def EVK (D : Addr) (H1 : Hp) (n : Int) (kvs : List (List Key × V)) (i : Nat) (H : Hp) : Prop := ∃ xs, H D = some (.lst xs) ∧ Arrs n H xs ∧ xs.length ≤ i ∧ H1 D = none ∧ Same H1 H ∧ xs.map (endsOf H) = kPairs (kvs.take i)
theorem EVK.start {D : Addr} {H1 : Hp} {n : Int} {kvs : List (List Key × V)} (h : H1 D = none) : EVK D H1 n kvs 0 (L2.upd H1 D (.lst [])) :=
  ⟨[], upd_same, fun _ h => absurd h (by simp), Nat.le_refl _, h, same_new h, rfl⟩
theorem endsOf_keep {n : Int} {H H' : Hp} {x : V} (h : Arr n H x) (s : TupS H H') : endsOf H' x = endsOf H x := by
  obtain ⟨t, a, b, rfl, ht, _⟩ := h
  simp only [endsOf, ht, s _ _ ht]
theorem kPairs_succ {kvs : List (List Key × V)} {i : Nat} {k : List Key} {v : V} (h : kvs[i]? = some (k, v)) : kPairs (kvs.take (i + 1)) = kPairs (kvs.take i) ++ (kPair (k, v)).toList := by
  unfold kPairs
  rw [List.take_add_one, h, List.filterMap_append]
  cases q : kPair (k, v) <;> simp [q]
theorem EVK.skip {D : Addr} {H1 : Hp} {n : Int} {i : Nat} {H H' : Hp} {kvs : List (List Key × V)} {a b : Int} {v : V} (h : EVK D H1 n kvs i H) (s : Same H H') (hk : kvs[i]? = some ([.inl a, .inl b], v)) (q : a = b) : EVK D H1 n kvs (i + 1) H' := by
  obtain ⟨xs, h1, h2, h3, h4, h5, h6⟩ := h
  refine ⟨xs, s _ _ h1, h2.keep (.of s), by omega, h4, h5.trans s, ?_⟩
  rw [kPairs_succ hk, ← h6]
  simp only [kPair, if_pos q, Option.toList, List.append_nil]
  exact List.map_congr_left fun x hx => endsOf_keep (h2 x hx) (.of s)
theorem EVK.add {D : Addr} {H1 : Hp} {n : Int} {i : Nat} {H H2 : Hp} {t : Addr} {a b : Int} {v : V} {kvs : List (List Key × V)} (h : EVK D H1 n kvs i H) (s : Same H H2) (hi : i < 1000) (ht : H2 t = some (.tup [.int a, .int b])) (ia : Inn n a) (ib : Inn n b) (hk : kvs[i]? = some ([.inl a, .inl b], v)) (q : a ≠ b) :
    ∃ acc, H2 D = some (.lst acc) ∧ acc.length < sizeLine ∧ EVK D H1 n kvs (i + 1) (L2.upd H2 D (.lst (acc ++ [.ref t]))) := by
  obtain ⟨xs, h1, h2, h4, h5, h6, h7⟩ := h
  have hD := s _ _ h1
  have ts : TupS H2 (L2.upd H2 D (.lst (xs ++ [.ref t]))) := TupS.upd fun xs z => by
    rw [hD] at z
    cases z
  refine ⟨_, hD, ?_, xs ++ [.ref t], upd_same, fun q hq => ?_, ?_, h5, fun c o e => ?_, ?_⟩
  · rw [sizeLine_eq]
    omega
  · rcases List.mem_append.mp hq with z | z
    · exact (h2 q z).keep ((TupS.of s).trans ts)
    · rw [List.mem_singleton.mp z]
      exact ⟨t, a, b, rfl, ts _ _ ht, ia, ib⟩
  · rw [List.length_append, List.length_singleton]
    omega
  · rw [upd_ne (ne_of_none e h5)]
    exact s _ _ (h6 _ _ e)
  · rw [List.map_append, kPairs_succ hk, ← h7]
    have e1 : xs.map (endsOf (L2.upd H2 D (.lst (xs ++ [.ref t])))) = xs.map (endsOf H) := List.map_congr_left fun x hx => endsOf_keep (h2 x hx) ((TupS.of s).trans ts)
    rw [e1]
    congr 1
    have e2 := ts _ _ ht
    simp only [List.map_cons, List.map_nil, endsOf, e2, kPair, if_neg q, Option.toList]
theorem kV_ne {a b : Int} (z : ¬ a = b) : (!decide (kV (Sum.inl a) = kV (Sum.inl b))) = true := by
  show (!decide (V.int a = V.int b)) = true
  rw [decide_eq_false fun e => z (V.int.inj e)]
  rfl
theorem kV_eq {a b : Int} (y : (!decide (kV (Sum.inl a) = kV (Sum.inl b))) = true) : a ≠ b := fun z => by
  rw [z, decide_eq_true rfl] at y
  cases y
theorem arr_two (n : Int) (H : Hp) : Arrs n H [] := fun _ h => absurd h (by simp)
section
variable {P : Program} {w : World} {K : PySem.W.Frag} {mg : Str → Option Value} {base : Heap}
def spNet : Sp := fun vs H Q _ => ∃ (p d : Addr) (n : Int), vs = [.ref p, .int n] ∧ Deck H p d 63 ∧ 1 ≤ n ∧ n ≤ 12 ∧ ∀ (a b : Addr) (xs : List V) (H' : Hp), Deck H' p d 63 → Kp p d H H' → H' a = some (.tup [.int n, .ref b]) → H' b = some (.tup xs) → Arrs n H' xs → xs.length ≤ 200 → Q (.ref a) H'
/-- the same, told whole: the arrows ascend, none doubled, none from a stop to itself -/
def spNetS : Sp := fun vs H Q _ => ∃ (p d : Addr) (n : Int), vs = [.ref p, .int n] ∧ Deck H p d 63 ∧ 1 ≤ n ∧ n ≤ 12 ∧ ∀ (a b : Addr) (xs : List V) (H' : Hp), Deck H' p d 63 → Kp p d H H' → H' a = some (.tup [.int n, .ref b]) → H' b = some (.tup xs) → Arrs n H' xs → xs.length ≤ 200 → (xs.map (endsOf H')).Pairwise lt2 → (∀ x ∈ xs, (endsOf H' x).1 ≠ (endsOf H' x).2) → Q (.ref a) H'
theorem ok_netS {f : Addr} {fd : FuncData} (F : Fun K "_law_net" "_law_net" sNet f fd) (B : NoNames mg) (O : Own P w K mg base 1 "_law_draw" ["deck", "many"] spDraw)
    (OP : Own P w K mg base 2 "_law_pick" ["deck", "items"] spPick) (OM : Own P w K mg base 2 "_law_mixed" ["deck", "items"] spMixed) : FnOk P w K mg base CX0 3 f fd ["deck", "n"] spNetS := by
  obtain ⟨fD, fdD, GD, mD, kD, bD⟩ := O.ex
  obtain ⟨fP, fdP, GP, mP, kP, bP⟩ := OP.ex
  obtain ⟨fM, fdM, GM, mM, kM, bM⟩ := OM.ex
  refine F.ok scNet (fun vs H Q E h => ?_) (fun cdv A outer s H vs Q E hr h => ?_)
  · obtain ⟨p, d, n, rfl, _⟩ := h
    rfl
  · obtain ⟨p, d, n, rfl, D, n1, n2, k⟩ := h
    have hu := hu_of hr
    have hr1 : Room 1 _ := hr.mono (by decide)
    refine ⟨_, pss_cons (ps_asg (pe_tup (pa_cons (pe_call GD hr1 rfl mD kD bD .nil pass0 (pa_cons (pv 0) (pa_cons pe_int pa_nil)))
          (pa_cons (pe_call GM hr rfl mM kM bM .nil pass0 (pa_cons (pv 0) (pa_cons (pe_listRg rfl (by rfl) B.list (prg_1 (by rfl) B.range (pv 1))) pa_nil)))
          (pa_cons pe_dnewT pa_nil)))) (pg_tup (by rfl) (pgs_cons (pg_name (i := 2) scNet.nd rfl (.inl rfl)) (pgs_cons (pg_name (i := 3) scNet.nd rfl (.inr rfl)) (pgs_cons (pg_name (i := 4) scNet.nd rfl (.inl rfl)) pgs_nil))))) <|
      pss_cons (ps_set (i := 5) scNet.nd rfl (.inl rfl) (pe_lst pa_nil)) <|
      pss_cons (ps_for PassesOwn.never rfl (pi_range1 (by rfl) B.range (pa_cons (pv 1) pa_nil)) (pg_name (i := 6) scNet.nd rfl (.inr rfl))
        (pss_one (ps_set (i := 5) scNet.nd rfl (.inl rfl) (pe_op op_cat (pv 5) (pe_lc (own := [("w", 8)]) (g := gName 8) (tt := tYes) rfl scNet.nd (pi_range1 (by rfl) B.range (pa_cons (pv 1) pa_nil)) (blkOk_by (own := [("w", 8)]) (N := nNet) (sc := defScope sNet) (by decide +kernel))
          (fun _ _ _ _ _ => pg_name (i := 8) scNet.nd rfl (Or.inl rfl)) (fun _ _ _ _ _ => pts_nil) (fun _ _ _ _ _ => pe_tup (pa_cons (pv 6) (pa_cons (pv 8) pa_nil)))))))) <|
      pss_cons (ps_cut (J := NJ p d n H 144) (J' := NJ p d n H 144) (ps_if (pt_cmpR op_in_seq (pv 2) (pe_tup (pa_cons pe_int (pa_cons pe_int pa_nil))) (by with_unfolding_all rfl))
        (pss_one (ps_set (i := 4) scNet.nd rfl (.inl rfl) (pe_callTy (call_dictT hr rfl) (by rfl) B.dict (by decide +kernel) (pa_cons
          (pe_lc (own := [("v", 6), ("w", 8)]) (g := gTup K 2 (gCons (gName 6) (gCons (gName 8) gNil))) (tt := tYes) rfl scNet.nd (pi_zip (by rfl) B.zip (pa_cons (pv 3) (pa_cons (pe_op op_cat (pe_slice sl_list (pv 3) (po_some pe_int) po_none) (pe_slice sl_list (pv 3) po_none (po_some pe_int))) pa_nil)))
            (blkOk_by (own := [("v", 6), ("w", 8)]) (N := nNet) (sc := defScope sNet) (by decide +kernel))
            (fun _ _ _ _ _ => pg_tup rfl (pgs_cons (pg_name (i := 6) scNet.nd rfl (Or.inl rfl)) (pgs_cons (pg_name (i := 8) scNet.nd rfl (Or.inl rfl)) pgs_nil))) (fun _ _ _ _ _ => pts_nil)
            (fun _ _ _ _ _ => pe_tup (pa_cons (pe_tup (pa_cons (pv 6) (pa_cons (pv 8) pa_nil))) (pa_cons pe_bl pa_nil)))) pa_nil)))) pss_nil) ?s4) <|
      pss_cons (ps_cut (J := NJ p d n H 144) (J' := NJ p d n H 144) (ps_if (pt_cmpR op_eq (pv 2) pe_int (nomark _))
        (pss_one (ps_set (i := 4) scNet.nd rfl (.inl rfl) (pe_callTy (call_dictT hr rfl) (by rfl) B.dict (by decide +kernel) (pa_cons
          (pe_lc (own := [("pair", 9)]) (tt := tYes) rfl scNet.nd (pi_list (pv 5)) (blkOk_by (own := [("pair", 9)]) (N := nNet) (sc := defScope sNet) (by decide +kernel))
            (fun _ _ _ _ _ => pg_name (i := 9) scNet.nd rfl (Or.inl rfl)) (fun _ _ _ _ _ => pts_nil)
            (fun _ _ _ _ _ => pe_tup (pa_cons (pv 9) (pa_cons pe_bl pa_nil)))) pa_nil)))) pss_nil) ?s5) <|
      pss_cons (ps_cut (J := NJ p d n H 144) (J' := NJ p d n H 144) (ps_if (pt_cmpR op_eq (pv 2) pe_int (nomark _))
        (pss_one (ps_set (i := 4) scNet.nd rfl (.inl rfl) (pe_callTy (call_dictT hr rfl) (by rfl) B.dict (by decide +kernel) (pa_cons
          (pe_op op_cat (pe_lc (own := [("w", 8)]) (tt := tYes) rfl scNet.nd (pi_list (pe_slice sl_list (pv 3) (po_some pe_int) po_none)) (blkOk_by (own := [("w", 8)]) (N := nNet) (sc := defScope sNet) (by decide +kernel))
            (fun _ _ _ _ _ => pg_name (i := 8) scNet.nd rfl (Or.inl rfl)) (fun _ _ _ _ _ => pts_nil)
            (fun _ _ _ _ _ => pe_tup (pa_cons (pe_tup (pa_cons (pe_ix (r := rIxL K) ix_list (pv 3) pe_int (fun _ _ => rfl)) (pa_cons (pv 8) pa_nil))) (pa_cons pe_bl pa_nil))))
           (pe_lc (own := [("w", 8)]) (tt := tYes) rfl scNet.nd (pi_list (pe_slice sl_list (pv 3) (po_some pe_int) po_none)) (blkOk_by (own := [("w", 8)]) (N := nNet) (sc := defScope sNet) (by decide +kernel))
            (fun _ _ _ _ _ => pg_name (i := 8) scNet.nd rfl (Or.inl rfl)) (fun _ _ _ _ _ => pts_nil)
            (fun _ _ _ _ _ => pe_tup (pa_cons (pe_tup (pa_cons (pv 8) (pa_cons (pe_ix (r := rIxL K) ix_list (pv 3) pe_int (fun _ _ => rfl)) pa_nil))) (pa_cons pe_bl pa_nil))))) pa_nil)))) pss_nil) ?s6) <|
      pss_cons (ps_cut (J := NJ p d n H 144) (J' := NJ p d n H 144) (ps_if (pt_cmpR op_eq (pv 2) pe_int (nomark _))
        (pss_one (ps_set (i := 4) scNet.nd rfl (.inl rfl) (pe_callTy (call_dictT hr rfl) (by rfl) B.dict (by decide +kernel) (pa_cons
          (pe_lc (own := [("v", 6), ("w", 8)]) (g := gTup K 2 (gCons (gName 6) (gCons (gName 8) gNil))) (tt := tYes) rfl scNet.nd (pi_zip (by rfl) B.zip (pa_cons (pv 3) (pa_cons (pe_slice sl_list (pv 3) (po_some pe_int) po_none) pa_nil)))
            (blkOk_by (own := [("v", 6), ("w", 8)]) (N := nNet) (sc := defScope sNet) (by decide +kernel))
            (fun _ _ _ _ _ => pg_tup rfl (pgs_cons (pg_name (i := 6) scNet.nd rfl (Or.inl rfl)) (pgs_cons (pg_name (i := 8) scNet.nd rfl (Or.inl rfl)) pgs_nil))) (fun _ _ _ _ _ => pts_nil)
            (fun _ _ _ _ _ => pe_tup (pa_cons (pe_tup (pa_cons (pv 6) (pa_cons (pv 8) pa_nil))) (pa_cons pe_bl pa_nil)))) pa_nil)))) pss_nil) ?s7) <|
      pss_cons (ps_cut (J := NJ p d n H 144) (J' := NJ p d n H 180) (ps_if (pt_cmpR op_in_seq (pv 2) (pe_tup (pa_cons pe_int (pa_cons pe_int (pa_cons pe_int pa_nil)))) (by with_unfolding_all rfl))
        (pss_one (ps_for PassesOwn.never rfl (pi_range1 (by rfl) B.range (pa_cons (pe_ix ix_list (pe_lst (pa_cons pe_int (pa_cons pe_int (pa_cons pe_int (pa_cons pe_int (pa_cons pe_int (pa_cons pe_int (pa_cons (pv 1) (pa_cons (pe_op op_mul pe_int (pv 1)) pa_nil))))))))) (pv 2) (fun _ _ => rfl)) pa_nil)) (pg_name (i := 7) scNet.nd rfl (.inl rfl))
          (pss_one (ps_dput hu (pv 4) (pe_call GP hr rfl mP kP bP .nil pass0 (pa_cons (pv 0) (pa_cons (pv 5) pa_nil))) pe_bl rfl)))) pss_nil) ?s8) <|
      pss_one (ps_fact (ps_ret (pe_tup (pa_cons (pv 1) (pa_cons (pe_callTy call_tuple_of (by rfl) B.tuple (by decide +kernel) (pa_cons (pe_callB cr_sortedPO (by rfl) B.sorted (by decide +kernel) (pa_cons
        (pe_lock (pe_lc (own := [("v", 6), ("w", 8)]) (g := gTup K 2 (gCons (gName 6) (gCons (gName 8) gNil))) rfl scNet.nd (pi_keys (pv 4)) (blkOk_by (own := [("v", 6), ("w", 8)]) (N := nNet) (sc := defScope sNet) (by decide +kernel))
          (fun _ _ _ _ _ => pg_tup rfl (pgs_cons (pg_name (i := 6) scNet.nd rfl (Or.inl rfl)) (pgs_cons (pg_name (i := 8) scNet.nd rfl (Or.inl rfl)) pgs_nil)))
          (fun _ _ _ _ _ => pts_one (pt_cmpR op_ne (pv 6) (pv 8) (nomark _))) (fun _ _ _ _ _ => pe_tup (pa_cons (pv 6) (pa_cons (pv 8) pa_nil))))) pa_nil)) pa_nil)) pa_nil))))), ?main⟩
    case s4 =>
      rintro DD σ1 H1 j1 kk
      obtain ⟨sort, o, g, e, sv, st, os, es, kvs, rfl, i1, D1, k1, ⟨h1, h2, h3, h4⟩, ⟨g1, g2, g3, g4⟩, e1, e2, e3, e4, e5⟩ := id j1
      refine ⟨_, rfl, by show 2 ≤ sizeLine; decide, fun T nT => ⟨T, _, rfl, .inr (SqT.of upd_same), rfl, rfl, _, rfl, ?_⟩⟩
      have s2 : Same H1 (L2.upd H1 T (.tup [.int 1, .int 2])) := same_new nT
      have j2 := j1.same s2
      refine ite2 (fun _ => ?_) (fun _ => kk _ _ j2)
      have o1 := Ins.of h4
      have ol : (os.map V.int).length ≤ 12 := by
        rw [List.length_map]
        omega
      refine ⟨_, rfl, _, rfl, 1, rfl, o, _, rfl, SqL.of (s2 _ _ h1), fun c1 n1 => ?_⟩
      have t1 : Same (L2.upd H1 T (.tup [.int 1, .int 2])) _ := same_new (o := .lst (cutV (os.map V.int) (some 1) none)) n1
      refine ⟨_, rfl, 1, rfl, o, _, rfl, SqL.of ((s2.trans t1) _ _ h1), fun c2 n2 => ?_⟩
      have t2 := t1.trans (same_new (o := .lst (cutV (os.map V.int) none (some 1))) n2)
      have y1 : (cutV (os.map V.int) (some 1) none).length ≤ (os.map V.int).length := cutV_length _ _ _
      have y2 : (cutV (os.map V.int) none (some 1)).length ≤ (os.map V.int).length := cutV_length _ _ _
      refine ⟨c1, c2, _, _, rfl, rfl, (same_new n2) _ _ upd_same, upd_same, by rw [sizeLine_eq]; omega, fun c3 n3 => ?_⟩
      have oy := (o1.cut (some 1) none).app (o1.cut none (some 1))
      have t3 := t2.trans (same_new (o := .lst (cutV (os.map V.int) (some 1) none ++ cutV (os.map V.int) none (some 1))) n3)
      refine ⟨o, c3, _, _, rfl, SqL.of ((s2.trans t3) _ _ h1), SqL.of upd_same, fun L nL => ?_⟩
      refine lc_it (walk_zip (xs := os.map V.int) (ys := cutV (os.map V.int) (some 1) none ++ cutV (os.map V.int) none (some 1)) rfl) (PV L _ n) (PV.start nL) (fun i Ha hi pv => ?_) ?_ ?_
      · obtain ⟨_, _, _, _, _, _, _, sm⟩ := pv
        exact ⟨SqL.of (sm _ _ ((s2.trans t3) _ _ h1)), SqL.of (sm _ _ upd_same)⟩
      · intro i x Ha Hb hi pv y
        obtain ⟨T2, x1, y1, rfl, nT2, rfl, ex, ey⟩ := y
        obtain ⟨a, rfl, ia⟩ := o1.at ex
        obtain ⟨b, rfl, ib⟩ := oy.at ey
        refine ⟨T2, _, rfl, SqT.of upd_same, rfl, _, _, rfl, _, _, rfl, rfl, ?_⟩
        refine ⟨rfl, ?_⟩
        refine ⟨_, rfl, _, rfl, by show 2 ≤ sizeLine; decide, fun K1 nK => ⟨by show 2 ≤ sizeLine; decide, fun T3 nT3 => ?_⟩⟩
        exact pv.add ((same_new nT2).trans ((same_new nK).trans (same_new nT3))) (by have := Nat.min_le_left (os.map V.int).length (cutV (os.map V.int) (some 1) none ++ cutV (os.map V.int) none (some 1)).length; omega) upd_same ((same_new nT3) _ _ upd_same) ia ib
      · intro Ha pv
        refine PV.dict (K := K) (m' := 144) (Q := fun x H1 => gName 4 x _ H1 DD.nx) pv (j2.same t3) (by have := Nat.min_le_left (os.map V.int).length (cutV (os.map V.int) (some 1) none ++ cutV (os.map V.int) none (some 1)).length; omega) ?_
        intro g' H' j
        exact kk _ _ j
    case s5 =>
      rintro DD σ1 H1 j1 kk
      obtain ⟨sort, o, g, e, sv, st, os, es, kvs, rfl, i1, D1, k1, ⟨h1, h2, h3, h4⟩, ⟨g1, g2, g3, g4⟩, e1, e2, e3, e4, e5⟩ := id j1
      refine ⟨_, rfl, rfl, _, rfl, ?_⟩
      refine ite2 (fun _ => ?_) (fun _ => kk _ _ j1)
      refine ⟨_, rfl, e, rfl, ⟨_, SqL.of e1⟩, fun L nL => ?_⟩
      refine lc_it (walk_list (xs := es)) (PV L _ n) (PV.start nL) (fun i Ha hi pv => ?_) ?_ ?_
      · obtain ⟨_, _, _, _, _, _, _, sm⟩ := pv
        exact SqL.of (sm _ _ e1)
      · rintro i x Ha Hb hi pv ⟨rfl, ex⟩
        have sm := pv.choose_spec.choose_spec.2.2.2.2.2
        obtain ⟨t, a, b, rfl, ht, ia, ib⟩ := Arr.keep (e3 x (List.mem_of_getElem? ex)) (.of sm)
        refine ⟨rfl, ?_⟩
        refine ⟨_, rfl, by show 2 ≤ sizeLine; decide, fun T3 nT3 => ?_⟩
        exact pv.add (same_new nT3) (by omega) upd_same ((same_new nT3) _ _ ht) ia ib
      · intro Ha pv
        refine PV.dict (K := K) (m' := 144) (Q := fun x H1 => gName 4 x _ H1 DD.nx) pv j1 (by omega) ?_
        intro g' H' j
        exact kk _ _ j
    case s6 =>
      rintro DD σ1 H1 j1 kk
      obtain ⟨sort, o, g, e, sv, st, os, es, kvs, rfl, i1, D1, k1, ⟨h1, h2, h3, h4⟩, ⟨g1, g2, g3, g4⟩, e1, e2, e3, e4, e5⟩ := id j1
      refine ⟨_, rfl, rfl, _, rfl, ?_⟩
      refine ite2 (fun _ => ?_) (fun _ => kk _ _ j1)
      have o1 := Ins.of h4
      have ol : (os.map V.int).length ≤ 12 := by
        rw [List.length_map]
        omega
      obtain ⟨f0, os', rfl⟩ : ∃ f0 os', os = f0 :: os' := by
        cases os with
        | nil =>
          simp at h3
          omega
        | cons a r => exact ⟨a, r, rfl⟩
      have i0 : Inn n f0 := h4 f0 (by simp)
      refine ⟨_, rfl, 1, rfl, o, _, rfl, SqL.of h1, fun c1 n1 => ?_⟩
      have oy := o1.cut (some 1) none
      have yl : (cutV ((f0 :: os').map V.int) (some 1) none).length ≤ ((f0 :: os').map V.int).length := cutV_length _ _ _
      have t1 : Same H1 _ := same_new (o := .lst (cutV ((f0 :: os').map V.int) (some 1) none)) n1
      refine ⟨c1, rfl, ⟨_, SqL.of upd_same⟩, fun L nL => ?_⟩
      refine lc_it (walk_list (xs := cutV ((f0 :: os').map V.int) (some 1) none)) (PV L _ n) (PV.start nL) (fun i Ha hi pv => ?_) ?_ ?_
      · obtain ⟨_, _, _, _, _, _, _, sm⟩ := pv
        exact SqL.of (sm _ _ upd_same)
      · rintro i x Ha Hb hi pv ⟨rfl, ex⟩
        have sm := pv.choose_spec.choose_spec.2.2.2.2.2
        obtain ⟨a, rfl, ia⟩ := oy.at ex
        refine ⟨rfl, ?_⟩
        refine ⟨_, rfl, o, _, 0, .int f0, rfl, rfl, SqL.of (sm _ _ (t1 _ _ h1)), at_of (j := 0) rfl rfl, _, rfl, by show 2 ≤ sizeLine; decide, fun K1 nK => ⟨by show 2 ≤ sizeLine; decide, fun T3 nT3 => ?_⟩⟩
        exact pv.add ((same_new nK).trans (same_new nT3)) (by omega) upd_same ((same_new nT3) _ _ upd_same) i0 ia
      · intro Ha pv
        have sm := pv.choose_spec.choose_spec.2.2.2.2.2
        refine ⟨_, rfl, 1, rfl, o, _, rfl, SqL.of (sm _ _ (t1 _ _ h1)), fun c2 n2 => ?_⟩
        have t2 : Same Ha _ := same_new (o := .lst (cutV ((f0 :: os').map V.int) (some 1) none)) n2
        refine ⟨c2, rfl, ⟨_, SqL.of upd_same⟩, fun L2 nL2 => ?_⟩
        refine lc_it (walk_list (xs := cutV ((f0 :: os').map V.int) (some 1) none)) (PV L2 _ n) (PV.start nL2) (fun i Ha hi pv => ?_) ?_ ?_
        · obtain ⟨_, _, _, _, _, _, _, sm⟩ := pv
          exact SqL.of (sm _ _ upd_same)
        · rintro i x Hc Hb hi pv2 ⟨rfl, ex⟩
          have sm2 := pv2.choose_spec.choose_spec.2.2.2.2.2
          obtain ⟨a, rfl, ia⟩ := oy.at ex
          refine ⟨rfl, ?_⟩
          refine ⟨_, rfl, _, rfl, o, _, 0, .int f0, rfl, rfl, SqL.of (sm2 _ _ (t2 _ _ (sm _ _ (t1 _ _ h1)))), at_of (j := 0) rfl rfl, by show 2 ≤ sizeLine; decide, fun K1 nK => ⟨by show 2 ≤ sizeLine; decide, fun T3 nT3 => ?_⟩⟩
          exact pv2.add ((same_new nK).trans (same_new nT3)) (by omega) upd_same ((same_new nT3) _ _ upd_same) ia i0
        · intro Hb pv2
          obtain ⟨xs, zs, x1, x2, x3, x4⟩ := pv.cat t2 pv2 (by omega)
          refine ⟨L, L2, xs, zs, rfl, rfl, x1, x2, x3, fun c3 n3 => ?_⟩
          refine PV.dict (K := K) (m' := 144) (Q := fun x H1 => gName 4 x _ H1 DD.nx) (x4 c3 n3) (j1.same t1) (by omega) ?_
          intro g' H' j
          exact kk _ _ j
    case s7 =>
      rintro DD σ1 H1 j1 kk
      obtain ⟨sort, o, g, e, sv, st, os, es, kvs, rfl, i1, D1, k1, ⟨h1, h2, h3, h4⟩, ⟨g1, g2, g3, g4⟩, e1, e2, e3, e4, e5⟩ := id j1
      refine ⟨_, rfl, rfl, _, rfl, ?_⟩
      refine ite2 (fun _ => ?_) (fun _ => kk _ _ j1)
      have o1 := Ins.of h4
      have ol : (os.map V.int).length ≤ 12 := by
        rw [List.length_map]
        omega
      refine ⟨_, rfl, _, rfl, 1, rfl, o, _, rfl, SqL.of h1, fun c1 n1 => ?_⟩
      have t1 : Same H1 _ := same_new (o := .lst (cutV (os.map V.int) (some 1) none)) n1
      have oy := o1.cut (some 1) none
      refine ⟨o, c1, _, _, rfl, SqL.of (t1 _ _ h1), SqL.of upd_same, fun L nL => ?_⟩
      have j2 := j1
      refine lc_it (walk_zip (xs := os.map V.int) (ys := cutV (os.map V.int) (some 1) none) rfl) (PV L _ n) (PV.start nL) (fun i Ha hi pv => ?_) ?_ ?_
      · obtain ⟨_, _, _, _, _, _, _, sm⟩ := pv
        exact ⟨SqL.of (sm _ _ (t1 _ _ h1)), SqL.of (sm _ _ upd_same)⟩
      · intro i x Ha Hb hi pv y
        obtain ⟨T2, x1, y1, rfl, nT2, rfl, ex, ey⟩ := y
        obtain ⟨a, rfl, ia⟩ := o1.at ex
        obtain ⟨b, rfl, ib⟩ := oy.at ey
        refine ⟨T2, _, rfl, SqT.of upd_same, rfl, _, _, rfl, _, _, rfl, rfl, ?_⟩
        refine ⟨rfl, ?_⟩
        refine ⟨_, rfl, _, rfl, by show 2 ≤ sizeLine; decide, fun K1 nK => ⟨by show 2 ≤ sizeLine; decide, fun T3 nT3 => ?_⟩⟩
        exact pv.add ((same_new nT2).trans ((same_new nK).trans (same_new nT3))) (by have := Nat.min_le_left (os.map V.int).length (cutV (os.map V.int) (some 1) none).length; omega) upd_same ((same_new nT3) _ _ upd_same) ia ib
      · intro Ha pv
        refine PV.dict (K := K) (m' := 144) (Q := fun x H1 => gName 4 x _ H1 DD.nx) pv (j2.same t1) (by have := Nat.min_le_left (os.map V.int).length (cutV (os.map V.int) (some 1) none).length; omega) ?_
        intro g' H' j
        exact kk _ _ j
    case s8 =>
      rintro DD σ1 H1 j1 kk
      obtain ⟨sort, o, g, e, sv, st, os, es, kvs, rfl, i1, D1, k1, ⟨h1, h2, h3, h4⟩, ⟨g1, g2, g3, g4⟩, e1, e2, e3, e4, e5⟩ := id j1
      refine ⟨_, rfl, by show 3 ≤ sizeLine; decide, fun T nT => ⟨T, _, rfl, .inr (SqT.of upd_same), rfl, rfl, _, rfl, ?_⟩⟩
      have j2 := j1.same (same_new (o := .tup [.int 2, .int 6, .int 7]) nT)
      generalize (L2.upd H1 T (.tup [.int 2, .int 6, .int 7])) = H2 at j2
      have j180 : ∀ {i σ' H'}, i ≤ 36 → NJ p d n H (144 + i) σ' H' → NJ p d n H 180 σ' H' := by
        rintro i σ' H' hi ⟨sort, o, g, e, sv, st, os, es, kvs, e0, i1, D1, k1, hh, ⟨g1, g2, g3, g4⟩, ee⟩
        exact ⟨sort, o, g, e, sv, st, os, es, kvs, e0, i1, D1, k1, hh, ⟨g1, g2, by omega, g4⟩, ee⟩
      refine ite2 (fun _ => ?_) (fun _ => kk _ _ (j180 (i := 0) (by decide) j2))
      refine ⟨_, rfl, _, rfl, _, _, rfl, rfl, .inl ⟨by decide, by decide⟩, by show 8 ≤ sizeLine; decide, fun L nL => ?_⟩
      have j3 := j2.same (same_new (o := .lst [.int 0, .int 0, .int 2, .int 0, .int 0, .int 0, .int n, .int (3 * n)]) nL)
      obtain ⟨k0, rfl⟩ := Int.eq_ofNat_of_zero_le i1.1
      have hk0 : k0 < 8 := by
        have := i1.2
        omega
      obtain ⟨m, hm, m0, m1⟩ : ∃ m : Int, [V.int 0, V.int 0, V.int 2, V.int 0, V.int 0, V.int 0, V.int n, V.int (3 * n)][k0]? = some (V.int m) ∧ 0 ≤ m ∧ m ≤ 36 := by
        match k0, hk0 with
        | 0, _ => exact ⟨_, rfl, by omega, by omega⟩
        | 1, _ => exact ⟨_, rfl, by omega, by omega⟩
        | 2, _ => exact ⟨_, rfl, by omega, by omega⟩
        | 3, _ => exact ⟨_, rfl, by omega, by omega⟩
        | 4, _ => exact ⟨_, rfl, by omega, by omega⟩
        | 5, _ => exact ⟨_, rfl, by omega, by omega⟩
        | 6, _ => exact ⟨_, rfl, by omega, by omega⟩
        | 7, _ => exact ⟨_, rfl, by omega, by omega⟩
      refine ⟨_, rfl, L, _, _, _, rfl, rfl, SqL.of upd_same, at_of (j := k0) rfl hm, m, rfl, by omega, by omega, ?_⟩
      refine for_range (lo := 0) (n := m.toNat) (fun i σ H' => NJ p d n H (144 + i) σ H') j3 ?_ ?_
      · intro i σ2 H3 hi j4
        have j5 := j4.turn (x := some (.int (0 + (i : Int))))
        show (sDPut _ _ _) _ _ _
        generalize σ2.set 7 (some (.int (0 + (i : Int)))) = σ3 at j5 ⊢
        obtain ⟨sort, o, g, e, sv, st, os, es, kvs, rfl, i1, D1, k1, hh, ⟨g1, g2, g3, g4⟩, e1, e2, e3, e4, e5⟩ := id j5
        refine ⟨_, rfl, _, rfl, _, rfl, p, d, e, es, rfl, D1, e1, e2, e4, by omega, fun x H4 hx D4 kp => ?_⟩
        obtain ⟨t, a, b, rfl, ht, ia, ib⟩ := (e3 x hx).keep (.kp D1 kp)
        have gp : g ≠ p := fun z => by
          obtain ⟨_, _, y, _⟩ := D1.ex
          rw [← z, g1] at y
          cases y
        have gd : g ≠ d := fun z => by
          obtain ⟨_, _, _, y, _⟩ := D1.ex
          rw [← z, g1] at y
          cases y
        have g5 := kp _ _ g1 gp gd
        refine ⟨g, _, rfl, DPut.t (k := [.inl a, .inl b]) g5 ht (by rw [sizeLine_eq]; omega), ?_⟩
        have ts : TupS H4 (L2.upd H4 g (.dT (putK kvs [.inl a, .inl b] (.bl true)))) := TupS.upd fun xs z => by
          rw [g5] at z
          cases z
        have og : o ≠ g := fun z => by
          rw [z, g1] at hh
          cases hh.1
        have eg : e ≠ g := fun z => by
          rw [z, g1] at e1
          cases e1
        refine ⟨sort, o, g, e, sv, st, os, es, _, rfl, i1, D4.upd gp gd, fun b o hb q1 q2 => ?_, ⟨?_, hh.2⟩, ⟨upd_same, putK_keys g2 ⟨a, b, rfl, ia, ib⟩, ?_, g4⟩, ?_, e2, (e3.keep (.kp D1 kp)).keep ts, e4, e5⟩
        · rw [upd_ne (ne_of_none hb g4)]
          exact kp _ _ (k1 _ _ hb q1 q2) q1 q2
        · rw [upd_ne og]
          exact kp _ _ hh.1 (D1.kne hh.1) hh.2.1
        · have := putK_le kvs [.inl a, .inl b] (.bl true)
          omega
        · rw [upd_ne eg]
          exact kp _ _ e1 (D1.kne e1) e2
      · intro σ2 H3 j4
        exact kk _ _ (j180 (by omega) j4)
    case main =>
      have hN : n.toNat ≤ 12 := by omega
      have eN : ((n.toNat : Nat) : Int) = n := Int.toNat_of_nonneg (by omega)
      refine ⟨_, rfl, p, d, 8, rfl, D, by decide, fun r Ha r0 r1 r2 Da ka => ?_⟩
      refine ⟨_, rfl, _, rfl, n, rfl, RgOk.of_le (by decide) (by omega) (by decide) (by omega), fun q nq => ?_⟩
      have eR : rgV 0 n = ((List.range n.toNat).map fun i => (0 : Int) + (i : Nat)).map V.int := by
        unfold rgV
        rw [List.map_map, Int.sub_zero]
        rfl
      rw [eR]
      refine ⟨p, d, q, _, rfl, Da.same (same_new nq), upd_same, by rw [List.length_map, List.length_range]; omega, fun o os Hb Db kb no ho lo mo => ?_⟩
      rw [List.length_map, List.length_range] at lo
      have mo2 : ∀ a ∈ os, Inn n a := fun a ha => by
        obtain ⟨i, hi, rfl⟩ := List.mem_map.mp (mo a ha)
        have := List.mem_range.mp hi
        exact ⟨by omega, by omega⟩
      have kab : Kp p d H Hb := ka.trans ((Kp.new nq).trans kb)
      have od : o ≠ d := ((Da.same (same_new nq)).ne_none no).2
      refine fun g ng => ⟨by show 3 ≤ sizeLine; decide, fun T nT => ⟨T, _, rfl, SqT.of upd_same, rfl, _, _, rfl, _, _, rfl, _, _, rfl, rfl, ?_⟩⟩
      have s1 : Same Hb (L2.upd Hb g (.dT [])) := same_new ng
      have s2 := s1.trans (same_new (o := .tup [.int r, .ref o, .ref g]) nT)
      refine ⟨by show 0 ≤ sizeLine; exact Nat.zero_le _, fun ev nev => ?_⟩
      have s3 := s2.trans (same_new (o := .lst []) nev)
      have hg : (L2.upd (L2.upd (L2.upd Hb g (.dT [])) T (.tup [.int r, .ref o, .ref g])) ev (.lst [])) g = some (.dT []) := (same_new nev) _ _ ((same_new nT) _ _ upd_same)
      have ng0 : H g = none := kab.free Db ng
      have evd : ev ≠ d := (Db.ne_none (s2.free nev)).2
      have hev : (L2.upd (L2.upd (L2.upd Hb g (.dT [])) T (.tup [.int r, .ref o, .ref g])) ev (.lst [])) ev = some (.lst []) := upd_same
      generalize (L2.upd (L2.upd (L2.upd Hb g (.dT [])) T (.tup [.int r, .ref o, .ref g])) ev (.lst [])) = Hc at s3 hg hev ⊢
      have ho3 := s3 _ _ ho
      refine ⟨_, rfl, n, rfl, by omega, by omega, for_range (lo := 0) (n := n.toNat) (fun i σ H' => ∃ e sv es, σ = [some (.ref p), some (.int n), some (.int r), some (.ref o), some (.ref g), some (.ref e), sv, none, none, none] ∧ Same Hc H' ∧
        H' e = some (.lst es) ∧ e ≠ d ∧ Arrs n H' es ∧ es.length = i * n.toNat) ⟨ev, none, [], rfl, Same.refl _, hev, evd, fun _ h => absurd h (by simp), by simp⟩ ?_ ?_⟩
      · rintro i σ H1 hi ⟨e, sv, es, rfl, sm, he, ed, ae, le⟩
        refine ⟨_, rfl, _, rfl, n, rfl, by omega, by omega, fun L nL => ?_⟩
        have hi12 : i * n.toNat ≤ 12 * 12 := Nat.mul_le_mul (by omega) hN
        refine lc_it walk_range (EV True L H1 n) (EV.start nL) (fun _ _ _ _ => trivial) ?_ ?_
        · rintro j x H2 H3 hj ev2 ⟨rfl, rfl⟩
          refine ⟨rfl, ?_⟩
          refine ⟨_, rfl, _, rfl, by show 2 ≤ sizeLine; decide, fun T3 nT3 => ?_⟩
          exact ev2.add (same_new nT3) (by omega) upd_same ⟨by omega, by omega⟩ ⟨by omega, by omega⟩
        · rintro H2 ⟨acc, h1, h2, h3, h4, h5⟩
          have l2 := h3.2 trivial
          refine ⟨e, L, es, acc, rfl, rfl, h5 _ _ he, h1, by rw [sizeLine_eq]; omega, fun c nc => ?_⟩
          have sc : Same H1 _ := h5.trans (same_new (o := .lst (es ++ acc)) nc)
          refine ⟨c, _, es ++ acc, rfl, sm.trans sc, upd_same, ?_, fun x hx => ?_, ?_⟩
          · exact ((Db.same (s3.trans (sm.trans h5))).ne_none nc).2
          · rcases List.mem_append.mp hx with z | z
            · exact (ae x z).keep (.of sc)
            · exact (h2 x z).keep (.of (same_new nc))
          · rw [List.length_append, l2, le, Nat.succ_mul]
      · rintro σ H1 ⟨e, sv, es, rfl, sm, he, ed, ae, le⟩
        have hi12 : n.toNat * n.toNat ≤ 12 * 12 := Nat.mul_le_mul hN hN
        have hi1 : 1 * 1 ≤ n.toNat * n.toNat := Nat.mul_le_mul (by omega) (by omega)
        refine ⟨⟨r, o, g, e, sv, none, os, es, [], rfl, ⟨r0, r1 (by decide)⟩, Db.same (s3.trans sm), kab.trans (.of (s3.trans sm)), ⟨sm _ _ ho3, od, by omega, mo2⟩, ⟨sm _ _ hg, fun _ h => absurd h (by simp), Nat.zero_le _, ng0⟩, he, ed, ae, ?_, by omega⟩, fun σ' H' j1 => ⟨j1, fun σ' H' j1 => ⟨j1, fun σ' H' j1 => ⟨j1, fun σ' H' j1 => ⟨j1, fun σ' H' j1 => ?_⟩⟩⟩⟩⟩
        · intro z
          rw [z] at le
          simp at le
          try omega
        obtain ⟨sort, o, g, e, sv, st, os, es, kvs, rfl, i1, D1, k1, ⟨h1, h2, h3, h4⟩, ⟨g1, g2, g3, g4⟩, e1, e2, e3, e4, e5⟩ := j1
        have gd : g ≠ d := fun z => by
          obtain ⟨_, _, _, y, _⟩ := D1.ex
          rw [← z, g1] at y
          cases y
        have gp : g ≠ p := fun z => by
          obtain ⟨_, _, y, _⟩ := D1.ex
          rw [← z, g1] at y
          cases y
        refine fun ndT => ?_
        have ndk := ndT g kvs g1
        refine ⟨_, rfl, g, .dT kvs, g1, trivial, fun ob => ⟨_, rfl, g, ob, rfl, .inr ⟨kvs, upd_same, fun L nL => ?_⟩⟩⟩
        refine lc_it walk_keysT (EVK L (L2.upd H' g (.frz ob (.dT kvs))) n kvs) (EVK.start nL) (fun i Ha hi pv => ?_) ?_ ?_
        · obtain ⟨_, _, _, _, _, sm, _⟩ := pv
          exact sm _ _ upd_same
        · rintro i x H2 H3 hi pv ⟨rfl, k, v, q, hk, rfl, hq⟩
          obtain ⟨a, b, e0, ia, ib⟩ := g2 _ (List.mem_of_getElem? hk)
          have e0 : k = [.inl a, .inl b] := e0
          subst e0
          refine ⟨q, _, rfl, SqT.of hq, rfl, _, _, rfl, _, _, rfl, rfl, ?_⟩
          refine ⟨rfl, ?_⟩
          refine ⟨_, rfl, _, rfl, rfl, _, rfl, ?_⟩
          refine ite2 (fun y => ?_) (fun y => pv.skip (Same.refl _) hk (Classical.byContradiction fun z => y (kV_ne z)))
          have yne : a ≠ b := kV_eq y
          refine ⟨_, rfl, _, rfl, by show 2 ≤ sizeLine; decide, fun T3 nT3 => ?_⟩
          exact pv.add (same_new nT3) (by omega) upd_same ia ib hk yne
        · rintro H2 ⟨acc, a1, a2, a3, a4, a5, a8⟩
          refine ⟨a5 _ _ upd_same, ?_⟩
          have hg2 := a5 _ _ upd_same
          have gL : L ≠ g := fun z => by
            rw [z, upd_same] at a4
            cases a4
          have D2 := ((D1.upd (o := .frz ob (.dT kvs)) gp gd).same a5).upd (o := .dT kvs) gp gd
          have k2 : Kp p d H (L2.upd H2 g (.dT kvs)) := fun b o hb q1 q2 => by
            rw [upd_ne (ne_of_none hb g4)]
            refine a5 _ _ ?_
            rw [upd_ne (ne_of_none hb g4)]
            exact k1 _ _ hb q1 q2
          have a6 : (L2.upd H2 g (.dT kvs)) L = some (.lst acc) := by
            rw [upd_ne gL]
            exact a1
          have tg : TupS H2 (L2.upd H2 g (.dT kvs)) := TupS.upd fun xs z => by
            rw [hg2] at z
            cases z
          have a7 : Arrs n (L2.upd H2 g (.dT kvs)) acc := a2.keep tg
          have a9 : acc.map (endsOf (L2.upd H2 g (.dT kvs))) = kPairs kvs := by
            rw [List.take_length] at a8
            rw [← a8]
            exact List.map_congr_left fun x hx => endsOf_keep (a2 x hx) tg
          generalize (L2.upd H2 g (.dT kvs)) = H3 at D2 k2 a6 a7 a9 ⊢
          refine ⟨L, acc, endsOf H3, rfl, SqL.of a6, fun x hx => endsOf_arr (a7 x hx), fun ys p2 srt stb np2 => ?_⟩
          refine ⟨p2, ys, rfl, .inl ⟨SqL.of upd_same, fun l nl => ⟨by show 2 ≤ sizeLine; decide, fun T nT => ?_⟩⟩⟩
          have sa : Same H3 (L2.upd H3 p2 (.lst ys)) := same_new np2
          have sb := sa.trans (same_new (o := .tup ys) nl)
          have sc := sb.trans (same_new (o := .tup [.int n, .ref l]) nT)
          have ay : Arrs n H3 ys := fun x hx => a7 x (stb.perm.mem_iff.mp hx)
          have ndy : (ys.map (endsOf H3)).Nodup := by
            refine (stb.perm.map (endsOf H3)).nodup_iff.mpr ?_
            rw [a9]
            exact kPairs_nd ndk
          have srt2 : (ys.map (endsOf H3)).Pairwise lt2 := asc_of ndy (List.pairwise_map.mpr srt)
          have ey : ys.map (endsOf (L2.upd (L2.upd (L2.upd H3 p2 (.lst ys)) l (.tup ys)) T (.tup [.int n, .ref l]))) = ys.map (endsOf H3) := List.map_congr_left fun x hx => endsOf_keep (ay x hx) (.of sc)
          refine k T l ys _ (D2.same sc) (k2.trans (.of sc)) upd_same ((same_new nT) _ _ upd_same) (ay.keep (.of sc)) (by rw [stb.len]; omega) (by rw [ey]; exact srt2) (fun x hx => ?_)
          rw [endsOf_keep (ay x hx) (.of sc)]
          refine kPairs_ne (kvs := kvs) _ ?_
          rw [← a9]
          exact List.mem_map_of_mem (stb.perm.mem_iff.mp hx)
theorem ok_net {f : Addr} {fd : FuncData} (F : Fun K "_law_net" "_law_net" sNet f fd) (B : NoNames mg) (O : Own P w K mg base 1 "_law_draw" ["deck", "many"] spDraw)
    (OP : Own P w K mg base 2 "_law_pick" ["deck", "items"] spPick) (OM : Own P w K mg base 2 "_law_mixed" ["deck", "items"] spMixed) : FnOk P w K mg base CX0 3 f fd ["deck", "n"] spNet :=
  (ok_netS F B O OP OM).imp fun vs H Q E ⟨p, d, n, e, D, n1, n2, k⟩ => ⟨p, d, n, e, D, n1, n2, fun a b xs H' h1 h2 h3 h4 h5 h6 _ _ => k a b xs H' h1 h2 h3 h4 h5 h6⟩
end
end Sw
namespace Sw
open PySem L2
/-- the arrows of a net, as pairs -/
def ArsAt (H : Hp) (ts : List V) (ars : List (Int × Int)) : Prop := Paired (fun x (e : Int × Int) => ∃ t, x = V.ref t ∧ H t = some (.tup [.int e.1, .int e.2])) ts ars
theorem ArsAt.len {H : Hp} : ∀ {ts : List V} {ars : List (Int × Int)}, ArsAt H ts ars → ts.length = ars.length
  | _, _, .nil => rfl
  | _, _, .cons _ t => by
    rw [List.length_cons, List.length_cons, ArsAt.len t]
theorem ArsAt.at {H : Hp} : ∀ {ts : List V} {ars : List (Int × Int)} {i : Nat} {x : V}, ArsAt H ts ars → ts[i]? = some x → ∃ e t, ars[i]? = some e ∧ x = .ref t ∧ H t = some (.tup [.int e.1, .int e.2])
  | _, _, i, x, .nil, h => by simp at h
  | _, _, 0, x, .cons (b := e) q t, h => by
    obtain ⟨t', e1, e2⟩ := q
    have h : some _ = some x := h
    cases h
    exact ⟨e, t', rfl, e1, e2⟩
  | _, _, i + 1, x, .cons q t, h => ArsAt.at (i := i) t h
theorem ArsAt.keep {H H' : Hp} {ts : List V} {ars : List (Int × Int)} (h : ArsAt H ts ars) (s : TupS H H') : ArsAt H' ts ars := paired_mono (fun _ _ ⟨t, e, x⟩ => ⟨t, e, s _ _ x⟩) h
/-- every net's arrows are some pairs -/
theorem ArsAt.ex {n : Int} {H : Hp} : ∀ {ts : List V}, Arrs n H ts → ∃ ars, ArsAt H ts ars
  | [], _ => ⟨[], .nil⟩
  | x :: r, h => by
    obtain ⟨t, a, b, rfl, ht, _⟩ := h x (by simp)
    obtain ⟨ars, q⟩ := ArsAt.ex (ts := r) fun y hy => h y (by simp [hy])
    exact ⟨(a, b) :: ars, .cons ⟨t, rfl, ht⟩ q⟩
end Sw
namespace Sw
open PySem L2
/-- a statement kept to what it is to do, for whatever i stands for -/
def tCutI {ι : Type} (J J' : ι → L2.St → Hp → Prop) : TS := fun D σ H => ∃ i, J i σ H ∧ ∀ σ' H', J' i σ' H' → D.nx σ' H'
theorem ps_cutI {ι : Type} {X : Cx} {st : Stmt} {t : TS} (J J' : ι → L2.St → Hp → Prop) (h : PS X st t) (hJ : ∀ i D σ H, J i σ H → (∀ σ' H', J' i σ' H' → D.nx σ' H') → t D σ H) : PS X st (tCutI J J') :=
  ⟨fun pins s σ H D I q => by
    obtain ⟨i, a, b⟩ := q
    exact h.run pins s σ H D I (hJ i D σ H a b)⟩
theorem int_at {os : List Int} {i : Nat} {x : V} (h : (os.map V.int)[i]? = some x) : ∃ z, os[i]? = some z ∧ x = .int z := by
  rw [List.getElem?_map] at h
  cases q : os[i]? with
  | none => rw [q] at h; cases h
  | some z => rw [q] at h; exact ⟨z, rfl, (Option.some.inj h).symm⟩
end Sw
namespace Sw
open PySem PySem.Spec PyProof.Rows L2
/-! ### raise C() -/
section
variable {X : Cx} {C : Addr} {bmB : List Value} {B newId initId : String}
theorem pmk_own0 {x : Str} {p pos : Pos} (F : ExcBaseFacts B newId initId bmB) (q : PySem.W.excIn X.K C bmB newId = true) (gC : X.mg x = some (.ref C)) (kC : PySem.W.keepIn X.K (.ref C) = true) (r : Raises X (.ref C)) (hg : Gl X x)
    (hdb : (x == ("__debug__" : Str)) = false := by decide) : PMk X (.Call (.Name x p) [] [] pos) (fun _ H Q => Q (.ref C) none H) := by
  intro pins s σ H Q I h
  refine wpAny_Call_Name_kw (ld_glob I hg gC ?_ hdb)
  refine PySem.W.callWith_K0 (first := []) I.kIn kC ?_
  show wpAny _ _ (call (.ref C) []) _ _ _
  obtain ⟨bm, N, nm, qn, bs, hdct, sn, sub, ab, col, dd, k0, k1, k2, k3, k5, mN, hC, hN, hni, T⟩ := exc_obj I.kIn q
  exact wpAny_call_exc_subT F T hC hN hni (fun h' e hm => mk_of I hm r h (I.hok.gone hm.new)) (by show 0 ≤ sizeLine; omega)
end
end Sw
namespace Sw
open PySem PySem.Spec PyProof.Rows L2
/-! ### an own error x without __init__, under the error y of the package: raised, caught, asked -/
structure UErr (K : PySem.W.Frag) (mg : Str → Option Value) (x y : Str) (C S : Addr) : Prop where
  mx : mg x = some (.ref C)
  my : mg y = some (.ref S)
  made : PySem.W.excIn K C [.type "ValueError", .type "Exception", .type "BaseException", .type "object"] "ValueError.__new__" = true
  kC : PySem.W.keepIn K (.ref C) = true
  base : PySem.W.subIn K (.ref C) (.type "BaseException") = some true
  ty : PySem.W.typeIn K (.ref C) = some (.type "type")
  self : PySem.W.subIn K (.ref C) (.ref C) = some true
  ex : ExcC K C
  sub : PySem.W.kitOne K (.ref C) (.ref S) = some true
theorem UErr.raises {X : Cx} {x y : Str} {C S : Addr} (U : UErr X.K X.mg x y C S) : Raises X (.ref C) := raises_own U.base U.ty
theorem UErr.takes {K : PySem.W.Frag} {mg : Str → Option Value} {x y : Str} {C S : Addr} (U : UErr K mg x y C S) : PySem.W.exmOne K (.ref C) (.ref C) = some true := PySem.W.exm_ref U.base U.ex.hd U.ty U.self
theorem UErr.mk0 {X : Cx} {x y : Str} {C S : Addr} {p pos : Pos} (U : UErr X.K X.mg x y C S) (hg : Gl X x) (hdb : (x == ("__debug__" : Str)) = false := by decide) : PMk X (.Call (.Name x p) [] [] pos) (fun _ H Q => Q (.ref C) none H) :=
  pmk_own0 PySem.F.excBase_ValueError U.made U.mx U.kC U.raises hg hdb
section
variable {X : Cx} {CX : CXT} {k : Nat} {f : Addr} {fd : FuncData} {ps ks : List Str} {sp : Sp} {E : L2.St → XK} {x : Str} {p pos : Pos} {kws : List Keyword} {tk : TA} {g : List Value → List Value → List Value} {gV : List V → List V → List V}
/-- f(k = v) in a try: what it may let out is wished for at the slots -/
theorem pe_callWS (F : FnOk X.prog X.w X.K X.mg X.base CX k f fd ps sp) (hr : Room k X.A) (hg : Gl X x) (hm : X.mg x = some (.ref f)) (hk : PySem.W.keepIn X.K (.ref f) = true) (hb : KBinds X.K fd ps ks g gV) (hx : ∀ σ, PassesAt CX X σ (E σ))
    (hkw : PK X kws tk) (hall : (backToKw pos (keywordEach kws X.env)).all (·.1.isSome) = true := by rfl) (hks : (backToKw pos (keywordEach kws X.env)).filterMap (·.1) = ks := by rfl)
    (hdb : (x == ("__debug__" : Str)) = false := by decide)
    (hpl : ((backTo pos (starEach [] X.env)).any (·.1) || (backToKw pos (keywordEach kws X.env)).any (·.1.isNone)) = false := by rfl) :
    PE X (.Call (.Name x p) [] kws pos) (fun σ H Q => tk σ H fun zs H2 => sp (gV [] zs) H2 Q (E σ)) := by
  refine ⟨fun pins s σ H Q I h => wpAny_Call_Name_kw (ld_glob I hg hm ?_ hdb)⟩
  refine PySem.W.callWith_KW0 (first := []) (h₀ := X.base) I.ok.mod.kin hk hall (thn (hkw.run pos pins s σ H _ I h) fun ws s2 ⟨zs, H2, I2, rz, q2⟩ => ⟨I2.kIn, ?_⟩) hpl
  rw [hks]
  have r2 := hb.rel (us := []) .nil rz
  have hl : (g [] ws).length = ps.length := by
    rw [← r2.length]
    exact F.len _ _ _ _ q2
  refine wpAny_call (codeAny_mono (F.run X.A X.stack s2 H2 ⟨[], ks.zip ws⟩ (g [] ws) (gV [] zs) Q (E σ) hr I2.env0 (hb.to s2 [] ws I2.kIn hl) r2 q2) fun r s' hq => ?_)
  rcases r with e | fl
  · exact hx σ pins H2 s2 e s' I2 hq
  rcases fl with _ | _ | _ | u
  all_goals first | exact hq.elim | skip
  exact I2.after hq
end
end Sw
namespace Sw
open PySem PySem.Spec PyProof.Rows L2 SX
/-! ### texts of nets -/
abbrev sNetText : Stmt := top 14
theorem scNetText : FnScope ["net", "n", "arrows", "v", "w"] ["net"] (defScope sNetText) := ⟨rfl, rfl, rfl, by decide +kernel, rfl, by decide +kernel, by decide +kernel⟩
/-- the decimal of a whole number, by signs -/
def figsI (i : Int) : List Nat := (Str.ofString (toString i)).cps.toList
theorem figsI_S (i : Int) : Str.ofString (toString i) = S (figsI i) := (S_tl _).symm
def arrL (e : Int × Int) : List Nat := [32] ++ figsI e.1 ++ [62] ++ figsI e.2
def textL (n : Int) (ars : List (Int × Int)) : List Nat := figsI n ++ [58] ++ (ars.map arrL).flatten
theorem figs_len : ∀ i, i < 13 → (figs i).length ≤ 2 := by decide +kernel
theorem figsI_len {i : Int} (h : 0 ≤ i) (h2 : i < 13) : (figsI i).length ≤ 2 := by
  obtain ⟨k, rfl⟩ := Int.eq_ofNat_of_zero_le h
  exact figs_len k (by omega)
theorem ends58 (h : List Nat) : Txt.endswith (S h) (S [58]) = decide (h.getLast? = some 58) := by
  unfold Txt.endswith
  rw [StrLaws.subAt_eq, S_len, S_len]
  show (decide (0 + 1 ≤ h.length) && ((h.drop (h.length - 1)).take 1 == [58])) = _
  cases e : h.getLast? with
  | none =>
    have : h = [] := List.getLast?_eq_none_iff.mp e
    subst this
    rfl
  | some x =>
    obtain ⟨l, rfl⟩ := List.getLast?_eq_some_iff.mp e
    rw [List.length_append, List.length_singleton, Nat.add_sub_cancel, List.drop_left']
    · rw [show List.take 1 [x] = [x] from rfl, decide_eq_true (show 0 + 1 ≤ l.length + 1 by omega), Bool.true_and]
      by_cases z : x = 58
      · subst z
        rfl
      · rw [decide_eq_false (fun q => z (Option.some.inj q))]
        simp [z]
    · rfl
theorem cut1 (h : List Nat) : cutS (S h) none (some (-1)) = S h.dropLast := by
  unfold cutS
  show S (((S h).cps.toList.drop 0).take (((-1 : Int) + ((S h).length : Int)).toNat - 0)) = _
  rw [S_len, List.drop_zero, Nat.sub_zero]
  show S (h.take _) = _
  rw [List.dropLast_eq_take]
  congr 2
  omega
theorem joinL_nil : ∀ l : List (List Nat), TL.joinL [] l = l.flatten
  | [] => rfl
  | [p] => by
    show p = _
    simp
  | p :: q :: r => by
    show p ++ ([] ++ TL.joinL [] (q :: r)) = _
    rw [List.nil_append, joinL_nil (q :: r)]
    simp
section
variable {P : Program} {w : World} {K : PySem.W.Frag} {mg : Str → Option Value} {base : Heap}
def spNetText : Sp := fun vs H Q _ => ∃ (a b : Addr) (n : Int) (ts : List V) (ars : List (Int × Int)), vs = [.ref a] ∧ NetAt n H a b ts ∧ ArsAt H ts ars ∧ ∀ H', Same H H' → Q (.str (S (textL n ars))) H'
theorem ok_netText {f : Addr} {fd : FuncData} (F : Fun K "net_text" "net_text" sNetText f fd) : FnOk P w K mg base CX0 1 f fd ["net"] spNetText := by
  refine F.ok scNetText (fun vs H Q E h => ?_) (fun cdv A outer s H vs Q E hr h => ?_)
  · obtain ⟨a, b, n, ts, ars, rfl, _⟩ := h
    rfl
  · obtain ⟨a, b, n, ts, ars, rfl, N, AR, k⟩ := h
    refine ⟨_, pss_cons (ps_asg (pv 0) (pg_tup (by rfl) (pgs_cons (pg_name (i := 1) scNetText.nd rfl (.inl rfl)) (pgs_cons (pg_name (i := 2) scNetText.nd rfl (.inl rfl)) pgs_nil)))) <|
      pss_one (ps_ret (pe_op op_add_str (pe_joined (.cons (pe_fmt (pv 1)) (.cons pe_str .nil))) (pe_join pe_str (pe_lc (own := [("v", 3), ("w", 4)]) (g := gTup K 2 (gCons (gName 3) (gCons (gName 4) gNil))) (tt := tYes) rfl scNetText.nd (pi_tup (pv 2)) (blkOk_by (own := [("v", 3), ("w", 4)]) (N := ["net", "n", "arrows", "v", "w"]) (sc := defScope sNetText) (by decide +kernel))
        (fun _ _ _ _ _ => pg_tup rfl (pgs_cons (pg_name (i := 3) scNetText.nd rfl (Or.inl rfl)) (pgs_cons (pg_name (i := 4) scNetText.nd rfl (Or.inl rfl)) pgs_nil))) (fun _ _ _ _ _ => pts_nil)
        (fun _ _ _ _ _ => pe_joined (.cons pe_str (.cons (pe_fmt (pv 3)) (.cons pe_str (.cons (pe_fmt (pv 4)) .nil))))))))), ?_⟩
    have n1 := N.n1
    have n2 := N.n2
    have n3 := figsI_len (i := n) (by omega) (by omega)
    have lg : n.natAbs.log2 < 1920 := Nat.lt_of_le_of_lt (Nat.log2_le_self _) (by omega)
    refine ⟨_, rfl, a, _, rfl, SqT.of N.a, rfl, _, _, rfl, _, _, rfl, rfl, ?_⟩
    refine ⟨_, rfl, .inr ⟨n, rfl, lg, _, rfl, ?_, _, rfl, ?_, ?_⟩⟩
    · rw [figsI_S]
      show (S [] ++ S (figsI n)).length ≤ sizeLine
      rw [S_cat, S_len, sizeLine_eq, List.nil_append]
      omega
    · rw [figsI_S]
      show (S [] ++ S (figsI n) ++ S [58]).length ≤ sizeLine
      rw [S_cat, S_cat, S_len, sizeLine_eq, List.length_append, List.length_append, List.length_nil, List.length_singleton]
      omega
    have ll := AR.len
    have lt := N.len
    have each : ∀ e ∈ ars, Inn n e.1 ∧ Inn n e.2 := fun e he => by
      obtain ⟨x, hx, t, rfl, ht⟩ := paired_mem AR he
      obtain ⟨t2, a2, b2, e2, h2, q1, q2⟩ := N.arr _ hx
      cases e2
      rw [ht] at h2
      have h2 := HO.tup.inj (Option.some.inj h2)
      cases h2
      exact ⟨q1, q2⟩
    have al : ∀ e ∈ ars, (arrL e).length ≤ 6 := fun e he => by
      obtain ⟨⟨a1, a2⟩, b1, b2⟩ := each e he
      have := figsI_len a1 (by omega)
      have := figsI_len b1 (by omega)
      unfold arrL
      rw [List.length_append, List.length_append, List.length_append, List.length_singleton, List.length_singleton]
      omega
    have tk : ∀ {i : Nat} {e : Int × Int}, ars[i]? = some e → (ars.map arrL).take (i + 1) = (ars.map arrL).take i ++ [arrL e] := fun {i e} h => by
      rw [List.take_add_one, List.getElem?_map, h]
      rfl
    refine ⟨⟨_, rfl⟩, _, rfl, b, rfl, ⟨_, SqT.of N.b⟩, fun D nD => ?_⟩
    refine lc_it (te := fun σ H Q => tJs [tC (.str (Str.ofString " ")), tFmt (tVar 3), tC (.str (Str.ofString ">")), tFmt (tVar 4)] Str.empty σ H fun out H1 => Q (.str out) H1) (walk_tup (xs := ts)) (fun i H' => H' D = some (.lst ((((ars.map arrL).take i).map S).map V.str)) ∧ Same H H') ⟨upd_same, same_new nD⟩ (fun i H' _ h => SqT.of (h.2 _ _ N.b)) ?_ ?_
    · rintro i x Hb Ha hi ⟨h1, h2⟩ ⟨rfl, ex⟩
      obtain ⟨e, t, he, rfl, ht⟩ := AR.at ex
      have me := List.mem_of_getElem? he
      obtain ⟨⟨a1, a2⟩, b1, b2⟩ := each e me
      have f1 := figsI_len a1 (by omega)
      have f2 := figsI_len b1 (by omega)
      have g1 : e.1.natAbs.log2 < 1920 := Nat.lt_of_le_of_lt (Nat.log2_le_self _) (by omega)
      have g2 : e.2.natAbs.log2 < 1920 := Nat.lt_of_le_of_lt (Nat.log2_le_self _) (by omega)
      refine ⟨t, _, rfl, SqT.of (h2 _ _ ht), rfl, _, _, rfl, _, _, rfl, rfl, ?_⟩
      refine ⟨rfl, ?_⟩
      dsimp only [tYes]
      rw [if_pos rfl]
      have z1 : Str.empty ++ Str.ofString " " = S [32] := rfl
      have z2 : Str.empty ++ Str.ofString " " ++ Str.ofString (toString e.1) = S ([32] ++ figsI e.1) := by rw [z1, figsI_S, S_cat]
      have z3 : Str.empty ++ Str.ofString " " ++ Str.ofString (toString e.1) ++ Str.ofString ">" = S ([32] ++ figsI e.1 ++ [62]) := by
        rw [z2, show Str.ofString ">" = S [62] from rfl, S_cat]
      have z4 : Str.empty ++ Str.ofString " " ++ Str.ofString (toString e.1) ++ Str.ofString ">" ++ Str.ofString (toString e.2) = S (arrL e) := by
        rw [z3, figsI_S, S_cat]
        rfl
      have al := al e me
      refine ⟨_, rfl, ?_, _, rfl, .inr ⟨e.1, rfl, g1, _, rfl, ?_, _, rfl, ?_, _, rfl, .inr ⟨e.2, rfl, g2, _, rfl, ?_, ?_⟩⟩⟩
      · rw [z1, S_len]
        decide
      · rw [z2, S_len, sizeLine_eq, List.length_append, List.length_singleton]
        omega
      · rw [z3, S_len, sizeLine_eq, List.length_append, List.length_append, List.length_singleton, List.length_singleton]
        omega
      · rw [z4, S_len, sizeLine_eq]
        omega
      rw [z4]
      refine ⟨_, h1, ?_, ?_, fun c o ec => ?_⟩
      · rw [List.length_map, List.length_map, List.length_take, List.length_map, sizeLine_eq]
        omega
      · rw [upd_same, tk he, List.map_append, List.map_append]
        rfl
      · rw [upd_ne (ne_of_none ec nD)]
        exact h2 _ _ ec
    · rintro Ha ⟨h1, h2⟩
      rw [ll, List.take_of_length_le (by rw [List.length_map]; exact Nat.le_refl _)] at h1
      have sum : ∀ l : List (Int × Int), (∀ e ∈ l, (arrL e).length ≤ 6) → (((l.map arrL).map S).map (·.length)).sum ≤ l.length * 6 ∧ ((l.map arrL).flatten).length ≤ l.length * 6 := by
        intro l
        induction l with
        | nil => exact fun _ => ⟨Nat.le_refl _, Nat.le_refl _⟩
        | cons e r ih =>
          intro h
          obtain ⟨i1, i2⟩ := ih fun x hx => h x (List.mem_cons_of_mem _ hx)
          have := h e List.mem_cons_self
          refine ⟨?_, ?_⟩
          · rw [List.map_cons, List.map_cons, List.map_cons, List.sum_cons, S_len, List.length_cons]
            omega
          · rw [List.map_cons, List.flatten_cons, List.length_append, List.length_cons]
            omega
      obtain ⟨s1, s2⟩ := sum ars al
      have ej : Txt.join (Str.ofString "") ((ars.map arrL).map S) = S (ars.map arrL).flatten := by
        show Txt.join (S []) _ = _
        rw [join_S]
        rw [joinL_nil]
      refine ⟨_, D, (ars.map arrL).map S, rfl, rfl, .inl (SqL.of h1), ?_, ?_⟩
      · rw [List.length_map, List.length_map]
        show _ + _ * 0 ≤ _
        omega
      rw [ej]
      have z5 : Str.empty ++ Str.ofString (toString n) ++ Str.ofString ":" = S (figsI n ++ [58]) := by
        rw [figsI_S]
        show S [] ++ S (figsI n) ++ S [58] = _
        rw [S_cat, S_cat, List.nil_append]
      rw [z5]
      refine ⟨_, _, rfl, rfl, ?_, ?_⟩
      · rw [S_len, S_len, sizeLine_eq, List.length_append, List.length_singleton]
        omega
      · rw [S_cat]
        exact k Ha h2
end
end Sw
namespace Sw
open PySem PySem.Spec PyProof.Rows L2 SX
/-! ### read_net -/
abbrev sReadNet : Stmt := top 15
theorem scReadNet : FnScope ["value", "head", "words", "word", "net"] ["value"] (defScope sReadNet) := ⟨rfl, rfl, rfl, by decide +kernel, rfl, by decide +kernel, by decide +kernel⟩
def wordD (wd : List Nat) : D := .tup [numD (endsL wd).1, numD (endsL wd).2]
def netData (l : List Nat) : Option D := match TL.spl [32] 0 [] l with
  | [] => none
  | h :: ws => if h.getLast? = some 58 then some (.tup [numD (numL h.dropLast), .tup (ws.map wordD)]) else none
def Good (l : List Nat) (d : D) : Prop := netData l = some d ∧ IsErr d .non
theorem spl_cons : ∀ (l : List Nat) (k : Nat) (acc : List Nat), ∃ h ws, TL.spl [32] k acc l = h :: ws
  | [], k, acc => ⟨acc, [], TL.spl_nil _ _ _⟩
  | c :: r, 0, acc => by
    by_cases z : TL.pre [32] (c :: r) = true
    · rw [TL.spl_hit z]
      exact ⟨_, _, rfl⟩
    · show ∃ h ws, (if TL.pre [32] (c :: r) = true then acc :: TL.spl [32] ([32].length - 1) [] r else TL.spl [32] 0 (acc ++ [c]) r) = h :: ws
      rw [if_neg z]
      exact spl_cons r 0 _
  | c :: r, k + 1, acc => spl_cons r k acc
theorem spl_len (l : List Nat) : (TL.spl [32] 0 [] l).length ≤ l.length + 2 := by
  have := PyProof.Rows.split_le (S l) (S [32])
  rw [split_S (by decide) (by decide), List.length_map, S_len] at this
  exact this
theorem spl_part : ∀ (l : List Nat) (k : Nat) (acc : List Nat), ∀ p ∈ TL.spl [32] k acc l, p.length ≤ acc.length + l.length
  | [], k, acc, p, hp => by
    rw [TL.spl_nil] at hp
    rw [List.mem_singleton.mp hp]
    omega
  | c :: r, 0, acc, p, hp => by
    by_cases z : TL.pre [32] (c :: r) = true
    · rw [TL.spl_hit z] at hp
      rcases List.mem_cons.mp hp with e | e
      · rw [e]; omega
      · have := spl_part r _ _ p e
        rw [List.length_nil] at this
        rw [List.length_cons]
        omega
    · have hp : p ∈ (if TL.pre [32] (c :: r) = true then acc :: TL.spl [32] ([32].length - 1) [] r else TL.spl [32] 0 (acc ++ [c]) r) := hp
      rw [if_neg z] at hp
      have := spl_part r _ _ p hp
      rw [List.length_append, List.length_singleton] at this
      rw [List.length_cons]
      omega
  | c :: r, k + 1, acc, p, hp => by
    have := spl_part r k acc p hp
    rw [List.length_cons]
    omega
theorem num_wt {o : Option Nat} (h : ∀ i, o = some i → i ≤ 12) : small (numD o) ∧ wt (numD o) ≤ 4 ∧ dep (numD o) = 0 := by
  cases o with
  | none => exact ⟨trivial, by simp [numD, wt], by simp [numD, dep]⟩
  | some i =>
    have := h i rfl
    obtain ⟨_, i2, i3, i4⟩ := int_ok (K := default) (H := fun _ => none) (i := (i : Int)) (w := 3) (k := 0) (by omega) (by decide) (by decide)
    exact ⟨i2, i3, by simp [numD, dep]⟩
theorem endsL_le (l : List Nat) : (∀ i, (endsL l).1 = some i → i ≤ 12) ∧ ∀ i, (endsL l).2 = some i → i ≤ 12 := by
  unfold endsL
  split
  · exact ⟨fun i h => (numL_some (l := _) h).2, fun i h => (numL_some (l := _) h).2⟩
  · exact ⟨fun i h => (numL_some (l := l) h).2, fun i h => (numL_some (l := []) h).2⟩
theorem word_wt (wd : List Nat) : small (wordD wd) ∧ wt (wordD wd) ≤ 15 ∧ dep (wordD wd) ≤ 1 := by
  obtain ⟨a, b⟩ := endsL_le wd
  obtain ⟨a1, a2, a3⟩ := num_wt a
  obtain ⟨b1, b2, b3⟩ := num_wt b
  unfold wordD
  refine ⟨?_, ?_, ?_⟩
  · simp only [small, smallAll]
    exact ⟨a1, b1, trivial⟩
  · simp only [wt, wtAll]
    omega
  · simp only [dep, depAll]
    omega
theorem words_wt : ∀ ws : List (List Nat), smallAll (ws.map wordD) ∧ wtAll (ws.map wordD) ≤ ws.length * 17 ∧ depAll (ws.map wordD) ≤ 1
  | [] => ⟨by simp [smallAll], by simp [wtAll], by simp [depAll]⟩
  | wd :: r => by
    obtain ⟨h1, h2, h3⟩ := words_wt r
    obtain ⟨g1, g2, g3⟩ := word_wt wd
    refine ⟨?_, ?_, ?_⟩
    · rw [List.map_cons, smallAll]
      exact ⟨g1, h1⟩
    · rw [List.map_cons, wtAll, List.length_cons]
      omega
    · rw [List.map_cons, depAll]
      omega
section
variable {K : PySem.W.Frag} {H : Hp}
theorem num_rep (o : Option Nat) : Rep K H (numD o) (numV o) [] := by
  cases o <;> simp [numD, numV, Rep]
theorem repAll_nil : RepAll K H [] [] [] := by simp [RepAll]
theorem repAll_cat : ∀ {ds es : List D} {xs ys : List V} {as bs : List Addr}, RepAll K H ds xs as → RepAll K H es ys bs → RepAll K H (ds ++ es) (xs ++ ys) (as ++ bs)
  | [], es, xs, ys, as, bs, h, g => by
    simp only [RepAll] at h
    obtain ⟨rfl, rfl⟩ := h
    exact g
  | d :: ds, es, xs, ys, as, bs, h, g => by
    rw [RepAll] at h
    obtain ⟨x, r, b1, b2, rfl, h1, h2, rfl⟩ := h
    rw [List.cons_append, List.append_assoc]
    show RepAll K H (d :: (ds ++ es)) (x :: (r ++ ys)) _
    rw [RepAll]
    exact ⟨x, r ++ ys, b1, b2 ++ bs, rfl, h1, repAll_cat h2 g, rfl⟩
theorem repAll_one {d : D} {x : V} {as : List Addr} (h : Rep K H d x as) : RepAll K H [d] [x] as := by
  rw [RepAll]
  exact ⟨x, [], as, [], rfl, h, repAll_nil, (List.append_nil _).symm⟩
theorem word_rep {p : Addr} {wd : List Nat} (h : H p = some (.tup [numV (endsL wd).1, numV (endsL wd).2])) : Rep K H (wordD wd) (.ref p) [p] := by
  unfold wordD
  rw [Rep]
  refine ⟨p, _, [], rfl, h, ?_, by simp, rfl⟩
  rw [RepAll]
  exact ⟨_, _, [], [], rfl, num_rep _, repAll_one (num_rep _), rfl⟩
end
section
variable {P : Program} {w : World} {K : PySem.W.Frag} {mg : Str → Option Value} {base : Heap} {C S' : Addr}
def spReadNet (K : PySem.W.Frag) (C : Addr) : Sp := fun vs H Q E => ∃ (x : V) (d : D) (as : List Addr), vs = [x] ∧ Rep K H d x as ∧ (∀ l : List Nat, d = .str (S l) → l.length ≤ 100000) ∧
  ((∀ l dd, d = .str (S l) → ¬ Good l dd) → ∀ H', Same H H' → E (.ref C) none H') ∧
  (∀ l dd, d = .str (S l) → Good l dd → ∀ (q : Addr) (bs : List Addr) (H' : Hp), Same H H' → Rep K H' dd (.ref q) bs → Q (.ref q) H')
theorem ok_readNet {f : Addr} {fd : FuncData} (F : Fun K "read_net" "read_net" sReadNet f fd) (B : NoNames mg) (U : UErr K mg "BadText" "SwapError" C S')
    (ON : Own P w K mg base 1 "number_in" ["word"] spNumIn) (OE : Own P w K mg base 2 "ends_in" ["word"] spEndsIn) (OR : Own P w K mg base 4 "net_error" ["value"] (spError K)) : FnOk P w K mg base (L2.CX P w) 5 f fd ["value"] (spReadNet K C) := by
  obtain ⟨fN, fdN, GN, mN, kN, bN⟩ := ON.ex
  obtain ⟨fE, fdE, GE, mE, kE, bE⟩ := OE.ex
  obtain ⟨fR, fdR, GR, mR, kR, bR⟩ := OR.ex
  refine F.okX scReadNet (fun vs H Q E h => ?_) (fun cdv A outer s H vs Q E hr h => ?_)
  · obtain ⟨x, d, as, rfl, _⟩ := h
    rfl
  · obtain ⟨x, d, as, rfl, hd, hlen, k1, k2⟩ := h
    have hr1 : Room 1 _ := hr.mono (by decide)
    have hr2 : Room 2 _ := hr.mono (by decide)
    have hr4 : Room 4 _ := hr.mono (by decide)
    refine ⟨_, pss_cons (ps_if (pt_not (pt_val (pe_isi (i := 0) (TN := "str") rfl (Or.inl rfl) (by decide) (by decide) B.isi B.str rfl rfl (by decide +kernel) (by decide) (by decide)))) (pss_one (ps_raise rfl (takes_of rfl rfl rfl rfl) (U.mk0 rfl))) pss_nil) <|
      pss_cons (ps_asg (pe_split (pv 0) pe_str) (pg_head (by rfl) (pgs_cons (pg_name (i := 1) scReadNet.nd rfl (.inl rfl)) (pgs_star (pg_name (i := 2) scReadNet.nd rfl (.inl rfl)))))) <|
      pss_cons (ps_if (pt_not (pt_val (pe_m1 PySem.F.slot_str_endswith PySem.F.type_str_endswith mt_endswith (pv 1) pe_str rfl rfl rfl))) (pss_one (ps_raise rfl (takes_of rfl rfl rfl rfl) (U.mk0 rfl))) pss_nil) <|
      pss_cons (ps_set (i := 4) scReadNet.nd rfl (.inl rfl) (pe_tup (pa_cons (pe_call GN hr1 rfl mN kN bN .nil pass0 (pa_cons (pe_slice sl_str (pv 1) po_none (po_some (pe_un un_neg pe_int))) pa_nil))
        (pa_cons (pe_callTy call_tuple_of (by rfl) B.tuple (by decide +kernel) (pa_cons (pe_lc (own := [("word", 3)]) (g := gName 3) (tt := tYes) rfl scReadNet.nd (pi_list (pv 2)) (blkOk_by (own := [("word", 3)]) (N := ["value", "head", "words", "word", "net"]) (sc := defScope sReadNet) (by decide +kernel))
          (fun _ _ _ _ _ => pg_name (i := 3) scReadNet.nd rfl (Or.inl rfl)) (fun _ _ _ _ _ => pts_nil) (fun _ _ _ _ _ => pe_call GE hr2 rfl mE kE bE .nil pass0 (pa_cons (pv 3) pa_nil))) pa_nil)) pa_nil)))) <|
      pss_cons (ps_if (pt_cmpR op_notN (pe_call GR hr4 rfl mR kR bR .nil pass0 (pa_cons (pv 4) pa_nil)) pe_non (nomark _)) (pss_one (ps_raise rfl (takes_of rfl rfl rfl rfl) (U.mk0 rfl))) pss_nil) <|
      pss_one (ps_ret (pv 4)), ?_⟩
    refine ⟨_, rfl, x, d, as, "str", rfl, by decide, hd, _, rfl, ?_⟩
    cases e : isT "str" d with
    | false =>
      refine iteT (k1 (fun l dd z => ?_) H (Same.refl H))
      rw [z] at e
      cases e
    | true =>
      obtain ⟨z, rfl⟩ : ∃ z, d = .str z := by cases d <;> first | exact ⟨_, rfl⟩ | (cases e)
      simp only [Rep] at hd
      obtain ⟨rfl, rfl⟩ := hd
      obtain ⟨l, rfl⟩ : ∃ l, z = S l := ⟨z.cps.toList, (S_tl z).symm⟩
      have ll := hlen l rfl
      clear e hlen
      refine iteF ?_
      obtain ⟨hh, ws, ep⟩ := spl_cons l 0 []
      have le := spl_len l
      rw [ep, List.length_cons] at le
      have lp := spl_part l 0 []
      rw [ep] at lp
      have lh : hh.length ≤ l.length := by
        have := lp hh List.mem_cons_self
        rw [List.length_nil] at this
        omega
      refine ⟨_, rfl, ⟨_, rfl⟩, S l, S [32], rfl, rfl, by decide, by rw [S_len, sizeLine_eq]; omega, fun sp nsp => ?_⟩
      rw [split_S (by decide) (by decide), ep]
      have s1 : Same H (upd H sp (.lst (((hh :: ws).map S).map V.str))) := same_new nsp
      refine ⟨sp, .str (S hh), (ws.map S).map V.str, rfl, SqL.of upd_same, fun wl nwl => ⟨_, _, rfl, _, _, rfl, rfl, ?_⟩⟩
      have s2 := s1.trans (same_new (o := .lst ((ws.map S).map V.str)) nwl)
      have hwl : (upd (upd H sp (.lst (((hh :: ws).map S).map V.str))) wl (.lst ((ws.map S).map V.str))) wl = some (.lst ((ws.map S).map V.str)) := upd_same
      clear s1 nsp nwl
      generalize (upd (upd H sp (.lst (((hh :: ws).map S).map V.str))) wl (.lst ((ws.map S).map V.str))) = H1 at s2 hwl ⊢
      refine ⟨_, rfl, ⟨_, rfl⟩, S hh, S [58], rfl, rfl, _, rfl, ?_⟩
      rw [ends58]
      cases e5 : decide (hh.getLast? = some 58) with
      | false =>
        have ne := of_decide_eq_false e5
        refine iteT ?_
        show E (.ref C) none H1
        refine k1 (fun l' dd z gd => ?_) H1 s2
        obtain rfl := S_inj (D.str.inj z)
        have g1 := gd.1
        unfold netData at g1
        rw [ep] at g1
        dsimp only at g1
        rw [if_neg ne] at g1
        cases g1
      | true =>
        have ye := of_decide_eq_true e5
        refine iteF ?_
        have ed : netData l = some (.tup [numD (numL hh.dropLast), .tup (ws.map wordD)]) := by
          unfold netData
          rw [ep]
          dsimp only
          rw [if_pos ye]
        have dl : hh.dropLast.length ≤ 1000000 := by
          rw [List.length_dropLast]
          omega
        refine ⟨_, rfl, 1, rfl, -1, rfl, S hh, rfl, by rw [S_len, sizeLine_eq]; omega, ?_⟩
        rw [cut1]
        refine ⟨hh.dropLast, rfl, _, rfl, wl, rfl, ⟨_, SqL.of hwl⟩, fun D nD => ?_⟩
        have tk : ∀ {i : Nat} {wd : List Nat}, ws[i]? = some wd → (ws.map wordD).take (i + 1) = (ws.map wordD).take i ++ [wordD wd] := fun {i wd} h => by
          rw [List.take_add_one, List.getElem?_map, h]
          rfl
        refine lc_it (walk_list (xs := (ws.map S).map V.str)) (fun i H' => ∃ (ys : List V) (bs : List Addr), H' D = some (.lst ys) ∧ ys.length = i ∧ Same H1 H' ∧ RepAll K H' ((ws.map wordD).take i) ys bs ∧ D ∉ bs) ⟨[], [], upd_same, rfl, same_new nD, by rw [List.take_zero]; exact repAll_nil, by simp⟩ (fun i H' _ h => by obtain ⟨_, _, _, _, h, _⟩ := h; exact SqL.of (h _ _ hwl)) ?_ ?_
        · rintro i x Hb Ha hi ⟨ys, bs, h1, h2, h3, h4, h5⟩ ⟨rfl, ex⟩
          rw [List.length_map, List.length_map] at hi
          rw [List.getElem?_map, List.getElem?_map, List.getElem?_eq_getElem hi] at ex
          obtain rfl := Option.some.inj ex
          have hw : ws[i]? = some ws[i] := List.getElem?_eq_getElem hi
          have lw := lp ws[i] (List.mem_cons_of_mem _ (List.getElem_mem hi))
          rw [List.length_nil] at lw
          refine ⟨rfl, ?_⟩
          dsimp only [tYes]
          rw [if_pos rfl]
          refine ⟨_, rfl, ws[i], rfl, by omega, fun p H2 s2' hp => ?_⟩
          have hD := s2' _ _ h1
          have dp : D ≠ p := fun z => by
            rw [z, hp] at hD
            cases hD
          refine ⟨ys, hD, ?_, ys ++ [.ref p], bs ++ [p], upd_same, by rw [List.length_append, h2]; rfl, fun c o ec => ?_, ?_, ?_⟩
          · rw [h2, sizeLine_eq]
            omega
          · rw [upd_ne (ne_of_none ec nD)]
            exact s2' _ _ (h3 _ _ ec)
          · rw [tk hw]
            have k0 : ∀ c ∈ bs, ∀ o, Ha c = some o → upd H2 D (.lst (ys ++ [.ref p])) c = some o := fun c hc o ec => by
              rw [upd_ne (fun z => h5 (by rw [← z]; exact hc))]
              exact s2' _ _ ec
            refine repAll_cat (h4.keep k0) (repAll_one (word_rep ?_))
            rw [upd_ne dp.symm]
            exact hp
          · rw [List.mem_append, not_or]
            exact ⟨h5, fun z => dp (List.mem_singleton.mp z)⟩
        rintro Ha ⟨ys, bs, h1, h2, h3, h4, h5⟩
        rw [List.length_map, List.length_map] at h2 h4
        rw [List.take_of_length_le (by rw [List.length_map]; exact Nat.le_refl _)] at h4
        obtain ⟨w1, w2, w3⟩ := words_wt ws
        obtain ⟨m1, m2, m3⟩ := num_wt (o := numL hh.dropLast) fun i h => (numL_some h).2
        refine ⟨D, _, rfl, .inl ⟨SqL.of h1, fun T nT => ?_⟩⟩
        have sT : Same Ha (upd Ha T (.tup ys)) := same_new nT
        have rT : Rep K (upd Ha T (.tup ys)) (.tup (ws.map wordD)) (.ref T) (T :: bs) := by
          rw [Rep]
          exact ⟨T, ys, bs, rfl, upd_same, h4.same sT, nmem h4 nT, rfl⟩
        refine ⟨by show 2 ≤ sizeLine; decide, fun N nN => ?_⟩
        have sN : Same (upd Ha T (.tup ys)) (upd (upd Ha T (.tup ys)) N (.tup [numV (numL hh.dropLast), .ref T])) := same_new nN
        have r2 : RepAll K (upd Ha T (.tup ys)) [numD (numL hh.dropLast), .tup (ws.map wordD)] [numV (numL hh.dropLast), .ref T] ([] ++ (T :: bs)) := repAll_cat (repAll_one (num_rep _)) (repAll_one rT)
        have rN : Rep K (upd (upd Ha T (.tup ys)) N (.tup [numV (numL hh.dropLast), .ref T])) (.tup [numD (numL hh.dropLast), .tup (ws.map wordD)]) (.ref N) (N :: ([] ++ (T :: bs))) := by
          rw [Rep]
          exact ⟨N, _, _, rfl, upd_same, r2.same sN, nmem r2 nN, rfl⟩
        have sA := (s2.trans h3).trans (sT.trans sN)
        generalize (upd (upd Ha T (.tup ys)) N (.tup [numV (numL hh.dropLast), .ref T])) = HN at rN sA ⊢
        generalize edd : (Sw.D.tup [numD (numL hh.dropLast), Sw.D.tup (ws.map wordD)]) = dd at rN ed
        have wdd : wt dd ≤ 10000000 := by
          rw [← edd]
          simp only [wt, wtAll]
          omega
        refine ⟨_, rfl, .ref N, dd, _, rfl, rN, wdd, fun r v bs' H3 er s3 rv _ _ _ _ => ⟨rfl, _, rfl, ?_⟩⟩
        have only : ∀ l' d', Sw.D.str (S l) = .str (S l') → Good l' d' → d' = dd ∧ IsErr dd .non := fun l' d' z gd => by
          obtain rfl := S_inj (Sw.D.str.inj z)
          have := gd.1.symm.trans ed
          have e := Option.some.inj this
          rw [e] at gd
          exact ⟨e, gd.2⟩
        by_cases ez : r = .non
        · subst ez
          simp only [Rep] at rv
          obtain ⟨rfl, _⟩ := rv
          refine iteF ⟨_, rfl, ?_⟩
          exact k2 l dd rfl ⟨ed, er⟩ N _ H3 (sA.trans s3) (rN.same s3)
        · have nv : v ≠ .non := fun z => by
            rw [z] at rv
            cases er with
            | form h => simp [Rep] at rv
            | arrow h hx hb ha => simp [Rep] at rv
            | order h ha hb hl => simp [Rep] at rv
            | fine h ha hl => exact ez rfl
          rw [decide_eq_false nv]
          refine iteT ?_
          show E (.ref C) none H3
          exact k1 (fun l' d' z gd => ez (er.det (only l' d' z gd).2)) H3 (sA.trans s3)
end
end Sw
namespace Sw
open PySem L2
/-! ### the numbers below m; whole numbers mixed; as data -/
/-- the numbers below m -/
def rgI (m : Nat) : List Int := (List.range m).map fun i => ((i : Nat) : Int)
theorem rgI_len (m : Nat) : (rgI m).length = m := by rw [rgI, List.length_map, List.length_range]
theorem rgV_rgI (m : Nat) : rgV 0 (m : Int) = (rgI m).map V.int := by
  unfold rgV rgI
  rw [List.map_map, Int.sub_zero, Int.toNat_natCast]
  refine List.map_congr_left fun i _ => ?_
  show V.int (0 + (i : Int)) = V.int (i : Int)
  rw [Int.zero_add]
theorem rgI_asc (m : Nat) : (rgI m).Pairwise (· < ·) := by
  unfold rgI
  refine List.pairwise_map.mpr (List.pairwise_lt_range.imp fun {a b} h => ?_)
  omega
theorem flat_ints (ns : List Int) : (ns.map V.int).all flatV = true := by
  refine List.all_eq_true.mpr fun x hx => ?_
  obtain ⟨n, _, rfl⟩ := List.mem_map.mp hx
  rfl
theorem rgI_mem {m : Nat} {x : Int} (h : x ∈ rgI m) : 0 ≤ x ∧ x < m := by
  obtain ⟨i, hi, rfl⟩ := List.mem_map.mp h
  have := List.mem_range.mp hi
  omega
theorem ints_rep {K : PySem.W.Frag} {H : Hp} : ∀ {os : List Int}, (∀ o ∈ os, 0 ≤ o ∧ o < 14) → RepAll K H (os.map D.int) (os.map V.int) [] ∧ smallAll (os.map D.int) ∧ wtAll (os.map D.int) ≤ os.length * 6 ∧ depAll (os.map D.int) = 0
  | [], _ => ⟨by simp [RepAll], by simp [smallAll], by simp [wtAll], by simp [depAll]⟩
  | o :: r, h => by
    obtain ⟨r1, r2, r3, r4⟩ := ints_rep (K := K) (H := H) (os := r) fun x hx => h x (List.mem_cons_of_mem _ hx)
    obtain ⟨h1, h2⟩ := h o (List.mem_cons_self ..)
    obtain ⟨i1, i2, i3, i4⟩ := int_ok (K := K) (H := H) (i := o) (w := 3) (k := 0) (by omega) (by decide) (by decide)
    refine ⟨?_, ?_, ?_, ?_⟩
    · simp only [List.map_cons, RepAll]
      exact ⟨_, _, [], [], rfl, i1, r1, rfl⟩
    · simp only [List.map_cons, smallAll]
      exact ⟨i2, r2⟩
    · simp only [List.map_cons, wtAll, List.length_cons]
      omega
    · simp only [List.map_cons, depAll]
      omega
theorem scMixed2 : FnScope ["deck", "items", "left", "found"] ["deck", "items"] (defScope sMixed) := ⟨rfl, rfl, rfl, by decide +kernel, rfl, by decide +kernel, by decide +kernel⟩
theorem erase_perm {l : List Int} {i : Nat} (h : i < l.length) : (l[i] :: l.eraseIdx i).Perm l := by
  induction l generalizing i with
  | nil => exact absurd h (Nat.not_lt_zero _)
  | cons a l ih =>
    cases i with
    | zero => exact .refl _
    | succ i =>
      have h2 : i < l.length := by simpa using h
      exact ((List.Perm.swap _ _ _).trans ((ih h2).cons a))
section
variable {P : Program} {w : World} {K : PySem.W.Frag} {mg : Str → Option Value} {base : Heap}
def spMixedP : Sp := fun vs H Q _ => ∃ (p d a : Addr) (ns : List Int), vs = [.ref p, .ref a] ∧ Deck H p d 63 ∧ H a = some (.lst (ns.map V.int)) ∧ ns.length < 1000000 ∧ ∀ (r : Addr) (ms : List Int) (H' : Hp), Deck H' p d 63 → Kp p d H H' → H r = none → H' r = some (.lst (ms.map V.int)) → ms.Perm ns → Q (.ref r) H'
theorem ok_mixedP {f : Addr} {fd : FuncData} (F : Fun K "_law_mixed" "_law_mixed" sMixed f fd) (B : NoNames mg) (O : Own P w K mg base 1 "_law_draw" ["deck", "many"] spDraw) : FnOk P w K mg base CX0 2 f fd ["deck", "items"] (spMixedP) := by
  obtain ⟨fD, fdD, GD, mD, kD, bD⟩ := O.ex
  refine F.ok scMixed2 (fun vs H Q E h => ?_) (fun cdv A outer s H vs Q E hr h => ?_)
  · obtain ⟨p, d, a, ns, rfl, _⟩ := h
    rfl
  · obtain ⟨p, d, a, ns, rfl, D, ha, hl, k⟩ := h
    refine ⟨_, pss_cons (ps_par (i := 2) (j := 3) rfl scMixed2.nd rfl rfl (by decide) rfl rfl (pa_cons (pe_callTy call_list_of (by rfl) B.list (by decide +kernel) (pa_cons (pv 1) pa_nil)) (pa_cons (pe_lst pa_nil) pa_nil)) (by rfl))
      (pss_cons (ps_while PassesOwn.never (pt_cmpR (op_neD hr.units) (pv 2) (pe_lst pa_nil) (nomark _))
        (pss_one (ps_expr (pe_bm PySem.F.plainAttrs_list PySem.F.slot_list_append PySem.F.type_list_append mt_append (pv 3)
          (pa_cons (pe_bm PySem.F.plainAttrs_list PySem.F.slot_list_pop PySem.F.type_list_pop mt_popAt (pv 2)
            (pa_cons (pe_call GD hr rfl mD kD bD .nil pass0 (pa_cons (pv 0) (pa_cons (pe_callB call_len_seq (by rfl) B.len PySem.boot_len (pa_cons (pv 2) pa_nil)) pa_nil))) pa_nil)) pa_nil)))))
      (pss_one (ps_ret (pv 3)))), ?_⟩
    refine ⟨_, rfl, a, _, rfl, .inl (SqL.of ha), fun l nl => ⟨by show 0 ≤ sizeLine; exact Nat.zero_le _, fun g ng => ⟨_, _, rfl, ?_⟩⟩⟩
    have s1 : Same H (L2.upd H l (.lst (ns.map V.int))) := same_new nl
    have s2 := s1.trans (same_new (o := .lst []) ng)
    have ngl : g ≠ l := fun z => by
      rw [z, upd_same] at ng
      cases ng
    refine ⟨fun m σ H' => ∃ ls fs : List Int, σ = [some (.ref p), some (.ref a), some (.ref l), some (.ref g)] ∧ Deck H' p d 63 ∧ Kp p d H H' ∧ H' l = some (.lst (ls.map V.int)) ∧ H' g = some (.lst (fs.map V.int)) ∧ l ≠ d ∧ g ≠ d ∧ ls.length = m ∧ (fs ++ ls).Perm ns,
      ⟨ns.length, ns, [], rfl, D.same s2, .of s2, by rw [upd_ne ngl.symm, upd_same], upd_same, (D.ne_none nl).2, (D.ne_none (s1.free ng)).2, rfl, .refl _⟩, ?_⟩
    rintro m σ H1 ⟨ls, fs, rfl, D1, k1, h1, h2, n1, n2, rfl, hpm⟩
    refine ⟨_, rfl, by show 0 ≤ sizeLine; exact Nat.zero_le _, fun e ne => ?_⟩
    have se : Same H1 (L2.upd H1 e (.lst [])) := same_new ne
    refine ⟨.list (ls.map PyData.int), .list [], .lst (SqL.of (se _ _ h1)) (dpInts ls), .lst (SqL.of upd_same) .nil, PySem.W.ke_shaped_ints ls, rfl, _, rfl, ?_⟩
    have D2 := D1.same se
    have k2 := k1.trans (.of se)
    have h1' := se _ _ h1
    have h2' := se _ _ h2
    have hlen : fs.length + ls.length = ns.length := by
      rw [← hpm.length_eq, List.length_append]
    generalize (L2.upd H1 e (.lst [])) = H2 at D2 k2 h1' h2' ⊢
    rw [eqv_nil]
    refine ite2 (fun y => ?_) (fun y => ?_)
    · have y : ls ≠ [] := of_decide_eq_true y
      have hpos : 0 < ls.length := List.length_pos_iff.mpr y
      refine ⟨fun σ' H' => ∃ m', m' < ls.length ∧ ∃ ls fs : List Int, σ' = [some (.ref p), some (.ref a), some (.ref l), some (.ref g)] ∧ Deck H' p d 63 ∧ Kp p d H H' ∧ H' l = some (.lst (ls.map V.int)) ∧ H' g = some (.lst (fs.map V.int)) ∧ l ≠ d ∧ g ≠ d ∧ ls.length = m' ∧ (fs ++ ls).Perm ns, fun _ _ h => h, ?_⟩
      refine ⟨_, rfl, .inl ⟨rfl, _, SqL.of h2'⟩, _, rfl, .inl ⟨rfl, _, SqL.of h1'⟩, _, rfl, _, rfl, l, ls.map V.int, rfl, .inl (SqL.of h1'), p, d, ((ls.map V.int).length : Int), rfl, D2, ?_, fun r H3 r0 r1 r2 D3 k3 => ?_⟩
      · rw [List.length_map]
        omega
      have h1 := k3 _ _ h1' (D2.kne h1') n1
      have h2 := k3 _ _ h2' (D2.kne h2') n2
      have np1 := D2.kne h1'
      have np2 := D2.kne h2'
      have hr : r < ((ls.map V.int).length : Int) := r1 (by rw [List.length_map]; omega)
      obtain ⟨i, rfl⟩ := Int.eq_ofNat_of_zero_le r0
      have hi : i < ls.length := by
        rw [List.length_map] at hr
        omega
      refine ⟨l, _, _, i, .int ls[i], rfl, rfl, h1, by omega, by omega, PySem.seqIndex_of r0 hr, ?_, ?_⟩
      · rw [List.getElem?_map, List.getElem?_eq_getElem hi]
        rfl
      rw [erase_map]
      refine ⟨g, fs.map V.int, _, rfl, rfl, by rw [upd_ne ngl]; exact h2, ?_, ?_⟩
      · rw [List.length_map, sizeLine_eq]
        omega
      have le : (ls.eraseIdx i).length + 1 = ls.length := by
        rw [List.length_eraseIdx_of_lt hi]
        omega
      refine ⟨(ls.eraseIdx i).length, by omega, ls.eraseIdx i, fs ++ [ls[i]], rfl, (D3.upd np1 n1).upd np2 n2, ?_, ?_, ?_, n1, n2, rfl, ?_⟩
      · intro b o e q1 q2
        rw [upd_ne (ne_of_none e (s1.free ng)), upd_ne (ne_of_none e nl)]
        exact k3 _ _ (k2 _ _ e q1 q2) q1 q2
      · rw [upd_ne ngl.symm, upd_same]
      · rw [upd_same, List.map_append]
        rfl
      · rw [List.append_assoc]
        exact ((erase_perm hi).append_left fs).trans hpm
    · have y : ls = [] := Classical.byContradiction fun q => y (decide_eq_true q)
      subst y
      rw [List.append_nil] at hpm
      exact ⟨_, rfl, k g fs H2 D2 k2 (s1.free ng) h2' hpm⟩
end
end Sw
namespace Sw
open PySem PySem.Spec PyProof.Rows L2 SX
/-! ### the law's text of a net -/
abbrev sLText : Stmt := top 24
theorem scLText : FnScope ["net", "v", "w"] ["net"] (defScope sLText) := ⟨rfl, rfl, rfl, by decide +kernel, rfl, by decide +kernel, by decide +kernel⟩
theorem arrL_le {n : Int} {H : Hp} {a b : Addr} {ts : List V} {ars : List (Int × Int)} (N : NetAt n H a b ts) (AR : ArsAt H ts ars) : (∀ e ∈ ars, Inn n e.1 ∧ Inn n e.2) ∧ ∀ e ∈ ars, (arrL e).length ≤ 6 := by
  have n2 := N.n2
  have each : ∀ e ∈ ars, Inn n e.1 ∧ Inn n e.2 := fun e he => by
    obtain ⟨x, hx, t, rfl, ht⟩ := paired_mem AR he
    obtain ⟨t2, a2, b2, e2, h2, q1, q2⟩ := N.arr _ hx
    cases e2
    rw [ht] at h2
    have h2 := HO.tup.inj (Option.some.inj h2)
    cases h2
    exact ⟨q1, q2⟩
  refine ⟨each, fun e he => ?_⟩
  obtain ⟨⟨a1, a2⟩, b1, b2⟩ := each e he
  have := figsI_len a1 (by omega)
  have := figsI_len b1 (by omega)
  unfold arrL
  rw [List.length_append, List.length_append, List.length_append, List.length_singleton, List.length_singleton]
  omega
theorem arrs_sum : ∀ l : List (Int × Int), (∀ e ∈ l, (arrL e).length ≤ 6) → (((l.map arrL).map S).map (·.length)).sum ≤ l.length * 6 ∧ ((l.map arrL).flatten).length ≤ l.length * 6
  | [], _ => ⟨Nat.le_refl _, Nat.le_refl _⟩
  | e :: r, h => by
    obtain ⟨i1, i2⟩ := arrs_sum r fun x hx => h x (List.mem_cons_of_mem _ hx)
    have := h e List.mem_cons_self
    refine ⟨?_, ?_⟩
    · rw [List.map_cons, List.map_cons, List.map_cons, List.sum_cons, S_len, List.length_cons]
      omega
    · rw [List.map_cons, List.flatten_cons, List.length_append, List.length_cons]
      omega
theorem textL_len {n : Int} {H : Hp} {a b : Addr} {ts : List V} {ars : List (Int × Int)} (N : NetAt n H a b ts) (AR : ArsAt H ts ars) : (textL n ars).length ≤ 1300 := by
  have ll := AR.len
  have lt := N.len
  have n1 := N.n1
  have n2 := N.n2
  have n3 := figsI_len (i := n) (by omega) (by omega)
  obtain ⟨s1, s2⟩ := arrs_sum ars (arrL_le N AR).2
  unfold textL
  rw [List.length_append, List.length_append, List.length_singleton]
  omega
section
variable {P : Program} {w : World} {K : PySem.W.Frag} {mg : Str → Option Value} {base : Heap}
theorem ok_lText {f : Addr} {fd : FuncData} (F : Fun K "_law_text" "_law_text" sLText f fd) (B : NoNames mg) : FnOk P w K mg base CX0 1 f fd ["net"] spNetText := by
  refine F.ok scLText (fun vs H Q E h => ?_) (fun cdv A outer s H vs Q E hr h => ?_)
  · obtain ⟨a, b, n, ts, ars, rfl, _⟩ := h
    rfl
  · obtain ⟨a, b, n, ts, ars, rfl, N, AR, k⟩ := h
    refine ⟨_, pss_one (ps_ret (pe_op op_add_str (pe_op op_add_str (pe_callTy call_str_int (by rfl) B.str (by decide +kernel) (pa_cons (pe_ix ix_tup (pv 0) pe_int (fun _ _ => rfl)) pa_nil)) pe_str)
        (pe_join pe_str (pe_lc (own := [("v", 1), ("w", 2)]) (g := gTup K 2 (gCons (gName 1) (gCons (gName 2) gNil))) (tt := tYes) rfl scLText.nd (pi_tup (pe_ix ix_tup (pv 0) pe_int (fun _ _ => rfl))) (blkOk_by (own := [("v", 1), ("w", 2)]) (N := ["net", "v", "w"]) (sc := defScope sLText) (by decide +kernel))
        (fun _ _ _ _ _ => pg_tup rfl (pgs_cons (pg_name (i := 1) scLText.nd rfl (Or.inl rfl)) (pgs_cons (pg_name (i := 2) scLText.nd rfl (Or.inl rfl)) pgs_nil))) (fun _ _ _ _ _ => pts_nil)
        (fun _ _ _ _ _ => pe_op op_add_str (pe_op op_add_str (pe_op op_add_str pe_str (pe_callTy call_str_int (by rfl) B.str (by decide +kernel) (pa_cons (pv 1) pa_nil))) pe_str) (pe_callTy call_str_int (by rfl) B.str (by decide +kernel) (pa_cons (pv 2) pa_nil))))))), ?_⟩
    have n1 := N.n1
    have n2 := N.n2
    have n3 := figsI_len (i := n) (by omega) (by omega)
    have lg : n.natAbs.log2 < 1920 := Nat.lt_of_le_of_lt (Nat.log2_le_self _) (by omega)
    have ll := AR.len
    have lt := N.len
    obtain ⟨each, al⟩ := arrL_le N AR
    obtain ⟨s1, s2⟩ := arrs_sum ars al
    have tk : ∀ {i : Nat} {e : Int × Int}, ars[i]? = some e → (ars.map arrL).take (i + 1) = (ars.map arrL).take i ++ [arrL e] := fun {i e} h => by
      rw [List.take_add_one, List.getElem?_map, h]
      rfl
    have z5 : Str.ofString (toString n) ++ Str.ofString ":" = S (figsI n ++ [58]) := by
      rw [figsI_S, show Str.ofString ":" = S [58] from rfl, S_cat]
    refine ⟨_, rfl, a, _, 0, .int n, rfl, rfl, SqT.of N.a, at_of (j := 0) rfl rfl, n, rfl, lg, _, _, rfl, rfl, ?_, ?_⟩
    · rw [figsI_S, S_len]
      show (figsI n).length + 1 ≤ sizeLine
      rw [sizeLine_eq]
      omega
    refine ⟨⟨_, rfl⟩, _, rfl, a, _, 1, .ref b, rfl, rfl, SqT.of N.a, at_of (j := 1) rfl rfl, b, rfl, ⟨_, SqT.of N.b⟩, fun D nD => ?_⟩
    refine lc_it (walk_tup (xs := ts)) (fun i H' => H' D = some (.lst ((((ars.map arrL).take i).map S).map V.str)) ∧ Same H H') ⟨upd_same, same_new nD⟩ (fun i H' _ h => SqT.of (h.2 _ _ N.b)) ?_ ?_
    · rintro i x Hb Ha hi ⟨h1, h2⟩ ⟨rfl, ex⟩
      obtain ⟨e, t, he, rfl, ht⟩ := AR.at ex
      have me := List.mem_of_getElem? he
      obtain ⟨⟨a1, a2⟩, b1, b2⟩ := each e me
      have f1 := figsI_len a1 (by omega)
      have f2 := figsI_len b1 (by omega)
      have g1 : e.1.natAbs.log2 < 1920 := Nat.lt_of_le_of_lt (Nat.log2_le_self _) (by omega)
      have g2 : e.2.natAbs.log2 < 1920 := Nat.lt_of_le_of_lt (Nat.log2_le_self _) (by omega)
      refine ⟨t, _, rfl, SqT.of (h2 _ _ ht), rfl, _, _, rfl, _, _, rfl, rfl, ?_⟩
      refine ⟨rfl, ?_⟩
      dsimp only [tYes]
      rw [if_pos rfl]
      have z1 : Str.ofString " " = S [32] := rfl
      have z2 : Str.ofString " " ++ Str.ofString (toString e.1) = S ([32] ++ figsI e.1) := by rw [z1, figsI_S, S_cat]
      have z3 : Str.ofString " " ++ Str.ofString (toString e.1) ++ Str.ofString ">" = S ([32] ++ figsI e.1 ++ [62]) := by
        rw [z2, show Str.ofString ">" = S [62] from rfl, S_cat]
      have z4 : Str.ofString " " ++ Str.ofString (toString e.1) ++ Str.ofString ">" ++ Str.ofString (toString e.2) = S (arrL e) := by
        rw [z3, figsI_S, S_cat]
        rfl
      have al := al e me
      refine ⟨_, rfl, e.1, rfl, g1, _, _, rfl, rfl, ?_, _, _, rfl, rfl, ?_, _, rfl, e.2, rfl, g2, _, _, rfl, rfl, ?_, ?_⟩
      · rw [z1, figsI_S, S_len, S_len, sizeLine_eq, List.length_singleton]
        omega
      · rw [z2, S_len, List.length_append, List.length_singleton, sizeLine_eq]
        show _ + 1 ≤ _
        omega
      · rw [z3, figsI_S, S_len, S_len, List.length_append, List.length_append, List.length_singleton, List.length_singleton, sizeLine_eq]
        omega
      rw [z4]
      refine ⟨_, h1, ?_, ?_, fun c o ec => ?_⟩
      · rw [List.length_map, List.length_map, List.length_take, List.length_map, sizeLine_eq]
        omega
      · rw [upd_same, tk he, List.map_append, List.map_append]
        rfl
      · rw [upd_ne (ne_of_none ec nD)]
        exact h2 _ _ ec
    · rintro Ha ⟨h1, h2⟩
      rw [ll, List.take_of_length_le (by rw [List.length_map]; exact Nat.le_refl _)] at h1
      have ej : Txt.join (Str.ofString "") ((ars.map arrL).map S) = S (ars.map arrL).flatten := by
        show Txt.join (S []) _ = _
        rw [join_S]
        rw [joinL_nil]
      refine ⟨_, D, (ars.map arrL).map S, rfl, rfl, .inl (SqL.of h1), ?_, ?_⟩
      · rw [List.length_map, List.length_map]
        show _ + _ * 0 ≤ _
        omega
      rw [ej, z5]
      refine ⟨_, _, rfl, rfl, ?_, ?_⟩
      · rw [S_len, S_len, sizeLine_eq, List.length_append, List.length_singleton]
        omega
      · rw [S_cat]
        exact k Ha h2
end
end Sw
namespace Sw
open PySem PySem.Spec PyProof.Rows L2
/-- xs != [], xs a list of whatever -/
def rNeNil (K : PySem.W.Frag) : R2 := fun x y H Q => ∃ a b xs, x = .ref a ∧ y = .ref b ∧ SqL K H a xs ∧ SqL K H b [] ∧ Q (.bl (!xs.isEmpty)) H
theorem op_neNil {X : Cx} (hu : X.A.units < cLine) : OpR X (compareOp .NotEq) (rNeNil X.K) := by
  intro pins s σ H x y v u Q I rx ry h
  obtain ⟨a, b, xs, rfl, rfl, ha, hb, q⟩ := h
  cases rx
  cases ry
  obtain ⟨its, r1, p1, _⟩ := I.list ha
  obtain ⟨it2, r2, p2, _⟩ := I.list hb
  cases r2
  cases r1 with
  | nil => exact SeqAt.RcNeAt.lists (e := fun _ => true) p1.isList p2.isList rfl hu (fun j h1 _ => absurd h1 (by simp)) _ _ _ _ ⟨.bl false, H, I, rfl, q⟩
  | cons r t => exact SeqAt.RcNeAt.lists_lengths p1.isList p2.isList (by simp) hu _ _ _ _ ⟨.bl true, H, I, rfl, q⟩
theorem erase_permV {α : Type} {l : List α} {i : Nat} (h : i < l.length) : (l[i] :: l.eraseIdx i).Perm l := by
  induction l generalizing i with
  | nil => exact absurd h (Nat.not_lt_zero _)
  | cons a l ih =>
    cases i with
    | zero => exact .refl _
    | succ i =>
      have h2 : i < l.length := by simpa using h
      exact ((List.Perm.swap _ _ _).trans ((ih h2).cons a))
theorem scMixed3 : FnScope ["deck", "items", "left", "found"] ["deck", "items"] (defScope sMixed) := ⟨rfl, rfl, rfl, by decide +kernel, rfl, by decide +kernel, by decide +kernel⟩
section
variable {P : Program} {w : World} {K : PySem.W.Frag} {mg : Str → Option Value} {base : Heap}
/-- _law_draw of any number of which there are -/
def spDrawW : Sp := fun vs H Q _ => ∃ (p d : Addr) (m : Int), vs = [.ref p, .int m] ∧ Deck H p d 63 ∧ m < 1000000000000 ∧ ∀ (r : Int) (H' : Hp), 0 ≤ r → (1 ≤ m → r < m) → (m < 2 → r = 0) → Deck H' p d 63 → Kp p d H H' → Q (.int r) H'
theorem ok_drawW {f : Addr} {fd : FuncData} (F : Fun K "_law_draw" "_law_draw" sDraw f fd) (B : NoNames mg) : FnOk P w K mg base CX0 1 f fd ["deck", "many"] spDrawW := by
  refine F.ok scDraw (fun vs H Q E h => ?_) (fun cdv A outer s H vs Q E hr h => ?_)
  · obtain ⟨p, d, m, rfl, _⟩ := h
    rfl
  · obtain ⟨p, d, m, rfl, D, hm, k⟩ := h
    have hu := hu_of hr
    refine ⟨_, pss_cons (ps_if (pt_cmpR op_lt (pv 1) pe_int (nomark _)) (pss_one (ps_ret pe_int)) pss_nil)
      (pss_cons (ps_if (pt_cmpR (op_neD hr.units) (pe_dget hu (pv 0) pe_str (fun _ _ => rfl)) (pe_lst pa_nil) (nomark _))
        (pss_cons (ps_set (i := 2) scDraw.nd rfl (.inl rfl) (pe_bm0 PySem.F.plainAttrs_list PySem.F.slot_list_pop PySem.F.type_list_pop mt_pop (pe_dget hu (pv 0) pe_str (fun _ _ => rfl))))
        (pss_cons (ps_if (pt_cmpR op_ge (pv 2) (pv 1) (nomark _)) (pss_one (ps_expr (pe_bm PySem.F.plainAttrs_list PySem.F.slot_list_append PySem.F.type_list_append mt_append (pe_dget hu (pv 0) pe_str (fun _ _ => rfl)) (pa_cons (pe_op op_fdivW (pv 2) (pv 1)) pa_nil)))) pss_nil)
        (pss_one (ps_ret (pe_op op_mod (pe_callTy call_int1 (by rfl) B.int (by decide +kernel) (pa_cons (pv 2) pa_nil)) (pv 1)))))) pss_nil)
      (pss_cons (ps_set (i := 3) scDraw.nd rfl (.inl rfl) (pe_op op_mod (pe_callTy call_int1 (by rfl) B.int (by decide +kernel) (pa_cons (pe_op op_add (pe_op op_mul (pe_dget hu (pv 0) pe_str (fun _ _ => rfl)) pe_int) pe_int) pa_nil)) pe_int))
      (pss_cons (ps_dput hu (pv 0) pe_str (pv 3) rfl)
      (pss_cons (ps_set (i := 4) scDraw.nd rfl (.inl rfl) (pe_op op_mod (pe_callTy call_int1 (by rfl) B.int (by decide +kernel) (pa_cons (pe_op op_add (pe_op op_add (pe_op op_mul (pv 3) (pv 3)) (pe_op op_mul pe_int (pv 3))) pe_int) pa_nil)) pe_int))
      (pss_one (ps_ret (pe_op op_mod (pe_callTy call_int1 (by rfl) B.int (by decide +kernel) (pa_cons (pe_op op_fdiv (pv 4) pe_int) pa_nil)) (pv 1)))))))), ?_⟩
    obtain ⟨ns, st, hp, hd, hl, hn, hs1, hs2⟩ := id D.ex
    refine ⟨_, rfl, _, _, rfl, rfl, _, rfl, ?_⟩
    refine ite2 (fun z => ?_) (fun z => ?_)
    · have z : m < 2 := of_decide_eq_true z
      exact k 0 H (by decide) (fun _ => by omega) (fun _ => rfl) D .refl
    have z : ¬ m < 2 := fun q => z (decide_eq_true q)
    refine ⟨_, rfl, p, _, rfl, dget_deep hp, by show 0 ≤ sizeLine; exact Nat.zero_le _, fun e ne => ?_⟩
    have se : Same H (upd H e (.lst [])) := same_new ne
    refine ⟨.list (ns.map PyData.int), .list [], .lst (SqL.of (se _ _ hd)) (dpInts ns), .lst (SqL.of upd_same) .nil, PySem.W.ke_shaped_ints ns, rfl, _, rfl, ?_⟩
    rw [eqv_nil]
    refine ite2 (fun y => ?_) (fun y => ?_)
    · obtain ⟨n, ms, rfl, hlast, hdrop⟩ := last_ints (of_decide_eq_true y)
      have hn0 : 0 ≤ n := hn n (by simp)
      refine ⟨_, rfl, p, _, rfl, dget_deep (se _ _ hp), .inl ⟨rfl, _, SqL.of (se _ _ hd)⟩, d, _, _, rfl, rfl, se _ _ hd, hlast, ?_⟩
      rw [hdrop]
      have hpd := D.ne
      have h1 : (upd (upd H e (.lst [])) d (.lst (ms.map V.int))) p = some (.dK (deckL d st)) := by
        rw [upd_ne hpd]
        exact se _ _ hp
      have h2 : (upd (upd H e (.lst [])) d (.lst (ms.map V.int))) d = some (.lst (ms.map V.int)) := upd_same
      have h3 : Kp p d H (upd (upd H e (.lst [])) d (.lst (ms.map V.int))) := fun b o e n1 n2 => by
        rw [upd_ne n2]
        exact se _ _ e
      have hl' : ms.length + 1 ≤ 63 := by simpa using hl
      have hn' : ∀ x ∈ ms, 0 ≤ x := fun x hx => hn x (by simp [hx])
      generalize (upd (upd H e (.lst [])) d (.lst (ms.map V.int))) = H1 at h1 h2 h3 ⊢
      have D1 : Deck H1 p d 63 := ⟨ms, st, h1, h2, by omega, hn', hs1, hs2⟩
      refine ⟨_, rfl, _, rfl, _, _, rfl, rfl, _, rfl, ?_⟩
      refine ite2 (fun x => ?_) (fun x => ?_)
      · have x : m ≤ n := of_decide_eq_true x
        refine ⟨_, rfl, p, _, rfl, dget_deep h1, .inl ⟨rfl, _, SqL.of h2⟩, _, rfl, _, rfl, _, _, rfl, rfl, wide_div (b := 40) (by omega) (by omega) (by decide) (by decide), d, _, _, rfl, rfl, h2, ?_, ?_⟩
        · rw [List.length_map, sizeLine_eq]
          omega
        refine ⟨_, rfl, .inl ⟨_, rfl, _, rfl, _, _, rfl, rfl, by show 0 < m; omega, ?_⟩⟩
        refine k _ _ (Int.emod_nonneg _ (by omega)) (fun _ => Int.emod_lt_of_pos _ (by omega)) (fun y => absurd y (by omega)) ⟨ms ++ [n / m], st, ?_, ?_, ?_, ?_, hs1, hs2⟩ (h3.trans fun b o e n1 n2 => ?_)
        · rw [upd_ne hpd]
          exact h1
        · rw [upd_same, List.map_append]
          rfl
        · simp
          omega
        · intro x hx
          rcases List.mem_append.mp hx with q | q
          · exact hn' x q
          · rw [List.mem_singleton.mp q]
            exact Int.ediv_nonneg hn0 (by omega)
        · rw [upd_ne n2]
          exact e
      · refine ⟨_, rfl, .inl ⟨_, rfl, _, rfl, _, _, rfl, rfl, by show 0 < m; omega, ?_⟩⟩
        exact k _ _ (Int.emod_nonneg _ (by omega)) (fun _ => Int.emod_lt_of_pos _ (by omega)) (fun y => absurd y (by omega)) D1 h3
    · have D1 := D.same se
      generalize (upd H e (.lst [])) = H1 at se D1
      obtain ⟨ns, st, hp, hd, hl, hn, hs1, hs2⟩ := id D1.ex
      refine ⟨_, rfl, p, _, rfl, dget_state hp, _, _, rfl, rfl, .inl ⟨by omega, by omega⟩, _, _, rfl, rfl, ?_⟩
      refine .inl ⟨_, rfl, _, _, rfl, rfl, (by show (0 : Int) < 2305843009213693951; decide), ?_⟩
      dsimp only
      have o1 : 0 ≤ (st * 1181783497276652981 + 88172645463325) % 2305843009213693951 := Int.emod_nonneg _ (by decide)
      have o2 : (st * 1181783497276652981 + 88172645463325) % 2305843009213693951 < 2305843009213693951 := Int.emod_lt_of_pos _ (by decide)
      generalize (st * 1181783497276652981 + 88172645463325) % 2305843009213693951 = one at o1 o2 ⊢
      refine ⟨_, rfl, _, rfl, p, _, rfl, dput_state one hp, ?_⟩
      refine ⟨_, rfl, _, rfl, _, _, rfl, rfl, .inl ⟨by omega, by omega⟩, _, rfl, _, _, rfl, rfl, .inl ⟨by decide, by decide⟩, _, _, rfl, rfl, _, _, rfl, rfl, ?_⟩
      refine .inl ⟨_, rfl, _, _, rfl, rfl, (by show (0 : Int) < 2305843009213693921; decide), ?_⟩
      dsimp only
      generalize (one * one + 374761393 * one + 11) % 2305843009213693921 = two
      refine ⟨_, rfl, _, _, rfl, rfl, ⟨by decide, by decide⟩, ?_⟩
      refine .inl ⟨_, rfl, _, rfl, _, _, rfl, rfl, by show 0 < m; omega, ?_⟩
      refine k _ _ (Int.emod_nonneg _ (by omega)) (fun _ => Int.emod_lt_of_pos _ (by omega)) (fun y => absurd y (by omega)) ⟨ns, one, upd_same, ?_, hl, hn, o1, by omega⟩ (fun b o e n1 n2 => ?_)
      · rw [upd_ne (D1.ne).symm]
        exact hd
      · rw [upd_ne n1]
        exact se _ _ e
/-- _law_mixed of a list of whatever -/
def spMixedV : Sp := fun vs H Q _ => ∃ (p d a : Addr) (ns : List V), vs = [.ref p, .ref a] ∧ Deck H p d 63 ∧ H a = some (.lst ns) ∧ ns.length < 1000000 ∧ ∀ (r : Addr) (ms : List V) (H' : Hp), Deck H' p d 63 → Kp p d H H' → H r = none → H' r = some (.lst ms) → ms.Perm ns → Q (.ref r) H'
theorem ok_mixedV {f : Addr} {fd : FuncData} (F : Fun K "_law_mixed" "_law_mixed" sMixed f fd) (B : NoNames mg) (O : Own P w K mg base 1 "_law_draw" ["deck", "many"] spDraw) : FnOk P w K mg base CX0 2 f fd ["deck", "items"] (spMixedV) := by
  obtain ⟨fD, fdD, GD, mD, kD, bD⟩ := O.ex
  refine F.ok scMixed3 (fun vs H Q E h => ?_) (fun cdv A outer s H vs Q E hr h => ?_)
  · obtain ⟨p, d, a, ns, rfl, _⟩ := h
    rfl
  · obtain ⟨p, d, a, ns, rfl, D, ha, hl, k⟩ := h
    refine ⟨_, pss_cons (ps_par (i := 2) (j := 3) rfl scMixed3.nd rfl rfl (by decide) rfl rfl (pa_cons (pe_callTy call_list_of (by rfl) B.list (by decide +kernel) (pa_cons (pv 1) pa_nil)) (pa_cons (pe_lst pa_nil) pa_nil)) (by rfl))
      (pss_cons (ps_while PassesOwn.never (pt_cmpR (op_neNil hr.units0) (pv 2) (pe_lst pa_nil) (nomark _))
        (pss_one (ps_expr (pe_bm PySem.F.plainAttrs_list PySem.F.slot_list_append PySem.F.type_list_append mt_append (pv 3)
          (pa_cons (pe_bm PySem.F.plainAttrs_list PySem.F.slot_list_pop PySem.F.type_list_pop mt_popAt (pv 2)
            (pa_cons (pe_call GD hr rfl mD kD bD .nil pass0 (pa_cons (pv 0) (pa_cons (pe_callB call_len_seq (by rfl) B.len PySem.boot_len (pa_cons (pv 2) pa_nil)) pa_nil))) pa_nil)) pa_nil)))))
      (pss_one (ps_ret (pv 3)))), ?_⟩
    refine ⟨_, rfl, a, _, rfl, .inl (SqL.of ha), fun l nl => ⟨by show 0 ≤ sizeLine; exact Nat.zero_le _, fun g ng => ⟨_, _, rfl, ?_⟩⟩⟩
    have s1 : Same H (L2.upd H l (.lst ns)) := same_new nl
    have s2 := s1.trans (same_new (o := .lst []) ng)
    have ngl : g ≠ l := fun z => by
      rw [z, upd_same] at ng
      cases ng
    refine ⟨fun m σ H' => ∃ ls fs : List V, σ = [some (.ref p), some (.ref a), some (.ref l), some (.ref g)] ∧ Deck H' p d 63 ∧ Kp p d H H' ∧ H' l = some (.lst ls) ∧ H' g = some (.lst fs) ∧ l ≠ d ∧ g ≠ d ∧ ls.length = m ∧ (fs ++ ls).Perm ns,
      ⟨ns.length, ns, [], rfl, D.same s2, .of s2, by rw [upd_ne ngl.symm, upd_same], upd_same, (D.ne_none nl).2, (D.ne_none (s1.free ng)).2, rfl, .refl _⟩, ?_⟩
    rintro m σ H1 ⟨ls, fs, rfl, D1, k1, h1, h2, n1, n2, rfl, hpm⟩
    refine ⟨_, rfl, by show 0 ≤ sizeLine; exact Nat.zero_le _, fun e ne => ?_⟩
    have se : Same H1 (L2.upd H1 e (.lst [])) := same_new ne
    refine ⟨l, e, ls, rfl, rfl, SqL.of (se _ _ h1), SqL.of upd_same, _, rfl, ?_⟩
    have D2 := D1.same se
    have k2 := k1.trans (.of se)
    have h1' := se _ _ h1
    have h2' := se _ _ h2
    have hlen : fs.length + ls.length = ns.length := by
      rw [← hpm.length_eq, List.length_append]
    generalize (L2.upd H1 e (.lst [])) = H2 at D2 k2 h1' h2' ⊢
    refine ite2 (fun y => ?_) (fun y => ?_)
    · have y : ls ≠ [] := fun z => by rw [z] at y; cases y
      have hpos : 0 < ls.length := List.length_pos_iff.mpr y
      refine ⟨fun σ' H' => ∃ m', m' < ls.length ∧ ∃ ls fs : List V, σ' = [some (.ref p), some (.ref a), some (.ref l), some (.ref g)] ∧ Deck H' p d 63 ∧ Kp p d H H' ∧ H' l = some (.lst ls) ∧ H' g = some (.lst fs) ∧ l ≠ d ∧ g ≠ d ∧ ls.length = m' ∧ (fs ++ ls).Perm ns, fun _ _ h => h, ?_⟩
      refine ⟨_, rfl, .inl ⟨rfl, _, SqL.of h2'⟩, _, rfl, .inl ⟨rfl, _, SqL.of h1'⟩, _, rfl, _, rfl, l, ls, rfl, .inl (SqL.of h1'), p, d, (ls.length : Int), rfl, D2, ?_, fun r H3 r0 r1 r2 D3 k3 => ?_⟩
      · omega
      have h1 := k3 _ _ h1' (D2.kne h1') n1
      have h2 := k3 _ _ h2' (D2.kne h2') n2
      have np1 := D2.kne h1'
      have np2 := D2.kne h2'
      have hr : r < (ls.length : Int) := r1 (by omega)
      obtain ⟨i, rfl⟩ := Int.eq_ofNat_of_zero_le r0
      have hi : i < ls.length := by omega
      refine ⟨l, _, _, i, ls[i], rfl, rfl, h1, by omega, by omega, PySem.seqIndex_of r0 hr, ?_, ?_⟩
      · exact List.getElem?_eq_getElem hi
      refine ⟨g, fs, _, rfl, rfl, by rw [upd_ne ngl]; exact h2, ?_, ?_⟩
      · rw [sizeLine_eq]
        omega
      have le : (ls.eraseIdx i).length + 1 = ls.length := by
        rw [List.length_eraseIdx_of_lt hi]
        omega
      refine ⟨(ls.eraseIdx i).length, by omega, ls.eraseIdx i, fs ++ [ls[i]], rfl, (D3.upd np1 n1).upd np2 n2, ?_, ?_, ?_, n1, n2, rfl, ?_⟩
      · intro b o e q1 q2
        rw [upd_ne (ne_of_none e (s1.free ng)), upd_ne (ne_of_none e nl)]
        exact k3 _ _ (k2 _ _ e q1 q2) q1 q2
      · rw [upd_ne ngl.symm, upd_same]
      · exact upd_same
      · rw [List.append_assoc]
        exact ((erase_permV hi).append_left fs).trans hpm
    · have y : ls = [] := by
        cases ls with
        | nil => rfl
        | cons _ _ => exact absurd rfl y
      subst y
      rw [List.append_nil] at hpm
      exact ⟨_, rfl, k g fs H2 D2 k2 (s1.free ng) h2' hpm⟩
end
end Sw
namespace Sw
open PySem PySem.Spec PyProof.Rows L2 SX
/-! ### the law's number of one or two figures -/
abbrev sLNum : Stmt := top 25
theorem scLNum : FnScope ["figures", "sign"] ["figures"] (defScope sLNum) := ⟨rfl, rfl, rfl, by decide +kernel, rfl, by decide +kernel, by decide +kernel⟩
def isFig (c : Nat) : Bool := decide (48 ≤ c) && decide (c ≤ 57)
def lnum (l : List Nat) : Int := if (l.length = 1 ∨ l.length = 2) ∧ l.all isFig = true then (if l.length = 2 ∧ l[0]? = some 48 then -1 else (l.foldl (fun n c => 10 * n + (c - 48)) 0 : Nat)) else -1
theorem figs_all : "0123456789" = "0123456789" := rfl
theorem fig_in (c : Nat) : decide (c ∈ (Str.ofString "0123456789").cps.toList) = isFig c := by
  have e : (Str.ofString "0123456789").cps.toList = [48, 49, 50, 51, 52, 53, 54, 55, 56, 57] := by decide +kernel
  rw [e]
  unfold isFig
  by_cases h : 48 ≤ c ∧ c ≤ 57
  · rw [decide_eq_true h.1, decide_eq_true h.2, decide_eq_true]
    · rfl
    · simp only [List.mem_cons, List.not_mem_nil, or_false]
      omega
  · have : ¬ c ∈ [48, 49, 50, 51, 52, 53, 54, 55, 56, 57] := fun z => by
      simp only [List.mem_cons, List.not_mem_nil, or_false] at z
      omega
    rw [decide_eq_false this]
    by_cases h1 : 48 ≤ c
    · rw [decide_eq_true h1, decide_eq_false (fun z => h ⟨h1, z⟩)]
      rfl
    · rw [decide_eq_false h1]
      rfl
theorem int1 : ∀ a, a < 10 → PySem.intText? (S [48 + a]) = some (a : Int) := by decide +kernel
theorem int2 : ∀ a, a < 10 → ∀ b, b < 10 → PySem.intText? (S [48 + a, 48 + b]) = some ((10 * a + b : Nat) : Int) := by decide +kernel
theorem small1 : ∀ a, a < 10 → figs a = [48 + a] := by decide +kernel
theorem small2 : ∀ b, b < 3 → figs (10 + b) = [49, 48 + b] := by decide +kernel
theorem figs_num : ∀ i, i < 13 → lnum (figs i) = (i : Int) := by decide +kernel
theorem two_list {l : List Nat} (h : l.length = 1 ∨ l.length = 2) (f : l.all isFig = true) : (∃ a, a < 10 ∧ l = [48 + a]) ∨ ∃ a b, a < 10 ∧ b < 10 ∧ l = [48 + a, 48 + b] := by
  match l, h with
  | [c], _ =>
    simp only [List.all_cons, List.all_nil, isFig, Bool.and_eq_true, decide_eq_true_eq, Bool.and_true] at f
    exact .inl ⟨c - 48, by omega, by rw [show 48 + (c - 48) = c by omega]⟩
  | [c, d], _ =>
    simp only [List.all_cons, List.all_nil, isFig, Bool.and_eq_true, decide_eq_true_eq, Bool.and_true] at f
    exact .inr ⟨c - 48, d - 48, by omega, by omega, by rw [show 48 + (c - 48) = c by omega, show 48 + (d - 48) = d by omega]⟩
theorem lnum_num {l : List Nat} {i : Nat} (hi : i ≤ 12) : lnum l = (i : Int) ↔ numL l = some i := by
  constructor
  · intro h
    unfold lnum at h
    split at h
    · rename_i c
      split at h
      · omega
      · rename_i c2
        rcases two_list c.1 c.2 with ⟨a, ha, rfl⟩ | ⟨a, b, ha, hb, rfl⟩
        · have e : i = a := by
            simp at h
            omega
          subst e
          rw [← small1 i ha]
          exact numL_figs hi
        · have na : a ≠ 0 := fun z => c2 ⟨rfl, by rw [z]; rfl⟩
          have e : i = 10 * a + b := by
            simp at h
            omega
          have a1 : a = 1 := by omega
          subst a1
          subst e
          have := small2 b (by omega)
          rw [show 48 + 1 = 49 from rfl, ← this, show 10 * 1 + b = 10 + b by omega]
          exact numL_figs (by omega)
    · omega
  · intro h
    obtain ⟨h1, h2⟩ := numL_some h
    rw [← h1]
    exact figs_num i (by omega)
theorem lnum_ge (l : List Nat) : -1 ≤ lnum l := by
  unfold lnum
  split
  · split <;> omega
  · omega
theorem inV_intsT {x : Int} {ns : List Int} : inV (.int x) (ns.map V.int) = true ↔ x ∈ ns := by
  constructor
  · intro h
    obtain ⟨y, hy, e⟩ := List.any_eq_true.mp h
    obtain ⟨z, hz, rfl⟩ := List.mem_map.mp hy
    have e : (z == x) = true := e
    exact beq_iff_eq.mp e ▸ hz
  · intro h
    exact List.any_eq_true.mpr ⟨.int x, List.mem_map.mpr ⟨x, h, rfl⟩, beq_self_eq_true x⟩
section
variable {P : Program} {w : World} {K : PySem.W.Frag} {mg : Str → Option Value} {base : Heap}
def spLNum : Sp := fun vs H Q _ => ∃ l : List Nat, vs = [.str (S l)] ∧ l.length ≤ 1000000 ∧ ∀ H', Same H H' → Q (.int (lnum l)) H'
theorem ok_lNum {f : Addr} {fd : FuncData} (F : Fun K "_law_number" "_law_number" sLNum f fd) (B : NoNames mg) : FnOk P w K mg base CX0 1 f fd ["figures"] spLNum := by
  refine F.ok scLNum (fun vs H Q E h => ?_) (fun cdv A outer s H vs Q E hr h => ?_)
  · obtain ⟨l, rfl, _⟩ := h
    rfl
  · obtain ⟨l, rfl, hl, k⟩ := h
    refine ⟨_, pss_cons (ps_if (PW.pt (pw_or (pt_cmpR op_notIn_seq (pe_callB call_len_str (by rfl) B.len PySem.boot_len (pa_cons (pv 0) pa_nil)) (pe_tup (pa_cons pe_int (pa_cons pe_int pa_nil))) (by with_unfolding_all rfl))
        (pw_or1 (pt_cmpR (op_neNil hr.units0) (pe_lc (own := [("sign", 1)]) (g := gName 1) rfl scLNum.nd (pi_str (pv 0)) (blkOk_by (own := [("sign", 1)]) (N := ["figures", "sign"]) (sc := defScope sLNum) (by decide +kernel))
          (fun _ _ _ _ _ => pg_name (i := 1) scLNum.nd rfl (Or.inl rfl)) (fun _ _ _ _ _ => pts_one (pt_cmpR op_notIn_sign (pv 1) pe_str (by with_unfolding_all rfl))) (fun _ _ _ _ _ => pe_int)) (pe_lst pa_nil) (nomark _)))))
        (pss_one (ps_ret (pe_un un_neg pe_int))) pss_nil) <|
      pss_one (ps_ret (pe_ifExp (PW.pt (pw_and (pt_cmpR op_eq (pe_callB call_len_str (by rfl) B.len PySem.boot_len (pa_cons (pv 0) pa_nil)) pe_int (nomark _)) (pw_and1 (pt_cmpR op_eq (pe_ix ix_str (pv 0) pe_int (fun _ _ => rfl)) pe_str (nomark _))))) (pe_un un_neg pe_int)
        (pe_callTy call_int_str (by rfl) B.int (by decide +kernel) (pa_cons (pv 0) pa_nil)))), ?_⟩
    refine ⟨_, rfl, S l, rfl, by rw [S_len, sizeLine_eq]; omega, by show 2 ≤ sizeLine; decide, fun T nT => ?_⟩
    have sT : Same H (upd H T (.tup [.int 1, .int 2])) := same_new nT
    refine ⟨T, _, rfl, .inr (SqT.of upd_same), rfl, by decide, _, rfl, ?_⟩
    have e12 : inV (.int ((S l).length : Nat)) [V.int 1, V.int 2] = decide (l.length = 1 ∨ l.length = 2) := by
      rw [S_len]
      refine Bool.eq_iff_iff.mpr ?_
      rw [show [V.int 1, V.int 2] = ([1, 2] : List Int).map V.int from rfl, inV_intsT, decide_eq_true_eq]
      simp only [List.mem_cons, List.not_mem_nil, or_false]
      omega
    generalize (upd H T (.tup [.int 1, .int 2])) = H1 at sT ⊢
    show if (!inV (.int ((S l).length : Nat)) [V.int 1, V.int 2]) = true then _ else _
    rw [e12]
    by_cases c : l.length = 1 ∨ l.length = 2
    case neg =>
      rw [decide_eq_false c]
      refine iteT (iteT ⟨1, rfl, ?_⟩)
      have e : lnum l = -1 := by
        unfold lnum
        rw [if_neg fun z => c z.1]
      rw [e] at k
      exact k H1 sT
    rw [decide_eq_true c]
    refine iteF ?_
    have szc : (S l).cps.size = l.length := S_len l
    have allt : ∀ {i x : Nat}, l[i]? = some x → (l.take (i + 1)).all isFig = ((l.take i).all isFig && isFig x) := fun {i x} h => by
      rw [List.take_add_one, h, List.all_append]
      simp
    refine ⟨_, rfl, S l, rfl, fun D nD => ?_⟩
    refine lc_it (walk_str (z := S l)) (fun i H' => ∃ c : Nat, H' D = some (.lst ((List.replicate c (1 : Int)).map V.int)) ∧ c ≤ i ∧ Same H1 H' ∧ (c = 0 ↔ (l.take i).all isFig = true)) ⟨0, upd_same, Nat.le_refl _, same_new nD, ⟨fun _ => by rw [List.take_zero]; rfl, fun _ => rfl⟩⟩ (fun _ _ _ _ => trivial) ?_ ?_
    · rintro i x Hb Ha hi ⟨m, h1, h2, h3, h4⟩ ⟨rfl, ch, ec, rfl⟩
      rw [szc] at hi
      have el : l[i]? = some ch := by
        have : (S l).cps[i]? = l[i]? := by simp
        rw [← this]
        exact ec
      refine ⟨rfl, _, rfl, ch, _, rfl, rfl, _, rfl, ?_⟩
      rw [fig_in]
      have h5 := allt el
      cases ef : isFig ch with
      | true =>
        rw [ef, Bool.and_true] at h5
        refine iteF ⟨m, h1, by omega, h3, ?_⟩
        rw [h5]
        exact h4
      | false =>
        rw [ef, Bool.and_false] at h5
        refine iteT ⟨_, h1, by rw [List.length_map, List.length_replicate, sizeLine_eq]; omega, m + 1, ?_, by omega, fun b o e => ?_, ?_⟩
        · rw [upd_same, List.replicate_succ', List.map_append]
          rfl
        · rw [upd_ne (ne_of_none e nD)]
          exact h3 _ _ e
        · rw [h5]
          exact ⟨fun z => by omega, fun z => by cases z⟩
    rintro Ha ⟨m, h1, h2, h3, h4⟩
    rw [szc, List.take_length] at h4
    refine ⟨by show 0 ≤ sizeLine; exact Nat.zero_le _, fun q nq => ?_⟩
    have sq : Same Ha (upd Ha q (.lst [])) := same_new nq
    have sA := (sT.trans h3).trans sq
    refine ⟨D, q, _, rfl, rfl, SqL.of (sq _ _ h1), SqL.of upd_same, _, rfl, ?_⟩
    have em : (((List.replicate m (1 : Int)).map V.int).isEmpty) = decide (m = 0) := by
      cases m <;> simp [List.replicate_succ]
    rw [em]
    by_cases m0 : m = 0
    case neg =>
      rw [decide_eq_false m0]
      refine iteT ⟨1, rfl, ?_⟩
      have e : lnum l = -1 := by
        unfold lnum
        rw [if_neg fun z => m0 (h4.mpr z.2)]
      rw [e] at k
      exact k _ sA
    rw [decide_eq_true m0]
    refine iteF ?_
    have fa := h4.mp m0
    generalize (upd Ha q (.lst [])) = HB at sA ⊢
    have kk := k HB sA
    unfold lnum at kk
    rw [if_pos ⟨c, fa⟩] at kk
    have l640 : l.length ≤ 640 := by rcases c with c | c <;> omega
    have full : ¬ (l.length = 2 ∧ l[0]? = some 48) → ∃ n : Nat, PySem.intText? (S l) = some (n : Int) ∧ ((l.foldl (fun n c => 10 * n + (c - 48)) 0 : Nat) : Int) = (n : Int) := fun _ => by
      rcases two_list c fa with ⟨a, ha, rfl⟩ | ⟨a, b, ha, hb, rfl⟩
      · exact ⟨a, int1 a ha, by simp⟩
      · exact ⟨10 * a + b, int2 a ha b hb, by simp⟩
    refine ⟨_, rfl, S l, rfl, by rw [S_len, sizeLine_eq]; omega, rfl, _, rfl, ?_⟩
    rw [S_len]
    refine ite2 (fun y => ?_) (fun y => ?_)
    · have y : l.length = 2 := by
        have := V.int.inj (of_decide_eq_true y)
        omega
      obtain ⟨c0, hc⟩ : ∃ c0, l[0]? = some c0 := ⟨_, List.getElem?_eq_getElem (by omega)⟩
      have ha0 : atI (S l).cps.toList 0 = some c0 := by
        show atI l 0 = some c0
        unfold atI
        have : ixN l.length 0 = some 0 := by
          unfold ixN
          rw [if_pos (by decide), if_pos (by omega)]
          rfl
        rw [this]
        exact hc
      refine ⟨_, rfl, S l, 0, c0, rfl, rfl, by rw [S_len, sizeLine_eq]; omega, ha0, rfl, _, rfl, ?_⟩
      refine ite2 (fun z => ?_) (fun z => ?_)
      · have z : c0 = 48 := by
          have := V.str.inj (of_decide_eq_true z)
          exact (List.cons.inj (S_inj (a := [c0]) (b := [48]) this)).1
        rw [if_pos ⟨y, by rw [hc, z]⟩] at kk
        exact ⟨1, rfl, kk⟩
      · have z : c0 ≠ 48 := fun q => z (decide_eq_true (by rw [q]; rfl))
        have nn : ¬ (l.length = 2 ∧ l[0]? = some 48) := fun q => z (by have := q.2; rw [hc] at this; exact Option.some.inj this)
        rw [if_neg nn] at kk
        obtain ⟨n, g1, g2⟩ := full nn
        rw [g2] at kk
        exact ⟨_, rfl, S l, n, rfl, g1, by rw [S_len]; exact l640, kk⟩
    · have y : l.length ≠ 2 := fun q => y (decide_eq_true (by rw [q]; rfl))
      have nn : ¬ (l.length = 2 ∧ l[0]? = some 48) := fun q => y q.1
      rw [if_neg nn] at kk
      obtain ⟨n, g1, g2⟩ := full nn
      rw [g2] at kk
      exact ⟨_, rfl, S l, n, rfl, g1, by rw [S_len]; exact l640, kk⟩
end
end Sw
namespace Sw
open PySem PySem.Spec PyProof.Rows L2 SX
/-! ### words of a text, by the law's own reading -/
theorem figs_no62 : ∀ i, i < 13 → 62 ∉ figs i ∧ figs i ≠ [] := by decide +kernel
theorem numL_nil : numL [] = none := by
  cases e : numL [] with
  | none => rfl
  | some i => exact absurd (numL_some e).1 (figs_no62 i (by have := (numL_some e).2; omega)).2
theorem numL_62 {q : List Nat} (h : 62 ∈ q) : numL q = none := by
  cases e : numL q with
  | none => rfl
  | some i =>
    obtain ⟨h1, h2⟩ := numL_some e
    rw [← h1] at h
    exact absurd h (figs_no62 i (by omega)).1
theorem first_62 {wd : List Nat} (h : 62 ∈ wd) : ∃ p q, wd = p ++ 62 :: q ∧ 62 ∉ p := by
  induction wd with
  | nil => cases h
  | cons c r ih =>
    by_cases e : c = 62
    · exact ⟨[], r, by rw [e]; rfl, by simp⟩
    · have h2 : 62 ∈ r := by
        rcases List.mem_cons.mp h with z | z
        · exact absurd z.symm e
        · exact z
      obtain ⟨p, q, rfl, hp⟩ := ih h2
      refine ⟨c :: p, q, rfl, ?_⟩
      rw [List.mem_cons, not_or]
      exact ⟨fun z => e z.symm, hp⟩
theorem spl62_pos (l acc : List Nat) : ∃ a r, TL.spl [62] 0 acc l = a :: r := by
  by_cases h : 62 ∈ l
  · obtain ⟨p, q, rfl, hp⟩ := first_62 h
    have := TL.spl_part1 (s := 62) (S := []) (rest := q) (acc := acc) hp
    exact ⟨_, _, this⟩
  · exact ⟨_, _, TL.spl_last1 (s := 62) (S := []) (acc := acc) h⟩
theorem spl62_part : ∀ (l : List Nat) (k : Nat) (acc : List Nat), ∀ p ∈ TL.spl [62] k acc l, p.length ≤ acc.length + l.length
  | [], k, acc, p, hp => by
    rw [TL.spl_nil] at hp
    rw [List.mem_singleton.mp hp]
    omega
  | c :: r, 0, acc, p, hp => by
    by_cases z : TL.pre [62] (c :: r) = true
    · rw [TL.spl_hit z] at hp
      rcases List.mem_cons.mp hp with e | e
      · rw [e]; omega
      · have := spl62_part r _ _ p e
        rw [List.length_nil] at this
        rw [List.length_cons]
        omega
    · have hp : p ∈ (if TL.pre [62] (c :: r) = true then acc :: TL.spl [62] ([62].length - 1) [] r else TL.spl [62] 0 (acc ++ [c]) r) := hp
      rw [if_neg z] at hp
      have := spl62_part r _ _ p hp
      rw [List.length_append, List.length_singleton] at this
      rw [List.length_cons]
      omega
  | c :: r, k + 1, acc, p, hp => by
    have := spl62_part r k acc p hp
    rw [List.length_cons]
    omega
theorem word_cases (wd : List Nat) : (∃ p q, TL.spl [62] 0 [] wd = [p, q] ∧ endsL wd = (numL p, numL q) ∧ wd = p ++ 62 :: q) ∨ ((TL.spl [62] 0 [] wd).length ≠ 2 ∧ ((endsL wd).1 = none ∨ (endsL wd).2 = none)) := by
  by_cases h : 62 ∈ wd
  · obtain ⟨p, q, rfl, hp⟩ := first_62 h
    have e1 : TL.spl [62] 0 [] (p ++ 62 :: q) = p :: TL.spl [62] 0 [] q := TL.spl_part1 (s := 62) (S := []) (rest := q) (acc := []) hp
    have e2 : endsL (p ++ 62 :: q) = (numL p, numL q) := by
      unfold endsL
      have := par_head (c := 62) (sep := []) (p := p) q hp
      rw [show p ++ 62 :: q = p ++ ([62] ++ q) from rfl, this]
    by_cases h2 : 62 ∈ q
    · right
      obtain ⟨p2, q2, rfl, hp2⟩ := first_62 h2
      have e3 : TL.spl [62] 0 [] (p2 ++ 62 :: q2) = p2 :: TL.spl [62] 0 [] q2 := TL.spl_part1 (s := 62) (S := []) (rest := q2) (acc := []) hp2
      obtain ⟨a, r, e4⟩ := spl62_pos q2 []
      rw [e1, e3, e4, e2]
      exact ⟨by simp, .inr (numL_62 h2)⟩
    · left
      have e3 : TL.spl [62] 0 [] q = [q] := TL.spl_last1 (s := 62) (S := []) (acc := []) h2
      exact ⟨p, q, by rw [e1, e3], e2, rfl⟩
  · right
    have e3 : TL.spl [62] 0 [] wd = [wd] := TL.spl_last1 (s := 62) (S := []) (acc := []) h
    refine ⟨by rw [e3]; simp, ?_⟩
    unfold endsL
    rw [par_head_none (c := 62) (sep := []) h]
    exact .inr numL_nil
theorem lnum_none {l : List Nat} {n : Int} (hn : n ≤ 12) (h0 : lnum l ≠ -1) (h1 : lnum l < n) : numD (numL l) = .int (lnum l) := by
  have := lnum_ge l
  obtain ⟨i, hi⟩ := Int.eq_ofNat_of_zero_le (show 0 ≤ lnum l by omega)
  have e := (lnum_num (l := l) (i := i) (by omega)).mp hi
  rw [e, hi]
  rfl
theorem num_back {l : List Nat} {v : Int} (h : numD (numL l) = .int v) : lnum l = v := by
  cases e : numL l with
  | none => rw [e] at h; cases h
  | some i =>
    rw [e] at h
    have h : D.int (i : Int) = .int v := h
    rw [(lnum_num (numL_some e).2).mpr e]
    exact D.int.inj h
theorem arrow_word {p q : List Nat} {n : Int} (hn : n ≤ 12) : isArrow n (.tup [numD (numL p), numD (numL q)]) = true ↔ (lnum p ≠ -1 ∧ lnum q ≠ -1) ∧ (lnum p < n ∧ lnum q < n) ∧ lnum p ≠ lnum q := by
  constructor
  · intro h
    obtain ⟨v, w', e1, e2, h1, h2, h3⟩ := arrow_two.mp h
    rw [num_back e1, num_back e2]
    rw [e1] at h1
    rw [e2] at h2
    simp only [isStop, isWhole, Bool.and_eq_true, decide_eq_true_eq] at h1 h2
    exact ⟨⟨by omega, by omega⟩, ⟨by omega, by omega⟩, h3⟩
  · rintro ⟨⟨a1, a2⟩, ⟨b1, b2⟩, c⟩
    have := lnum_ge p
    have := lnum_ge q
    rw [lnum_none hn a1 b1, lnum_none hn a2 b2]
    refine arrow_two.mpr ⟨_, _, rfl, rfl, ?_, ?_, c⟩
    · simp only [isStop, isWhole, Bool.and_eq_true, decide_eq_true_eq]
      omega
    · simp only [isStop, isWhole, Bool.and_eq_true, decide_eq_true_eq]
      omega
end Sw
namespace Sw
open PySem PySem.Spec PyProof.Rows L2 SX
/-! ### texts of nets are short -/
theorem spl_sum : ∀ (l : List Nat) (acc : List Nat), ((TL.spl [32] 0 acc l).map List.length).sum + (TL.spl [32] 0 acc l).length = acc.length + l.length + 1
  | [], acc => by
    rw [TL.spl_nil]
    simp
  | c :: r, acc => by
    by_cases z : TL.pre [32] (c :: r) = true
    · rw [TL.spl_hit z]
      have := spl_sum r []
      rw [show [32].length - 1 = 0 from rfl]
      rw [List.map_cons, List.sum_cons, List.length_cons, List.length_cons]
      rw [List.length_nil] at this
      omega
    · have e : TL.spl [32] 0 acc (c :: r) = TL.spl [32] 0 (acc ++ [c]) r := by
        show (if TL.pre [32] (c :: r) = true then acc :: TL.spl [32] ([32].length - 1) [] r else TL.spl [32] 0 (acc ++ [c]) r) = _
        rw [if_neg z]
      rw [e]
      have := spl_sum r (acc ++ [c])
      rw [List.length_append, List.length_singleton] at this
      rw [List.length_cons]
      omega
theorem leL_two {a b c d : Int} : leL [a, b] [c, d] = false → lt2 (c, d) (a, b) := by
  intro h
  unfold leL at h
  unfold lt2
  simp [Ob.lexAt] at h
  by_cases e : a = c
  · subst e
    right
    refine ⟨rfl, ?_⟩
    simp at h
    by_cases e2 : b = d
    · subst e2
      simp at h
    · simp [e2] at h
      exact h
  · left
    simp [e] at h
    exact h
theorem lt2_trans {x y z : Int × Int} (h : lt2 x y) (g : lt2 y z) : lt2 x z := by
  unfold lt2 at *
  omega
theorem lt2_irr {x : Int × Int} : ¬ lt2 x x := by
  unfold lt2
  omega
theorem pw_of : ∀ {l : List (Int × Int)}, (∀ j x y, l[j]? = some x → l[j + 1]? = some y → lt2 x y) → l.Pairwise lt2
  | [], _ => .nil
  | [a], _ => List.pairwise_singleton _ _
  | a :: b :: t, h => by
    have ih := pw_of (l := b :: t) fun j x y e1 e2 => h (j + 1) x y e1 e2
    have ab := h 0 a b rfl rfl
    refine .cons (fun x hx => ?_) ih
    rcases List.mem_cons.mp hx with z | z
    · rw [z]
      exact ab
    · exact lt2_trans ab (List.rel_of_pairwise_cons ih z)
/-- what a good text is made of -/
theorem good_parts {l : List Nat} {dd : D} (g : Good l dd) : ∃ (hh : List Nat) (ws : List (List Nat)) (n : Int), TL.spl [32] 0 [] l = hh :: ws ∧ hh.getLast? = some 58 ∧ numD (numL hh.dropLast) = .int n ∧ 1 ≤ n ∧ n ≤ 12 ∧ dd = .tup [.int n, .tup (ws.map wordD)] ∧
    (∀ (j : Nat) (y : D), (ws.map wordD)[j]? = some y → isArrow n y = true) ∧ ∀ j, ¬ BadAt (ws.map wordD) j := by
  obtain ⟨g1, g2⟩ := g
  unfold netData at g1
  obtain ⟨hh, ws, ep⟩ := spl_cons l 0 []
  rw [ep] at g1
  dsimp only at g1
  by_cases e : hh.getLast? = some 58
  · rw [if_pos e] at g1
    obtain rfl := Option.some.inj g1
    cases g2 with
    | fine h ha hl =>
      rename_i n as
      cases en : numL hh.dropLast with
      | none =>
        rw [en] at h
        cases h
      | some i =>
        rw [en] at h
        have h : (if 1 ≤ (i : Int) ∧ (i : Int) ≤ 12 then some ((i : Int), ws.map wordD) else none) = some (n, as) := h
        by_cases c : 1 ≤ (i : Int) ∧ (i : Int) ≤ 12
        · rw [if_pos c] at h
          have h := Option.some.inj h
          have h1 : (i : Int) = n := congrArg Prod.fst h
          have h2 : ws.map wordD = as := congrArg Prod.snd h
          subst h1
          subst h2
          exact ⟨hh, ws, i, ep, e, by rw [en]; rfl, c.1, c.2, rfl, ha, hl⟩
        · rw [if_neg c] at h
          cases h
  · rw [if_neg e] at g1
    cases g1
theorem wordD_two {wd : List Nat} {n : Int} (h : isArrow n (wordD wd) = true) : ∃ v w : Int, wordD wd = .tup [.int v, .int w] ∧ Inn n v ∧ Inn n w ∧ wd.length ≤ 5 := by
  rcases word_cases wd with ⟨p, q, _, e, ew⟩ | ⟨_, e⟩
  · have el : wd.length = p.length + q.length + 1 := by
      rw [ew, List.length_append, List.length_cons]
      omega
    unfold wordD at h ⊢
    rw [e] at h ⊢
    dsimp only at h ⊢
    obtain ⟨v, w, e1, e2, h1, h2, h3⟩ := arrow_two.mp h
    rw [e1] at h1
    rw [e2] at h2
    simp only [isStop, isWhole, Bool.and_eq_true, decide_eq_true_eq] at h1 h2
    have sm : ∀ {x : List Nat} {u : Int}, numD (numL x) = .int u → x.length ≤ 2 := fun {x u} hx => by
      cases ex : numL x with
      | none => rw [ex] at hx; cases hx
      | some i =>
        obtain ⟨i1, i2⟩ := numL_some ex
        rw [← i1]
        exact figs_len i (by omega)
    have := sm e1
    have := sm e2
    rw [e1, e2]
    exact ⟨v, w, rfl, ⟨h1.1, by omega⟩, ⟨h2.1, by omega⟩, by omega⟩
  · exfalso
    unfold wordD at h
    obtain ⟨v, w, e1, e2, _⟩ := arrow_two.mp h
    rcases e with e | e
    · rw [e] at e1
      cases e1
    · rw [e] at e2
      cases e2
theorem good_len2 {l : List Nat} {dd : D} (g : Good l dd) : l.length ≤ 900 ∧ (TL.spl [32] 0 [] l).length ≤ 145 := by
  obtain ⟨hh, ws, n, ep, e5, en, n1, n2, edd, ha, hl⟩ := good_parts g
  clear edd g
  have hw : ∀ wd ∈ ws, isArrow n (wordD wd) = true := fun wd hwd => by
    obtain ⟨j, hj, rfl⟩ := List.getElem_of_mem hwd
    exact ha j _ (by rw [List.getElem?_map, List.getElem?_eq_getElem hj]; rfl)
  have prs : ∃ ps : List (Int × Int), ps.length = ws.length ∧ ∀ (j : Nat) (e : Int × Int), ps[j]? = some e → (ws.map wordD)[j]? = some (D.tup [.int e.1, .int e.2]) ∧ Inn n e.1 ∧ Inn n e.2 := by
    clear ep hl ha
    induction ws with
    | nil => exact ⟨[], rfl, fun j e h => by simp at h⟩
    | cons wd r ih =>
      obtain ⟨ps, h1, h2⟩ := ih fun x hx => hw x (List.mem_cons_of_mem _ hx)
      obtain ⟨v, w, e, i1, i2, _⟩ := wordD_two (hw wd List.mem_cons_self)
      refine ⟨(v, w) :: ps, by rw [List.length_cons, List.length_cons, h1], fun j x hx => ?_⟩
      cases j with
      | zero =>
        obtain rfl := Option.some.inj (show some (v, w) = some x from hx)
        exact ⟨by rw [List.map_cons, e]; rfl, i1, i2⟩
      | succ j => exact h2 j x hx
  obtain ⟨ps, pl, pe⟩ := prs
  have pw : ps.Pairwise lt2 := pw_of fun j x y e1 e2 => by
    obtain ⟨a1, _⟩ := pe j x e1
    obtain ⟨a2, _⟩ := pe (j + 1) y e2
    refine leL_two ?_
    cases q : leL [y.1, y.2] [x.1, x.2] with
    | false => rfl
    | true => exact absurd ⟨_, _, Nat.succ_pos j, a2, a1, q⟩ (hl (j + 1))
  have nd : ps.Nodup := List.Pairwise.imp (fun {a b} (h : lt2 a b) => (fun z : a = b => lt2_irr (x := b) (by rw [z] at h; exact h))) pw
  have le := pairs_le (n := n) nd fun e he => by
    obtain ⟨j, hj, rfl⟩ := List.getElem_of_mem he
    exact (pe j _ (List.getElem?_eq_getElem hj)).2
  have le144 : n.toNat * n.toNat ≤ 12 * 12 := Nat.mul_le_mul (by omega) (by omega)
  have sum := spl_sum l []
  rw [ep, List.map_cons, List.sum_cons, List.length_cons, List.length_nil] at sum
  have each : (ws.map List.length).sum ≤ ws.length * 5 := by
    clear ep sum pl hl ha pw nd le pe
    induction ws with
    | nil => exact Nat.le_refl _
    | cons wd r ih =>
      have := ih fun x hx => hw x (List.mem_cons_of_mem _ hx)
      obtain ⟨_, _, _, _, _, h5⟩ := wordD_two (hw wd List.mem_cons_self)
      rw [List.map_cons, List.sum_cons, List.length_cons]
      omega
  have hl3 : hh.length ≤ 3 := by
    cases ex : numL hh.dropLast with
    | none => rw [ex] at en; cases en
    | some i =>
      obtain ⟨i1, i2⟩ := numL_some ex
      have := figs_len i (by omega)
      rw [i1, List.length_dropLast] at this
      omega
  refine ⟨by omega, ?_⟩
  rw [ep, List.length_cons]
  omega
theorem good_len {l : List Nat} {dd : D} (g : Good l dd) : l.length ≤ 900 := (good_len2 g).1
end Sw
namespace Sw
open PySem PySem.Spec PyProof.Rows L2 SX
/-! ### _law_read -/
abbrev sLRead : Stmt := top 26
abbrev nLRead : List Str := ["value", "words", "n", "found", "word", "pieces", "piece"]
theorem scLRead : FnScope nLRead ["value"] (defScope sLRead) := ⟨rfl, rfl, rfl, by decide +kernel, rfl, by decide +kernel, by decide +kernel⟩
theorem cut_tailT (x : V) (r : List V) : cutV (x :: r) (some 1) none = r := by
  have e : cutV (x :: r) (some ((1 : Nat) : Int)) none = r := by
    unfold cutV
    rw [HT.sIx_nat, List.length_cons]
    show List.take _ (List.drop (min 1 (r.length + 1)) (x :: r)) = r
    rw [show min 1 (r.length + 1) = 1 by omega, List.drop_one]
    exact List.take_of_length_le (by rw [List.tail_cons]; show r.length ≤ (r.length + 1) - 1; omega)
  exact e
theorem cut_lastS (h : List Nat) (ne : h ≠ []) : cutS (S h) (some (-1)) none = S [h.getLast ne] := by
  have pos := List.length_pos_iff.mpr ne
  unfold cutS
  show S (((S h).cps.toList.drop ((-1 : Int) + ((S h).length : Int)).toNat).take ((S h).length - ((-1 : Int) + ((S h).length : Int)).toNat)) = _
  rw [S_len, show ((-1 : Int) + (h.length : Int)).toNat = h.length - 1 by omega]
  show S ((h.drop (h.length - 1)).take (h.length - (h.length - 1))) = _
  congr 1
  rw [show h.length - (h.length - 1) = 1 by omega, List.drop_eq_getElem_cons (by omega), List.take_succ_cons, List.take_zero, List.getLast_eq_getElem]
theorem cut_lastN : cutS (S []) (some (-1)) none = S [] := rfl
theorem last_eq (hh : List Nat) : decide (V.str (cutS (S hh) (some (-1)) none) = V.str (Str.ofString ":")) = decide (hh.getLast? = some 58) := by
  have e58 : Str.ofString ":" = S [58] := rfl
  cases hh with
  | nil =>
    rw [cut_lastN, e58]
    rw [decide_eq_false (fun z => by cases S_inj (V.str.inj z)), decide_eq_false (by simp)]
  | cons a r =>
    rw [cut_lastS (a :: r) (by simp), e58, List.getLast?_eq_some_getLast (by simp)]
    by_cases z : (a :: r).getLast (by simp) = 58
    · rw [decide_eq_true (by rw [z]), decide_eq_true (by rw [z])]
    · rw [decide_eq_false (fun q => z (List.cons.inj (S_inj (V.str.inj q))).1), decide_eq_false (fun q => z (Option.some.inj q))]
/-- the number ahead of the colon, -1 if there is none -/
def headN (hh : List Nat) : Int := if hh.getLast? = some 58 then lnum hh.dropLast else -1
structure LIn (K : PySem.W.Frag) (n : Int) (ws : List (List Nat)) (H : Hp) (i : Nat) (H' : Hp) (fl : Addr) (ys : List V) (bs : List Addr) : Prop where
  sm : Same H H'
  f : H' fl = some (.lst ys)
  nb : fl ∉ bs
  len : ys.length = i
  rep : RepAll K H' ((ws.map wordD).take i) ys bs
  fr : H fl = none
  ar : ∀ (j : Nat) (y : D), j < i → (ws.map wordD)[j]? = some y → isArrow n y = true
  bad : ∀ j, j < i → ¬ BadAt (ws.map wordD) j
theorem LIn.same {K : PySem.W.Frag} {n : Int} {ws : List (List Nat)} {H : Hp} {i : Nat} {H' H'' : Hp} {fl : Addr} {ys : List V} {bs : List Addr} (h : LIn K n ws H i H' fl ys bs) (s : Same H' H'') : LIn K n ws H i H'' fl ys bs :=
  ⟨h.sm.trans s, s _ _ h.f, h.nb, h.len, h.rep.same s, h.fr, h.ar, h.bad⟩
section
variable (K : PySem.W.Frag) (l hh : List Nat) (ws : List (List Nat)) (H : Hp)
def JRa (σ : L2.St) (H' : Hp) : Prop := ∃ wl : Addr, σ = [some (.str (S l)), some (.ref wl), none, none, none, none, none] ∧ Same H H' ∧ H' wl = some (.lst (((hh :: ws).map S).map V.str)) ∧ ∀ p ∈ hh :: ws, p.length ≤ 1000000
def JRb (σ : L2.St) (H' : Hp) : Prop := ∃ wl : Addr, σ = [some (.str (S l)), some (.ref wl), some (.int (headN hh)), none, none, none, none] ∧ Same H H' ∧ H' wl = some (.lst (((hh :: ws).map S).map V.str)) ∧ ∀ p ∈ hh :: ws, p.length ≤ 1000000
def JRc (i : Nat × Addr × Addr × Addr) (σ : L2.St) (H' : Hp) : Prop := ∃ (pl : Addr) (ys : List V) (bs : List Addr) (s4 s6 : Option V) (v w : Int) (wd : List Nat), σ = [some (.str (S l)), some (.ref i.2.1), some (.int (headN hh)), some (.ref i.2.2.1), s4, some (.ref pl), s6] ∧ LIn K (headN hh) ws H i.1 H' i.2.2.1 ys bs ∧ H' i.2.2.2 = some (.lst ((ws.map S).map V.str)) ∧
  ws[i.1]? = some wd ∧ wordD wd = .tup [.int v, .int w] ∧ isArrow (headN hh) (wordD wd) = true ∧ H' pl = some (.lst [.int v, .int w]) ∧ ¬ BadAt (ws.map wordD) i.1 ∧ ws.length ≤ 200000
def JRl (i : Nat × Addr × Addr × Addr) (σ : L2.St) (H' : Hp) : Prop := ∃ (ys : List V) (bs : List Addr) (s4 s5 s6 : Option V), σ = [some (.str (S l)), some (.ref i.2.1), some (.int (headN hh)), some (.ref i.2.2.1), s4, s5, s6] ∧ LIn K (headN hh) ws H (i.1 + 1) H' i.2.2.1 ys bs ∧ H' i.2.2.2 = some (.lst ((ws.map S).map V.str))
end
section
variable {P : Program} {w : World} {K : PySem.W.Frag} {mg : Str → Option Value} {base : Heap}
def spLRead (K : PySem.W.Frag) : Sp := fun vs H Q _ => ∃ (x : V) (d : D) (as : List Addr), vs = [x] ∧ Rep K H d x as ∧ (∀ l : List Nat, d = .str (S l) → l.length ≤ 100000) ∧
  ((∀ l dd, d = .str (S l) → ¬ Good l dd) → ∀ H', Same H H' → Q .non H') ∧
  (∀ l dd, d = .str (S l) → Good l dd → ∀ (q : Addr) (bs : List Addr) (H' : Hp), Same H H' → Rep K H' dd (.ref q) bs → Q (.ref q) H')
theorem ok_lRead {f : Addr} {fd : FuncData} (F : Fun K "_law_read" "_law_read" sLRead f fd) (B : NoNames mg) (bmax : mg "max" = none) (ON : Own P w K mg base 1 "_law_number" ["figures"] spLNum) : FnOk P w K mg base CX0 2 f fd ["value"] (spLRead K) := by
  obtain ⟨fN, fdN, GN, mN, kN, bN⟩ := ON.ex
  refine F.ok scLRead (fun vs H Q E h => ?_) (fun cdv A outer s H vs Q E hr h => ?_)
  · obtain ⟨x, d, as, rfl, _⟩ := h
    rfl
  · obtain ⟨x, d, as, rfl, hd, hlen, k1, k2⟩ := h
    have hr1 : Room 1 _ := hr.mono (by decide)
    obtain ⟨l, hz⟩ : ∃ l, ∀ z, d = .str z → z = S l := by
      cases d with
      | str z => exact ⟨z.cps.toList, fun z' e => by cases e; exact (S_tl _).symm⟩
      | _ => exact ⟨[], fun _ e => by cases e⟩
    obtain ⟨hh, ws, ep⟩ := spl_cons l 0 []
    refine ⟨_, pss_cons (ps_if (PW.pt (pw_or (pt_not (pt_val (pe_isi (i := 0) (TN := "str") rfl (Or.inl rfl) (by decide) (by decide) B.isi B.str rfl rfl (by decide +kernel) (by decide) (by decide)))) (pw_or1 (pt_cmpR op_gt (pe_callB call_len_str (by rfl) B.len PySem.boot_len (pa_cons (pv 0) pa_nil)) pe_int (nomark _))))) (pss_one (ps_ret pe_non)) pss_nil) <|
      pss_cons (ps_set (i := 1) scLRead.nd rfl (.inl rfl) (pe_split (pv 0) pe_str)) <|
      pss_cons (ps_cut (J := JRa l hh ws H) (J' := JRb l hh ws H) (ps_set (i := 2) scLRead.nd rfl (.inl rfl) (pe_ifExp (pt_cmpR op_eq (pe_slice sl_str (pe_ix ix_list (pv 1) pe_int (fun _ _ => rfl)) (po_some (pe_un un_neg pe_int)) po_none) pe_str (nomark _))
        (pe_call GN hr1 rfl mN kN bN .nil pass0 (pa_cons (pe_slice sl_str (pe_ix ix_list (pv 1) pe_int (fun _ _ => rfl)) po_none (po_some (pe_un un_neg pe_int))) pa_nil)) (pe_un un_neg pe_int))) ?c1) <|
      pss_cons (ps_if (pt_not (pt_chain op_le op_le pe_int (pv 2) pe_int)) (pss_one (ps_ret pe_non)) pss_nil) <|
      pss_cons (ps_set (i := 3) scLRead.nd rfl (.inl rfl) (pe_lst pa_nil)) <|
      pss_cons (ps_for PassesOwn.never rfl (pi_list (pe_slice sl_list (pv 1) (po_some pe_int) po_none)) (pg_name (i := 4) scLRead.nd rfl (.inl rfl))
        (pss_cons (ps_setLc (i := 5) (own := [("piece", 6)]) (g := gName 6) (tt := tYes) rfl scLRead.nd rfl rfl (sw_true rfl rfl rfl (by decide +kernel)) (pi_list (pe_split (pv 4) pe_str)) (blkOk_by (own := [("piece", 6)]) (N := nLRead) (sc := defScope sLRead) (by decide +kernel))
          (fun _ _ _ _ _ => pg_name (i := 6) scLRead.nd rfl (Or.inl rfl)) (fun _ _ _ _ _ => pts_nil) (fun _ _ _ _ _ => pe_call GN hr1 rfl mN kN bN .nil pass0 (pa_cons (pv 6) pa_nil))) <|
        pss_cons (ps_if (PW.pt (pw_or (pt_cmpR op_ne (pe_callB call_len_seq (by rfl) B.len PySem.boot_len (pa_cons (pv 5) pa_nil)) pe_int (nomark _)) (pw_or (pt_cmpR op_in_seq (pe_un un_neg pe_int) (pv 5) (by with_unfolding_all rfl))
          (pw_or (pt_cmpR op_ge (pe_callB (cr_max rfl) (by rfl) bmax (by decide +kernel) (pa_cons (pv 5) pa_nil)) (pv 2) (nomark _)) (pw_or1 (pt_cmpR op_eq (pe_ix ix_list (pv 5) pe_int (fun _ _ => rfl)) (pe_ix ix_list (pv 5) pe_int (fun _ _ => rfl)) (nomark _))))))) (pss_one (ps_ret pe_non)) pss_nil) <|
        pss_cons (ps_if (PW.pt (pw_and (pt_cmpR (op_neNil hr.units0) (pv 3) (pe_lst pa_nil) (nomark _)) (pw_and1 (pt_cmpR (op_leT hr.units0) (pe_tup (pa_cons (pe_ix ix_list (pv 5) pe_int (fun _ _ => rfl)) (pa_cons (pe_ix ix_list (pv 5) pe_int (fun _ _ => rfl)) pa_nil))) (pe_ix ix_list (pv 3) (pe_un un_neg pe_int) (fun _ _ => rfl)) (nomark _)))))
          (pss_one (ps_ret pe_non)) pss_nil) <|
        pss_one (ps_cutI (JRc K l hh ws H) (JRl K l hh ws H) (ps_expr (pe_bm PySem.F.plainAttrs_list PySem.F.slot_list_append PySem.F.type_list_append mt_append (pv 3) (pa_cons (pe_tup (pa_cons (pe_ix ix_list (pv 5) pe_int (fun _ _ => rfl)) (pa_cons (pe_ix ix_list (pv 5) pe_int (fun _ _ => rfl)) pa_nil))) pa_nil))) ?c2))) <|
      pss_one (ps_ret (pe_tup (pa_cons (pv 2) (pa_cons (pe_callTy call_tuple_of (by rfl) B.tuple (by decide +kernel) (pa_cons (pv 3) pa_nil)) pa_nil)))), ?_⟩
    case c1 =>
      rintro D σ H1 ⟨wl, rfl, s1, hwl, lp⟩ nx
      have lh := lp hh List.mem_cons_self
      have at0 : atI (((hh :: ws).map S).map V.str) 0 = some (.str (S hh)) := at_of (j := 0) rfl rfl
      refine ⟨_, rfl, wl, _, 0, .str (S hh), rfl, rfl, SqL.of hwl, at0, 1, rfl, -1, rfl, S hh, rfl, by rw [S_len, sizeLine_eq]; omega, rfl, _, rfl, ?_⟩
      rw [last_eq]
      refine ite2 (fun y => ?_) (fun y => ?_)
      · have y := of_decide_eq_true y
        refine ⟨_, rfl, wl, _, 0, .str (S hh), rfl, rfl, SqL.of hwl, at0, 1, rfl, -1, rfl, S hh, rfl, by rw [S_len, sizeLine_eq]; omega, ?_⟩
        rw [cut1]
        refine ⟨hh.dropLast, rfl, by rw [List.length_dropLast]; omega, fun H2 s2 => nx _ _ ⟨wl, ?_, s1.trans s2, s2 _ _ hwl, lp⟩⟩
        have : headN hh = lnum hh.dropLast := by
          unfold headN
          rw [if_pos y]
        rw [this]
        rfl
      · have y : ¬ hh.getLast? = some 58 := fun q => y (decide_eq_true q)
        refine ⟨1, rfl, nx _ _ ⟨wl, ?_, s1, hwl, lp⟩⟩
        have : headN hh = -1 := by
          unfold headN
          rw [if_neg y]
        rw [this]
        rfl
    case c2 =>
      rintro ⟨i, wl, fl, c⟩ D σ H6 ⟨pl, ys, bs, s4, s6, v, w', wd, rfl, LL, hc4, hw, ewd, ar, hp, nb, lw2⟩ nx
      dsimp only at LL hc4 hw nb ⊢
      refine ⟨_, rfl, .inl ⟨rfl, _, SqL.of LL.f⟩, _, rfl, pl, _, 0, .int v, rfl, rfl, SqL.of hp, at_of (j := 0) rfl rfl, _, rfl, pl, _, 1, .int w', rfl, rfl, SqL.of hp, at_of (j := 1) rfl rfl, by show 2 ≤ sizeLine; decide, fun T nT => ?_⟩
      have sT : Same H6 (upd H6 T (.tup [.int v, .int w'])) := same_new nT
      have hT : (upd H6 T (.tup [.int v, .int w'])) T = some (.tup [.int v, .int w']) := upd_same
      have LL := LL.same sT
      have hc4 := sT _ _ hc4
      clear sT nT hp
      generalize (upd H6 T (.tup [.int v, .int w'])) = H7 at LL hc4 hT ⊢
      have fT : fl ≠ T := fun z => by
        have := LL.f
        rw [z, hT] at this
        cases this
      have hlt : i < ws.length := (List.getElem?_eq_some_iff.mp hw).1
      have fc : c ≠ fl := fun z => by
        have e1 := LL.f
        rw [← z, hc4] at e1
        have e2 := HO.lst.inj (Option.some.inj e1)
        have e3 := LL.len
        rw [← e2, List.length_map, List.length_map] at e3
        omega
      refine ⟨fl, ys, .ref T, rfl, rfl, LL.f, by rw [LL.len, sizeLine_eq]; omega, ?_⟩
      have tk : (ws.map wordD).take (i + 1) = (ws.map wordD).take i ++ [wordD wd] := by
        rw [List.take_add_one, List.getElem?_map, hw]
        rfl
      have k0 : ∀ b ∈ bs, ∀ o, H7 b = some o → upd H7 fl (.lst (ys ++ [.ref T])) b = some o := fun b hb o e => by
        rw [upd_ne (fun z => LL.nb (by rw [← z]; exact hb))]
        exact e
      refine nx _ _ ⟨ys ++ [.ref T], bs ++ [T], _, _, _, rfl, ⟨fun b o e => ?_, upd_same, ?_, by rw [List.length_append, LL.len]; rfl, ?_, LL.fr, fun j y hj hy => ?_, fun j hj => ?_⟩, ?_⟩
      · rw [upd_ne (ne_of_none e LL.fr)]
        exact LL.sm _ _ e
      · rw [List.mem_append, not_or]
        exact ⟨LL.nb, fun z => fT (List.mem_singleton.mp z)⟩
      · rw [tk]
        refine repAll_cat (LL.rep.keep k0) (repAll_one ?_)
        rw [ewd, Rep]
        refine ⟨T, _, [], rfl, by rw [upd_ne fT.symm]; exact hT, ?_, by simp, rfl⟩
        rw [RepAll]
        exact ⟨_, _, [], [], rfl, by simp [Rep], repAll_one (by simp [Rep]), rfl⟩
      · by_cases z : j = i
        · subst z
          rw [List.getElem?_map, hw] at hy
          obtain rfl := Option.some.inj hy
          exact ar
        · exact LL.ar j y (by omega) hy
      · by_cases z : j = i
        · rw [z]
          exact nb
        · exact LL.bad j (by omega)
      · rw [upd_ne fc]
        exact hc4
    refine ⟨_, rfl, x, d, as, "str", rfl, by decide, hd, _, rfl, ?_⟩
    cases e : isT "str" d with
    | false =>
      refine iteT (iteT (k1 (fun l' dd z => ?_) H (Same.refl H)))
      rw [z] at e
      cases e
    | true =>
      obtain ⟨z, rfl⟩ : ∃ z, d = .str z := by cases d <;> first | exact ⟨_, rfl⟩ | (cases e)
      simp only [Rep] at hd
      obtain ⟨rfl, rfl⟩ := hd
      obtain rfl := hz z rfl
      have ll := hlen l rfl
      clear e hlen hz
      have only : ∀ l' dd, D.str (S l) = .str (S l') → Good l' dd → Good l dd := fun l' dd z g => by
        rw [S_inj (D.str.inj z)]
        exact g
      refine iteF ⟨_, rfl, S l, rfl, by rw [S_len, sizeLine_eq]; omega, _, _, rfl, rfl, _, rfl, ?_⟩
      rw [S_len]
      refine ite2 (fun y => ?_) (fun y => ?_)
      · have y : (900 : Int) < (l.length : Int) := of_decide_eq_true y
        refine k1 (fun l' dd z g => ?_) H (Same.refl H)
        have := good_len (only l' dd z g)
        omega
      refine ⟨_, rfl, ⟨_, rfl⟩, S l, S [32], rfl, rfl, by decide, by rw [S_len, sizeLine_eq]; omega, fun wl nwl => ?_⟩
      rw [split_S (by decide) (by decide), ep]
      refine ⟨⟨wl, rfl, same_new nwl, upd_same, fun p hp => ?_⟩, ?_⟩
      · rw [← ep] at hp
        have := spl_part l 0 [] p hp
        rw [List.length_nil] at this
        omega
      clear nwl y
      rintro σ H1 ⟨wl, rfl, s1, hwl, lp⟩
      -- 1 <= n <= 12
      have bad : ¬ (1 ≤ headN hh ∧ headN hh ≤ 12) → ∀ H', Same H H' → Q .non H' := fun hn H' s' => by
        refine k1 (fun l' dd z g => hn ?_) H' s'
        obtain ⟨hh2, ws2, n, ep2, e5, en, n1, n2, _⟩ := good_parts (only l' dd z g)
        rw [ep] at ep2
        cases ep2
        have : headN hh = n := by
          unfold headN
          rw [if_pos e5]
          exact num_back en
        omega
      refine ⟨_, rfl, _, _, rfl, rfl, _, rfl, ?_⟩
      refine ite2 (fun y => ?_) (fun y => ?_)
      case refine_2 => exact ⟨_, rfl, iteT (bad (fun z => y (decide_eq_true z.1)) H1 s1)⟩
      have n1 : 1 ≤ headN hh := of_decide_eq_true y
      refine ⟨_, _, rfl, rfl, _, rfl, ?_⟩
      by_cases n2 : headN hh ≤ 12
      case neg =>
        rw [decide_eq_false n2]
        exact iteT (bad (fun z => n2 z.2) H1 s1)
      rw [decide_eq_true n2]
      refine iteF ?_
      clear bad y
      refine ⟨by show 0 ≤ sizeLine; exact Nat.zero_le _, fun fl nfl => ?_⟩
      have sf : Same H1 (upd H1 fl (.lst [])) := same_new nfl
      have hf : (upd H1 fl (.lst [])) fl = some (.lst []) := upd_same
      have nf0 : H fl = none := s1.free nfl
      have s2 := s1.trans sf
      have hwl := sf _ _ hwl
      clear sf nfl s1
      generalize (upd H1 fl (.lst [])) = H2 at s2 hwl hf ⊢
      refine ⟨_, rfl, 1, rfl, wl, _, rfl, SqL.of hwl, fun c nc => ?_⟩
      have sc : Same H2 (upd H2 c (.lst (cutV (((hh :: ws).map S).map V.str) (some 1) none))) := same_new nc
      have hc : (upd H2 c (.lst (cutV (((hh :: ws).map S).map V.str) (some 1) none))) c = some (.lst ((ws.map S).map V.str)) := by
        rw [upd_same]
        congr 2
        exact cut_tailT _ _
      have s3 := s2.trans sc
      have hf := sc _ _ hf
      clear sc nc hwl s2
      generalize (upd H2 c (.lst (cutV (((hh :: ws).map S).map V.str) (some 1) none))) = H3 at s3 hc hf ⊢
      have wfail : ∀ {i : Nat} {wd : List Nat}, ws[i]? = some wd → (isArrow (headN hh) (wordD wd) ≠ true ∨ BadAt (ws.map wordD) i) → ∀ H', Same H H' → Q .non H' := fun {i wd} hi hb H' s' => by
        refine k1 (fun l' dd z g => ?_) H' s'
        obtain ⟨hh2, ws2, n, ep2, e5, en, _, _, _, ga, gb⟩ := good_parts (only l' dd z g)
        rw [ep] at ep2
        cases ep2
        have : headN hh = n := by
          unfold headN
          rw [if_pos e5]
          exact num_back en
        rw [this] at hb
        rcases hb with hb | hb
        · exact hb (ga i _ (by rw [List.getElem?_map, hi]; rfl))
        · exact gb i hb
      refine ⟨c, rfl, ⟨_, SqL.of hc⟩, for_it (walk_list (xs := (ws.map S).map V.str)) (fun i σ H' => ∃ (ys : List V) (bs : List Addr) (s4 s5 s6 : Option V), σ = [some (.str (S l)), some (.ref wl), some (.int (headN hh)), some (.ref fl), s4, s5, s6] ∧ LIn K (headN hh) ws H i H' fl ys bs ∧ H' c = some (.lst ((ws.map S).map V.str)))
        ⟨[], [], none, none, none, rfl, ⟨s3, hf, by simp, rfl, by rw [List.take_zero]; exact repAll_nil, nf0, fun j y hj => absurd hj (Nat.not_lt_zero _), fun j hj => absurd hj (Nat.not_lt_zero _)⟩, hc⟩ (fun i σ H' _ h => by obtain ⟨_, _, _, _, _, _, _, h⟩ := h; exact SqL.of h) ?_ ?_⟩
      · rintro i x σ H5 H4 hi ⟨ys, bs, s4, s5, s6, rfl, LL, hc4⟩ ⟨rfl, ex⟩
        rw [List.length_map, List.length_map] at hi
        rw [List.getElem?_map, List.getElem?_map, List.getElem?_eq_getElem hi] at ex
        obtain rfl := Option.some.inj ex
        have hw : ws[i]? = some ws[i] := List.getElem?_eq_getElem hi
        have lw := lp ws[i] (List.mem_cons_of_mem _ (List.getElem_mem hi))
        generalize ws[i] = wd at hw lw ⊢
        have pp := spl62_part wd 0 []
        have pn : (TL.spl [62] 0 [] wd).length ≤ wd.length + 2 := by
          have := PyProof.Rows.split_le (S wd) (S [62])
          rw [split_S (by decide) (by decide), List.length_map, S_len] at this
          exact this
        have wc := word_cases wd
        refine ⟨_, rfl, ⟨_, rfl⟩, S wd, S [62], rfl, rfl, by decide, by rw [S_len, sizeLine_eq]; omega, fun sp nsp => ?_⟩
        rw [split_S (by decide) (by decide)]
        generalize TL.spl [62] 0 [] wd = parts at pp pn wc ⊢
        have ss : Same H4 (upd H4 sp (.lst ((parts.map S).map V.str))) := same_new nsp
        have hsp : (upd H4 sp (.lst ((parts.map S).map V.str))) sp = some (.lst ((parts.map S).map V.str)) := upd_same
        have LL := LL.same ss
        have hc4 := ss _ _ hc4
        clear ss nsp
        generalize (upd H4 sp (.lst ((parts.map S).map V.str))) = H5 at hsp LL hc4 ⊢
        refine ⟨sp, rfl, ⟨_, SqL.of hsp⟩, fun D nD => ?_⟩
        have tk : ∀ {j : Nat} {p : List Nat}, parts[j]? = some p → (parts.map lnum).take (j + 1) = (parts.map lnum).take j ++ [lnum p] := fun {j p} h => by
          rw [List.take_add_one, List.getElem?_map, h]
          rfl
        refine lc_it (walk_list (xs := (parts.map S).map V.str)) (fun j H' => H' D = some (.lst (((parts.map lnum).take j).map V.int)) ∧ Same H5 H') ⟨upd_same, same_new nD⟩ (fun j H' _ h => SqL.of (h.2 _ _ hsp)) ?_ ?_
        · rintro j x Hb Ha hj ⟨h1, h2⟩ ⟨rfl, ex⟩
          rw [List.length_map, List.length_map] at hj
          rw [List.getElem?_map, List.getElem?_map, List.getElem?_eq_getElem hj] at ex
          obtain rfl := Option.some.inj ex
          have hp : parts[j]? = some parts[j] := List.getElem?_eq_getElem hj
          have lpj := pp parts[j] (List.getElem_mem hj)
          rw [List.length_nil] at lpj
          refine ⟨rfl, ?_⟩
          dsimp only [tYes]
          rw [if_pos rfl]
          refine ⟨_, rfl, parts[j], rfl, by omega, fun H6 s6' => ?_⟩
          refine ⟨_, s6' _ _ h1, ?_, ?_, fun b o e => ?_⟩
          · rw [List.length_map, List.length_take, List.length_map, sizeLine_eq]
            omega
          · rw [upd_same, tk hp, List.map_append]
            rfl
          · rw [upd_ne (ne_of_none e nD)]
            exact s6' _ _ (h2 _ _ e)
        rintro Ha ⟨h1, h2⟩
        rw [List.length_map, List.length_map, List.take_of_length_le (by rw [List.length_map]; exact Nat.le_refl _)] at h1
        have LL := LL.same h2
        have hc4 := h2 _ _ hc4
        clear h2 hsp nD pp pn tk
        have out : (isArrow (headN hh) (wordD wd) ≠ true ∨ BadAt (ws.map wordD) i) → Q .non Ha := fun hb => wfail hw hb Ha LL.sm
        refine ⟨_, rfl, D, _, rfl, .inl (SqL.of h1), rfl, _, rfl, ?_⟩
        rcases wc with ⟨p, q, rfl, e2, _⟩ | ⟨ne, e2⟩
        case inr =>
          have e3 : (!decide (V.int (((parts.map lnum).map V.int).length : Nat) = V.int 2)) = true := by
            rw [List.length_map, List.length_map, decide_eq_false fun z => ne (by have := V.int.inj z; omega)]
            rfl
          rw [e3]
          refine iteT (iteT (out (.inl fun z => ?_)))
          obtain ⟨v, w', g1, g2, _⟩ := arrow_two.mp z
          rcases e2 with e2 | e2
          · rw [e2] at g1; cases g1
          · rw [e2] at g2; cases g2
        have ewd : wordD wd = .tup [numD (numL p), numD (numL q)] := by
          unfold wordD
          rw [e2]
        have arr := arrow_word (p := p) (q := q) n2
        rw [← ewd] at arr
        refine iteF ⟨1, rfl, _, rfl, D, _, rfl, .inl (SqL.of h1), rfl, flat_ints _, _, rfl, ?_⟩
        by_cases g1 : lnum p ≠ -1 ∧ lnum q ≠ -1
        case neg =>
          have e4 : inV (.int (-1)) (([p, q].map lnum).map V.int) = true := inV_intsT.mpr (by
            simp only [List.map_cons, List.map_nil, List.mem_cons, List.not_mem_nil, or_false]
            omega)
          show if inV (.int (-1)) (([p, q].map lnum).map V.int) = true then _ else _
          rw [e4]
          exact iteT (iteT (out (.inl fun z => g1 (arr.mp z).1)))
        have e4 : inV (.int (-1)) (([p, q].map lnum).map V.int) = false := by
          cases z : inV (.int (-1)) (([p, q].map lnum).map V.int) with
          | false => rfl
          | true =>
            have := inV_intsT.mp z
            simp only [List.map_cons, List.map_nil, List.mem_cons, List.not_mem_nil, or_false] at this
            omega
        show if inV (.int (-1)) (([p, q].map lnum).map V.int) = true then _ else _
        rw [e4]
        refine iteF ⟨_, rfl, D, [p, q].map lnum, rfl, SqL.of h1, by show 0 < 2; decide, fun mx hm hle => ⟨_, rfl, _, _, rfl, rfl, _, rfl, ?_⟩⟩
        have mp := hle (lnum p) (by simp)
        have mq := hle (lnum q) (by simp)
        simp only [List.map_cons, List.map_nil, List.mem_cons, List.not_mem_nil, or_false] at hm
        by_cases g2 : headN hh ≤ mx
        · rw [decide_eq_true g2]
          exact iteT (iteT (out (.inl fun z => by have := (arr.mp z).2.1; omega)))
        rw [decide_eq_false g2]
        refine iteF ⟨_, rfl, D, _, 0, .int (lnum p), rfl, rfl, SqL.of h1, at_of (j := 0) rfl rfl, _, rfl, D, _, 1, .int (lnum q), rfl, rfl, SqL.of h1, at_of (j := 1) rfl rfl, rfl, _, rfl, ?_⟩
        refine ite2 (fun z => ?_) (fun z => ?_)
        · have z := V.int.inj (of_decide_eq_true z)
          exact out (.inl fun y => (arr.mp y).2.2 z)
        have z : lnum p ≠ lnum q := fun y => z (decide_eq_true (by rw [y]))
        have ar := arr.mpr ⟨g1, ⟨by omega, by omega⟩, z⟩
        have ewd2 : wordD wd = .tup [.int (lnum p), .int (lnum q)] := by
          rw [ewd, lnum_none n2 g1.1 (by omega), lnum_none n2 g1.2 (by omega)]
        have lw2 : ws.length ≤ 200000 := by
          have := spl_len l
          rw [ep, List.length_cons] at this
          omega
        have ln := LL.len
        refine ⟨_, rfl, by show 0 ≤ sizeLine; exact Nat.zero_le _, fun qe nq => ?_⟩
        have sq : Same Ha (upd Ha qe (.lst [])) := same_new nq
        refine ⟨fl, qe, ys, rfl, rfl, SqL.of (sq _ _ LL.f), SqL.of upd_same, _, rfl, ?_⟩
        have LL := LL.same sq
        have hc4 := sq _ _ hc4
        have h1 := sq _ _ h1
        have out2 : BadAt (ws.map wordD) i → ∀ H', Same H H' → Q .non H' := fun hb => wfail hw (.inr hb)
        clear out sq nq
        generalize (upd Ha qe (.lst [])) = Hb at LL hc4 h1 ⊢
        cases eys : ys with
        | nil =>
          have i0 : i = 0 := by rw [← ln, eys]; rfl
          refine iteF (iteF ⟨(i, wl, fl, c), ⟨D, ys, bs, _, _, lnum p, lnum q, wd, rfl, LL, hc4, hw, ewd2, ar, h1, fun z => ?_, lw2⟩, fun σ' H'' h => h⟩)
          obtain ⟨_, _, z0, _⟩ := z
          omega
        | cons y0 yr =>
          have ipos : 0 < i := by rw [← ln, eys]; exact Nat.succ_pos _
          rw [← eys]
          have eb : (!ys.isEmpty) = true := by rw [eys]; rfl
          show if (!ys.isEmpty) = true then _ else _
          rw [eb]
          obtain ⟨yl, hyl⟩ : ∃ yl, ys[i - 1]? = some yl := ⟨_, List.getElem?_eq_getElem (by omega)⟩
          obtain ⟨dl, bl, hdl, rl, _⟩ := LL.rep.at2 hyl
          rw [List.getElem?_take_of_lt (by omega)] at hdl
          obtain ⟨v0, w0, rfl⟩ := arrow_ints (LL.ar _ _ (by omega) hdl)
          have hix : ixN ys.length (-1) = some (i - 1) := by
            unfold ixN
            rw [if_neg (by decide), if_pos (by omega)]
            congr 1
            omega
          refine iteT ⟨_, rfl, D, _, 0, .int (lnum p), rfl, rfl, SqL.of h1, at_of (j := 0) rfl rfl, _, rfl, D, _, 1, .int (lnum q), rfl, rfl, SqL.of h1, at_of (j := 1) rfl rfl, by show 2 ≤ sizeLine; decide, fun T nT => ?_⟩
          have sT : Same Hb (upd Hb T (.tup [.int (lnum p), .int (lnum q)])) := same_new nT
          obtain ⟨t0, rfl, ht0⟩ := rep_two (rl.same sT)
          refine ⟨_, rfl, 1, rfl, fl, ys, -1, .ref t0, rfl, rfl, SqL.of (sT _ _ LL.f), by unfold atI; rw [hix]; exact hyl, T, t0, [lnum p, lnum q], [v0, w0], rfl, rfl, SqT.of upd_same, ht0, _, rfl, ?_⟩
          have bd : leL [lnum p, lnum q] [v0, w0] = true ↔ BadAt (ws.map wordD) i := by
            constructor
            · intro hle
              exact ⟨.tup [.int (lnum p), .int (lnum q)], .tup [.int v0, .int w0], ipos, by rw [List.getElem?_map, hw, ← ewd2]; rfl, hdl, hle⟩
            · rintro ⟨x1, y1, _, g1, g2, g3⟩
              rw [List.getElem?_map, hw] at g1
              obtain rfl := Option.some.inj g1
              rw [hdl] at g2
              obtain rfl := Option.some.inj g2
              rw [ewd2] at g3
              exact g3
          have LL := LL.same sT
          have hc4 := sT _ _ hc4
          have h1 := sT _ _ h1
          show if leL [lnum p, lnum q] [v0, w0] = true then _ else _
          by_cases hle : leL [lnum p, lnum q] [v0, w0] = true
          · rw [if_pos hle]
            exact out2 (bd.mp hle) _ LL.sm
          · rw [if_neg hle]
            exact ⟨(i, wl, fl, c), ⟨D, ys, bs, _, _, lnum p, lnum q, wd, rfl, LL, hc4, hw, ewd2, ar, h1, fun z => hle (bd.mpr z), lw2⟩, fun σ' H'' h => h⟩
      · rintro σ H4 ⟨ys, bs, s4, s5, s6, rfl, LL, hc4⟩
        have lx : ((ws.map S).map V.str).length = ws.length := by rw [List.length_map, List.length_map]
        rw [lx] at LL
        have rp := LL.rep
        rw [List.take_of_length_le (by rw [List.length_map]; exact Nat.le_refl _)] at rp
        refine ⟨_, rfl, _, rfl, fl, _, rfl, .inl ⟨SqL.of LL.f, fun T nT => ⟨by show 2 ≤ sizeLine; decide, fun N nN => ?_⟩⟩⟩
        have sT : Same H4 (upd H4 T (.tup ys)) := same_new nT
        have sN := same_new (o := .tup [.int (headN hh), .ref T]) nN
        have rT : Rep K (upd H4 T (.tup ys)) (.tup (ws.map wordD)) (.ref T) (T :: bs) := by
          rw [Rep]
          exact ⟨T, ys, bs, rfl, upd_same, rp.same sT, nmem rp nT, rfl⟩
        have r2 : RepAll K (upd H4 T (.tup ys)) [.int (headN hh), .tup (ws.map wordD)] [.int (headN hh), .ref T] ([] ++ (T :: bs)) := repAll_cat (repAll_one (by simp [Rep])) (repAll_one rT)
        have h58 : hh.getLast? = some 58 := Classical.byContradiction fun z => by
          unfold headN at n1
          rw [if_neg z] at n1
          omega
        have eh : headN hh = lnum hh.dropLast := by
          unfold headN
          rw [if_pos h58]
        have en : numD (numL hh.dropLast) = .int (headN hh) := by
          rw [eh] at n1 n2 ⊢
          obtain ⟨i, hi⟩ := Int.eq_ofNat_of_zero_le (show 0 ≤ lnum hh.dropLast by omega)
          have e := (lnum_num (l := hh.dropLast) (i := i) (by omega)).mp hi
          rw [e, hi]
          rfl
        refine k2 l (.tup [.int (headN hh), .tup (ws.map wordD)]) rfl ⟨?_, .fine (n := headN hh) (as := ws.map wordD) ?_ (fun j y hy => ?_) (fun j hj => ?_)⟩ N (N :: ([] ++ (T :: bs))) _ (LL.sm.trans (sT.trans sN)) ?_
        · unfold netData
          rw [ep]
          dsimp only
          rw [if_pos h58, en]
        · show (if 1 ≤ headN hh ∧ headN hh ≤ 12 then some (headN hh, ws.map wordD) else none) = _
          rw [if_pos ⟨n1, n2⟩]
        · have hj : j < ws.length := by
            have := (List.getElem?_eq_some_iff.mp hy).1
            rw [List.length_map] at this
            exact this
          exact LL.ar j y hj hy
        · obtain ⟨a, b, h0, h1, h2⟩ := id hj
          have hj2 : j < ws.length := by
            have := (List.getElem?_eq_some_iff.mp h1).1
            rw [List.length_map] at this
            exact this
          exact LL.bad j hj2 hj
        · rw [Rep]
          exact ⟨N, _, _, rfl, upd_same, r2.same sN, nmem r2 nN, rfl⟩
end
end Sw
namespace Sw
open PySem PySem.Spec PyProof.Rows L2
section
variable {X : Cx} {CX : CXT} {k : Nat} {f : Addr} {fd : FuncData} {ps ks : List Str} {sp : Sp} {E : XK} {x : Str} {p pos : Pos} {kws : List Keyword} {tk : TA} {g : List Value → List Value → List Value} {gV : List V → List V → List V}
/-- f(k = v): words alone -/
theorem pe_callW (F : FnOk X.prog X.w X.K X.mg X.base CX k f fd ps sp) (hr : Room k X.A) (hg : Gl X x) (hm : X.mg x = some (.ref f)) (hk : PySem.W.keepIn X.K (.ref f) = true) (hb : KBinds X.K fd ps ks g gV) (hx : Passes CX X E)
    (hkw : PK X kws tk) (hall : (backToKw pos (keywordEach kws X.env)).all (·.1.isSome) = true := by rfl) (hks : (backToKw pos (keywordEach kws X.env)).filterMap (·.1) = ks := by rfl)
    (hdb : (x == ("__debug__" : Str)) = false := by decide)
    (hpl : ((backTo pos (starEach [] X.env)).any (·.1) || (backToKw pos (keywordEach kws X.env)).any (·.1.isNone)) = false := by rfl) :
    PE X (.Call (.Name x p) [] kws pos) (fun σ H Q => tk σ H fun zs H2 => sp (gV [] zs) H2 Q E) := by
  refine ⟨fun pins s σ H Q I h => wpAny_Call_Name_kw (ld_glob I hg hm ?_ hdb)⟩
  refine PySem.W.callWith_KW0 (first := []) (h₀ := X.base) I.ok.mod.kin hk hall (thn (hkw.run pos pins s σ H _ I h) fun ws s2 ⟨zs, H2, I2, rz, q2⟩ => ⟨I2.kIn, ?_⟩) hpl
  rw [hks]
  exact run_fnk (us := []) F hr hb hx I2 .nil rz q2
end
/-- a new list of two things -/
theorem rep_pair {K : PySem.W.Frag} {H : Hp} {L : Addr} {r r' : D} {v v' : V} {bs bs' : List Addr} (h : Rep K H r v bs) (h' : Rep K H r' v' bs') (nL : H L = none) : ∃ as, Rep K (upd H L (.lst [v, v'])) (.lst [r, r']) (.ref L) as := by
  have ra : RepAll K H [r, r'] [v, v'] (bs ++ (bs' ++ [])) := by
    rw [RepAll]
    refine ⟨_, _, bs, bs' ++ [], rfl, h, ?_, rfl⟩
    rw [RepAll]
    exact ⟨_, _, bs', [], rfl, h', by simp [RepAll], rfl⟩
  refine ⟨L :: (bs ++ (bs' ++ [])), ?_⟩
  rw [Rep]
  exact ⟨L, _, _, rfl, upd_same, ra.same (same_new nL), nmem ra nL, rfl⟩
theorem same_str {x y : Str} (h : x = y) : (!decide (V.str x = V.str y)) = false := by
  rw [h, decide_eq_true rfl]
  rfl
def spLaw (K : PySem.W.Frag) : Sp := fun vs H Q _ => ∃ (a : Addr) (ns : List Int), vs = [.ref a] ∧ SqL K H a (ns.map V.int) ∧ ns.length ≤ 63 ∧ ∀ H', Q (.bl true) H'
section
variable {P : Program} {w : World} {K : PySem.W.Frag} {mg : Str → Option Value} {base : Heap}
/-- one call of a def of the text, what is around it given -/
theorem run_def {x qual : Str} {st : Stmt} {f : Addr} {fd : FuncData} {N ps : List Str} {k : Nat} {A : Around} {outer : List Env} {s : Shared} {H : Hp} {args : Args} {us : List Value} {vs : List V} {Q : VK} {E : XK} (F : Fun K x qual st f fd) (S : FnScope N ps (defScope st))
    (rm : Room (k + 1) A) (ev : Env0 P w K mg base A outer s H) (hb : BindsTo s fd args (ps.zip us)) (rv : Vals vs us) (hl : vs.length = ps.length)
    (body : ∀ cdv : Value, ∃ t, PSs (cxOf CX0 P w K mg base N qual (defScope st) f cdv A outer s H E).nox (defBody st) t ∧ t { nx := fun _ H' => Q .non H', rt := Q } (start N vs) H) :
    codeAny (model P w) A (.call (.ref f) args) (CR CX0 outer P w H s Q E) s := by
  obtain ⟨oc, od, kV, doc, pm, an, cdv, ct, osl, rfl, lk, hcd⟩ := F.ex
  have kin : K.In s.heap := ev.mod.kin.keeps fun b o z => (ev.bs b o z).1
  have nolim : s.heap.NoLimit := ev.mod.nolimit.keeps fun b o z => (ev.bs b o z).1
  have kinds : ∀ y ∈ ps.zip us, (defScope st).names.lookup y.1 = some .local ∨ ((defScope st).names.lookup y.1 = some .cell ∧ ((cellsFrom (s.heap.objs.size + 1) (defScope st).names []).lookup y.1).isSome = true) := by
    rintro ⟨n, v⟩ hy
    exact (S.par n (List.of_mem_zip hy).1).elim .inl fun q => .inr ⟨q, PySem.W.cellsFrom_some _ _ _ (.inl q)⟩
  refine codeAny_call_function rm.depth (kin _ _ lk) rfl S.co S.gen rfl (PySem.W.codeRec_of kin hcd) (hb _ _ _ _ (wpAny_newFunctionEnv_cells S.kind kinds fun env he s1 ic => ?_))
  subst he
  obtain ⟨t, ht, hq⟩ := body cdv
  have inv := inv_start S rm.hd ev hl rv ic (CX := CX0) (P := P) (w := w) (E := E)
  refine ⟨nolim.keeps ic.toInCall.keep, codeAny_func (wpAny_mono (ht.nox.run [] s1 (start N vs) H _ inv hq) (fun fl s' hs => ?_) fun _ _ hs => hs)⟩
  cases fl with
  | next =>
    obtain ⟨_, H', J, q⟩ := hs
    exact ⟨V.non, H', J.os, J.bare, J.base, J.hok, (rfl : RelV V.non Value.none), q⟩
  | ret u =>
    obtain ⟨v, _, H', J, ru, q⟩ := hs
    exact ⟨v, H', J.os, J.bare, J.base, J.hok, ru, q⟩
  | brk =>
    obtain ⟨_, _, _, q⟩ := hs
    cases q
  | cont =>
    obtain ⟨_, _, _, q⟩ := hs
    cases q
end
/-- the script alone is known -/
def scriptH (a : Addr) (o : Obj) (ns : List Int) : Hp := fun b => if b = a then some (.frz o (.lst (ns.map V.int))) else none
theorem scriptH_at {a : Addr} {o : Obj} {ns : List Int} : scriptH a o ns a = some (.frz o (.lst (ns.map V.int))) := if_pos rfl
theorem scriptH_ne {a b : Addr} {o : Obj} {ns : List Int} (h : b ≠ a) : scriptH a o ns b = none := if_neg h
/-- the law's call, at the heap behind the top -/
theorem call_law {P : Program} {w : World} {K : PySem.W.Frag} {mg mb : Str → Option Value} {fa a : Addr} {s₁ : Shared} {vs : List Value} {ns : List Int} (kin : K.In s₁.heap) (hmg : s₁.heap.Ns mainGlobals mg) (hmb : s₁.heap.Ns builtinsNs mb)
    (hboot : ∀ x : Str, x ≠ "__name__" → mb x = bootBuiltins x) (nolim : s₁.heap.NoLimit) (hgen : s₁.gens = #[])
    (ha : s₁.heap.get? a = some { cls := .type "list", data := .seq vs.toArray }) (hi : IntsAre vs ns) (hlen : ns.length ≤ 63)
    (run : ∀ (base : Heap) (H : Hp), K.In base → base.Ns mainGlobals mg → Env0 P w K mg base callerA [] s₁ H → SqL K H a (ns.map V.int) →
      codeAny (model P w) callerA (.call (.ref fa) ⟨[.ref a], []⟩) (CR CX0 [] P w H s₁ (fun v _ => v = .bl true) fun _ _ _ => False) s₁) :
    codeAny (model P w) callerA (.call (.ref fa) ⟨[.ref a], []⟩) (fun r s' => r = .ok (.ret (.bool true)) ∧ OldK s₁.heap s'.heap ∧ s'.os = s₁.os ∧ AllBare s'.gens) s₁ := by
  have rv := vals_ints hi
  have le63 : ns.length ≤ sizeLine := by
    rw [sizeLine_eq]
    omega
  have go : ∀ H : Hp, (∀ b, H b ≠ none → b = a ∧ K.lookup a = none ∧ H a = some (.frz { cls := .type "list", data := .seq vs.toArray } (.lst (ns.map V.int)))) → SqL K H a (ns.map V.int) →
      codeAny (model P w) callerA (.call (.ref fa) ⟨[.ref a], []⟩) (fun r s' => r = .ok (.ret (.bool true)) ∧ OldK s₁.heap s'.heap ∧ s'.os = s₁.os ∧ AllBare s'.gens) s₁ := by
    intro H only sq
    have plain : ∀ {b : Addr} {o : Obj} {es : Array DictEntry} {ep : Nat}, s₁.heap.get? b = some o → o.data = .dict es ep → H b = none := by
      intro b o es ep e dd
      refine Classical.byContradiction fun q => ?_
      obtain ⟨rfl, _⟩ := only b q
      rw [ha] at e
      cases e
      exact nomatch dd
    have spaces : ∀ {b : Addr} {m : Str → Option Value}, s₁.heap.Ns b m → (hidT s₁.heap H).Ns b m := by
      rintro b m ⟨o, es, ep, e, dd, r⟩
      exact ⟨o, es, ep, hidT_get e (plain e dd), dd, r⟩
    have kin' : K.In (hidT s₁.heap H) := by
      intro b o e
      refine hidT_get (kin b o e) (Classical.byContradiction fun q => ?_)
      obtain ⟨rfl, n, _⟩ := only b q
      rw [n] at e
      cases e
    have hok : HOk P w H s₁.heap := by
      intro b u e
      obtain ⟨rfl, _, q⟩ := only b (by rw [e]; exact fun z => nomatch z)
      rw [q] at e
      cases e
      exact ⟨ha, by rw [List.length_map]; exact le63, vs, _, rv, ha⟩
    obtain ⟨ml, l1, l2⟩ := nolim
    have ev : Env0 P w K mg (hidT s₁.heap H) callerA [] s₁ H :=
      ⟨rfl, ⟨kin', spaces hmg, ⟨mb, spaces hmb, hboot⟩, ⟨ml, spaces l1, l2⟩⟩, fun _ _ z => of_hidT z, Nat.le_of_eq (hidT_size _ _), trivial, fun b z => (by cases z), hok, .of_eq hgen⟩
    refine codeAny_mono (run _ H kin' (spaces hmg) ev sq) fun r s' hr => ?_
    rcases r with e | fl
    · exact False.elim hr
    rcases fl with _ | _ | _ | u
    all_goals first | exact False.elim hr | skip
    obtain ⟨v, H', os, bare, un, hok', ru, rfl⟩ := hr
    obtain rfl : u = Value.bool true := ru
    refine ⟨rfl, OldK.of_keep fun b o e => ?_, os, bare⟩
    cases q : H b with
    | none => exact un.keep b o e q (fun z => by cases z) (fun z => by simp at z)
    | some y =>
      obtain ⟨rfl, _, q2⟩ := only b (by rw [q]; exact fun z => nomatch z)
      have old := (hok _ _ q2).1
      have new := (hok' _ _ (un.frzs _ _ _ q2)).1
      rw [e] at old
      cases old
      exact new
  cases z : K.lookup a with
  | none =>
    refine go (scriptH a { cls := .type "list", data := .seq vs.toArray } ns) (fun b q => ?_) (.inl (.inr ⟨_, scriptH_at⟩))
    by_cases e : b = a
    · exact ⟨e, z, scriptH_at⟩
    · exact absurd (scriptH_ne e) q
  | some o =>
    have e := kin a o z
    rw [ha] at e
    cases e
    exact go (fun _ => none) (fun _ q => absurd rfl q) (.inr ⟨_, vs.toArray, _, z, rfl, rfl, rfl, by rw [List.size_toArray, hi.length]; exact le63, by simpa using rv⟩)
/-- a def of the text stands behind the top by its name -/
def Has (K : PySem.W.Frag) (mg : Str → Option Value) (x : Str) (st : Stmt) : Prop := ∃ f fd, Fun K x x st f fd ∧ mg x = some (.ref f)
section
variable {P : Program} {w : World} {K : PySem.W.Frag} {mg : Str → Option Value} {h : Heap}
theorem has_mk {x : Str} {st : Stmt} {f : Addr} {oc kV dc pm cd ct : Value} {od an : Option Addr} {sl : Array (Option Value)} (X : K.In h) (G : h.Ns mainGlobals mg) (a : PySem.W.nsIn K mainGlobals x = some (some (.ref f)))
    (l : K.lookup f = some ⟨oc, od, .func (PySem.W.fnOf x x (defArgs st) (defBody st) (defScope st) .none kV dc pm an cd ct), sl⟩) (c : PySem.W.codeIn K cd x = true) (k : PySem.W.keepIn K (.ref f) = true) : Has K mg x st :=
  ⟨f, _, fun_mk l c k, PySem.W.mg_of X G a⟩
/-- the def that it is: one promise, from the def's own theorem -/
theorem Has.own {base : Heap} {k : Nat} {x : Str} {st : Stmt} {ps : List Str} {sp : Sp} (hs : Has K mg x st) (ok : ∀ f fd, Fun K x x st f fd → FnOk P w K mg base CX0 k f fd ps sp)
    (b : ∀ (kV doc pm : Value) (an : Option Addr) (cdv ct : Value) (us : List Value), us.length = ps.length → bindArgs (PySem.W.fnOf x x (defArgs st) (defBody st) (defScope st) .none kV doc pm an cdv ct) ⟨us, []⟩ = pure (ps.zip us)) : Own P w K mg base k x ps sp := by
  obtain ⟨f, fd, F, m⟩ := hs
  exact ⟨f, fd, ok f fd F, m, F.kp, F.binds b⟩
/-- the end of the row, from what the top has written -/
theorem walk_law {l : PySem.W.OpenLaw} {q : Program} {loose : List Str} {XP : (Str → Option Value) → Heap → Prop} {YP : World → Heap → Prop} {d : DefRec} {K : Params → PySem.W.Frag} (hn : l.most = some 63) (hdf : d.params.defaults = [])
    (hY : ∀ (w : World) (h : Heap), YP w h → (K w.params).In h)
    (F : ∀ (w : World) (mg : Str → Option Value) (fa : Addr) (h : Heap), (K w.params).In h → h.Ns mainGlobals mg → mg d.name = some (.ref fa) →
      ∀ (base : Heap) (s₁ : Shared) (H : Hp) (a : Addr) (ns : List Int), Env0 l.prog w (K w.params) mg base callerA [] s₁ H → SqL (K w.params) H a (ns.map V.int) → ns.length ≤ 63 →
        codeAny (model l.prog w) callerA (.call (.ref fa) ⟨[.ref a], []⟩) (CR CX0 [] l.prog w H s₁ (fun v _ => v = .bl true) fun _ _ _ => False) s₁) :
    PySem.W.WalkO q loose XP YP l.row.toRowW d [] (fun f vs => PySem.call f vs) := by
  refine Att.attach_call hn hdf fun w s₀ s₁ mg mb fa o pm cd doc a vs ns G Y _ _ _ hmg hobj hints hlen hg => ?_
  exact call_law (hY w _ Y) G.T.g G.T.b G.T.builtins G.T.nolimit hg hobj hints hlen fun base H _ _ ev sq => F w mg fa _ (hY w _ Y) G.T.g hmg base s₁ H a ns ev sq hlen
end
end Sw
namespace Sw
open PySem PySem.Spec PyProof.Rows L2
/-! ### defs that call repr: what is around them guards nothing -/
structure FnG (P : Program) (w : World) (K : PySem.W.Frag) (mg : Str → Option Value) (base : Heap) (k : Nat) (f : Addr) (fd : FuncData) (ps : List Str) (sp : Sp) : Prop where
  len : ∀ vs H Q E, sp vs H Q E → vs.length = ps.length
  run : ∀ (A : Around) (outer : List Env) (s : Shared) (H : Hp) (args : Args) (us : List Value) (vs : List V) (Q : VK) (E : XK), Room k A → A.guards = some [] → Env0 P w K mg base A outer s H → BindsTo s fd args (ps.zip us) → Vals vs us → sp vs H Q E →
    codeAny (model P w) A (.call (.ref f) args) (CR CX0 outer P w H s Q E) s
section
variable {P : Program} {w : World} {K : PySem.W.Frag} {mg : Str → Option Value} {base : Heap}
theorem Fun.okG {x qual : Str} {st : Stmt} {f : Addr} {fd : FuncData} {N ps : List Str} {k : Nat} {sp : Sp} (F : Fun K x qual st f fd) (S : FnScope N ps (defScope st)) (len : ∀ vs H Q E, sp vs H Q E → vs.length = ps.length)
    (walk : ∀ (cdv : Value) (A : Around) (outer : List Env) (s : Shared) (H : Hp) (vs : List V) (Q : VK) (E : XK), Room k (A.deeper (envOfC qual (defScope st) s.heap.objs.size f cdv)) → (A.deeper (envOfC qual (defScope st) s.heap.objs.size f cdv)).guards = some [] → sp vs H Q E →
      ∃ t, PSs (cxOf CX0 P w K mg base N qual (defScope st) f cdv A outer s H E).nox (defBody st) t ∧ t { nx := fun _ H' => Q .non H', rt := Q } (start N vs) H) : FnG P w K mg base (k + 1) f fd ps sp :=
  ⟨len, fun A outer s H args us vs Q E hr hg ev hb rv h => run_def F S hr ev hb rv (len _ _ _ _ h) fun cdv => walk cdv A outer s H vs Q E (hr.deeper _) hg h⟩
/-- such a def of one's own, by its name -/
structure OwnG (P : Program) (w : World) (K : PySem.W.Frag) (mg : Str → Option Value) (base : Heap) (k : Nat) (x : Str) (ps : List Str) (sp : Sp) : Prop where
  ex : ∃ f fd, FnG P w K mg base k f fd ps sp ∧ mg x = some (.ref f) ∧ PySem.W.keepIn K (.ref f) = true ∧ Binds K fd ps []
theorem Has.ownG {x : Str} {st : Stmt} {k : Nat} {ps : List Str} {sp : Sp} (h : Has K mg x st) (ok : ∀ f fd, Fun K x x st f fd → FnG P w K mg base k f fd ps sp)
    (b : ∀ (kV doc pm : Value) (an : Option Addr) (cdv ct : Value) (us : List Value), us.length = ps.length → bindArgs (PySem.W.fnOf x x (defArgs st) (defBody st) (defScope st) .none kV doc pm an cdv ct) ⟨us, []⟩ = pure (ps.zip us)) : OwnG P w K mg base k x ps sp := by
  obtain ⟨f, fd, F, m⟩ := h
  exact ⟨f, fd, ok f fd F, m, F.kp, F.binds b⟩
end
section
variable {X : Cx} {k : Nat} {f : Addr} {fd : FuncData} {ps : List Str} {sp : Sp} {E : XK} {x : Str} {p pos : Pos} {e : Expr} {es : List Expr} {t : TA}
theorem pe_callG (F : FnG X.prog X.w X.K X.mg X.base k f fd ps sp) (hr : Room k X.A) (hgd : X.A.guards = some []) (hg : Gl X x) (hm : X.mg x = some (.ref f)) (hk : PySem.W.keepIn X.K (.ref f) = true) (hb : Binds X.K fd ps []) (hx : Passes CX0 X E)
    (ha : PA X (e :: es) t) (hdb : (x == ("__debug__" : Str)) = false := by decide) (he : starEach (e :: es) X.env = (false, eval e X.env) :: starEach es X.env := by rfl) (hpl : (backTo pos (starEach es X.env)).any (·.1) = false := by rfl) :
    PE X (.Call (.Name x p) (e :: es) [] pos) (tCall sp [] E t) := by
  refine ⟨fun pins s σ H Q I h => wpAny_Call_Name_kw (ld_glob I hg hm ?_ hdb)⟩
  refine PySem.W.callWith_K (h₀ := X.base) I.ok.mod.kin hk (thn (ha.run pos pins s σ H _ I h) fun us s1 ⟨vs, H1, I1, r, q⟩ => ⟨I1.kIn, ?_⟩) he hpl
  have q : sp (vs ++ []) H1 Q E := q
  rw [List.append_nil] at q
  have hl : us.length = ps.length := by
    rw [← r.length]
    exact F.len _ _ _ _ q
  have b := hb s1 us I1.kIn (by rw [List.append_nil]; exact hl)
  rw [List.append_nil] at b
  refine wpAny_call (codeAny_mono (F.run X.A X.stack s1 H1 ⟨us, []⟩ us vs Q E hr hgd I1.env0 b r q) fun r s' hq => ?_)
  rcases r with e | fl
  · exact hx pins σ H1 s1 e s' I1 hq
  rcases fl with _ | _ | _ | u
  all_goals first | exact hq.elim | skip
  exact I1.after hq
/-- repr(t), t a tuple of data -/
def rReprT (K : PySem.W.Frag) : List V → Hp → VK → Prop := fun xs H Q => ∃ x ds as, xs = [x] ∧ Rep K H (.tup ds) x as ∧ smallAll ds ∧ wtAll ds ≤ 10000000 ∧ depAll ds ≤ 30 ∧ Q (.str (shown (.tup ds))) H
theorem call_reprT {X : Cx} {k : Nat} (hr : Room k X.A) (hg : X.A.guards = some []) : CallR X (.builtin "repr") (rReprT X.K) := by
  intro pins s σ H xs us Q I r h
  obtain ⟨x, ds, as, rfl, hd, sm, z, dp, q⟩ := h
  obtain ⟨u, rfl, hu⟩ := vals1 r
  have un := hr.units
  have hz : wt (.tup ds) ≤ sizeLine := by
    rw [sizeLine_eq]
    simp only [wt]
    omega
  have hsh : (tupleText (shownAll ds)).length ≤ sizeLine := by
    have h1 := shown_wt (.tup ds)
    simp only [shown] at h1
    omega
  simp only [Rep] at hd
  obtain ⟨a, ys, bs, rfl, ha, ra, na, rfl⟩ := hd
  cases (show u = Value.ref a from hu)
  obtain ⟨_, its, rv, o, h1, h2, n, h3⟩ := (show ObjOk X.prog X.w H s.heap a (.tup ys) from I.hok a _ ha)
  have kr := RepAll.shows I.hok I.kIn ra rv sm (by simp only [wt] at hz; omega) (depAll ds) (Nat.le_refl _)
  have hT : s.TypeIs (.ref a) "tuple" := ⟨o, h1, h2⟩
  simp only [shown] at q
  refine call_repr_slot (by omega) hT PySem.F.slot_tuple_repr ?_
  exact call_tuple_reprK (h₀ := s.heap) (d := depAll ds) h1 h2 h3 na (by simpa using kr) (g := []) hg (fun b _ => Clear.nil b) (by show X.A.units + 1 + _ < cLine; omega) (fun _ _ e => e) (fun h' u tk hk => ⟨_, _, rfl, .str _, H, I.kept (t' := tk) hk, ⟨_, rfl⟩, q⟩) hsh
end
end Sw
namespace Sw
open PySem PySem.Spec PyProof.Rows L2 SX
/-! ### _law_seen of texts -/
theorem pss_ifT {X : Cx} {b : List Stmt} {t : TS} {p : Prop} (h : p → PSs X b t) : PSs X b (fun D σ H => p ∧ t D σ H) := ⟨fun pins s σ H D I q => (h q.1).run pins s σ H D I q.2⟩
abbrev sSeenT : Stmt := top 27
abbrev nSeenT : List Str := ["value", "is_named", "slip"]
theorem scSeenT : FnScope nSeenT ["value", "is_named"] (defScope sSeenT) := ⟨rfl, rfl, rfl, by decide +kernel, rfl, by decide +kernel, by decide +kernel⟩
section
variable {P : Program} {w : World} {K : PySem.W.Frag} {mg : Str → Option Value} {base : Heap} {C S' : Addr}
/-- read_net: by place, and by its word -/
structure OwnRd (P : Program) (w : World) (K : PySem.W.Frag) (mg : Str → Option Value) (base : Heap) (k : Nat) (C : Addr) : Prop where
  ex : ∃ f fd, FnOk P w K mg base (L2.CX P w) k f fd ["value"] (spReadNet K C) ∧ mg "read_net" = some (.ref f) ∧ PySem.W.keepIn K (.ref f) = true ∧ Binds K fd ["value"] [] ∧ KBinds K fd ["value"] ["value"] (· ++ ·) (· ++ ·)
def badD : D := .lst [.str "bad", .bl true]
def netDD (dd : D) : D := .lst [.str "net", dd]
def spSeenT (K : PySem.W.Frag) : Sp := fun vs H Q _ => ∃ (x : V) (d : D) (as : List Addr) (nm : Bool), vs = [x, .bl nm] ∧ Rep K H d x as ∧ (∀ l : List Nat, d = .str (S l) → l.length ≤ 100000) ∧
  ((∀ l dd, d = .str (S l) → ¬ Good l dd) → ∀ (r : Addr) (bs : List Addr) (H' : Hp), Same H H' → Rep K H' badD (.ref r) bs → Q (.ref r) H') ∧
  (∀ l dd, d = .str (S l) → Good l dd → ∀ (r : Addr) (bs : List Addr) (H' : Hp), Same H H' → Rep K H' (netDD dd) (.ref r) bs → Q (.ref r) H')
theorem ok_seenT {f : Addr} {fd : FuncData} (F : Fun K "_law_seen" "_law_seen" sSeenT f fd) (B : NoNames mg) (U : UErr K mg "BadText" "SwapError" C S') (O : OwnRd P w K mg base 5 C) : FnOk P w K mg base CX0 6 f fd ["value", "is_named"] (spSeenT K) := by
  obtain ⟨fA, fdA, GA, mA, kA, bA, wA⟩ := O.ex
  refine F.ok scSeenT (fun vs H Q E h => ?_) (fun cdv A outer s H vs Q E hr h => ?_)
  · obtain ⟨x, d, as, nm, rfl, _⟩ := h
    rfl
  · obtain ⟨x, d, as, nm, rfl, hd, hlen, k1, k2⟩ := h
    refine ⟨_, pss_one (ps_try_as (i := 2) (Wout := fun _ _ _ _ => False) rfl rfl scSeenT.nd rfl rfl ⟨rfl, by decide, .inl U.mx⟩ takes0
      (fun W pn xe tk _ => pss_one (ps_ret (pe_lst (pa_cons pe_str (pa_cons (pe_ifExp (pt_val (pv 1)) (pe_callWS GA hr (by rfl) mA kA wA (fun σ => passAt tk σ) (pk_cons (pv 0) pk_nil)) (pe_callS GA hr (by rfl) mA kA bA (fun σ => passAt tk σ) (pa_cons (pv 0) pa_nil))) pa_nil)))))
      (fun a oe cls d pn hz hf => pss_ifT (p := cls = .ref C ∧ d = none) fun pq => by
        obtain ⟨rfl, rfl⟩ := pq
        exact pss_one (ps_ret (pe_lst (pa_cons pe_str (pa_cons (pe_callB (call_isE U.ex hz hf) (by rfl) B.isi (by decide +kernel) (pa_cons (pv 2) (pa_cons (pe_glob (v := .ref S') rfl U.my rfl) pa_nil))) pa_nil)))))), ?_⟩
    refine ⟨_, rfl, nm, rfl, ?_⟩
    have raised : (∀ l dd, d = .str (S l) → ¬ Good l dd) → ∀ H' : Hp, Same H H' → ∀ (r : Addr), H' r = none → Q (.ref r) (upd H' r (.lst [.str "bad", .bl true])) := fun hb H' s1 r nr => by
      refine k1 hb r [r] _ (s1.trans (same_new nr)) ?_
      unfold badD
      simp only [Rep, RepAll]
      exact ⟨r, _, [], rfl, upd_same, ⟨_, _, [], [], rfl, ⟨rfl, rfl⟩, ⟨_, _, [], [], rfl, ⟨rfl, rfl⟩, ⟨rfl, rfl⟩, rfl⟩, rfl⟩, by simp, rfl⟩
    have found : ∀ l dd, d = .str (S l) → Good l dd → ∀ (q : Addr) (bs : List Addr) (H' : Hp), Same H H' → Rep K H' dd (.ref q) bs → ∀ r, H' r = none → Q (.ref r) (upd H' r (.lst [.str "net", .ref q])) := fun l dd e g q bs H' s1 rp r nr => by
      obtain ⟨as2, rp2⟩ := rep_pair (show Rep K H' (.str "net") (.str "net") [] by simp [Rep]) rp nr
      exact k2 l dd e g r as2 _ (s1.trans (same_new nr)) rp2
    refine ite2 (fun _ => ?_) (fun _ => ?_)
    · refine ⟨_, rfl, x, d, as, rfl, hd, hlen, fun hb H' s1 => ⟨true, U.takes, fun _ a na => ⟨⟨rfl, rfl⟩, _, rfl, .ref S', .ref S', true, rfl, fun u r => r, U.sub, by show 2 ≤ sizeLine; decide, raised hb H' s1⟩, fun q => nomatch q⟩, fun l dd e g q bs H' s1 rp => ⟨by show 2 ≤ sizeLine; decide, found l dd e g q bs H' s1 rp⟩⟩
    · refine ⟨_, rfl, x, d, as, rfl, hd, hlen, fun hb H' s1 => ⟨true, U.takes, fun _ a na => ⟨⟨rfl, rfl⟩, _, rfl, .ref S', .ref S', true, rfl, fun u r => r, U.sub, by show 2 ≤ sizeLine; decide, raised hb H' s1⟩, fun q => nomatch q⟩, fun l dd e g q bs H' s1 rp => ⟨by show 2 ≤ sizeLine; decide, found l dd e g q bs H' s1 rp⟩⟩
end
end Sw
namespace Sw
open PySem PySem.Spec PyProof.Rows L2 SX
/-! ### a text so many times -/
/-- what is a text of at most so many signs -/
def rMulS : R2 := fun x y H Q => ∃ (z : Str) (k : Int), x = .str z ∧ y = .int k ∧ 2 ≤ k ∧ k ≤ 10000 ∧ 1 ≤ z.length ∧ z.length ≤ 100 ∧ ∀ y : Str, y.length ≤ z.length * k.toNat → Q (.str y) H
theorem fold_len (c : Array Nat) : ∀ (n : Nat) (a : Array Nat), ((List.replicate n c).foldl (· ++ ·) a).size = a.size + n * c.size
  | 0, a => by simp
  | n + 1, a => by
    rw [List.replicate_succ, List.foldl_cons, fold_len c n]
    rw [Array.size_append, Nat.succ_mul]
    omega
theorem op_mulS {X : Cx} : OpR X (binaryOp .Mult) rMulS := by
  intro pins s σ H x y v u Q I rx ry h
  obtain ⟨z, k, rfl, rfl, k1, k2, z1, z2, q⟩ := h
  obtain ⟨t, rfl⟩ := rx
  obtain ⟨t', rfl⟩ := ry
  have one : (k == 1 || z.length == 0) = false := by
    rw [Bool.or_eq_false_iff]
    exact ⟨by simpa using (show k ≠ 1 by omega), by simpa using (show z.length ≠ 0 by omega)⟩
  have le : z.length * k.toNat ≤ 100 * 10000 := Nat.mul_le_mul z2 (by omega)
  refine P.mul_str (by rw [decide_eq_false (by omega), decide_eq_false (by omega)]; rfl) (fun _ _ => ?_) (fun _ _ => ?_) ?_
  · have h1 : (z.length : Int) * k ≤ 100 * 10000 := Int.mul_le_mul (by omega) (by omega) (by omega) (by decide)
    have h2 : (z.length : Int) ≤ (2 ^ 63 - 1) / k := (Int.le_ediv_iff_mul_le (by omega)).mpr (by
      have e : (2 : Int) ^ 63 - 1 = 9223372036854775807 := by decide
      rw [e]
      omega)
    omega
  · unfold PySem.Builtin.Str.tooLong sizeLine
    refine decide_eq_false ?_
    have e : (2 : Nat) ^ 24 = 16777216 := by decide
    omega
  · rw [if_neg (by omega), one]
    have len : (⟨(List.replicate k.toNat z.cps).foldl (· ++ ·) #[]⟩ : Str).length ≤ z.length * k.toNat := by
      show ((List.replicate k.toNat z.cps).foldl (· ++ ·) #[]).size ≤ _
      rw [fold_len]
      show 0 + k.toNat * z.length ≤ _
      rw [Nat.mul_comm]
      omega
    refine ⟨?_, .str _, H, I.tok _, ⟨_, rfl⟩, q _ len⟩
    rw [sizeLine_eq]
    omega
end Sw
namespace Sw
open PySem PySem.Spec PyProof.Rows L2 SX PySem.StrLaws PySem.Builtin PySem.Builtin.Str
/-! ### texts that are spoilt: rules -/
theorem reprChar_pos (q c : Nat) : 1 ≤ (reprChar q c).length := by
  unfold reprChar
  dsimp only
  repeat' split
  all_goals simp only [List.length_append, List.length_cons, List.length_nil]
  all_goals omega
theorem foldl_repr_more (q : Nat) : ∀ (l : List Nat) (acc : Array Nat), acc.size + l.length ≤ (l.foldl (fun out c => out ++ (reprChar q c).toArray) acc).size
  | [], acc => Nat.le_refl _
  | c :: r, acc => by
    have ih := foldl_repr_more q r (acc ++ (reprChar q c).toArray)
    have := reprChar_pos q c
    simp only [List.foldl_cons, List.length_cons]
    simp only [Array.size_append, List.size_toArray] at ih
    omega
theorem reprText_more (x : Str) : x.length ≤ (reprText x).length := by
  unfold reprText
  show x.length ≤ ((x.cps.foldl (fun out c => out ++ (reprChar (reprQuote x) c).toArray) #[reprQuote x]).push (reprQuote x)).size
  rw [Array.size_push, ← Array.foldl_toList]
  have := foldl_repr_more (reprQuote x) x.cps.toList #[reprQuote x]
  have e : x.cps.toList.length = x.length := by simp [Str.length]
  omega
section
variable {X : Cx} {st : Stmt} {rest : List Stmt} {t u : TS} {e f : Expr} {es : List Expr} {te tf : TE} {ta : TA} {pos : Pos}
theorem pst_cut {J J' : L2.St → Hp → Prop} (h : PST X st t) (hJ : ∀ D σ H, J σ H → (∀ σ' H', J' σ' H' → D.nx σ' H') → t D σ H) : PST X st (tCut J J') :=
  fun pins s σ H D h0 I q => h pins s σ H D h0 I (hJ D σ H q.1 q.2)
theorem pst_set {i : Nat} {x : Str} {pos' : Pos} (hN : X.N.Nodup) (hi : X.N[i]? = some x) (hx : Loc X.env.scope x) (he : PET X e te) (hs : swapsWith e (some (.Name x pos')) pos.line X.env = pure false := by rfl) (hf : X.fn x = true ∨ X.env.scope.names.lookup x = some .local := by first | exact .inl rfl | exact .inr rfl | assumption) :
    PST X (.Assign [.Name x pos'] e pos) (tAsg te (gName i)) := by
  intro pins s σ H D h0 I h
  refine wpAny_Assign_Name (thn (he pins s σ H _ h0 I h) fun v s1 ⟨y, H1, I1, r1, q1⟩ => ?_) hs
  exact store_ok I1 hN hi hx r1 (fun s2 I2 => ⟨_, H1, I2, q1⟩) hf
theorem pst_expr (he : PET X e te) (hs : swapsWith e none pos.line X.env = pure false := by rfl) : PST X (.Expr e pos) (tDrop te) := by
  intro pins s σ H D h0 I h
  exact wpAny_Expr_any (thn (he pins s σ H _ h0 I h) fun v s1 ⟨x, H1, I1, r1, q1⟩ => ⟨σ, H1, I1, q1⟩) I.quiet hs
/-- name = [a text, ..]: behind it a token is out -/
theorem pss_strs {i j : Nat} {x c : Str} {cpos pos' lpos : Pos} (hN : X.N.Nodup) (hi : X.N[i]? = some x) (hx : Loc X.env.scope x) (h : PA X es ta) (h2 : PSsT X rest u)
    (hst : starEach (.Constant (.str c) j cpos :: es) X.env = (false, eval (.Constant (.str c) j cpos) X.env) :: starEach es X.env := by rfl)
    (hs : swapsWith (.List (.Constant (.str c) j cpos :: es) lpos) (some (.Name x pos')) pos.line X.env = pure false := by rfl) (hf : X.fn x = true ∨ X.env.scope.names.lookup x = some .local := by first | exact .inl rfl | exact .inr rfl | assumption) :
    PSs X (.Assign [.Name x pos'] (.List (.Constant (.str c) j cpos :: es) lpos) pos :: rest) (tSeq (tAsg (tLst (fun σ H Q => ta σ H fun xs H' => Q (.str c :: xs) H')) (gName i)) u) := by
  refine ⟨fun pins s σ H D I q => ?_⟩
  refine wpAny_execs_cons (wpAny_Assign_Name (wpAny_List_spliced ?_) hs)
  rw [hst]
  show wpAny _ _ (spliced ((false, eval (.Constant (.str c) j cpos) X.env) :: backTo lpos (starEach es X.env))) _ _ s
  refine Calls.spliced_cons (Calls.Constant_str ?_)
  have I0 : Inv X pins σ H { s with toks := s.toks + 1 } := I.tok _
  refine wpAny_mono (PySem.wpAny_toks (h.run lpos pins _ σ H _ I0 q)) (fun us s1 q1 => ?_) fun _ _ z => z.2
  obtain ⟨hk, xs, H1, I1, r, z, q1⟩ := q1
  have hk : s.toks + 1 ≤ s1.toks := hk
  have z : (V.str c :: xs).length ≤ sizeLine := z
  refine ⟨by rw [List.length_cons, ← r.length]; exact z, ?_⟩
  have hfr : H1 s1.heap.objs.size = none := I1.hok.fresh (Nat.le_refl _)
  have q2 := q1 _ hfr
  have I2 : Inv X pins σ (upd H1 s1.heap.objs.size (.lst (.str c :: xs))) { s1 with heap := s1.heap.push { cls := .type "list", data := .seq (Value.str c s.toks :: us).toArray } } :=
    I1.laid (t' := s1.toks) (fun b u e => Heap.get?_push_of_some _ e) (Nat.le_refl _) ⟨z, .str c s.toks :: us, 0, .cons ⟨_, rfl⟩ r, Heap.get?_push_size _ rfl⟩
  refine wpAny_mono (PySem.wpAny_toks (store_ok (v := V.ref s1.heap.objs.size) (u := Value.ref s1.heap.objs.size) (Q := fun _ s2 => Inv X pins (σ.set i (some (V.ref s1.heap.objs.size))) (upd H1 s1.heap.objs.size (.lst (.str c :: xs))) s2) I2 hN hi hx rfl (fun _ I2 => I2) hf)) (fun _ s2 q => ?_) fun _ _ z => z.2
  have hk2 : s1.toks ≤ s2.toks := q.1
  exact h2 pins s2 _ _ D (by omega) q.2 q2
/-- a built-in's method, one token out -/
theorem pet_bm {o : Expr} {to : TE} {t : TA} {name : Str} {apos cpos : Pos} {T id : String} {r : V → List V → Hp → VK → Prop} (pa : PlainAttrs T) (slot : Slot T name id) (hty : typeOf (.builtin id) = pure (.type "method_descriptor")) (hm : MtR X id r) (ho : PE X o to) (ha : PAT X (e :: es) t)
    (hbase : attributeBase o name X.env (eval o X.env) = eval o X.env := by rfl)
    (hfew : ((backTo cpos (starEach (e :: es) X.env)).all (fun x => !x.1) && (backToKw cpos (keywordEach [] X.env)).all (fun x => x.1.isSome)
      && decide ((e :: es).length + ([] : List Keyword).length + (if ([] : List Keyword).isEmpty then 0 else 1) < 30)) = true := by rfl)
    (hline : (apos.endLine == cpos.line) = true := by rfl) (hs : starEach (e :: es) X.env = (false, eval e X.env) :: starEach es X.env := by rfl) (hplain : (backTo cpos (starEach es X.env)).any (·.1) = false := by rfl) :
    PET X (.Call (.Attribute o name apos) (e :: es) [] cpos) (tBM X.K T r to t) := by
  intro pins s σ H Q h0 I h
  refine wpAny_Call_method_late hbase hfew hline rfl (wpAny_mono (PySem.wpAny_toks (ho.run pins s σ H _ I h)) (fun v s1 q => ?_) fun _ _ z => z.2)
  obtain ⟨hk, x, H1, I1, r1, ty, q1⟩ := q
  obtain ⟨h1, h2⟩ := tyV_is I1 r1 ty
  refine ⟨T, id, pa, slot, hty, h1, h2, ?_⟩
  have hA := ha cpos pins s1 σ H1 _ (Nat.le_trans h0 hk) I1 q1
  rw [hs] at hA ⊢
  refine Calls.callWith_builtin (by show (false || (backTo cpos (starEach es X.env)).any (·.1)) = false; rw [hplain] <;> rfl) (Calls.evalArgs_plain ?_)
  exact thn hA fun us s2 ⟨vs, H2, I2, r2, q2⟩ => hm pins s2 σ H2 x vs v us Q I2 r1 r2 q2
end
/-! ### xs[:0:-1] -/
theorem tail_range (n : Nat) : sliceRange ((n : Int) - 1) 0 (-1) = (List.range (n - 1)).map fun k => n - 1 - k := by
  unfold sliceRange
  have h1 : ¬ ((-1 : Int) > 0) := by decide
  by_cases h : (n : Int) - 1 > 0
  · have e : ((n : Int) - 1 - 0 - -1 - 1) / (- -1) = ((n - 1 : Nat) : Int) := by
      rw [show (- -1 : Int) = 1 by decide, Int.ediv_one]
      omega
    simp only [h1, if_false, h, if_true, e, Int.toNat_natCast]
    apply List.map_congr_left
    intro k hk
    have := List.mem_range.mp hk
    omega
  · have e : n - 1 = 0 := by omega
    rw [e]
    simp only [h1, if_false, h]
    rfl
theorem tail_pick (items : List Value) : slicePick items.toArray none (some 0) (some (-1)) = items.tail.reverse.toArray := by
  unfold slicePick
  have eb : sliceBounds none (some 0) (some (-1)) items.toArray.size = ((items.length : Int) - 1, (if (items.length : Int) = 0 then -1 else 0), -1) := by
    rw [List.size_toArray]
    unfold sliceBounds
    by_cases z : items.length = 0
    · rw [z]; rfl
    · have h1 : ¬ ((-1 : Int) > 0) := by decide
      simp only [Option.getD_some, h1, if_false]
      have h2 : ¬ ((items.length : Int) = 0) := by omega
      rw [if_neg h2]
      congr 2
      simp
      omega
  rw [eb]
  dsimp only
  cases items with
  | nil => rfl
  | cons a r =>
    have h2 : ¬ (((a :: r).length : Int) = 0) := by rw [List.length_cons]; omega
    rw [if_neg h2, tail_range, List.filterMap_map, List.tail_cons]
    congr 1
    rw [List.length_cons, Nat.add_sub_cancel]
    have go : ∀ k, k ≤ r.length → (List.range k).filterMap ((fun (i : Nat) => (a :: r).toArray[i]?) ∘ fun k => r.length - k) = r.reverse.take k := by
      intro k
      induction k with
      | zero => intro _; rfl
      | succ k ih =>
        intro hk
        have hk' : k < r.reverse.length := by rw [List.length_reverse]; exact hk
        rw [List.range_succ, List.filterMap_append, ih (by omega), List.take_add_one, List.getElem?_eq_getElem hk']
        congr 1
        have e1 : (a :: r).toArray[r.length - k]? = some r.reverse[k] := by
          rw [List.getElem?_toArray, show r.length - k = (r.length - k - 1) + 1 by omega, List.getElem?_cons_succ, List.getElem_reverse, List.getElem?_eq_getElem (by omega)]
          congr 2
          omega
        show (List.filterMap ((fun (i : Nat) => (a :: r).toArray[i]?) ∘ fun k => r.length - k) [k]) = [r.reverse[k]]
        simp only [List.filterMap, Function.comp, e1]
    rw [go r.length (Nat.le_refl _), List.take_of_length_le (by rw [List.length_reverse]; exact Nat.le_refl _)]
def tTailL (K : PySem.W.Frag) (te : TE) : TE := fun σ H Q => te σ H fun x H1 => ∃ a xs, x = .ref a ∧ SqL K H1 a xs ∧ ∀ p, H1 p = none → Q (.ref p) (upd H1 p (.lst xs.tail.reverse))
theorem vals_tail : ∀ {vs : List V} {us : List Value}, Vals vs us → Vals vs.tail us.tail
  | _, _, .nil => .nil
  | _, _, .cons _ t => t
theorem pe_tailL {X : Cx} {e : Expr} {te : TE} {k k0 : Nat} {p0 p1 p2 p3 pos : Pos} (he : PE X e te) : PE X (.Subscript e (.Slice none (some (.Constant (.int 0) k0 p0)) (some (.UnaryOp .USub (.Constant (.int 1) k p1) p2)) p3) pos) (tTailL X.K te) := by
  refine ⟨fun pins s σ H Q I h => ?_⟩
  refine Subscript_ (thn (he.run pins s σ H _ I h) fun v s1 ⟨x, H1, I1, r1, q1⟩ => ?_)
  obtain ⟨a, xs, ex, hx, q⟩ := q1
  subst ex
  cases r1
  have hst : PO X (some (.UnaryOp .USub (.Constant (.int 1) k p1) p2)) (tPart (tUn (rU fun i => .int (-i)) (tC (.int 1)))) := po_some (pe_un un_neg pe_int)
  have hsu : PO X (some (.Constant (.int 0) k0 p0)) (tPart (tC (.int 0))) := po_some pe_int
  refine wpAny_Slice (thn (po_none.run pins s1 σ H1 (fun o H2 => o = none ∧ H2 = H1) I1 ⟨rfl, rfl⟩) fun vl s2 ⟨l, H2, I2, pl, el, e2⟩ => ?_)
  subst el e2
  refine thn (hsu.run pins s2 σ H2 (fun o H3 => o = some 0 ∧ H3 = H2) I2 ⟨0, rfl, rfl, rfl⟩) fun vu s3 ⟨u, H3, I3, pu, eu, e3⟩ => ?_
  subst eu e3
  refine thn (hst.run pins s3 σ H3 (fun o H4 => o = some (-1) ∧ H4 = H3) I3 ⟨1, rfl, -1, rfl, rfl, rfl⟩) fun vs s4 ⟨o, H4, I4, ps, eo, e4⟩ => ?_
  subst eo e4
  have I5 : Inv X pins σ H4 { s4 with heap := s4.heap.push { cls := .type "slice", data := .fields #[vl, vu, vs] } } := I4.kept (t' := s4.toks) fun b ob q => Heap.get?_push_of_some _ q
  obtain ⟨its, r, ht, hz⟩ := I5.list hx
  have hlen := r.length
  show wpAny (model X.prog X.w) X.A (subscriptTail e (.Slice none (some (.Constant (.int 0) k0 p0)) (some (.UnaryOp .USub (.Constant (.int 1) k p1) p2)) p3) (.ref a) (.ref s4.heap.objs.size)) (EP X pins σ Q) X.xe { s4 with heap := s4.heap.push { cls := .type "slice", data := .fields #[vl, vu, vs] } }
  refine tail_any (ops := [.ref a, .ref s4.heap.objs.size]) ht.isList.typeIs (PySem.slot_list_getitem.lookup) ?_ (by with_unfolding_all rfl)
  refine wpAny_getItem_list_slice ht.isList (Heap.IsSliceOf.new _ vl vu vs) pl pu ps (by decide) ?_ (by rw [List.size_toArray]; omega)
  rw [tail_pick]
  refine ⟨.ref _, _, I5.laid (t' := s4.toks) (o := .lst xs.tail.reverse) (fun b ob q => Heap.get?_push_of_some _ q) (Nat.le_refl _) ?_, rfl, q _ (I5.hok.fresh (Nat.le_refl _))⟩
  exact ⟨by rw [List.length_reverse, List.length_tail]; omega, _, 0, (vals_tail r).reverse, Heap.get?_push_size _ rfl⟩
end Sw
namespace Sw
open PySem PySem.Spec PyProof.Rows L2 SX
/-! ### a good text is the text of its net -/
theorem join_cons : ∀ (h : List Nat) (ws : List (List Nat)), TL.joinL [32] (h :: ws) = h ++ (ws.map fun wd => [32] ++ wd).flatten
  | h, [] => by
    show h = _
    simp
  | h, w :: ws => by
    show h ++ ([32] ++ TL.joinL [32] (w :: ws)) = _
    rw [join_cons w ws]
    simp
theorem join_spl : ∀ (l acc : List Nat), TL.joinL [32] (TL.spl [32] 0 acc l) = acc ++ l
  | [], acc => by
    rw [TL.spl_nil]
    show acc = _
    simp
  | c :: r, acc => by
    by_cases z : TL.pre [32] (c :: r) = true
    · have ec : c = 32 := by
        unfold TL.pre at z
        simp at z
        exact z
      rw [TL.spl_hit z, show [32].length - 1 = 0 from rfl]
      obtain ⟨h, ws, e⟩ := spl_cons r 0 []
      have ih := join_spl r []
      rw [e] at ih ⊢
      show acc ++ ([32] ++ TL.joinL [32] (h :: ws)) = _
      rw [ih, ec]
      rfl
    · have e : TL.spl [32] 0 acc (c :: r) = TL.spl [32] 0 (acc ++ [c]) r := by
        show (if TL.pre [32] (c :: r) = true then acc :: TL.spl [32] ([32].length - 1) [] r else TL.spl [32] 0 (acc ++ [c]) r) = _
        rw [if_neg z]
      rw [e, join_spl r (acc ++ [c])]
      simp
theorem num_figs {l : List Nat} {v : Int} (h : numD (numL l) = .int v) : l = figsI v ∧ 0 ≤ v ∧ v ≤ 12 := by
  cases e : numL l with
  | none => rw [e] at h; cases h
  | some i =>
    obtain ⟨h1, h2⟩ := numL_some e
    rw [e] at h
    have h : D.int (i : Int) = .int v := h
    obtain rfl := D.int.inj h
    exact ⟨h1.symm, by omega, by omega⟩
theorem word_text {wd : List Nat} {n : Int} (h : isArrow n (wordD wd) = true) : ∃ e : Int × Int, wordD wd = .tup [.int e.1, .int e.2] ∧ Inn n e.1 ∧ Inn n e.2 ∧ [32] ++ wd = arrL e := by
  obtain ⟨v, w, ew, i1, i2, _⟩ := wordD_two h
  refine ⟨(v, w), ew, i1, i2, ?_⟩
  rcases word_cases wd with ⟨p, q, _, e2, e3⟩ | ⟨_, e2⟩
  · unfold wordD at ew
    rw [e2] at ew
    dsimp only at ew
    have q0 := D.tup.inj ew
    obtain ⟨q1, q2⟩ := List.cons.inj q0
    obtain ⟨q2, _⟩ := List.cons.inj q2
    have f1 := (num_figs q1).1
    have f2 := (num_figs q2).1
    unfold arrL
    rw [e3, f1, f2]
    simp
  · exfalso
    unfold wordD at ew
    have q0 := D.tup.inj ew
    obtain ⟨q1, q2⟩ := List.cons.inj q0
    obtain ⟨q2, _⟩ := List.cons.inj q2
    rcases e2 with e2 | e2
    · rw [e2] at q1; cases q1
    · rw [e2] at q2; cases q2
def arrD (e : Int × Int) : D := .tup [.int e.1, .int e.2]
theorem good_text {l : List Nat} {dd : D} (g : Good l dd) : ∃ (n : Int) (ars : List (Int × Int)), dd = .tup [.int n, .tup (ars.map arrD)] ∧ l = textL n ars ∧ 1 ≤ n ∧ n ≤ 12 ∧ (∀ e ∈ ars, Inn n e.1 ∧ Inn n e.2) ∧ ars.length ≤ 144 := by
  have gl := (good_len2 g).2
  obtain ⟨hh, ws, n, ep, e5, en, n1, n2, ed, ha, hl⟩ := good_parts g
  have j := join_spl l []
  rw [ep, join_cons, List.nil_append] at j
  have lw := gl
  rw [ep, List.length_cons] at lw
  have hw : ∀ wd ∈ ws, isArrow n (wordD wd) = true := fun wd hwd => by
    obtain ⟨i, hi, rfl⟩ := List.getElem_of_mem hwd
    exact ha i _ (by rw [List.getElem?_map, List.getElem?_eq_getElem hi]; rfl)
  have prs : ∃ ars : List (Int × Int), ws.map wordD = ars.map arrD ∧ (ws.map fun wd => [32] ++ wd) = ars.map arrL ∧ (∀ e ∈ ars, Inn n e.1 ∧ Inn n e.2) ∧ ars.length = ws.length := by
    clear ep ed ha hl j lw
    induction ws with
    | nil => exact ⟨[], rfl, rfl, fun e h => absurd h (by simp), rfl⟩
    | cons wd r ih =>
      obtain ⟨ars, h1, h2, h3, h4⟩ := ih fun x hx => hw x (List.mem_cons_of_mem _ hx)
      obtain ⟨e, g1, g2, g3, g4⟩ := word_text (hw wd List.mem_cons_self)
      refine ⟨e :: ars, ?_, ?_, fun x hx => ?_, by rw [List.length_cons, List.length_cons, h4]⟩
      · rw [List.map_cons, List.map_cons, h1, g1]
        rfl
      · rw [List.map_cons, List.map_cons, h2, g4]
      · rcases List.mem_cons.mp hx with z | z
        · rw [z]
          exact ⟨g2, g3⟩
        · exact h3 x z
  obtain ⟨ars, a1, a2, a3, a4⟩ := prs
  refine ⟨n, ars, by rw [ed, a1], ?_, n1, n2, a3, by omega⟩
  obtain ⟨h0, eh⟩ := List.getLast?_eq_some_iff.mp e5
  have f := (num_figs en).1
  rw [eh, List.dropLast_concat] at f
  unfold textL
  rw [← j, a2, eh, f]
/-- a net as data is a net as it lies -/
theorem ars_rep {K : PySem.W.Frag} {H : Hp} : ∀ {ars : List (Int × Int)} {ts : List V} {bs : List Addr}, RepAll K H (ars.map arrD) ts bs → ArsAt H ts ars
  | [], ts, bs, h => by
    simp only [List.map_nil, RepAll] at h
    rw [h.1]
    exact .nil
  | e :: r, ts, bs, h => by
    rw [List.map_cons, RepAll] at h
    obtain ⟨x, r2, b1, b2, rfl, h1, h2, _⟩ := h
    refine .cons ?_ (ars_rep h2)
    unfold arrD at h1
    simp only [Rep, RepAll] at h1
    obtain ⟨a, xs, cs, rfl, ha, ⟨x1, r1, _, _, rfl, ⟨rfl, _⟩, ⟨x2, r3, _, _, rfl, ⟨rfl, _⟩, ⟨rfl, _⟩, _⟩, _⟩, _⟩ := h1
    exact ⟨a, rfl, ha⟩
theorem net_of_rep {K : PySem.W.Frag} {H : Hp} {n : Int} {ars : List (Int × Int)} {q : Addr} {bs : List Addr} (h : Rep K H (.tup [.int n, .tup (ars.map arrD)]) (.ref q) bs) (n1 : 1 ≤ n) (n2 : n ≤ 12) (inn : ∀ e ∈ ars, Inn n e.1 ∧ Inn n e.2) (len : ars.length ≤ 144) :
    ∃ (b : Addr) (ts : List V), NetAt n H q b ts ∧ ArsAt H ts ars := by
  rw [Rep] at h
  obtain ⟨a, xs, cs, e, ha, hr, _, _⟩ := h
  cases e
  rw [RepAll] at hr
  obtain ⟨x1, r1, _, c2, rfl, h1, hr, _⟩ := hr
  simp only [Rep] at h1
  obtain ⟨rfl, _⟩ := h1
  rw [RepAll] at hr
  obtain ⟨x2, r2, c3, _, rfl, h2, hr, _⟩ := hr
  simp only [RepAll] at hr
  obtain ⟨rfl, _⟩ := hr
  rw [Rep] at h2
  obtain ⟨b, ts, c5, rfl, hb, h3, _, _⟩ := h2
  have AR := ars_rep h3
  refine ⟨b, ts, ⟨ha, hb, fun x hx => ?_, by rw [AR.len]; omega, n1, n2⟩, AR⟩
  obtain ⟨e, he, t, rfl, ht⟩ := paired_memL AR hx
  obtain ⟨i1, i2⟩ := inn e he
  exact ⟨t, e.1, e.2, rfl, ht, i1, i2⟩
end Sw
namespace Sw
open PySem PySem.Spec PyProof.Rows L2 SX
/-! ### texts shown, answers shown -/
theorem figs_lt : ∀ i, i < 13 → ∀ c ∈ figs i, c < 100 := by decide +kernel
theorem figsI_lt {v : Int} (h : 0 ≤ v) (h2 : v < 13) : ∀ c ∈ figsI v, c < 100 := by
  obtain ⟨k, rfl⟩ := Int.eq_ofNat_of_zero_le h
  exact figs_lt k (by omega)
theorem textL_lt {n : Int} {H : Hp} {a b : Addr} {ts : List V} {ars : List (Int × Int)} (N : NetAt n H a b ts) (AR : ArsAt H ts ars) : ∀ c ∈ textL n ars, c < 100 := fun c hc => by
  have n1 := N.n1
  have n2 := N.n2
  obtain ⟨each, _⟩ := arrL_le N AR
  unfold textL at hc
  rcases List.mem_append.mp hc with hc | hc
  · rcases List.mem_append.mp hc with hc | hc
    · exact figsI_lt (by omega) (by omega) c hc
    · rw [List.mem_singleton.mp hc]
      decide
  · obtain ⟨x, hx, hc⟩ := List.mem_flatten.mp hc
    obtain ⟨e, he, rfl⟩ := List.mem_map.mp hx
    obtain ⟨⟨a1, a2⟩, b1, b2⟩ := each e he
    unfold arrL at hc
    rcases List.mem_append.mp hc with hc | hc
    · rcases List.mem_append.mp hc with hc | hc
      · rcases List.mem_append.mp hc with hc | hc
        · rw [List.mem_singleton.mp hc]; decide
        · exact figsI_lt (by omega) (by omega) c hc
      · rw [List.mem_singleton.mp hc]; decide
    · exact figsI_lt (by omega) (by omega) c hc
theorem text_wt {l : List Nat} (h : ∀ c ∈ l, c < 100) : wt (.str (S l)) ≤ 10 * l.length + 2 := by
  have := PySem.StrLaws.reprText_len (S l) fun c hc => Nat.lt_trans (h c hc) (by decide)
  rw [S_len] at this
  simp only [wt]
  exact this
theorem arrs_wt {n : Int} (n2 : n ≤ 12) : ∀ ars : List (Int × Int), (∀ e ∈ ars, Inn n e.1 ∧ Inn n e.2) → smallAll (ars.map arrD) ∧ wtAll (ars.map arrD) ≤ ars.length * 20 ∧ depAll (ars.map arrD) ≤ 1
  | [], _ => ⟨by simp [smallAll], by simp [wtAll], by simp [depAll]⟩
  | e :: r, h => by
    obtain ⟨h1, h2, h3⟩ := arrs_wt n2 r fun x hx => h x (List.mem_cons_of_mem _ hx)
    obtain ⟨⟨a1, a2⟩, b1, b2⟩ := h e List.mem_cons_self
    obtain ⟨_, i2, i3, _⟩ := int_ok (K := default) (H := fun _ => none) (i := e.1) (w := 3) (k := 0) (by omega) (by decide) (by decide)
    obtain ⟨_, j2, j3, _⟩ := int_ok (K := default) (H := fun _ => none) (i := e.2) (w := 3) (k := 0) (by omega) (by decide) (by decide)
    refine ⟨?_, ?_, ?_⟩
    · rw [List.map_cons, smallAll]
      exact ⟨by unfold arrD; simp only [small, smallAll] at i2 j2 ⊢; exact ⟨i2, j2, trivial⟩, h1⟩
    · rw [List.map_cons, wtAll, List.length_cons]
      have : wt (arrD e) ≤ 17 := by
        unfold arrD
        simp only [wt, wtAll] at i3 j3 ⊢
        omega
      omega
    · rw [List.map_cons, depAll]
      have : dep (arrD e) ≤ 1 := by
        unfold arrD
        simp [dep, depAll]
      omega
theorem net_wt {l : List Nat} {dd : D} (g : Good l dd) : small dd ∧ wt dd ≤ 3000 ∧ dep dd ≤ 3 := by
  obtain ⟨n, ars, rfl, _, n1, n2, inn, len⟩ := good_text g
  obtain ⟨h1, h2, h3⟩ := arrs_wt n2 ars inn
  obtain ⟨_, i2, i3, _⟩ := int_ok (K := default) (H := fun _ => none) (i := n) (w := 3) (k := 0) (by omega) (by decide) (by decide)
  refine ⟨?_, ?_, ?_⟩
  · simp only [small, smallAll] at i2 ⊢
    exact ⟨i2, h1, trivial⟩
  · simp only [wt, wtAll] at i3 ⊢
    omega
  · simp only [dep, depAll]
    omega
/-- what an answer is, as data: refused, or the net -/
theorem ans_wt {l : List Nat} {dd : D} (g : Good l dd) : small (netDD dd) ∧ wt (netDD dd) ≤ 3100 ∧ dep (netDD dd) ≤ 4 := by
  obtain ⟨h1, h2, h3⟩ := net_wt g
  have w : (reprText ("net" : Str)).length = 5 := by decide +kernel
  unfold netDD
  refine ⟨?_, ?_, ?_⟩
  · simp only [small, smallAll]
    exact ⟨trivial, h1, trivial⟩
  · simp only [wt, wtAll, w]
    omega
  · simp only [dep, depAll]
    omega
theorem bad_wt : small badD ∧ wt badD ≤ 3100 ∧ dep badD ≤ 4 := by
  have w : (reprText ("bad" : Str)).length = 5 := by decide +kernel
  unfold badD
  refine ⟨by simp [small, smallAll], ?_, by simp [dep, depAll]⟩
  simp only [wt, wtAll, w]
  decide
end Sw
namespace Sw
open PySem PySem.Spec PyProof.Rows L2 SX
/-! ### the law of texts -/
abbrev sLawX : Stmt := top 29
abbrev nLawX : List Str := ["script", "deck", "turn", "net", "text", "kept", "seen", "values", "spot", "value", "due", "own", "again"]
theorem scLawX : FnScope nLawX ["script"] (defScope sLawX) := ⟨rfl, rfl, rfl, by decide +kernel, rfl, by decide +kernel, by decide +kernel⟩
/-- a value that is asked: data that lies away, texts among it not too long -/
def Askd (K : PySem.W.Frag) (W : Addr → Prop) (H : Hp) (x : V) : Prop := ∃ (dd : D) (as : List Addr), Rep K H dd x as ∧ (∀ a ∈ as, W a) ∧ ∀ l : List Nat, dd = .str (S l) → l.length ≤ 100000
theorem Askd.keep {K : PySem.W.Frag} {W : Addr → Prop} {H H' : Hp} {x : V} (h : Askd K W H x) (s : ∀ a o, W a → H a = some o → H' a = some o) : Askd K W H' x := by
  obtain ⟨dd, as, r, o, b⟩ := h
  exact ⟨dd, as, r.keep fun a ha o' e => s a o' (o a ha) e, o, b⟩
theorem Askd.mono {K : PySem.W.Frag} {W W' : Addr → Prop} {H : Hp} {x : V} (h : Askd K W H x) (s : ∀ a, W a → W' a) : Askd K W' H x := by
  obtain ⟨dd, as, r, o, b⟩ := h
  exact ⟨dd, as, r, fun a ha => s a (o a ha), b⟩
structure IxX where
  sa : Addr
  p : Addr
  d : Addr
  t : Int
  a : Addr
  b : Addr
  n : Int
  ts : List V
  ars : List (Int × Int)
  ds : List D
  as : List Addr
structure BX (K : PySem.W.Frag) (x : IxX) (H : Hp) : Prop where
  dk : Deck H x.p x.d 63
  net : NetAt x.n H x.a x.b x.ts
  ar : ArsAt H x.ts x.ars
  rep : Rep K H (.tup x.ds) (.ref x.a) x.as
  off : ∀ c ∈ x.as, ∃ zs, H c = some (.tup zs)
  sm : smallAll x.ds
  wt : wtAll x.ds ≤ 3500
  dp : depAll x.ds ≤ 3
theorem BX.same {K : PySem.W.Frag} {x : IxX} {H H' : Hp} (h : BX K x H) (s : Same H H') : BX K x H' :=
  ⟨h.dk.same s, h.net.keep (.of s), h.ar.keep (.of s), h.rep.same s, fun c hc => by obtain ⟨zs, e⟩ := h.off c hc; exact ⟨zs, s _ _ e⟩, h.sm, h.wt, h.dp⟩
theorem BX.kp {K : PySem.W.Frag} {x : IxX} {H H' : Hp} (h : BX K x H) (D' : Deck H' x.p x.d 63) (s : Kp x.p x.d H H') : BX K x H' := by
  have ne : ∀ c ∈ x.as, c ≠ x.p ∧ c ≠ x.d := fun c hc => by
    obtain ⟨zs, e⟩ := h.off c hc
    exact h.dk.tne e
  refine ⟨D', h.net.keep (.kp h.dk s), h.ar.keep (.kp h.dk s), h.rep.keep fun c hc o e => s c o e (ne c hc).1 (ne c hc).2, fun c hc => ?_, h.sm, h.wt, h.dp⟩
  obtain ⟨zs, e⟩ := h.off c hc
  exact ⟨zs, s _ _ e (ne c hc).1 (ne c hc).2⟩
theorem BX.upd {K : PySem.W.Frag} {x : IxX} {H : Hp} {D : Addr} {o : HO} (h : BX K x H) (n1 : D ≠ x.p) (n2 : D ≠ x.d) (nt : ∀ zs, H D ≠ some (.tup zs)) : BX K x (upd H D o) := by
  have ne : ∀ c ∈ x.as, c ≠ D := fun c hc z => by
    obtain ⟨zs, e⟩ := h.off c hc
    exact nt zs (by rw [← z]; exact e)
  refine ⟨h.dk.upd n1 n2, h.net.keep (.upd nt), h.ar.keep (.upd nt), h.rep.keep fun c hc o' e => by rw [upd_ne (ne c hc)]; exact e, fun c hc => ?_, h.sm, h.wt, h.dp⟩
  obtain ⟨zs, e⟩ := h.off c hc
  exact ⟨zs, by rw [upd_ne (ne c hc)]; exact e⟩
theorem two_allT {d e : D} (h1 : small d) (h2 : small e) : smallAll [d, e] := by
  simp only [smallAll]
  exact ⟨h1, h2, trivial⟩
def JXa (K : PySem.W.Frag) (x : IxX) (σ : L2.St) (H : Hp) : Prop := ∃ s6 s7 s8 s9 s10 s11 s12, σ = [some (.ref x.sa), some (.ref x.p), some (.int x.t), some (.ref x.a), some (.str (S (textL x.n x.ars))), some (.str (shown (.tup x.ds))), s6, s7, s8, s9, s10, s11, s12] ∧ BX K x H
def JXb (K : PySem.W.Frag) (x : IxX) (σ : L2.St) (H : Hp) : Prop := ∃ s7 s8 s9 s10 s11 s12, σ = [some (.ref x.sa), some (.ref x.p), some (.int x.t), some (.ref x.a), some (.str (S (textL x.n x.ars))), some (.str (shown (.tup x.ds))), some (.str (S (textL x.n x.ars))), s7, s8, s9, s10, s11, s12] ∧ BX K x H
/-- a net's data is a tuple -/
theorem net_tup {K : PySem.W.Frag} {n : Int} {H : Hp} {a b : Addr} {ts : List V} (N : NetAt n H a b ts) : ∃ ds as, Rep K H (.tup ds) (.ref a) as ∧ (∀ c ∈ as, ∃ zs, H c = some (.tup zs)) ∧ smallAll ds ∧ wtAll ds ≤ 3500 ∧ depAll ds ≤ 3 := by
  obtain ⟨dn, as, rn, off, sn, wn, pn⟩ := N.rep (K := K)
  have ha := N.a
  cases dn with
  | tup ds =>
    simp only [small] at sn
    simp only [wt] at wn
    simp only [dep] at pn
    exact ⟨ds, as, rn, off, sn, by omega, by omega⟩
  | lst ds =>
    simp only [Rep] at rn
    obtain ⟨a', _, _, e, h, _⟩ := rn
    cases e
    rw [ha] at h
    cases h
  | dct =>
    simp only [Rep] at rn
    obtain ⟨a', e, h, _⟩ := rn
    cases e
    rw [ha] at h
    cases h
  | dx =>
    simp only [small] at sn
  | exc C nm m =>
    simp only [Rep] at rn
    obtain ⟨a', t, d, e, h, _⟩ := rn
    cases e
    rw [ha] at h
    cases h
  | non => simp [Rep] at rn
  | bl q => simp [Rep] at rn
  | int q => simp [Rep] at rn
  | str q => simp [Rep] at rn
section
variable {P : Program} {w : World} {K : PySem.W.Frag} {mg : Str → Option Value} {base : Heap}
def spSpoiltT (K : PySem.W.Frag) : Sp := fun vs H Q _ => ∃ (p d : Addr) (l : List Nat), vs = [.ref p, .str (S l)] ∧ Deck H p d 63 ∧ l.length ≤ 1300 ∧ (∀ c ∈ l, c < 100) ∧ ∀ (x : V) (H' : Hp), Deck H' p d 63 → Kp p d H H' → Askd K (fun a => H a = none) H' x → Q x H'
structure OwnsX (P : Program) (w : World) (K : PySem.W.Frag) (mg : Str → Option Value) (base : Heap) : Prop where
  deck : Own P w K mg base 1 "_law_deck" ["script"] (spDeck K)
  draw : Own P w K mg base 1 "_law_draw" ["deck", "many"] spDraw
  net : Own P w K mg base 3 "_law_net" ["deck", "n"] spNet
  ltext : Own P w K mg base 1 "_law_text" ["net"] spNetText
  text : Own P w K mg base 1 "net_text" ["net"] spNetText
  textW : ∃ f fd, FnOk P w K mg base CX0 1 f fd ["net"] spNetText ∧ mg "net_text" = some (.ref f) ∧ PySem.W.keepIn K (.ref f) = true ∧ KBinds K fd ["net"] ["net"] (· ++ ·) (· ++ ·)
  read : Own P w K mg base 2 "_law_read" ["value"] (spLRead K)
  seen : Own P w K mg base 6 "_law_seen" ["value", "is_named"] (spSeenT K)
  spoilt : Own P w K mg base 4 "_law_spoilt" ["deck", "text"] (spSpoiltT K)
theorem law_bodyX (B : NoNames mg) (O : OwnsX P w K mg base) {f : Addr} {cdv : Value} {A : Around} {outer : List Env} {s : Shared} {H : Hp} {vs : List V} {Q : VK} {E : XK}
    (hr : Room 6 (A.deeper (envOfC "law" (defScope sLawX) s.heap.objs.size f cdv))) (hgd : (A.deeper (envOfC "law" (defScope sLawX) s.heap.objs.size f cdv)).guards = some []) (h : spLaw K vs H Q E) :
    ∃ t, PSs (cxOf CX0 P w K mg base nLawX "law" (defScope sLawX) f cdv A outer s H E).nox (defBody sLawX) t ∧ t { nx := fun _ H' => Q .non H', rt := Q } (start nLawX vs) H := by
  obtain ⟨fK, fdK, GK, mK, kK, bK⟩ := O.deck.ex
  obtain ⟨fD, fdD, GD, mD, kD, bD⟩ := O.draw.ex
  obtain ⟨fN, fdN, GN, mN, kN, bN⟩ := O.net.ex
  obtain ⟨fX, fdX, GX, mX, kX, bX⟩ := O.ltext.ex
  obtain ⟨fT, fdT, GT, mT, kT, bT⟩ := O.text.ex
  obtain ⟨fW, fdW, GW, mW, kW, wW⟩ := O.textW
  obtain ⟨fR, fdR, GR, mR, kR, bR⟩ := O.read.ex
  obtain ⟨fS, fdS, GS, mS, kS, bS⟩ := O.seen.ex
  obtain ⟨fP, fdP, GP, mP, kP, bP⟩ := O.spoilt.ex
  obtain ⟨sa, ns, rfl, hS, hl, k⟩ := h
  have hr1 : Room 1 _ := hr.mono (by decide)
  have hr2 : Room 2 _ := hr.mono (by decide)
  have hr3 : Room 3 _ := hr.mono (by decide)
  have hr4 : Room 4 _ := hr.mono (by decide)
  refine ⟨_, pss_cons (ps_set (i := 1) scLawX.nd rfl (.inr rfl) (pe_call GK hr1 rfl mK kK bK .nil pass0 (pa_cons (pv 0) pa_nil))) <|
    pss_cons (ps_for PassesOwn.never rfl (pi_range1 (by rfl) B.range (pa_cons pe_int pa_nil)) (pg_name (i := 2) scLawX.nd rfl (.inl rfl))
      (pss_cons (ps_set (i := 3) scLawX.nd rfl (.inl rfl) (pe_call GN hr3 rfl mN kN bN .nil pass0 (pa_cons (pv 1) (pa_cons (pe_ix ix_list (pe_lst (pa_cons pe_int (pa_cons pe_int (pa_cons pe_int (pa_cons pe_int (pa_cons pe_int (pa_cons pe_int (pa_cons pe_int
        (pa_cons (pe_op op_add pe_int (pe_call GD hr1 rfl mD kD bD .nil pass0 (pa_cons (pv 1) (pa_cons pe_int pa_nil)))) pa_nil))))))))) (pv 2) (fun _ _ => rfl)) pa_nil)))) <|
      pss_cons (ps_asg (pe_tup (pa_cons (pe_call GX hr1 rfl mX kX bX .nil pass0 (pa_cons (pv 3) pa_nil)) (pa_cons (pe_callB (call_reprT hr hgd) (by rfl) B.repr (by decide +kernel) (pa_cons (pv 3) pa_nil)) pa_nil)))
        (pg_tup (by rfl) (pgs_cons (pg_name (i := 4) scLawX.nd rfl (.inr rfl)) (pgs_cons (pg_name (i := 5) scLawX.nd rfl (.inl rfl)) pgs_nil)))) <|
      pss_cons (ps_cutI (JXa K) (JXb K) (ps_set (i := 6) scLawX.nd rfl (.inl rfl) (pe_ifExp (pt_cmpR op_eq (pv 2) pe_int (nomark _)) (pe_callW GW hr1 (by rfl) mW kW wW pass0 (pk_cons (pv 3) pk_nil)) (pe_call GT hr1 rfl mT kT bT .nil pass0 (pa_cons (pv 3) pa_nil)))) ?c1) <|
      pss_cons (ps_if (PW.pt (pw_or (pt_cmpR op_ne (pe_callB (call_repr hr hgd) (by rfl) B.repr (by decide +kernel) (pa_cons (pe_lst (pa_cons (pv 6) (pa_cons (pe_call GT hr1 rfl mT kT bT .nil pass0 (pa_cons (pv 3) pa_nil)) pa_nil))) pa_nil)) (pe_callB (call_repr hr hgd) (by rfl) B.repr (by decide +kernel) (pa_cons (pe_lst (pa_cons (pv 4) (pa_cons (pv 4) pa_nil))) pa_nil)) (nomark _))
        (pw_or1 (pt_cmpR op_ne (pe_callB (call_reprT hr hgd) (by rfl) B.repr (by decide +kernel) (pa_cons (pv 3) pa_nil)) (pv 5) (nomark _))))) (pss_one (ps_ret pe_bl)) pss_nil) <|
      pss_cons (ps_set (i := 7) scLawX.nd rfl (.inl rfl) (pe_op op_cat (pe_lst (pa_cons (pv 4) pa_nil)) (pe_lc (own := [("again", 12)]) (g := gName 12) (tt := tYes) rfl scLawX.nd (pi_range1 (by rfl) B.range (pa_cons pe_int pa_nil)) (blkOk_by (own := [("again", 12)]) (N := nLawX) (sc := defScope sLawX) (by decide +kernel))
        (fun _ _ _ _ _ => pg_name (i := 12) scLawX.nd rfl (Or.inl rfl)) (fun _ _ _ _ _ => pts_nil) (fun _ _ _ _ _ => pe_call GP hr4 rfl mP kP bP .nil pass0 (pa_cons (pv 1) (pa_cons (pv 4) pa_nil)))))) <|
      pss_one (ps_for PassesOwn.never rfl (pi_enum (by rfl) B.enumerate (pa_cons (pv 7) pa_nil)) (pg_tup rfl (pgs_cons (pg_name (i := 8) scLawX.nd rfl (.inl rfl)) (pgs_cons (pg_name (i := 9) scLawX.nd rfl (.inl rfl)) pgs_nil)))
        (pss_cons (ps_par (i := 10) (j := 11) rfl scLawX.nd rfl rfl (by decide) rfl rfl (pa_cons (pe_call GR hr2 rfl mR kR bR .nil pass0 (pa_cons (pv 9) pa_nil)) (pa_cons (pe_call GS hr rfl mS kS bS .nil pass0 (pa_cons (pv 9) (pa_cons (pe_cmpR op_eq (pv 8) (pv 2) (nomark _)) pa_nil))) pa_nil)) (by rfl)) <|
        pss_cons (ps_if (pt_cmpR op_ne (pe_callB (call_repr hr hgd) (by rfl) B.repr (by decide +kernel) (pa_cons (pe_lst (pa_cons (pv 11) (pa_cons (pe_call GS hr rfl mS kS bS .nil pass0 (pa_cons (pv 9) (pa_cons pe_bl pa_nil))) pa_nil))) pa_nil))
          (pe_callB (call_repr hr hgd) (by rfl) B.repr (by decide +kernel) (pa_cons (pe_op op_rep (pe_lst (pa_cons (pe_ifExp (pt_cmpR op_isN (pv 10) pe_non (nomark _)) (pe_lst (pa_cons pe_str (pa_cons pe_bl pa_nil))) (pe_lst (pa_cons pe_str (pa_cons (pv 10) pa_nil)))) pa_nil)) pe_int) pa_nil)) (nomark _)) (pss_one (ps_ret pe_bl)) pss_nil) <|
        pss_one (ps_if (PW.pt (pw_and (pt_cmpR op_notN (pv 10) pe_non (nomark _)) (pw_and1 (pt_cmpR op_ne (pe_call GT hr1 rfl mT kT bT .nil pass0 (pa_cons (pv 10) pa_nil)) (pv 9) (nomark _))))) (pss_one (ps_ret pe_bl)) pss_nil))))) <|
    pss_one (ps_ret pe_bl), ?_⟩
  case c1 =>
    rintro x D σ H1 ⟨s6, s7, s8, s9, s10, s11, s12, rfl, X⟩ nx
    refine ⟨_, rfl, rfl, _, rfl, ?_⟩
    refine ite2 (fun _ => ?_) (fun _ => ?_)
    · exact ⟨_, rfl, x.a, x.b, x.n, x.ts, x.ars, rfl, X.net, X.ar, fun H2 s2 => nx _ _ ⟨_, _, _, _, _, _, rfl, X.same s2⟩⟩
    · exact ⟨_, rfl, x.a, x.b, x.n, x.ts, x.ars, rfl, X.net, X.ar, fun H2 s2 => nx _ _ ⟨_, _, _, _, _, _, rfl, X.same s2⟩⟩
  refine ⟨_, rfl, sa, ns, rfl, hS, hl, fun p d H1 s1 np nd D1 => ?_⟩
  refine ⟨8, rfl, by decide, by decide, for_range (lo := 0) (n := 8) (fun i σ H' => ∃ s2 s3 s4 s5 s6 s7 s8 s9 s10 s11 s12, σ = [some (.ref sa), some (.ref p), s2, s3, s4, s5, s6, s7, s8, s9, s10, s11, s12] ∧ Deck H' p d 63)
    ⟨_, _, _, _, _, _, _, _, _, _, _, rfl, D1⟩ ?_ fun σ H' _ => k H'⟩
  rintro i σ H5 hi ⟨s2, s3, s4, s5, s6, s7, s8, s9, s10, s11, s12, rfl, D5⟩
  refine ⟨_, rfl, _, rfl, p, d, 12, rfl, D5, by omega, fun r H6 r0 r1 _ D6 k6 => ⟨_, _, rfl, rfl, by show 8 ≤ sizeLine; decide, fun L nL => ?_⟩⟩
  have r1 := r1 (by decide)
  obtain ⟨j, rfl⟩ := Int.eq_ofNat_of_zero_le r0
  obtain ⟨m, en, n1, n2⟩ : ∃ m : Nat, ([.int 1, .int 2, .int 3, .int 5, .int 8, .int 11, .int 12, .int (1 + (j : Int))] : List V)[i]? = some (.int m) ∧ 1 ≤ m ∧ m ≤ 12 := by
    have : i = 0 ∨ i = 1 ∨ i = 2 ∨ i = 3 ∨ i = 4 ∨ i = 5 ∨ i = 6 ∨ i = 7 := by omega
    rcases this with rfl | rfl | rfl | rfl | rfl | rfl | rfl | rfl
    · exact ⟨1, rfl, by decide, by decide⟩
    · exact ⟨2, rfl, by decide, by decide⟩
    · exact ⟨3, rfl, by decide, by decide⟩
    · exact ⟨5, rfl, by decide, by decide⟩
    · exact ⟨8, rfl, by decide, by decide⟩
    · exact ⟨11, rfl, by decide, by decide⟩
    · exact ⟨12, rfl, by decide, by decide⟩
    · exact ⟨1 + j, by show some (V.int (1 + (j : Int))) = some (V.int ((1 + j : Nat) : Int)); rw [Int.natCast_add]; rfl, by omega, by omega⟩
  have D7 := D6.same (same_new (o := .lst [.int 1, .int 2, .int 3, .int 5, .int 8, .int 11, .int 12, .int (1 + (j : Int))]) nL)
  refine ⟨_, rfl, L, _, _, .int m, rfl, rfl, SqL.of upd_same, at_of (j := i) (by omega) en, p, d, (m : Int), rfl, D7, by omega, by omega, fun a b ts H8 D8 k8 ha hb arr lt => ?_⟩
  obtain ⟨ars, AR⟩ := ArsAt.ex arr
  have N : NetAt (m : Int) H8 a b ts := ⟨ha, hb, arr, lt, by omega, by omega⟩
  clear k8 D7 en nL k6 D6
  refine ⟨_, rfl, a, b, (m : Int), ts, ars, rfl, N, AR, fun H9 s9 => ?_⟩
  have D9 := D8.same s9
  have N := N.keep (.of s9)
  have AR := AR.keep (.of s9)
  have tl := textL_len N AR
  have tw := text_wt (textL_lt N AR)
  obtain ⟨ds, asn, rn, off, sn, wn, pn⟩ := net_tup (K := K) N
  refine ⟨_, rfl, .ref a, ds, asn, rfl, rn, sn, by omega, by omega, by show 2 ≤ sizeLine; decide, fun T nT => ?_⟩
  have sT : Same H9 (upd H9 T (.tup [.str (S (textL (m : Int) ars)), .str (shown (.tup ds))])) := same_new nT
  refine ⟨T, _, rfl, SqT.of upd_same, rfl, _, _, rfl, _, _, rfl, rfl, ?_⟩
  refine ⟨⟨sa, p, d, 0 + (i : Int), a, b, (m : Int), ts, ars, ds, asn⟩, ⟨_, _, _, _, _, _, _, rfl, BX.same (K := K) (x := ⟨sa, p, d, 0 + (i : Int), a, b, (m : Int), ts, ars, ds, asn⟩) ⟨D9, N, AR, rn, off, sn, wn, pn⟩ sT⟩, ?_⟩
  clear rn off sT nT D9
  rintro σ H10 ⟨t7, t8, t9, t10, t11, t12, rfl, X⟩
  dsimp only at X ⊢
  have st : ∀ {H' : Hp}, Rep K H' (.str (S (textL (m : Int) ars))) (.str (S (textL (m : Int) ars))) [] := by simp [Rep]
  have sm2 : smallAll [D.str (S (textL (m : Int) ars)), .str (S (textL (m : Int) ars))] := by simp [smallAll, small]
  have wt2 : wtAll [D.str (S (textL (m : Int) ars)), .str (S (textL (m : Int) ars))] ≤ 10000000 := by
    simp only [wtAll]
    omega
  have dp2 : depAll [D.str (S (textL (m : Int) ars)), .str (S (textL (m : Int) ars))] ≤ 30 := by
    simp [depAll, dep]
  refine ⟨_, rfl, _, rfl, a, b, (m : Int), ts, ars, rfl, X.net, X.ar, fun H11 s11 => ⟨by show 2 ≤ sizeLine; decide, fun L1 nL1 => ?_⟩⟩
  obtain ⟨as1, rp1⟩ := rep_pair (K := K) (H := H11) st st nL1
  refine ⟨.ref L1, _, as1, rfl, rp1, sm2, wt2, dp2, ?_⟩
  have X := (X.same s11).same (same_new (o := .lst [.str (S (textL (m : Int) ars)), .str (S (textL (m : Int) ars))]) nL1)
  clear rp1 s11
  generalize (upd H11 L1 (.lst [.str (S (textL (m : Int) ars)), .str (S (textL (m : Int) ars))])) = H12 at X ⊢
  refine ⟨_, rfl, _, rfl, by show 2 ≤ sizeLine; decide, fun L2 nL2 => ?_⟩
  obtain ⟨as2, rp2⟩ := rep_pair (K := K) (H := H12) st st nL2
  refine ⟨.ref L2, _, as2, rfl, rp2, sm2, wt2, dp2, rfl, _, rfl, ?_⟩
  rw [same_str rfl]
  refine iteF ?_
  have X := X.same (same_new (o := .lst [.str (S (textL (m : Int) ars)), .str (S (textL (m : Int) ars))]) nL2)
  clear rp2 nL1
  generalize (upd H12 L2 (.lst [.str (S (textL (m : Int) ars)), .str (S (textL (m : Int) ars))])) = H13 at X ⊢
  have Xsm := X.sm
  have Xwt := X.wt
  have Xdp := X.dp
  dsimp only at Xsm Xwt Xdp
  refine ⟨_, rfl, .ref a, ds, asn, rfl, X.rep, Xsm, by omega, by omega, _, rfl, rfl, _, rfl, ?_⟩
  rw [same_str rfl]
  refine iteF ?_
  clear Xsm Xwt Xdp
  refine ⟨_, rfl, by show 1 ≤ sizeLine; decide, fun Lt nLt => ?_⟩
  have ltne := X.dk.ne_none nLt
  dsimp only at ltne
  have hLt : (upd H13 Lt (.lst [.str (S (textL (m : Int) ars))])) Lt = some (.lst [.str (S (textL (m : Int) ars))]) := upd_same
  have X := X.same (same_new (o := .lst [.str (S (textL (m : Int) ars))]) nLt)
  clear nLt
  generalize (upd H13 Lt (.lst [.str (S (textL (m : Int) ars))])) = H14 at X hLt ⊢
  refine ⟨6, rfl, by decide, by decide, fun D nD => ?_⟩
  have dne := X.dk.ne_none nD
  dsimp only at dne
  have ltD : Lt ≠ D := fun z => by rw [z, nD] at hLt; cases hLt
  refine lc_it walk_range (fun g H' => BX K ⟨sa, p, d, 0 + (i : Int), a, b, (m : Int), ts, ars, ds, asn⟩ H' ∧ H' Lt = some (.lst [.str (S (textL (m : Int) ars))]) ∧ ∃ xs : List V, H' D = some (.lst xs) ∧ xs.length = g ∧ ∀ y ∈ xs, Askd K (fun a => a ≠ p ∧ a ≠ d ∧ a ≠ D) H' y) ?_ (fun _ _ _ _ => trivial) ?_ ?_
  · exact ⟨X.same (same_new nD), same_new nD _ _ hLt, [], upd_same, rfl, fun _ h => absurd h (by simp)⟩
  · rintro g y Hb Ha hg ⟨X, hLt, xs, hD, lx, ax⟩ ⟨rfl, rfl⟩
    refine ⟨rfl, ?_⟩
    dsimp only [tYes]
    rw [if_pos rfl]
    refine ⟨_, rfl, _, rfl, p, d, textL (m : Int) ars, rfl, X.dk, tl, textL_lt X.net X.ar, fun y H' D' k' ay => ?_⟩
    have hD' := k' _ _ hD dne.1 dne.2
    have X' := X.kp D' k'
    have ntD : ∀ zs, H' D ≠ some (.tup zs) := fun zs z => by rw [hD'] at z; cases z
    have keepW : ∀ z, Askd K (fun a => a ≠ p ∧ a ≠ d ∧ a ≠ D) H' z → Askd K (fun a => a ≠ p ∧ a ≠ d ∧ a ≠ D) (upd H' D (.lst (xs ++ [y]))) z := fun z hz => hz.keep fun c o w e => by rw [upd_ne w.2.2]; exact e
    refine ⟨xs, hD', by rw [lx, sizeLine_eq]; omega, X'.upd dne.1 dne.2 ntD, ?_, xs ++ [y], upd_same, by rw [List.length_append, lx]; rfl, fun z hz => ?_⟩
    · rw [upd_ne ltD]
      exact k' _ _ hLt ltne.1 ltne.2
    · rcases List.mem_append.mp hz with hz | hz
      · exact keepW z ((ax z hz).keep fun c o w e => k' _ _ e w.1 w.2.1)
      · rw [List.mem_singleton.mp hz]
        refine keepW y (ay.mono fun c hc => ?_)
        have q := X.dk.ne_none hc
        exact ⟨q.1, q.2, fun z => by rw [z, hD] at hc; cases hc⟩
  · rintro Ha ⟨X, hLt, xs, hD, lx, ax⟩
    refine ⟨Lt, D, _, _, rfl, rfl, hLt, hD, by rw [lx, sizeLine_eq]; show 1 + 6 ≤ _; decide, fun L3 nL3 => ?_⟩
    have s3 : Same Ha (upd Ha L3 (.lst ([.str (S (textL (m : Int) ars))] ++ xs))) := same_new nL3
    have hL3 : (upd Ha L3 (.lst ([.str (S (textL (m : Int) ars))] ++ xs))) L3 = some (.lst ([.str (S (textL (m : Int) ars))] ++ xs)) := upd_same
    have X := X.same s3
    have ay : ∀ y ∈ [V.str (S (textL (m : Int) ars))] ++ xs, Askd K (fun _ => True) (upd Ha L3 (.lst ([.str (S (textL (m : Int) ars))] ++ xs))) y := fun y hy => by
      rcases List.mem_append.mp hy with hy | hy
      · rw [List.mem_singleton.mp hy]
        refine ⟨.str (S (textL (m : Int) ars)), [], st, fun _ h => absurd h (by simp), fun l' z => ?_⟩
        rw [← S_inj (Sw.D.str.inj z)]
        omega
      · exact ((ax y hy).mono fun _ _ => trivial).keep fun c o _ e => s3 _ _ e
    clear ax hD hLt s3 nL3
    generalize (upd Ha L3 (.lst ([.str (S (textL (m : Int) ars))] ++ xs))) = H15 at X hL3 ay ⊢
    generalize ([V.str (S (textL (m : Int) ars))] ++ xs) = vsL at hL3 ay
    refine ⟨_, rfl, L3, _, rfl, SqL.of hL3, for_it (walk_enum (xs := vsL)) (fun g σ H' => (∃ s8 s9 s10 s11 s12, σ = [some (.ref sa), some (.ref p), some (.int (0 + (i : Int))), some (.ref a), some (.str (S (textL (m : Int) ars))), some (.str (shown (.tup ds))), some (.str (S (textL (m : Int) ars))), some (.ref L3), s8, s9, s10, s11, s12]) ∧ Same H15 H')
      ⟨⟨_, _, _, _, _, rfl⟩, Same.refl _⟩ (fun g σ H' _ h => SqL.of (h.2 _ _ hL3)) ?_ ?_⟩
    · rintro g x σ H16 H17 hg ⟨⟨s8, s9, s10, s11, s12, rfl⟩, s16⟩ ⟨U, x1, x2, rfl, nU, rfl, e1, e2⟩
      obtain rfl : V.int (g : Nat) = x1 := Option.some.inj e1
      have sU : Same H16 (upd H16 U (.tup [.int (g : Nat), x2])) := same_new nU
      refine ⟨U, _, rfl, SqT.of upd_same, rfl, _, _, rfl, _, _, rfl, rfl, ?_⟩
      obtain ⟨dd, as, rp, _, bd⟩ := ay x2 (List.mem_of_getElem? e2)
      have s17 := s16.trans sU
      have rp := rp.same s17
      clear sU nU
      generalize (upd H16 U (.tup [.int (g : Nat), x2])) = H17 at s17 rp ⊢
      have two : ∀ {H' : Hp} {r1 r2 : Addr} {b1 b2 : List Addr} {q : Sw.D}, Rep K H' q (.ref r1) b1 → Rep K H' q (.ref r2) b2 → small q → wt q ≤ 3100 → dep q ≤ 4 → ∀ L, H' L = none → ∃ as, Rep K (upd H' L (.lst [.ref r1, .ref r2])) (.lst [q, q]) (.ref L) as ∧ smallAll [q, q] ∧ wtAll [q, q] ≤ 10000000 ∧ depAll [q, q] ≤ 30 := fun h1 h2 sm w dp L nL => by
        obtain ⟨as, r⟩ := rep_pair h1 h2 nL
        exact ⟨as, r, two_allT sm sm, by simp only [wtAll]; omega, by simp only [depAll]; omega⟩
      refine ⟨_, rfl, x2, dd, as, rfl, rp, bd, fun nb H18 s18 => ?_, fun l' dd' el gd q bs H18 s18 rq => ?_⟩
      · refine ⟨_, rfl, _, rfl, _, rfl, rfl, x2, dd, as, _, rfl, rp.same s18, bd, fun _ r1 b1 H19 s19 rr1 => ⟨_, _, rfl, ?_⟩, fun l' dd' el gd => absurd gd (nb l' dd' el)⟩
        refine ⟨_, rfl, _, rfl, x2, dd, as, _, rfl, rp.same (s18.trans s19), bd, fun _ r2 b2 H20 s20 rr2 => ?_, fun l' dd' el gd => absurd gd (nb l' dd' el)⟩
        refine ⟨by show 2 ≤ sizeLine; decide, fun M1 nM1 => ?_⟩
        obtain ⟨c1, v1, v2, v3, v4⟩ := two (rr1.same s20) rr2 bad_wt.1 bad_wt.2.1 bad_wt.2.2 M1 nM1
        refine ⟨.ref M1, _, c1, rfl, v1, v2, v3, v4, ?_⟩
        have s21 := ((s17.trans s18).trans (s19.trans s20)).trans (same_new (o := .lst [.ref r1, .ref r2]) nM1)
        clear v1 rr1 rr2
        generalize (upd H20 M1 (.lst [.ref r1, .ref r2])) = H21 at s21 ⊢
        refine ⟨_, rfl, rfl, _, rfl, ?_⟩
        refine iteT ⟨by show 2 ≤ sizeLine; decide, fun M2 nM2 => ⟨by show 1 ≤ sizeLine; decide, fun M3 nM3 => ?_⟩⟩
        have w1 : Same H21 (upd H21 M2 (.lst [.str "bad", .bl true])) := same_new nM2
        have w2 : Same (upd H21 M2 (.lst [.str "bad", .bl true])) (upd (upd H21 M2 (.lst [.str "bad", .bl true])) M3 (.lst [.ref M2])) := same_new nM3
        have rb : Rep K (upd (upd H21 M2 (.lst [.str "bad", .bl true])) M3 (.lst [.ref M2])) badD (.ref M2) [M2] := by
          refine Rep.same ?_ w2
          unfold badD
          simp only [Rep, RepAll]
          exact ⟨M2, _, [], rfl, upd_same, ⟨_, _, [], [], rfl, ⟨rfl, rfl⟩, ⟨_, _, [], [], rfl, ⟨rfl, rfl⟩, ⟨rfl, rfl⟩, rfl⟩, rfl⟩, by simp, rfl⟩
        refine ⟨M3, 2, [.ref M2], rfl, rfl, upd_same, by decide, by decide, by show 1 * 2 ≤ sizeLine; decide, fun M4 nM4 => ?_⟩
        obtain ⟨c2, v5, _⟩ := two rb rb bad_wt.1 bad_wt.2.1 bad_wt.2.2 M4 nM4
        refine ⟨.ref M4, _, c2, rfl, v5, v2, v3, v4, rfl, _, rfl, ?_⟩
        rw [same_str rfl]
        have s22 := s21.trans ((w1.trans w2).trans (same_new (o := .lst [.ref M2, .ref M2]) nM4))
        refine iteF ⟨_, rfl, rfl, _, rfl, ?_⟩
        exact iteF (iteF ⟨⟨_, _, _, _, _, rfl⟩, s22⟩)
      · subst el
        simp only [Rep] at rp
        obtain ⟨rfl, rfl⟩ := rp
        have rp : ∀ {H' : Hp}, Rep K H' (.str (S l')) (.str (S l')) [] := by simp [Rep]
        have same : ∀ l2 dd2, Sw.D.str (S l') = .str (S l2) → Good l2 dd2 → dd2 = dd' := fun l2 dd2 z g2 => by
          obtain rfl := S_inj (Sw.D.str.inj z)
          exact Option.some.inj (g2.1.symm.trans gd.1)
        obtain ⟨a1, a2, a3⟩ := ans_wt gd
        refine ⟨_, rfl, _, rfl, _, rfl, rfl, .str (S l'), .str (S l'), [], _, rfl, rp, bd, fun nb => absurd gd (nb l' dd' rfl), fun l2 dd2 el2 gd2 r1 b1 H19 s19 rr1 => ⟨_, _, rfl, ?_⟩⟩
        obtain rfl := same l2 dd2 el2 gd2
        refine ⟨_, rfl, _, rfl, .str (S l'), .str (S l'), [], _, rfl, rp, bd, fun nb => absurd gd (nb l' _ rfl), fun l3 dd3 el3 gd3 r2 b2 H20 s20 rr2 => ?_⟩
        obtain rfl := same l3 dd3 el3 gd3
        refine ⟨by show 2 ≤ sizeLine; decide, fun M1 nM1 => ?_⟩
        obtain ⟨c1, v1, v2, v3, v4⟩ := two (rr1.same s20) rr2 a1 a2 a3 M1 nM1
        refine ⟨.ref M1, _, c1, rfl, v1, v2, v3, v4, ?_⟩
        have s21 := (s19.trans s20).trans (same_new (o := .lst [.ref r1, .ref r2]) nM1)
        have s22 := (s17.trans s18).trans s21
        have rq := rq.same s21
        clear v1 rr1 rr2 s21
        generalize (upd H20 M1 (.lst [.ref r1, .ref r2])) = H21 at s22 rq ⊢
        refine ⟨_, rfl, rfl, _, rfl, ?_⟩
        refine iteF ⟨_, rfl, by show 2 ≤ sizeLine; decide, fun M2 nM2 => ⟨by show 1 ≤ sizeLine; decide, fun M3 nM3 => ?_⟩⟩
        obtain ⟨c5, rb0⟩ := rep_pair (show Rep K H21 (.str "net") (.str "net") [] by simp [Rep]) rq nM2
        have w1 : Same H21 (upd H21 M2 (.lst [.str "net", .ref q])) := same_new nM2
        have w2 : Same (upd H21 M2 (.lst [.str "net", .ref q])) (upd (upd H21 M2 (.lst [.str "net", .ref q])) M3 (.lst [.ref M2])) := same_new nM3
        have rb : Rep K _ (netDD dd3) (.ref M2) c5 := rb0.same w2
        refine ⟨M3, 2, [.ref M2], rfl, rfl, upd_same, by decide, by decide, by show 1 * 2 ≤ sizeLine; decide, fun M4 nM4 => ?_⟩
        obtain ⟨c2, v5, _⟩ := two rb rb a1 a2 a3 M4 nM4
        refine ⟨.ref M4, _, c2, rfl, v5, v2, v3, v4, rfl, false, congrArg V.bl (by rw [decide_eq_true rfl]; rfl), ?_⟩
        have s23 := (w1.trans w2).trans (same_new (o := .lst [.ref M2, .ref M2]) nM4)
        have rq := rq.same s23
        have s24 := s22.trans s23
        refine iteF ⟨_, rfl, rfl, _, rfl, ?_⟩
        obtain ⟨nn, ars2, ed, et, g1, g2, g3, g4⟩ := good_text gd
        rw [ed] at rq
        obtain ⟨b3, ts3, N3, AR3⟩ := net_of_rep rq g1 g2 g3 g4
        refine iteT ⟨_, rfl, q, b3, nn, ts3, ars2, rfl, N3, AR3, fun H25 s25 => ⟨_, rfl, rfl, _, rfl, ?_⟩⟩
        rw [← et, same_str rfl]
        exact iteF ⟨⟨_, _, _, _, _, rfl⟩, s24.trans s25⟩
    · rintro σ H16 ⟨⟨_, _, _, _, _, rfl⟩, s16⟩
      exact ⟨_, _, _, _, _, _, _, _, _, _, _, rfl, (X.same s16).dk⟩
end
end Sw
namespace Sw
open PySem PySem.Spec PyProof.Rows L2 SX
/-! ### expressions that give texts, and lists of such -/
def tTx (S : SH) (m : Nat) : TE := fun σ H Q => S σ H ∧ ∀ (z : Str) (H' : Hp), z.length ≤ m → Same H H' → Q (.str z) H'
def tTxs (S : SH) (m n : Nat) : TA := fun σ H Q => S σ H ∧ ∀ (zs : List Str) (H' : Hp), zs.length = n → (∀ z ∈ zs, z.length ≤ m) → Same H H' → Q (zs.map V.str) H'
theorem pet_weak {X : Cx} {e : Expr} {t t' : TE} (h : PET X e t) (hw : ∀ σ H Q, t' σ H Q → t σ H Q) : PET X e t' := fun pins s σ H Q h0 I q => h pins s σ H Q h0 I (hw σ H Q q)
theorem pat_weak {X : Cx} {es : List Expr} {t t' : TA} (h : PAT X es t) (hw : ∀ σ H Q, t' σ H Q → t σ H Q) : PAT X es t' := fun pos pins s σ H Q h0 I q => h pos pins s σ H Q h0 I (hw σ H Q q)
section
variable {X : Cx} {S : SH} {e e1 e2 : Expr} {es : List Expr} {m m1 m2 n : Nat} {pos : Pos}
theorem y_of {t : TE} (h : PE X e t) (ht : ∀ σ H Q, S σ H → (∀ (z : Str) (H' : Hp), z.length ≤ m → Same H H' → Q (.str z) H') → t σ H Q) : PE X e (tTx S m) := pe_weak h fun σ H Q q => ht σ H Q q.1 q.2
theorem y_lit {x : Str} (h : PE X e (tC (.str x))) (hm : x.length ≤ m := by decide +kernel) : PE X e (tTx S m) := y_of h fun σ H Q _ q => q x H hm (Same.refl H)
theorem y_cat (hS : SMono S) (h1 : PE X e1 (tTx S m1)) (h2 : PE X e2 (tTx S m2)) (hm : m1 + m2 ≤ 16777216 := by decide) : PE X (.BinOp e1 .Add e2 pos) (tTx S (m1 + m2)) :=
  pe_weak (pe_op op_add_str h1 h2) fun σ H Q q => ⟨q.1, fun z1 H1 l1 s1 => ⟨hS _ _ _ q.1 s1, fun z2 H2 l2 s2 => ⟨z1, z2, rfl, rfl, by rw [sizeLine_eq]; omega, q.2 _ H2 (by rw [Str.length_append]; omega) (s1.trans s2)⟩⟩⟩
theorem y_mul {x : Str} {k : Int} (h1 : PE X e1 (tC (.str x))) (h2 : PE X e2 (tC (.int k))) (k1 : 2 ≤ k := by decide) (k2 : k ≤ 10000 := by decide) (z1 : 1 ≤ x.length := by decide +kernel) (z2 : x.length ≤ 100 := by decide +kernel) (hm : x.length * k.toNat ≤ m := by decide +kernel) : PE X (.BinOp e1 .Mult e2 pos) (tTx S m) :=
  pe_weak (pe_op op_mulS h1 h2) fun σ H Q q => ⟨x, k, rfl, rfl, k1, k2, z1, z2, fun y ly => q.2 y H (Nat.le_trans ly hm) (Same.refl H)⟩
theorem xt_repl {y z : Str} {j k : Nat} {c0 c1 apos : Pos} {m' : Nat} (ho : PE X e (tTx S m)) (hyz : (y == z) = false := by decide) (hz : m + (m + 1) * z.length ≤ m' := by decide +kernel) (hm : m' ≤ 16777216 := by decide)
    (hst : starEach [.Constant (.str y) j c0, .Constant (.str z) k c1] X.env = [(false, eval (.Constant (.str y) j c0) X.env), (false, eval (.Constant (.str z) k c1) X.env)] := by rfl)
    (hbase : attributeBase e "replace" X.env (eval e X.env) = eval e X.env := by rfl) (hline : (apos.endLine == pos.line) = true := by rfl) :
    PET X (.Call (.Attribute e "replace" apos) [.Constant (.str y) j c0, .Constant (.str z) k c1] [] pos) (tTx S m') :=
  pet_weak (CwR.pet_replC ho hyz hst hbase hline) fun σ H Q q => ⟨q.1, fun x H1 lx s1 => by
    have lr := TK.replace_len x y z
    have lm : (x.length + 1) * z.length ≤ (m + 1) * z.length := Nat.mul_le_mul_right _ (by omega)
    exact ⟨x, rfl, by omega, q.2 _ H1 (by omega) s1⟩⟩
theorem xs_nil : PAT X [] (tTxs S m 0) := pat_weak pat_nil fun σ H Q q => q.2 [] H rfl (fun _ h => absurd h (by simp)) (Same.refl H)
theorem xs_cons (hS : SMono S) (ha : PET X e (tTx S m1)) (hr : PAT X es (tTxs S m n)) (hm : m1 ≤ m := by decide) (hs : starEach (e :: es) X.env = (false, eval e X.env) :: starEach es X.env := by rfl) : PAT X (e :: es) (tTxs S m (n + 1)) :=
  pat_weak (pat_cons ha hr hs) fun σ H Q q => ⟨q.1, fun z H1 lz s1 => ⟨hS _ _ _ q.1 s1, fun zs H2 ln lzs s2 => q.2 (z :: zs) H2 (by rw [List.length_cons, ln]) (fun y hy => (List.mem_cons.mp hy).elim (fun w => by rw [w]; omega) (lzs y)) (s1.trans s2)⟩⟩
theorem ys_nil : PA X [] (tTxs S m 0) := pa_weak pa_nil fun σ H Q q => q.2 [] H rfl (fun _ h => absurd h (by simp)) (Same.refl H)
theorem ys_cons (hS : SMono S) (ha : PE X e (tTx S m1)) (hr : PA X es (tTxs S m n)) (hm : m1 ≤ m := by decide) (hs : starEach (e :: es) X.env = (false, eval e X.env) :: starEach es X.env := by rfl) : PA X (e :: es) (tTxs S m (n + 1)) :=
  pa_weak (pa_cons ha hr hs) fun σ H Q q => ⟨q.1, fun z H1 lz s1 => ⟨hS _ _ _ q.1 s1, fun zs H2 ln lzs s2 => q.2 (z :: zs) H2 (by rw [List.length_cons, ln]) (fun y hy => (List.mem_cons.mp hy).elim (fun w => by rw [w]; omega) (lzs y)) (s1.trans s2)⟩⟩
end
/-- PST, PSsT behind a structure: what is behind a «for all» is evaluated by the elaborator again and again -/
structure QS (X : Cx) (st : Stmt) (t : TS) : Prop where
  run : PST X st t
structure QSs (X : Cx) (st : List Stmt) (t : TS) : Prop where
  run : PSsT X st t
section
variable {X : Cx} {st : Stmt} {rest : List Stmt} {t u : TS} {e : Expr} {te : TE} {pos : Pos}
theorem q_cons (h1 : QS X st t) (h2 : QSs X rest u) : QSs X (st :: rest) (tSeq t u) := ⟨psst_cons h1.run h2.run⟩
theorem q_of (h : PS X st t) : QS X st t := ⟨PST.of h⟩
theorem q_one (h : QS X st t) : QSs X [st] t := ⟨CwR.psst_one h.run⟩
theorem q_cut {J J' : L2.St → Hp → Prop} (h : QS X st t) (hJ : ∀ D σ H, J σ H → (∀ σ' H', J' σ' H' → D.nx σ' H') → t D σ H) : QS X st (tCut J J') := ⟨pst_cut h.run hJ⟩
theorem q_set {i : Nat} {x : Str} {pos' : Pos} (hN : X.N.Nodup) (hi : X.N[i]? = some x) (hx : Loc X.env.scope x) (he : PET X e te) (hs : swapsWith e (some (.Name x pos')) pos.line X.env = pure false := by rfl) (hf : X.fn x = true ∨ X.env.scope.names.lookup x = some .local := by first | exact .inl rfl | exact .inr rfl | assumption) :
    QS X (.Assign [.Name x pos'] e pos) (tAsg te (gName i)) := ⟨pst_set hN hi hx he hs hf⟩
theorem q_expr (he : PET X e te) (hs : swapsWith e none pos.line X.env = pure false := by rfl) : QS X (.Expr e pos) (tDrop te) := ⟨pst_expr he hs⟩
theorem q_strs {i j : Nat} {x c : Str} {cpos pos' lpos : Pos} {es : List Expr} {ta : TA} (hN : X.N.Nodup) (hi : X.N[i]? = some x) (hx : Loc X.env.scope x) (h : PA X es ta) (h2 : QSs X rest u)
    (hst : starEach (.Constant (.str c) j cpos :: es) X.env = (false, eval (.Constant (.str c) j cpos) X.env) :: starEach es X.env := by rfl)
    (hs : swapsWith (.List (.Constant (.str c) j cpos :: es) lpos) (some (.Name x pos')) pos.line X.env = pure false := by rfl) (hf : X.fn x = true ∨ X.env.scope.names.lookup x = some .local := by first | exact .inl rfl | exact .inr rfl | assumption) :
    PSs X (.Assign [.Name x pos'] (.List (.Constant (.str c) j cpos :: es) lpos) pos :: rest) (tSeq (tAsg (tLst (fun σ H Q => ta σ H fun xs H' => Q (.str c :: xs) H')) (gName i)) u) := pss_strs hN hi hx h h2.run hst hs hf
end
/-! ### expressions that give values that may be asked -/
def tAsk (K : PySem.W.Frag) (S : SH) (U : L2.St → Addr → Prop) : TE := fun σ H Q => Fit S U σ H ∧ ∀ (x : V) (H' : Hp), Askd K (U σ) H' x → Same H H' → Q x H'
def tAsks (K : PySem.W.Frag) (S : SH) (U : L2.St → Addr → Prop) (n : Nat) : TA := fun σ H Q => Fit S U σ H ∧ ∀ (xs : List V) (H' : Hp), xs.length = n → (∀ x ∈ xs, Askd K (U σ) H' x) → Same H H' → Q xs H'
section
variable {X : Cx} {S : SH} {U : L2.St → Addr → Prop} {e e1 e2 : Expr} {es : List Expr} {w k n : Nat} {pos : Pos}
theorem ask_dat (h : PE X e (tDat X.K S U w k)) (hw : w ≤ 100000 := by decide) : PE X e (tAsk X.K S U) :=
  pe_weak h fun σ H Q q => ⟨q.1, fun x dd as H' h1 h2 h3 h4 h5 h6 => q.2 x H' ⟨dd, as, h1, h2, fun l z => by
    rw [z] at h5
    simp only [wt] at h5
    have := reprText_more (SX.S l)
    rw [S_len] at this
    omega⟩ h3⟩
theorem ask_dx {x : Str} {t : TE} (h : PE X e t) (ht : ∀ σ H Q, S σ H → Q (.str x) H → t σ H Q) (hS : SMono S) (h1 : PE X e1 (tC (.int 1))) : PE X (.Dict [some e] [e1] pos) (tAsk X.K S U) :=
  pe_weak (pe_disp (pps_cons h h1 pps_nil) (by rfl) (by rfl) (fun z => by cases z) (by show 1 ≤ 15; decide)) fun σ H Q q p np => by
    have s1 : Same H (upd H p (.dK [])) := same_new np
    refine ht σ _ _ (hS _ _ _ q.1.s s1) ⟨upd_same, [(Sum.inr x, .int 1)], rfl, by show 1 ≤ 15; decide, ?_⟩
    refine q.2 (.ref p) _ ⟨.dx, [p], ?_, fun b hb => by rw [List.mem_singleton.mp hb]; exact q.1.u p np, fun l z => nomatch z⟩ fun b o hb => ?_
    · simp only [Rep]
      exact ⟨p, _, rfl, upd_same, rfl⟩
    · rw [upd_ne (ne_of_none hb np), upd_ne (ne_of_none hb np)]
      exact hb
theorem asks_nil : PA X [] (tAsks X.K S U 0) := pa_weak pa_nil fun σ H Q q => q.2 [] H rfl (fun _ h => absurd h (by simp)) (Same.refl H)
theorem asks_cons (hS : SMono S) (ha : PE X e (tAsk X.K S U)) (hr : PA X es (tAsks X.K S U n)) (hs : starEach (e :: es) X.env = (false, eval e X.env) :: starEach es X.env := by rfl) : PA X (e :: es) (tAsks X.K S U (n + 1)) :=
  pa_weak (pa_cons ha hr hs) fun σ H Q q => ⟨q.1, fun x H1 ax s1 => ⟨q.1.same hS s1, fun xs H2 ln axs s2 => q.2 (x :: xs) H2 (by rw [List.length_cons, ln]) (fun y hy => (List.mem_cons.mp hy).elim (fun w => by rw [w]; exact ax.keep fun a o _ e => s2 a o e) (axs y)) (s1.trans s2)⟩⟩
end
end Sw
namespace Sw
open PySem PySem.Spec PyProof.Rows L2 SX
/-! ### _law_spoilt of texts -/
abbrev sSpoiltX : Stmt := top 28
abbrev nSpX : List Str := ["deck", "text", "spot", "words", "signs", "found", "other", "rest", "values"]
theorem scSpX : FnScope nSpX ["deck", "text"] (defScope sSpoiltX) := ⟨rfl, rfl, rfl, by decide +kernel, rfl, by decide +kernel, by decide +kernel⟩
def stX (i : Nat) : Stmt := (defBody sSpoiltX).getD i (.Pass ⟨0, 0, 0, 0⟩)
theorem joinL_len : ∀ (qs : List (List Nat)), (TL.joinL [32] qs).length ≤ (qs.map List.length).sum + qs.length
  | [] => Nat.zero_le _
  | [q] => by
    show q.length ≤ _
    simp
  | q :: r :: t => by
    show (q ++ ([32] ++ TL.joinL [32] (r :: t))).length ≤ _
    have ih := joinL_len (r :: t)
    rw [List.length_append, List.length_append, List.map_cons, List.sum_cons, List.length_cons (a := q)]
    have : [32].length = 1 := rfl
    omega
theorem sum_app : ∀ (a b : List Nat), (a ++ b).sum = a.sum + b.sum
  | [], b => by simp
  | x :: r, b => by
    rw [List.cons_append, List.sum_cons, List.sum_cons, sum_app r b]
    omega
theorem sum_cut (l : List Nat) (a b : Nat) : ((l.drop a).take b).sum ≤ l.sum := by
  have h1 := sum_app (l.take a) (l.drop a)
  have h2 := sum_app ((l.drop a).take b) ((l.drop a).drop b)
  rw [List.take_append_drop] at h1 h2
  omega
theorem sum_rev : ∀ l : List Nat, l.reverse.sum = l.sum
  | [] => rfl
  | x :: r => by
    rw [List.reverse_cons, sum_app, sum_rev r, List.sum_cons, List.sum_cons, List.sum_nil]
    omega
def szs (qs : List (List Nat)) : Nat := (qs.map List.length).sum
abbrev sV (qs : List (List Nat)) : List V := (qs.map S).map V.str
theorem szs_app (a b : List (List Nat)) : szs (a ++ b) = szs a + szs b := by
  unfold szs
  rw [List.map_append, sum_app]
theorem cut_sV (qs : List (List Nat)) (lo hi : Option Int) : ∃ rs, cutV (sV qs) lo hi = sV rs ∧ szs rs ≤ szs qs ∧ rs.length ≤ qs.length := by
  refine ⟨(qs.drop (HT.sIx (sV qs).length 0 lo)).take (HT.sIx (sV qs).length (sV qs).length hi - HT.sIx (sV qs).length 0 lo), ?_, ?_, ?_⟩
  · unfold cutV sV
    rw [List.map_take, List.map_take, List.map_drop, List.map_drop]
  · unfold szs
    rw [List.map_take, List.map_drop]
    exact sum_cut _ _ _
  · rw [List.length_take, List.length_drop]
    omega
theorem tail_sV (qs : List (List Nat)) : (sV qs).tail.reverse = sV qs.tail.reverse ∧ szs qs.tail.reverse ≤ szs qs ∧ qs.tail.reverse.length ≤ qs.length := by
  refine ⟨?_, ?_, ?_⟩
  · unfold sV
    rw [← List.map_tail, ← List.map_tail, List.map_reverse, List.map_reverse]
  · unfold szs
    rw [List.map_reverse, sum_rev]
    cases qs with
    | nil => exact Nat.le_refl _
    | cons a r =>
      rw [List.tail_cons, List.map_cons, List.sum_cons]
      omega
  · rw [List.length_reverse, List.length_tail]
    omega
theorem sum_sV (qs : List (List Nat)) : ((qs.map S).map (·.length)).sum = szs qs := by
  unfold szs
  rw [List.map_map]
  congr 1
theorem join_sV (qs : List (List Nat)) : (Txt.join (S [32]) (qs.map S)).length ≤ szs qs + qs.length := by
  rw [join_S, S_len]
  exact joinL_len qs
structure BS (H0 : Hp) (p d w : Addr) (ps : List (List Nat)) (H : Hp) : Prop where
  dk : Deck H p d 63
  kp : Kp p d H0 H
  hw : H w = some (.lst (sV ps))
  wd : w ≠ d
  sum : szs ps ≤ 1301
  len : ps.length ≤ 1302
  pos : 1 ≤ ps.length
theorem BS.go {H0 : Hp} {p d w : Addr} {ps : List (List Nat)} {H H' : Hp} (h : BS H0 p d w ps H) (k : Kp p d H H') (D : Deck H' p d 63) : BS H0 p d w ps H' :=
  ⟨D, h.kp.trans k, k _ _ h.hw (h.dk.kne h.hw) h.wd, h.wd, h.sum, h.len, h.pos⟩
theorem BS.same {H0 : Hp} {p d w : Addr} {ps : List (List Nat)} {H H' : Hp} (h : BS H0 p d w ps H) (s : Same H H') : BS H0 p d w ps H' := h.go (.of s) (h.dk.same s)
section
variable (H0 : Hp) (p d : Addr) (l : List Nat)
def JS0 : SH := fun σ H => ∃ (spot o : Int) (w sg : Addr) (fz : Str) (ps : List (List Nat)), σ = [some (.ref p), some (.str (S l)), some (.int spot), some (.ref w), some (.ref sg), some (.str fz), some (.int o), none, none] ∧ BS H0 p d w ps H ∧ fz.length ≤ 3000 ∧ 1 ≤ o ∧ o ≤ ps.length
def JSr (n : Nat) : SH := fun σ H => ∃ (spot o : Int) (w sg R : Addr) (fz : Str) (ps : List (List Nat)) (zs : List Str), σ = [some (.ref p), some (.str (S l)), some (.int spot), some (.ref w), some (.ref sg), some (.str fz), some (.int o), some (.ref R), none] ∧ BS H0 p d w ps H ∧ fz.length ≤ 3000 ∧ (1 ≤ o ∧ o ≤ ps.length) ∧
  H R = some (.lst (zs.map V.str)) ∧ (∀ z ∈ zs, z.length ≤ 100000) ∧ zs.length = n ∧ R ≠ d ∧ R ≠ w ∧ H0 R = none
end
section
variable {H0 : Hp} {p d : Addr} {l : List Nat} {n : Nat}
theorem JS0.mono : SMono (JS0 H0 p d l) := by
  rintro σ H H' ⟨spot, o, w, sg, fz, ps, e, b, r⟩ s
  exact ⟨spot, o, w, sg, fz, ps, e, b.same s, r⟩
theorem JSr.mono : SMono (JSr H0 p d l n) := by
  rintro σ H H' ⟨spot, o, w, sg, R, fz, ps, zs, e, b, h1, h2, h3, r⟩ s
  exact ⟨spot, o, w, sg, R, fz, ps, zs, e, b.same s, h1, h2, s _ _ h3, r⟩
theorem JS0.t (h : l.length ≤ 1300) : ∀ σ H, JS0 H0 p d l σ H → σ[1]? = some (some (.str (S l))) := by
  rintro σ H ⟨spot, o, w, sg, fz, ps, rfl, _⟩
  rfl
theorem JSr.t (h : l.length ≤ 1300) : ∀ σ H, JSr H0 p d l n σ H → σ[1]? = some (some (.str (S l))) := by
  rintro σ H ⟨spot, o, w, sg, R, fz, ps, zs, rfl, _⟩
  rfl
theorem y_var {X : Cx} {S' : SH} {e : Expr} (ht : ∀ σ H, S' σ H → σ[1]? = some (some (.str (S l)))) (hl : l.length ≤ 1300) (h : PE X e (tVar 1)) : PE X e (tTx S' 1300) :=
  y_of h fun σ H Q s q => ⟨_, ht σ H s, q _ H (by rw [S_len]; exact hl) (Same.refl H)⟩
theorem dat_text {X : Cx} {S' : SH} {U : L2.St → Addr → Prop} {k : Nat} {e : Expr} (ht : ∀ σ H, S' σ H → σ[1]? = some (some (.str (S l)))) (hl : l.length ≤ 1300) (hc : ∀ c ∈ l, c < 100) (h : PE X e (tVar 1)) : PE X e (tDat X.K S' U 13002 k) :=
  dat_of h fun σ H Q s q => ⟨_, ht σ H s, q _ (.str (S l)) (by simp [Rep]) (by simp only [small]) (by have := text_wt hc; omega) (by simp only [dep]; omega)⟩
/-- rest = rest + [..] -/
theorem rest_more {m : Nat} (hm : n + m ≤ 100) : ∀ (D : Ends) (σ : L2.St) (H : Hp), JSr H0 p d l n σ H → (∀ σ' H', JSr H0 p d l (n + m) σ' H' → D.nx σ' H') → tAsg (tOp rCat (tVar 7) (tLst (tTxs (JSr H0 p d l n) 100000 m))) (gName 7) D σ H := by
  rintro D σ H hs nx
  obtain ⟨spot, o, w, sg, R, fz, ps, zs, rfl, _⟩ := id hs
  refine ⟨_, rfl, hs, fun ys H1 ly lys s1 => ⟨by rw [List.length_map, ly, sizeLine_eq]; omega, fun c nc => ?_⟩⟩
  obtain ⟨spot', o', w', sg', R', fz', ps', zs', e, b, h1, h2, h3, h4, h5, h6, h7, h8⟩ := JSr.mono _ _ _ hs s1
  cases e
  have sc : Same H1 (upd H1 c (.lst (ys.map V.str))) := same_new nc
  refine ⟨R, c, zs'.map V.str, ys.map V.str, rfl, rfl, sc _ _ h3, upd_same, by rw [List.length_map, List.length_map, h5, ly, sizeLine_eq]; omega, fun q nq => nx _ _ ?_⟩
  have sq := sc.trans (same_new (o := .lst (zs'.map V.str ++ ys.map V.str)) nq)
  have B1 := b.same sc
  refine ⟨spot, o, w, sg, q, fz, ps', zs' ++ ys, rfl, b.same sq, h1, h2, by rw [upd_same, List.map_append], fun z hz => ?_, by rw [List.length_append, h5, ly], (B1.dk.ne_none nq).2, fun z => ?_, B1.kp.free B1.dk nq⟩
  · rcases List.mem_append.mp hz with h | h
    · exact h4 z h
    · exact lys z h
  · rw [z, B1.hw] at nq
    cases nq
/-- rest.append(..) -/
theorem rest_app {K : PySem.W.Frag} : ∀ (D : Ends) (σ : L2.St) (H : Hp), n ≤ 100 → JSr H0 p d l n σ H → (∀ σ' H', JSr H0 p d l (n + 1) σ' H' → D.nx σ' H') → tDrop (tBM K "list" rAppend (tVar 7) (tTxs (JSr H0 p d l n) 100000 1)) D σ H := by
  rintro D σ H hn hs nx
  obtain ⟨spot, o, w, sg, R, fz, ps, zs, rfl, _, _, _, hR, _⟩ := id hs
  refine ⟨_, rfl, .inl ⟨rfl, _, SqL.of hR⟩, hs, fun ys H1 ly lys s1 => ?_⟩
  obtain ⟨y, rfl⟩ : ∃ y, ys = [y] := by
    match ys, ly with
    | [y], _ => exact ⟨y, rfl⟩
  obtain ⟨spot', o', w', sg', R', fz', ps', zs', e, b, h1, h2, h3, h4, h5, h6, h7, h8⟩ := JSr.mono _ _ _ hs s1
  cases e
  refine ⟨R, zs'.map V.str, .str y, rfl, rfl, h3, by rw [List.length_map, h5, sizeLine_eq]; omega, nx _ _ ?_⟩
  have rp := b.dk.kne h3
  refine ⟨spot, o, w, sg, R, fz, ps', zs' ++ [y], rfl, ⟨b.dk.upd rp h6, fun c v e n1 n2 => ?_, by rw [upd_ne h7.symm]; exact b.hw, b.wd, b.sum, b.len, b.pos⟩, h1, h2, by rw [upd_same, List.map_append]; rfl, fun z hz => ?_, by rw [List.length_append, h5]; rfl, h6, h7, h8⟩
  · rw [upd_ne (ne_of_none e h8)]
    exact b.kp c v e n1 n2
  · rcases List.mem_append.mp hz with h | h
    · exact h4 z h
    · rw [List.mem_singleton.mp h]
      exact lys y List.mem_cons_self
end
end Sw
namespace Sw
open PySem PySem.Spec PyProof.Rows L2 SX
section
variable {P : Program} {w : World} {K : PySem.W.Frag} {mg : Str → Option Value} {base : Heap} {f : Addr} {cdv : Value} {A : Around} {outer : List Env} {s : Shared} {H0 : Hp} {E : XK} {H : Hp} {p d : Addr} {l : List Nat}
theorem sp_4 (ll : l.length ≤ 1300) : QS (cxOf CX0 P w K mg base nSpX "_law_spoilt" (defScope sSpoiltX) f cdv A outer s H0 E).nox (stX 4) (tCut (JS0 H p d l) (JSr H p d l 5)) := by
  have M0 := JS0.mono (H0 := H) (p := p) (d := d) (l := l)
  have T0 := JS0.t (H0 := H) (p := p) (d := d) ll
  have Mr : ∀ n, SMono (JSr H p d l n) := fun n => JSr.mono
  have Tr : ∀ n σ H', JSr H p d l n σ H' → σ[1]? = some (some (.str (S l))) := fun n => JSr.t ll
  refine q_cut (J := JS0 H p d l) (J' := JSr H p d l 5) (q_set (i := 7) scSpX.nd rfl (.inl rfl) (pet_lst
        (xs_cons M0 (CwR.PET.of (y_cat M0 (y_var T0 ll (pv 1)) (y_lit (m := 1) pe_str))) <|
        xs_cons M0 (CwR.PET.of (y_cat M0 (y_lit (m := 1) pe_str) (y_var T0 ll (pv 1)))) <|
        xs_cons M0 (CwR.PET.of (y_cat M0 (y_var T0 ll (pv 1)) (y_lit (m := 1) pe_str))) <|
        xs_cons M0 (xt_repl (m' := 10000) (y_var T0 ll (pv 1))) <|
        xs_cons M0 (xt_repl (m' := 10000) (y_var T0 ll (pv 1))) <|
        xs_nil (m := 100000)))) ?c5
  rintro D σ H1 hs nx
  obtain ⟨spot, o, w', sg, fz, ps, rfl, b, h1, h2, h3⟩ := id hs
  refine ⟨hs, fun zs H2 lz lzs s1 => ⟨by rw [List.length_map, lz, sizeLine_eq]; omega, fun c nc => nx _ _ ?_⟩⟩
  have b2 := b.same s1
  exact ⟨spot, o, w', sg, c, fz, ps, zs, rfl, b2.same (same_new nc), h1, ⟨h2, h3⟩, upd_same, lzs, lz, (b2.dk.ne_none nc).2, fun z => (by rw [z, b2.hw] at nc; cases nc), b2.kp.free b2.dk nc⟩

theorem sp_5 (ll : l.length ≤ 1300) : QS (cxOf CX0 P w K mg base nSpX "_law_spoilt" (defScope sSpoiltX) f cdv A outer s H0 E).nox (stX 5) (tCut (JSr H p d l 5) (JSr H p d l 6)) := by
  have M0 := JS0.mono (H0 := H) (p := p) (d := d) (l := l)
  have T0 := JS0.t (H0 := H) (p := p) (d := d) ll
  have Mr : ∀ n, SMono (JSr H p d l n) := fun n => JSr.mono
  have Tr : ∀ n σ H', JSr H p d l n σ H' → σ[1]? = some (some (.str (S l))) := fun n => JSr.t ll
  refine q_cut (J := JSr H p d l 5) (J' := JSr H p d l 6) (q_expr (pet_bm PySem.F.plainAttrs_list PySem.F.slot_list_append PySem.F.type_list_append mt_append (pv 7)
        (xs_cons (Mr 5) (xt_repl (m' := 10000) (y_var (Tr 5) ll (pv 1))) (xs_nil (m := 100000))))) (fun D σ H' h nx => rest_app D σ H' (by decide) h nx)
theorem sp_8 (ll : l.length ≤ 1300) : QS (cxOf CX0 P w K mg base nSpX "_law_spoilt" (defScope sSpoiltX) f cdv A outer s H0 E).nox (stX 8) (tCut (JSr H p d l 18) (JSr H p d l 19)) := by
  have M0 := JS0.mono (H0 := H) (p := p) (d := d) (l := l)
  have T0 := JS0.t (H0 := H) (p := p) (d := d) ll
  have Mr : ∀ n, SMono (JSr H p d l n) := fun n => JSr.mono
  have Tr : ∀ n σ H', JSr H p d l n σ H' → σ[1]? = some (some (.str (S l))) := fun n => JSr.t ll
  refine q_cut (J := JSr H p d l 18) (J' := JSr H p d l 19) (q_of (ps_expr (pe_bm PySem.F.plainAttrs_list PySem.F.slot_list_append PySem.F.type_list_append mt_append (pv 7)
        (ys_cons (Mr 18) (y_lit (m := 20) pe_str) (ys_nil (m := 100000)))))) (fun D σ H' h nx => rest_app D σ H' (by decide) h nx)
end
end Sw
namespace Sw
open PySem PySem.Spec PyProof.Rows L2 SX
section
variable {P : Program} {w : World} {K : PySem.W.Frag} {mg : Str → Option Value} {base : Heap} {f : Addr} {cdv : Value} {A : Around} {outer : List Env} {s : Shared} {H0 : Hp} {E : XK} {H : Hp} {p d : Addr} {l : List Nat}
theorem sp_j1 : ∀ (σ : L2.St) (H1 : Hp) (Q : VK), JSr H p d l 6 σ H1 → (∀ (z : Str) (H' : Hp), z.length ≤ 100000 → Same H1 H' → Q (.str z) H') →
    tM1 (fun x xs H Q => ∃ a p, ∃ ys : List Str, x = .str a ∧ xs = [.ref p] ∧ (SqL K H p (ys.map V.str) ∨ SqT K H p (ys.map V.str)) ∧ (ys.map (·.length)).sum + ys.length * a.length ≤ 16777216 ∧ Q (.str (Txt.join a ys)) H)
      (tC (.str " ")) (tOp rCat (tSl (rSlL K) (tVar 3) tNoPart (tPart (tVar 6))) (tSl (rSlL K) (tVar 3) (tPart (tOp rSub (tVar 6) (tC (.int 1)))) tNoPart)) σ H1 Q := by
  rintro σ H1 Q ⟨spot, o, w', sg, R, fz, ps, zs, rfl, b, h1, ⟨o1, o2⟩, _⟩ q
  obtain ⟨ra, ea, sa, la⟩ := cut_sV ps none (some o)
  obtain ⟨rb, eb, sb, lb⟩ := cut_sV ps (some (o - 1)) none
  have ssum := b.sum
  have slen := b.len
  refine ⟨⟨_, rfl⟩, _, rfl, _, rfl, o, rfl, w', _, rfl, SqL.of b.hw, fun c1 n1 => ?_⟩
  have s1 : Same H1 (upd H1 c1 (.lst (cutV (sV ps) none (some o)))) := same_new n1
  refine ⟨_, rfl, _, rfl, _, _, rfl, rfl, _, rfl, w', _, rfl, SqL.of (s1 _ _ b.hw), fun c2 n2 => ?_⟩
  have s2 : Same (upd H1 c1 (.lst (cutV (sV ps) none (some o)))) _ := same_new (o := .lst (cutV (sV ps) (some (o - 1)) none)) n2
  refine ⟨c1, c2, _, _, rfl, rfl, s2 _ _ upd_same, upd_same, by rw [ea, eb, List.length_map, List.length_map, List.length_map, List.length_map, sizeLine_eq]; omega, fun c3 n3 => ?_⟩
  have s3 := (s1.trans s2).trans (same_new (o := .lst (cutV (sV ps) none (some o) ++ cutV (sV ps) (some (o - 1)) none)) n3)
  have e3 : cutV (sV ps) none (some o) ++ cutV (sV ps) (some (o - 1)) none = sV (ra ++ rb) := by
    rw [ea, eb]
    unfold sV
    rw [List.map_append, List.map_append]
  have za := szs_app ra rb
  refine ⟨S [32], c3, (ra ++ rb).map S, rfl, rfl, .inl (SqL.of (by rw [upd_same, e3])), ?_, q _ _ ?_ s3⟩
  · rw [sum_sV, List.length_map, List.length_append, S_len]
    show _ + _ * 1 ≤ _
    omega
  · have := join_sV (ra ++ rb)
    rw [List.length_append] at this
    omega
theorem sp_j2 : ∀ (σ : L2.St) (H1 : Hp) (Q : VK), JSr H p d l 6 σ H1 → (∀ (z : Str) (H' : Hp), z.length ≤ 100000 → Same H1 H' → Q (.str z) H') →
    tM1 (fun x xs H Q => ∃ a p, ∃ ys : List Str, x = .str a ∧ xs = [.ref p] ∧ (SqL K H p (ys.map V.str) ∨ SqT K H p (ys.map V.str)) ∧ (ys.map (·.length)).sum + ys.length * a.length ≤ 16777216 ∧ Q (.str (Txt.join a ys)) H)
      (tC (.str " ")) (tOp rCat (tSl (rSlL K) (tVar 3) tNoPart (tPart (tC (.int 1)))) (tTailL K (tVar 3))) σ H1 Q := by
  rintro σ H1 Q ⟨spot, o, w', sg, R, fz, ps, zs, rfl, b, h1, ⟨o1, o2⟩, _⟩ q
  obtain ⟨ra, ea, sa, la⟩ := cut_sV ps none (some 1)
  obtain ⟨eb, sb, lb⟩ := tail_sV ps
  have ssum := b.sum
  have slen := b.len
  refine ⟨⟨_, rfl⟩, _, rfl, 1, rfl, w', _, rfl, SqL.of b.hw, fun c1 n1 => ?_⟩
  have s1 : Same H1 (upd H1 c1 (.lst (cutV (sV ps) none (some 1)))) := same_new n1
  refine ⟨_, rfl, w', _, rfl, SqL.of (s1 _ _ b.hw), fun c2 n2 => ?_⟩
  have s2 : Same (upd H1 c1 (.lst (cutV (sV ps) none (some 1)))) _ := same_new (o := .lst (sV ps).tail.reverse) n2
  refine ⟨c1, c2, _, _, rfl, rfl, s2 _ _ upd_same, upd_same, by rw [ea, eb, List.length_map, List.length_map, List.length_map, List.length_map, sizeLine_eq]; omega, fun c3 n3 => ?_⟩
  have s3 := (s1.trans s2).trans (same_new (o := .lst (cutV (sV ps) none (some 1) ++ (sV ps).tail.reverse)) n3)
  have e3 : cutV (sV ps) none (some 1) ++ (sV ps).tail.reverse = sV (ra ++ ps.tail.reverse) := by
    rw [ea, eb]
    unfold sV
    rw [List.map_append, List.map_append]
  have za := szs_app ra ps.tail.reverse
  refine ⟨S [32], c3, (ra ++ ps.tail.reverse).map S, rfl, rfl, .inl (SqL.of (by rw [upd_same, e3])), ?_, q _ _ ?_ s3⟩
  · rw [sum_sV, List.length_map, List.length_append, S_len]
    show _ + _ * 1 ≤ _
    omega
  · have := join_sV (ra ++ ps.tail.reverse)
    rw [List.length_append] at this
    omega
theorem sp_6 (ll : l.length ≤ 1300) : QS (cxOf CX0 P w K mg base nSpX "_law_spoilt" (defScope sSpoiltX) f cdv A outer s H0 E).nox (stX 6) (tCut (JSr H p d l 6) (JSr H p d l (6 + 5))) := by
  have M0 := JS0.mono (H0 := H) (p := p) (d := d) (l := l)
  have T0 := JS0.t (H0 := H) (p := p) (d := d) ll
  have Mr : ∀ n, SMono (JSr H p d l n) := fun n => JSr.mono
  have Tr : ∀ n σ H', JSr H p d l n σ H' → σ[1]? = some (some (.str (S l))) := fun n => JSr.t ll
  refine q_cut (J := JSr H p d l 6) (J' := JSr H p d l (6 + 5)) (q_of (ps_set (i := 7) scSpX.nd rfl (.inl rfl) (pe_op op_cat (pv 7) (pe_lst
        (ys_cons (Mr 6) (y_of (m := 100000) (pe_join pe_str (pe_op op_cat (pe_slice sl_list (pv 3) po_none (po_some (pv 6))) (pe_slice sl_list (pv 3) (po_some (pe_op op_sub (pv 6) pe_int)) po_none))) sp_j1) <|
        ys_cons (Mr 6) (y_of (m := 100000) (pe_join pe_str (pe_op op_cat (pe_slice sl_list (pv 3) po_none (po_some pe_int)) (pe_tailL (pv 3)))) sp_j2) <|
        ys_cons (Mr 6) (y_lit (m := 3) pe_str) <|
        ys_cons (Mr 6) (y_lit (m := 3) pe_str) <|
        ys_cons (Mr 6) (y_lit (m := 3) pe_str) <|
        ys_nil (m := 100000)))))) (rest_more (by decide))
end
end Sw
namespace Sw
open PySem PySem.Spec PyProof.Rows L2 SX
section
variable {P : Program} {w : World} {K : PySem.W.Frag} {mg : Str → Option Value} {base : Heap} {f : Addr} {cdv : Value} {A : Around} {outer : List Env} {s : Shared} {H0 : Hp} {E : XK} {H : Hp} {p d : Addr} {l : List Nat}
theorem sp_7 (ll : l.length ≤ 1300) : QS (cxOf CX0 P w K mg base nSpX "_law_spoilt" (defScope sSpoiltX) f cdv A outer s H0 E).nox (stX 7) (tCut (JSr H p d l 11) (JSr H p d l (11 + 7))) := by
  have M0 := JS0.mono (H0 := H) (p := p) (d := d) (l := l)
  have T0 := JS0.t (H0 := H) (p := p) (d := d) ll
  have Mr : ∀ n, SMono (JSr H p d l n) := fun n => JSr.mono
  have Tr : ∀ n σ H', JSr H p d l n σ H' → σ[1]? = some (some (.str (S l))) := fun n => JSr.t ll
  refine q_cut (J := JSr H p d l 11) (J' := JSr H p d l (11 + 7)) (q_of (ps_set (i := 7) scSpX.nd rfl (.inl rfl) (pe_op op_cat (pv 7) (pe_lst
        (ys_cons (Mr 11) (y_cat (Mr 11) (y_mul (m := 5000) pe_str pe_int) (y_lit (m := 1) pe_str)) <|
        ys_cons (Mr 11) (y_cat (Mr 11) (y_lit (m := 5) pe_str) (y_mul (m := 5000) pe_str pe_int)) <|
        ys_cons (Mr 11) (y_cat (Mr 11) (y_lit (m := 3) pe_str) (y_mul (m := 12000) pe_str pe_int)) <|
        ys_cons (Mr 11) (y_lit (m := 20) pe_str) <|
        ys_cons (Mr 11) (y_lit (m := 20) pe_str) <|
        ys_cons (Mr 11) (y_lit (m := 20) pe_str) <|
        ys_cons (Mr 11) (y_lit (m := 20) pe_str) <|
        ys_nil (m := 100000)))))) (rest_more (by decide))
theorem sp_9 (ll : l.length ≤ 1300) : QS (cxOf CX0 P w K mg base nSpX "_law_spoilt" (defScope sSpoiltX) f cdv A outer s H0 E).nox (stX 9) (tCut (JSr H p d l 19) (JSr H p d l (19 + 10))) := by
  have M0 := JS0.mono (H0 := H) (p := p) (d := d) (l := l)
  have T0 := JS0.t (H0 := H) (p := p) (d := d) ll
  have Mr : ∀ n, SMono (JSr H p d l n) := fun n => JSr.mono
  have Tr : ∀ n σ H', JSr H p d l n σ H' → σ[1]? = some (some (.str (S l))) := fun n => JSr.t ll
  refine q_cut (J := JSr H p d l 19) (J' := JSr H p d l (19 + 10)) (q_of (ps_set (i := 7) scSpX.nd rfl (.inl rfl) (pe_op op_cat (pv 7) (pe_lst
        (ys_cons (Mr 19) (y_lit (m := 30) pe_str) <|
        ys_cons (Mr 19) (y_lit (m := 30) pe_str) <|
        ys_cons (Mr 19) (y_lit (m := 30) pe_str) <|
        ys_cons (Mr 19) (y_lit (m := 30) pe_str) <|
        ys_cons (Mr 19) (y_lit (m := 30) pe_str) <|
        ys_cons (Mr 19) (y_lit (m := 30) pe_str) <|
        ys_cons (Mr 19) (y_lit (m := 30) pe_str) <|
        ys_cons (Mr 19) (y_lit (m := 30) pe_str) <|
        ys_cons (Mr 19) (y_lit (m := 30) pe_str) <|
        ys_cons (Mr 19) (y_lit (m := 30) pe_str) <|
        ys_nil (m := 100000)))))) (rest_more (by decide))
end
end Sw
namespace Sw
open PySem PySem.Spec PyProof.Rows L2 SX
section
variable {P : Program} {w : World} {K : PySem.W.Frag} {mg : Str → Option Value} {base : Heap} {f : Addr} {cdv : Value} {A : Around} {outer : List Env} {s : Shared} {H0 : Hp} {E : XK} {H : Hp} {p d : Addr} {l : List Nat}
def JSv (K : PySem.W.Frag) (H0 : Hp) (p d : Addr) (l : List Nat) : SH := fun σ H => ∃ (spot o : Int) (w sg R Vl : Addr) (fz : Str) (ps : List (List Nat)) (zs : List Str) (xs : List V), σ = [some (.ref p), some (.str (S l)), some (.int spot), some (.ref w), some (.ref sg), some (.str fz), some (.int o), some (.ref R), some (.ref Vl)] ∧ BS H0 p d w ps H ∧ fz.length ≤ 3000 ∧
  H R = some (.lst (zs.map V.str)) ∧ (∀ z ∈ zs, z.length ≤ 100000) ∧ zs.length = 29 ∧ R ≠ d ∧ H Vl = some (.lst xs) ∧ xs.length = 14 ∧ Vl ≠ d ∧ ∀ x ∈ xs, Askd K (fun a => H0 a = none) H x
theorem ask_str {W : Addr → Prop} {H : Hp} {z : Str} (h : z.length ≤ 100000) : Askd K W H (.str z) :=
  ⟨.str z, [], by simp [Rep], fun _ h => absurd h (by simp), fun l e => by rw [Sw.D.str.inj e, S_len] at h; exact h⟩
theorem sp_10 (ll : l.length ≤ 1300) (lc : ∀ c ∈ l, c < 100) (B : NoNames mg) (EB : XE P K mg "BadNet" "the value is no net" "error") (EU : XU K mg "BadText") (hr : Room 3 (A.deeper (envOfC "_law_spoilt" (defScope sSpoiltX) s.heap.objs.size f cdv))) : QS (cxOf CX0 P w K mg base nSpX "_law_spoilt" (defScope sSpoiltX) f cdv A outer s H0 E).nox (stX 10) (tCut (JSr H p d l 29) (JSv K H p d l)) := by
  have M0 := JS0.mono (H0 := H) (p := p) (d := d) (l := l)
  have T0 := JS0.t (H0 := H) (p := p) (d := d) ll
  have Mr : ∀ n, SMono (JSr H p d l n) := fun n => JSr.mono
  have Tr : ∀ n σ H', JSr H p d l n σ H' → σ[1]? = some (some (.str (S l))) := fun n => JSr.t ll
  refine q_cut (J := JSr H p d l 29) (J' := JSv K H p d l) (q_of (ps_set (i := 8) scSpX.nd rfl (.inl rfl) (pe_lst
        (asks_cons (S := JSr H p d l 29) (U := fun _ a => H a = none) (Mr 29) (ask_dat (k := 10) (dat_non pe_non)) <|
        asks_cons (Mr 29) (ask_dat (k := 10) (dat_int (i := 0) (w := 3) pe_int (fun _ _ _ q => q))) <|
        asks_cons (Mr 29) (ask_dat (k := 10) (dat_true pe_bl)) <|
        asks_cons (Mr 29) (ask_dat (k := 10) (dat_lst dats_nil (Mr 29))) <|
        asks_cons (Mr 29) (ask_dat (k := 10) (dat_tup dats_nil (Mr 29))) <|
        asks_cons (Mr 29) (ask_dat (k := 10) dat_dct) <|
        asks_cons (Mr 29) (ask_dat (k := 10) (dat_tup (dats_cons (Mr 29) (dat_int (i := 3) (w := 3) pe_int (fun _ _ _ q => q)) (dats_cons (Mr 29) (dat_tup dats_nil (Mr 29)) dats_nil)) (Mr 29))) <|
        asks_cons (Mr 29) (ask_dat (k := 10) (dat_lst (dats_cons (Mr 29) (dat_str (w := 10) pe_str) dats_nil) (Mr 29))) <|
        asks_cons (Mr 29) (ask_dat (k := 10) (dat_int (i := 7) (w := 3) pe_int (fun _ _ _ q => q))) <|
        asks_cons (Mr 29) (ask_dat (k := 10) (dat_tup (dats_cons (Mr 29) (dat_text (Tr 29) ll lc (pv 1)) dats_nil) (Mr 29))) <|
        asks_cons (Mr 29) (ask_dat (k := 10) (dat_lst (dats_cons (Mr 29) (dat_text (Tr 29) ll lc (pv 1)) dats_nil) (Mr 29))) <|
        asks_cons (Mr 29) (ask_dx (x := S l) (pv 1) (fun σ H' Q s q => ⟨_, Tr 29 σ H' s, q⟩) (Mr 29) pe_int) <|
        asks_cons (Mr 29) (ask_dat (k := 13) (dat_xe EB (by decide +kernel) (by decide) B hr (by decide) (Mr 29) (by rfl) (dat_text (k := 10) (Tr 29) ll lc (pv 1)))) <|
        asks_cons (Mr 29) (ask_dat (k := 13) (dat_xu EU (by decide) (by rfl))) <|
        asks_nil)))) ?c8
  rintro D σ H1 hs nx
  obtain ⟨spot, o, w', sg, R, fz, ps, zs, rfl, b, h1, _, h3, h4, h5, h6, h7, h8⟩ := id hs
  refine ⟨⟨hs, fun a ha => b.kp.free b.dk ha⟩, fun xs H2 lx axs s1 => ⟨by rw [lx, sizeLine_eq]; omega, fun c nc => nx _ _ ?_⟩⟩
  have b2 := b.same s1
  have sc := s1.trans (same_new (o := .lst xs) nc)
  exact ⟨spot, o, w', sg, R, c, fz, ps, zs, xs, rfl, b.same sc, h1, sc _ _ h3, h4, h5, h6, upd_same, lx, (b2.dk.ne_none nc).2, fun x hx => (axs x hx).keep fun a o _ e => same_new nc _ _ e⟩
end
end Sw
namespace Sw
open PySem PySem.Spec PyProof.Rows L2 SX
section
variable {P : Program} {w : World} {K : PySem.W.Frag} {mg : Str → Option Value} {base : Heap}
def signsL : List Str := ["0", "1", "9", ">", " ", ":", "-", "+", "_", "<", "\n", " ", "a", "  ", "00", " 0>1", "2>1", ""]
theorem signs_le : ∀ z ∈ signsL, z.length ≤ 4 := by decide +kernel
theorem ok_spoiltX {f : Addr} {fd : FuncData} (F : Fun K "_law_spoilt" "_law_spoilt" sSpoiltX f fd) (B : NoNames mg) (EB : XE P K mg "BadNet" "the value is no net" "error") (EU : XU K mg "BadText")
    (OD : Own P w K mg base 1 "_law_draw" ["deck", "many"] spDraw) (OP : Own P w K mg base 2 "_law_pick" ["deck", "items"] spPick) : FnOk P w K mg base CX0 4 f fd ["deck", "text"] (spSpoiltT K) := by
  obtain ⟨fD, fdD, GD, mD, kD, bD⟩ := OD.ex
  obtain ⟨fP, fdP, GP, mP, kP, bP⟩ := OP.ex
  refine F.ok scSpX (fun vs H Q E h => ?_) (fun cdv A outer s H vs Q E hr h => ?_)
  · obtain ⟨p, d, l, rfl, _⟩ := h
    rfl
  · obtain ⟨p, d, l, rfl, D0, ll, lc, k⟩ := h
    have hr1 : Room 1 _ := hr.mono (by decide)
    have hr2 : Room 2 _ := hr.mono (by decide)
    refine ⟨_, pss_cons (ps_par (i := 2) (j := 3) rfl scSpX.nd rfl rfl (by decide) rfl rfl (pa_cons (pe_call GD hr1 rfl mD kD bD .nil pass0 (pa_cons (pv 0) (pa_cons (pe_op op_add (pe_callB call_len_str (by rfl) B.len PySem.boot_len (pa_cons (pv 1) pa_nil)) pe_int) pa_nil))) (pa_cons (pe_split (pv 1) pe_str) pa_nil)) (by rfl)) <|
      q_strs (i := 4) scSpX.nd rfl (.inl rfl) (pa_cons pe_str <| pa_cons pe_str <| pa_cons pe_str <| pa_cons pe_str <| pa_cons pe_str <| pa_cons pe_str <| pa_cons pe_str <| pa_cons pe_str <| pa_cons pe_str <| pa_cons pe_str <| pa_cons pe_str <| pa_cons pe_str <| pa_cons pe_str <| pa_cons pe_str <| pa_cons pe_str <| pa_cons pe_str <| pa_cons pe_str pa_nil) <|
      q_cons (q_of (ps_set (i := 5) scSpX.nd rfl (.inl rfl) (pe_op op_add_str (pe_op op_add_str (pe_slice sl_str (pv 1) po_none (po_some (pv 2))) (pe_call GP hr2 rfl mP kP bP .nil pass0 (pa_cons (pv 0) (pa_cons (pv 4) pa_nil))))
        (pe_slice sl_str (pv 1) (po_some (pe_op op_add (pv 2) (pe_call GD hr1 rfl mD kD bD .nil pass0 (pa_cons (pv 0) (pa_cons pe_int pa_nil))))) po_none)))) <|
      q_cons (q_of (ps_set (i := 6) scSpX.nd rfl (.inl rfl) (pe_op op_add pe_int (pe_call GD hr1 rfl mD kD bD .nil pass0 (pa_cons (pv 0) (pa_cons (pe_callB call_len_seq (by rfl) B.len PySem.boot_len (pa_cons (pv 3) pa_nil)) pa_nil)))))) <|
      q_cons (st := stX 4) (sp_4 (H := H) (p := p) (d := d) ll) <| q_cons (st := stX 5) (sp_5 (H := H) (p := p) (d := d) ll) <| q_cons (st := stX 6) (sp_6 (H := H) (p := p) (d := d) ll) <| q_cons (st := stX 7) (sp_7 (H := H) (p := p) (d := d) ll) <|
      q_cons (st := stX 8) (sp_8 (H := H) (p := p) (d := d) ll) <| q_cons (st := stX 9) (sp_9 (H := H) (p := p) (d := d) ll) <| q_cons (st := stX 10) (sp_10 (H := H) (p := p) (d := d) ll lc B EB EU hr) <|
      q_one (q_of (ps_ret (pe_call GP hr2 rfl mP kP bP .nil pass0 (pa_cons (pv 0) (pa_cons (pe_lst (pa_cons (pv 5) (pa_cons (pv 5) (pa_cons (pv 5)
        (pa_cons (pe_call GP hr2 rfl mP kP bP .nil pass0 (pa_cons (pv 0) (pa_cons (pv 7) pa_nil))) (pa_cons (pe_call GP hr2 rfl mP kP bP .nil pass0 (pa_cons (pv 0) (pa_cons (pv 7) pa_nil))) (pa_cons (pe_call GP hr2 rfl mP kP bP .nil pass0 (pa_cons (pv 0) (pa_cons (pv 8) pa_nil))) pa_nil))))))) pa_nil))))), ?_⟩
    have cl : ∀ lo hi, (cutS (S l) lo hi).length ≤ 1300 := fun lo hi => Nat.le_trans (cutS_length _ _ _) (by rw [S_len]; exact ll)
    have fits : (S l).length ≤ sizeLine := by
      rw [S_len, sizeLine_eq]
      omega
    refine ⟨_, rfl, _, rfl, S l, rfl, fits, _, _, rfl, rfl, p, d, _, rfl, D0, by rw [S_len]; omega, fun spot H1 s0 _ _ D1 k1 => ⟨_, rfl, ⟨_, rfl⟩, S l, S [32], rfl, rfl, by decide, by rw [S_len, sizeLine_eq]; omega, fun wl nwl => ?_⟩⟩
    rw [split_S (by decide) (by decide)]
    refine ⟨_, _, rfl, ?_⟩
    have ss := spl_sum l []
    obtain ⟨hh, ws, ep⟩ := spl_cons l 0 []
    have lp : 1 ≤ (TL.spl [32] 0 [] l).length := by
      rw [ep, List.length_cons]
      omega
    rw [List.length_nil] at ss
    generalize (TL.spl [32] 0 [] l) = ps at ss lp ⊢
    have b1 : BS H p d wl ps (upd H1 wl (.lst (sV ps))) := by
      have sw := same_new (o := .lst (sV ps)) nwl
      refine ⟨D1.same sw, k1.trans (.of sw), upd_same, (D1.ne_none nwl).2, ?_, ?_, lp⟩
      · unfold szs
        omega
      · omega
    generalize (upd H1 wl (.lst (List.map V.str (List.map S ps)))) = H2 at b1 ⊢
    refine ⟨by show 18 ≤ sizeLine; decide, fun sg nsg => ?_⟩
    have b2 := b1.same (same_new (o := .lst (signsL.map V.str)) nsg)
    have hsg : (upd H2 sg (.lst (signsL.map V.str))) sg = some (.lst (signsL.map V.str)) := upd_same
    have sgd := (b1.dk.ne_none nsg).2
    show _
    refine ⟨_, rfl, _, rfl, spot, rfl, S l, rfl, fits, _, rfl, _, rfl, p, d, sg, signsL.map V.str, rfl, b2.dk, hsg, sgd, (fun z => nomatch z), by show 18 < 1000000; decide, fun x H3 hx D3 k3 => ?_⟩
    obtain ⟨z, hz, rfl⟩ := List.mem_map.mp hx
    have lz := signs_le z hz
    have b3 := b2.go k3 D3
    have c1 := cl none (some spot)
    refine ⟨_, _, rfl, rfl, by rw [sizeLine_eq]; omega, _, rfl, _, rfl, _, rfl, p, d, 2, rfl, D3, by decide, fun q H4 q0 q1 _ D4 k4 => ⟨_, _, rfl, rfl, _, rfl, S l, rfl, fits, ?_⟩⟩
    have b4 := b3.go k4 D4
    have c2 := cl (some (spot + q)) none
    refine ⟨_, _, rfl, rfl, by rw [Str.length_append, sizeLine_eq]; omega, ?_⟩
    refine ⟨_, rfl, _, rfl, wl, _, rfl, .inl (SqL.of b4.hw), p, d, _, rfl, D4, by rw [List.length_map, List.length_map]; have := b4.len; omega, fun o H5 o0 o1 _ D5 k5 => ⟨_, _, rfl, rfl, ?_⟩⟩
    have b5 := b4.go k5 D5
    rw [List.length_map, List.length_map] at o1
    have o1 := o1 (by omega)
    refine ⟨⟨spot, 1 + o, wl, sg, _, ps, rfl, b5, ?_, by omega, by omega⟩, fun σ1 J1 h1 => ⟨h1, fun σ2 J2 h2 => ⟨h2, fun σ3 J3 h3 => ⟨h3, fun σ4 J4 h4 => ⟨h4, fun σ5 J5 h5 => ⟨h5, fun σ6 J6 h6 => ⟨h6, fun σ7 J7 h7 => ?_⟩⟩⟩⟩⟩⟩⟩
    · rw [Str.length_append, Str.length_append]
      omega
    obtain ⟨spot', o', w', sg', R, Vl, fz, qs, zs, xs, rfl, b, lf, hR, lzs, nzs, Rd, hV, nxs, Vd, axs⟩ := h7
    clear h1 h2 h3 h4 h5 h6
    have off : ∀ a, H a = none → a ≠ p ∧ a ≠ d := fun a ha => D0.ne_none ha
    have kp : ∀ {Ha Hb : Hp} {x : V}, Askd K (fun a => H a = none) Ha x → Kp p d Ha Hb → Askd K (fun a => H a = none) Hb x := fun h s => h.keep fun a o ha e => s a o e (off a ha).1 (off a ha).2
    refine ⟨_, rfl, _, rfl, _, rfl, _, rfl, _, rfl, _, rfl, p, d, R, zs.map V.str, rfl, b.dk, hR, Rd, (fun z => by have := congrArg List.length z; rw [List.length_map, nzs] at this; cases this), by rw [List.length_map, nzs]; decide, fun x1 Ha hx1 Da ka => ?_⟩
    have hRa := ka _ _ hR (b.dk.kne hR) Rd
    refine ⟨_, rfl, _, rfl, p, d, R, zs.map V.str, rfl, Da, hRa, Rd, (fun z => by have := congrArg List.length z; rw [List.length_map, nzs] at this; cases this), by rw [List.length_map, nzs]; decide, fun x2 Hb hx2 Db kb => ?_⟩
    have hVb := kb _ _ (ka _ _ hV (b.dk.kne hV) Vd) (Da.kne (ka _ _ hV (b.dk.kne hV) Vd)) Vd
    refine ⟨_, rfl, _, rfl, p, d, Vl, xs, rfl, Db, hVb, Vd, (fun z => by rw [z] at nxs; cases nxs), by rw [nxs]; decide, fun x3 Hc hx3 Dc kc => ?_⟩
    refine ⟨by show 6 ≤ sizeLine; decide, fun L nL => ?_⟩
    have sL : Same Hc (upd Hc L (.lst [.str fz, .str fz, .str fz, x1, x2, x3])) := same_new nL
    have kall : Kp p d H (upd Hc L (.lst [.str fz, .str fz, .str fz, x1, x2, x3])) := (((b.kp.trans ka).trans kb).trans kc).trans (.of sL)
    refine ⟨p, d, L, _, rfl, Dc.same sL, upd_same, (Dc.ne_none nL).2, (fun z => nomatch z), by show 6 < 1000000; decide, fun x H' hx D' k' => k x H' D' (kall.trans k') ?_⟩
    have tx : ∀ {y : V}, y ∈ zs.map V.str → Askd K (fun a => H a = none) H' y := fun {y} hy => by
      obtain ⟨z, hz, rfl⟩ := List.mem_map.mp hy
      exact ask_str (lzs z hz)
    simp only [List.mem_cons, List.not_mem_nil, or_false] at hx
    rcases hx with rfl | rfl | rfl | rfl | rfl | rfl
    · exact ask_str (by omega)
    · exact ask_str (by omega)
    · exact ask_str (by omega)
    · exact tx hx1
    · exact tx hx2
    · exact kp (axs _ hx3) ((((ka.trans kb).trans kc).trans (.of sL)).trans k')
end
end Sw
namespace Sw
open PySem PySem.Spec PyProof.Rows L2 PySem.W
theorem good_mk {K : Frag} {C : Addr} {nm q n : Str} {N : Addr} {bs bm : List Value} {hd : Bool} {sn : List Str} {sub : List Value} {ab : Bool} {col : Option Bool} {dd : Option Addr} {m0 m1 m2 m3 m5 : Option Value} {nw : String}
    (xL : K.lookup C = some (excClassObj nm q C N bs bm hd sn sub ab col dd m0 m1 m2 m3 m5 nw)) (e : exN nm = n) (len : n.length ≤ 60)
    (rp : findIn K (.ref C) "__repr__" = some (some (.builtin "BaseException.__repr__"))) (sb : subIn K (.ref C) (.type "BaseException") = some true) (ga : findIn K (.ref C) "__getattribute__" = some (some (.builtin "BaseException.__getattribute__")))
    (gt : findIn K (.ref C) "__getattr__" = some none) (ca : findIn K (.ref C) "__class__" = some (some (.builtin "object.__class__"))) (cn : specialIn K (.builtin "object.__class__") "__get__" = some (some (.builtin "getset_descriptor.__get__")))
    (ct : takesIn K (.builtin "object.__class__") = some true) (mo : mroIn K C (.type "object") = some true) (ni : subIn K (.ref C) (.type "int") = some false) (nb : subIn K (.ref C) (.type "bool") = some false) (nt : subIn K (.ref C) (.type "tuple") = some false)
    (ns : subIn K (.ref C) (.type "str") = some false) (nl : subIn K (.ref C) (.type "list") = some false) (nd : subIn K (.ref C) (.type "dict") = some false) : XGood K C n := by
  have h : ∃ cd, clsIn K C = some cd ∧ cd.name = nm := by
    unfold clsIn
    rw [xL]
    exact ⟨_, rfl, rfl⟩
  obtain ⟨cd, h1, h2⟩ := h
  rw [← h2] at e
  exact ⟨⟨cd, h1, e⟩, len, rp, sb, ga, gt, ca, cn, ct, mo, ni, nb, nt, ns, nl, nd⟩
theorem init_mk {K : Frag} {C fI : Addr} {msg fld prm file qual : Str} {j : Nat} {p0 p1 p2 p3 p4 p5 p6 p7 p8 p9 : Pos} {params : Arguments} {dV kV doc pm ct oc ccl cl : Value} {an od cdd cld : Option Addr} {osl ccs csl : Array (Option Value)} {cc cda : Addr} {vs : Array Value} {tf : Tok} {ar : Arg}
    (l : K.lookup fI = some ⟨oc, od, .func (ksFn "__init__" qual params (initBody msg fld prm j p0 p1 p2 p3 p4 p5 p6 p7 p8 p9) (initScope prm) dV kV doc pm an (.ref cda) ct cc), osl⟩)
    (c : codeIn K (.ref cda) qual = true) (lc : K.lookup cda = some ⟨ccl, cdd, .fields vs, ccs⟩) (hv : vs[2]? = some (.str file tf)) (lcc : K.lookup cc = some ⟨cl, cld, .cell (some (.ref C)), csl⟩) (hl : (p2.endLine == p4.line) = true)
    (ha : (params.posonlyargs ++ params.args).head? = some ar) (har : ar.arg = "self")
    (hb : ∀ a u : Value, bindArgs (ksFn "__init__" qual params (initBody msg fld prm j p0 p1 p2 p3 p4 p5 p6 p7 p8 p9) (initScope prm) dV kV doc pm an (.ref cda) ct cc) ⟨[a, u], []⟩ = pure [(("self" : Str), a), (prm, u)])
    (pn : ¬ prm = "self") (pc : ¬ prm = "__class__") (ps : ¬ prm = "super") (pd : (prm == ("__debug__" : Str)) = false) (su : ks_superIn K C C "__init__" = some (some (.builtin "ValueError.__init__"))) (sub : subIn K (.ref C) (.type "ValueError") = some true)
    (self : mroIn K C (.ref C) = some true) (nf : findIn K (.ref C) fld = some none) (ty : typeIn K (.ref fI) = some (.type "function")) (fi : findIn K (.ref C) "__init__" = some (some (.ref fI))) : XInit K C fI msg fld prm file :=
  ⟨⟨qual, j, p0, p1, p2, p3, p4, p5, p6, p7, p8, p9, params, dV, kV, doc, pm, ct, oc, ccl, cl, an, od, cdd, cld, osl, ccs, csl, cc, cda, vs, tf, ar, l, c, lc, hv, lcc, hl, ha, har, hb⟩, pn, pc, ps, pd, su, sub, self, nf, ty, fi⟩
end Sw
namespace Sw
open PySem PySem.Spec PyProof.Rows L2 PySem.W
theorem uerr_mk {K : Frag} {mg : Str → Option Value} {h : Heap} {x y : Str} {C S : Addr} (X : K.In h) (G : h.Ns mainGlobals mg) (aC : nsIn K mainGlobals x = some (some (.ref C))) (aS : nsIn K mainGlobals y = some (some (.ref S)))
    (made : excIn K C [.type "ValueError", .type "Exception", .type "BaseException", .type "object"] "ValueError.__new__" = true) (kC : keepIn K (.ref C) = true) (base : subIn K (.ref C) (.type "BaseException") = some true)
    (ty : typeIn K (.ref C) = some (.type "type")) (self : subIn K (.ref C) (.ref C) = some true)
    (e1 : findIn K (.ref C) "__getattribute__" = some (some (.builtin "BaseException.__getattribute__"))) (e2 : findIn K (.ref C) "__getattr__" = some none) (e4 : hasDictIn K C = true)
    (e5 : findIn K (.ref C) "__class__" = some (some (.builtin "object.__class__"))) (e6 : specialIn K (.builtin "object.__class__") "__get__" = some (some (.builtin "getset_descriptor.__get__"))) (e7 : takesIn K (.builtin "object.__class__") = some true)
    (e8 : mroIn K C (.type "object") = some true) (sub : kitOne K (.ref C) (.ref S) = some true) : ∃ C S, UErr K mg x y C S :=
  ⟨C, S, mg_of X G aC, mg_of X G aS, made, kC, base, ty, self, ⟨e1, e2, base, e4, e5, e6, e7, e8⟩, sub⟩
/-- a def of one parameter: by place, and by its word -/
structure Own1 (P : Program) (w : World) (K : PySem.W.Frag) (mg : Str → Option Value) (base : Heap) (k : Nat) (x p1 : Str) (sp : Sp) : Prop where
  ex : ∃ f fd, FnOk P w K mg base CX0 k f fd [p1] sp ∧ mg x = some (.ref f) ∧ PySem.W.keepIn K (.ref f) = true ∧ Binds K fd [p1] [] ∧ KBinds K fd [p1] [p1] (· ++ ·) (· ++ ·)
section
variable {P : Program} {w : World} {K : PySem.W.Frag} {mg : Str → Option Value} {base : Heap}
theorem Has.own1 {k : Nat} {x p1 : Str} {st : Stmt} {sp : Sp} (hs : Has K mg x st) (ok : ∀ f fd, Fun K x x st f fd → FnOk P w K mg base CX0 k f fd [p1] sp)
    (b : ∀ (kV doc pm : Value) (an : Option Addr) (cdv ct : Value) (us : List Value), us.length = ([p1] : List Str).length → bindArgs (PySem.W.fnOf x x (defArgs st) (defBody st) (defScope st) .none kV doc pm an cdv ct) ⟨us, []⟩ = pure (([p1] : List Str).zip us))
    (b1 : ∀ (kV doc pm : Value) (an : Option Addr) (cdv ct u : Value), bindArgs (PySem.W.fnOf x x (defArgs st) (defBody st) (defScope st) .none kV doc pm an cdv ct) ⟨[], ([p1] : List Str).zip [u]⟩ = pure (([p1] : List Str).zip [u]))
    (b2 : ∀ (kV doc pm : Value) (an : Option Addr) (cdv ct u : Value), bindArgs (PySem.W.fnOf x x (defArgs st) (defBody st) (defScope st) .none kV doc pm an cdv ct) ⟨[u], ([p1] : List Str).zip []⟩ = pure (([p1] : List Str).zip [u])) : Own1 P w K mg base k x p1 sp := by
  obtain ⟨f, fd, F, m⟩ := hs
  refine ⟨f, fd, ok f fd F, m, F.kp, F.binds b, ?_⟩
  obtain ⟨oc, od, kV, doc, pm, an, cdv, ct, osl, rfl, lk, hcd⟩ := F.ex
  refine ⟨fun s us ws _ hl => ?_, fun r q => r.append q⟩
  match us, ws, hl with
  | [], [u], _ => exact .of_eq (b1 kV doc pm an cdv ct u)
  | [u], [], _ => exact .of_eq (b2 kV doc pm an cdv ct u)
end
section
variable {P : Program} {w : World} {K : Frag} {mg : Str → Option Value} {h : Heap}
theorem xe_mk {C fI : Addr} {x msg fld file nm q : Str} {N : Addr} {bs bm : List Value} {sn : List Str} {sub : List Value} {ab : Bool} {col : Option Bool} {dd : Option Addr} {m0 m1 m2 m3 m5 : Option Value} (X : K.In h) (G : h.Ns mainGlobals mg)
    (F : XInit K C fI msg fld fld file) (aC : nsIn K mainGlobals x = some (some (.ref C))) (xL : K.lookup C = some (excClassObj nm q C N bs bm true sn sub ab col dd m0 m1 m2 m3 m5 "ValueError.__new__")) (hbm : PySem.HandSPX.refsVE bm = true)
    (sa : findIn K (.ref C) "__setattr__" = some (some (.builtin "object.__setattr__"))) (opq : nsIn K cStatics "thirdparty.any" = some none) (kp : keepIn K (.ref C) = true)
    (hf : ((P.main.file : Str) == file) = true) (ht : (P.main.scope.names.lookup ("super" : Str)).isSome = false) (g : XGood K C x) : XE P K mg x msg fld :=
  ⟨⟨C, fI, file, ⟨⟨nm, q, N, bs, bm, sn, sub, ab, col, dd, m0, m1, m2, m3, m5, xL, hbm⟩, sa, opq, kp⟩, F, mg_of X G aC, hf, ht, g⟩⟩
theorem xu_mk {C : Addr} {x : Str} (X : K.In h) (G : h.Ns mainGlobals mg) (a : nsIn K mainGlobals x = some (some (.ref C))) (e : excIn K C [.type "ValueError", .type "Exception", .type "BaseException", .type "object"] "ValueError.__new__" = true) (k : keepIn K (.ref C) = true) (g : XGood K C x) : XU K mg x :=
  ⟨⟨C, _, "ValueError", _, _, PySem.F.excBase_ValueError, e, k, mg_of X G a, g⟩⟩
end
/-- by its one word -/
theorem kb_one {K : Frag} {x p1 : Str} {st : Stmt} {f : Addr} {fd : FuncData} (F : Fun K x x st f fd)
    (b1 : ∀ (kV doc pm : Value) (an : Option Addr) (cdv ct u : Value), bindArgs (fnOf x x (defArgs st) (defBody st) (defScope st) .none kV doc pm an cdv ct) ⟨[], ([p1] : List Str).zip [u]⟩ = pure (([p1] : List Str).zip [u]))
    (b2 : ∀ (kV doc pm : Value) (an : Option Addr) (cdv ct u : Value), bindArgs (fnOf x x (defArgs st) (defBody st) (defScope st) .none kV doc pm an cdv ct) ⟨[u], ([p1] : List Str).zip []⟩ = pure (([p1] : List Str).zip [u])) : KBinds K fd [p1] [p1] (· ++ ·) (· ++ ·) := by
  obtain ⟨oc, od, kV, doc, pm, an, cdv, ct, osl, rfl, lk, hcd⟩ := F.ex
  refine ⟨fun s us ws _ hl => ?_, fun r q => r.append q⟩
  match us, ws, hl with
  | [], [u], _ => exact .of_eq (b1 kV doc pm an cdv ct u)
  | [u], [], _ => exact .of_eq (b2 kV doc pm an cdv ct u)
end Sw
namespace Sw
open PySem PySem.Spec PyProof.Rows L2 PySem.W
theorem run_k02 {P : Program} {w : World} {K : Frag} {mg : Str → Option Value} {base : Heap} {fa a : Addr} {s₁ : Shared} {H : Hp} {ns : List Int} {t1 : Tok} (B : NoNames mg) (bmax : mg "max" = none) (m1 : mg "MAX_STOPS" = some (.int 12 t1))
    (EU : ∃ C S, UErr K mg "BadText" "SwapError" C S) (EB : XE P K mg "BadNet" "the value is no net" "error") (ET : XU K mg "BadText")
    (hBetween : Has K mg "is_integer_between" sBetween) (hPair : Has K mg "is_pair" sPair) (hStop : Has K mg "is_stop" sStop) (hArrow : Has K mg "is_arrow" sArrow) (hForm : Has K mg "has_net_form" sForm) (hError : Has K mg "net_error" sError)
    (hNumIn : Has K mg "number_in" sNumIn) (hEndsIn : Has K mg "ends_in" sEndsIn) (hNetText : Has K mg "net_text" sNetText) (hReadNet : Has K mg "read_net" sReadNet)
    (hDeck : Has K mg "_law_deck" sDeck) (hDraw : Has K mg "_law_draw" sDraw) (hPick : Has K mg "_law_pick" sPick) (hMixed : Has K mg "_law_mixed" sMixed) (hNet : Has K mg "_law_net" sNet)
    (hLText : Has K mg "_law_text" sLText) (hLNum : Has K mg "_law_number" sLNum) (hLRead : Has K mg "_law_read" sLRead) (hSeen : Has K mg "_law_seen" sSeenT) (hSpoilt : Has K mg "_law_spoilt" sSpoiltX)
    (hLaw : Has K mg "law" sLawX) (hfa : mg "law" = some (.ref fa))
    (ev : Env0 P w K mg base callerA [] s₁ H) (sq : SqL K H a (ns.map V.int)) (hlen : ns.length ≤ 63) :
    codeAny (model P w) callerA (.call (.ref fa) ⟨[.ref a], []⟩) (CR CX0 [] P w H s₁ (fun v _ => v = .bl true) fun _ _ _ => False) s₁ := by
  obtain ⟨C, S, U⟩ := EU
  obtain ⟨f, fd, F, m⟩ := hLaw
  have e := hfa.symm.trans m
  cases e
  obtain ⟨fT, fdT, FT, mT⟩ := hNetText
  obtain ⟨fR, fdR, FR, mR⟩ := hReadNet
  have O1 : Own P w K mg base 1 "is_integer_between" ["value", "least", "most"] (spBetween K) := hBetween.own (fun f fd F => ok_between F B) fun _ _ _ _ _ _ us hl => match us, hl with | [_, _, _], _ => rfl
  have O2 : Own P w K mg base 1 "is_pair" ["value"] (spPair K) := hPair.own (fun f fd F => ok_pair F B) fun _ _ _ _ _ _ us hl => match us, hl with | [_], _ => rfl
  have O3 : Own P w K mg base 2 "is_stop" ["n", "value"] (spStop K) := hStop.own (fun f fd F => ok_stop F O1) fun _ _ _ _ _ _ us hl => match us, hl with | [_, _], _ => rfl
  have O4 : Own P w K mg base 3 "is_arrow" ["n", "value"] (spArrow K) := hArrow.own (fun f fd F => ok_arrow F O2 O3) fun _ _ _ _ _ _ us hl => match us, hl with | [_, _], _ => rfl
  have O5 := hForm.own (fun f fd F => ok_form F B t1 m1 O2 O1) fun _ _ _ _ _ _ us hl => match us, hl with | [_], _ => rfl
  have O6 : Own P w K mg base 4 "net_error" ["value"] (spError K) := hError.own (fun f fd F => ok_error F B O5 O4) fun _ _ _ _ _ _ us hl => match us, hl with | [_], _ => rfl
  have N1 : Own P w K mg base 1 "number_in" ["word"] spNumIn := hNumIn.own (fun f fd F => ok_numIn F B t1 m1) fun _ _ _ _ _ _ us hl => match us, hl with | [_], _ => rfl
  have N2 : Own P w K mg base 2 "ends_in" ["word"] spEndsIn := hEndsIn.own (fun f fd F => ok_endsIn F N1) fun _ _ _ _ _ _ us hl => match us, hl with | [_], _ => rfl
  have N3 : Own P w K mg base 1 "net_text" ["net"] spNetText := ⟨fT, fdT, ok_netText FT, mT, FT.kp, FT.binds fun _ _ _ _ _ _ us hl => match us, hl with | [_], _ => rfl⟩
  have N4 : OwnRd P w K mg base 5 C := ⟨fR, fdR, ok_readNet FR B U N1 N2 O6, mR, FR.kp, FR.binds fun _ _ _ _ _ _ us hl => match us, hl with | [_], _ => rfl, kb_one FR (fun _ _ _ _ _ _ _ => rfl) fun _ _ _ _ _ _ _ => rfl⟩
  have L1 : Own P w K mg base 1 "_law_deck" ["script"] (spDeck K) := hDeck.own (fun f fd F => ok_deck F B) fun _ _ _ _ _ _ us hl => match us, hl with | [_], _ => rfl
  have L2 : Own P w K mg base 1 "_law_draw" ["deck", "many"] spDraw := hDraw.own (fun f fd F => ok_draw F B) fun _ _ _ _ _ _ us hl => match us, hl with | [_, _], _ => rfl
  have L3 : Own P w K mg base 2 "_law_pick" ["deck", "items"] spPick := hPick.own (fun f fd F => ok_pick F B L2) fun _ _ _ _ _ _ us hl => match us, hl with | [_, _], _ => rfl
  have L4 : Own P w K mg base 2 "_law_mixed" ["deck", "items"] spMixed := hMixed.own (fun f fd F => ok_mixed F B L2) fun _ _ _ _ _ _ us hl => match us, hl with | [_, _], _ => rfl
  have L5 : Own P w K mg base 3 "_law_net" ["deck", "n"] spNet := hNet.own (fun f fd F => ok_net F B L2 L3 L4) fun _ _ _ _ _ _ us hl => match us, hl with | [_, _], _ => rfl
  have L6 : Own P w K mg base 1 "_law_text" ["net"] spNetText := hLText.own (fun f fd F => ok_lText F B) fun _ _ _ _ _ _ us hl => match us, hl with | [_], _ => rfl
  have L7 : Own P w K mg base 1 "_law_number" ["figures"] spLNum := hLNum.own (fun f fd F => ok_lNum F B) fun _ _ _ _ _ _ us hl => match us, hl with | [_], _ => rfl
  have L8 : Own P w K mg base 2 "_law_read" ["value"] (spLRead K) := hLRead.own (fun f fd F => ok_lRead F B bmax L7) fun _ _ _ _ _ _ us hl => match us, hl with | [_], _ => rfl
  have L9 : Own P w K mg base 6 "_law_seen" ["value", "is_named"] (spSeenT K) := hSeen.own (fun f fd F => ok_seenT F B U N4) fun _ _ _ _ _ _ us hl => match us, hl with | [_, _], _ => rfl
  have LA : Own P w K mg base 4 "_law_spoilt" ["deck", "text"] (spSpoiltT K) := hSpoilt.own (fun f fd F => ok_spoiltX F B EB ET L2 L3) fun _ _ _ _ _ _ us hl => match us, hl with | [_, _], _ => rfl
  have rm : Room 7 callerA := ⟨rfl, by decide, by decide⟩
  refine run_def (us := [.ref a]) (vs := [.ref a]) (Q := fun v _ => v = .bl true) (E := fun _ _ _ => False) F scLawX rm ev (F.binds (ps := ["script"]) (fun _ _ _ _ _ _ us hl => match us, hl with | [_], _ => rfl) s₁ [.ref a] ?_ rfl) (.cons rfl .nil) rfl fun cdv => ?_
  · exact ev.mod.kin.keeps fun b o z => (ev.bs b o z).1
  · exact law_bodyX (Q := fun v _ => v = .bl true) B ⟨L1, L2, L5, L6, N3, ⟨fT, fdT, ok_netText FT, mT, FT.kp, kb_one FT (fun _ _ _ _ _ _ _ => rfl) fun _ _ _ _ _ _ _ => rfl⟩, L8, L9, LA⟩ (rm.deeper _) rfl ⟨a, ns, rfl, sq, hlen, fun _ => rfl⟩
end Sw
open PySem PySem.W PyProof.Rows
set_option maxHeartbeats 0 in
theorem PySem.Challenge.cw_swapstops_k02_texts_of_nets_holds : PySem.Challenge.rw_swapstops_k02_texts_of_nets.Holds := by
  w_on; o_law; k_head; (case hw => w_witness2)
  k_fill
  refine Sw.walk_law (l := PySem.Challenge.rw_swapstops_k02_texts_of_nets) rfl rfl (fun w h Y => PySem.W.kIn_of Y) ?F
  case F =>
    intro w mg fa h KX G hmg base s₁ H a ns ev sq hlen
    refine' Sw.run_k02 ?qz0h ?qz1h ?qz2h ?qz3h ?qz4h ?qz5h ?qz6h ?qz7h ?qz8h ?qz9h ?qz10h ?qz11h ?qz12h ?qz13h ?qz14h ?qz15h ?qz16h ?qz17h ?qz18h ?qz19h ?qz20h ?qz21h ?qz22h ?qz23h ?qz24h ?qz25h ?qz26h hmg ev sq hlen
    case qz0h =>
      refine' ⟨PySem.W.mg_none_of KX G ?zn1, PySem.W.mg_none_of KX G ?zn2, PySem.W.mg_none_of KX G ?zn3, PySem.W.mg_none_of KX G ?zn4, PySem.W.mg_none_of KX G ?zn5, PySem.W.mg_none_of KX G ?zn6, PySem.W.mg_none_of KX G ?zn7, PySem.W.mg_none_of KX G ?zn8, PySem.W.mg_none_of KX G ?zn9, PySem.W.mg_none_of KX G ?zn10, PySem.W.mg_none_of KX G ?zn11, PySem.W.mg_none_of KX G ?zn12, PySem.W.mg_none_of KX G ?zn13, PySem.W.mg_none_of KX G ?zn14, PySem.W.mg_none_of KX G ?zn15⟩
      (case zn1 => k_is); (case zn2 => k_is); (case zn3 => k_is); (case zn4 => k_is); (case zn5 => k_is); (case zn6 => k_is); (case zn7 => k_is); (case zn8 => k_is); (case zn9 => k_is); (case zn10 => k_is); (case zn11 => k_is); (case zn12 => k_is); (case zn13 => k_is); (case zn14 => k_is); (case zn15 => k_is)
    case qz1h =>
      refine' PySem.W.mg_none_of KX G ?nn1
      (case nn1 => k_is)
    case qz2h =>
      refine' PySem.W.mg_of KX G ?mm2
      (case mm2 => k_is)
    case qz3h =>
      refine' Sw.uerr_mk KX G ?aCx3 ?aSx3 ?madex3 ?kCx3 ?basex3 ?tyx3 ?selfx3 ?e1x3 ?e2x3 ?e4x3 ?e5x3 ?e6x3 ?e7x3 ?e8x3 ?subx3
      (case aCx3 => k_is); (case aSx3 => k_is); (case madex3 => k_exc); (case kCx3 => k_is); (case basex3 => k_is); (case tyx3 => k_is); (case selfx3 => first | rfl | k_is); (case e1x3 => k_is); (case e2x3 => k_is); (case e4x3 => k_is); (case e5x3 => k_is); (case e6x3 => k_is); (case e7x3 => k_is); (case e8x3 => k_is); (case subx3 => kit_is)
    case qz4h =>
      refine' Sw.xe_mk KX G ?zFe4 ?zaCe4 ?zxLe4 ?zhbme4 ?zsae4 ?zopqe4 ?zkpe4 ?zhfe4 ?zhte4 ?zge4
      (case zaCe4 => k_is); (case zxLe4 => k_is); (case zhbme4 => decide +kernel); (case zsae4 => k_is); (case zopqe4 => k_is); (case zkpe4 => k_is)
      case zFe4 =>
        refine' Sw.init_mk ?yle4 ?yce4 ?ylce4 ?yhve4 ?ylcce4 ?yhle4 ?yhae4 ?yhare4 ?yhbe4 ?ypne4 ?ypce4 ?ypse4 ?ypde4 ?ysue4 ?ysube4 ?yselfe4 ?ynfe4 ?ytye4 ?yfie4
        (case yfie4 => k_is); (case yle4 => k_is); (case yce4 => k_is); (case ylce4 => k_is); (case yhve4 => rfl); (case ylcce4 => k_is)
        (case yhle4 => rfl); (case yhae4 => rfl); (case yhare4 => rfl); (case yhbe4 => exact fun _ _ => rfl)
        (case ypne4 => decide +kernel); (case ypce4 => decide +kernel); (case ypse4 => decide +kernel); (case ypde4 => decide +kernel)
        (case ysue4 => ks_is); (case ysube4 => k_is); (case yselfe4 => first | rfl | k_is); (case ynfe4 => k_is); (case ytye4 => k_is)
      (case zhfe4 => rfl); (case zhte4 => rfl)
      case zge4 =>
        refine' Sw.good_mk ?wxe4 ?wee4 ?wle4 ?wrpe4 ?wsbe4 ?wgae4 ?wgte4 ?wcae4 ?wcne4 ?wcte4 ?wmoe4 ?wnie4 ?wnbe4 ?wnte4 ?wnse4 ?wnle4 ?wnde4
        (case wxe4 => k_is); (case wee4 => decide +kernel); (case wle4 => decide +kernel)
        (case wrpe4 => k_is); (case wsbe4 => k_is); (case wgae4 => k_is); (case wgte4 => k_is); (case wcae4 => k_is); (case wcne4 => k_is); (case wcte4 => k_is); (case wmoe4 => k_is); (case wnie4 => k_is); (case wnbe4 => k_is); (case wnte4 => k_is); (case wnse4 => k_is); (case wnle4 => k_is); (case wnde4 => k_is)
    case qz5h =>
      refine' Sw.xu_mk KX G ?uau5 ?ueu5 ?uku5 ?ugu5
      (case uau5 => k_is); (case ueu5 => k_exc); (case uku5 => k_is)
      case ugu5 =>
        refine' Sw.good_mk ?wxu5 ?weu5 ?wlu5 ?wrpu5 ?wsbu5 ?wgau5 ?wgtu5 ?wcau5 ?wcnu5 ?wctu5 ?wmou5 ?wniu5 ?wnbu5 ?wntu5 ?wnsu5 ?wnlu5 ?wndu5
        (case wxu5 => k_is); (case weu5 => decide +kernel); (case wlu5 => decide +kernel)
        (case wrpu5 => k_is); (case wsbu5 => k_is); (case wgau5 => k_is); (case wgtu5 => k_is); (case wcau5 => k_is); (case wcnu5 => k_is); (case wctu5 => k_is); (case wmou5 => k_is); (case wniu5 => k_is); (case wnbu5 => k_is); (case wntu5 => k_is); (case wnsu5 => k_is); (case wnlu5 => k_is); (case wndu5 => k_is)
    case qz6h =>
      refine' Sw.has_mk KX G ?va1 ?vl1 ?vc1 ?vk1
      (case va1 => k_is); (case vl1 => k_is); (case vc1 => k_is); (case vk1 => k_is)
    case qz7h =>
      refine' Sw.has_mk KX G ?va2 ?vl2 ?vc2 ?vk2
      (case va2 => k_is); (case vl2 => k_is); (case vc2 => k_is); (case vk2 => k_is)
    case qz8h =>
      refine' Sw.has_mk KX G ?va3 ?vl3 ?vc3 ?vk3
      (case va3 => k_is); (case vl3 => k_is); (case vc3 => k_is); (case vk3 => k_is)
    case qz9h =>
      refine' Sw.has_mk KX G ?va4 ?vl4 ?vc4 ?vk4
      (case va4 => k_is); (case vl4 => k_is); (case vc4 => k_is); (case vk4 => k_is)
    case qz10h =>
      refine' Sw.has_mk KX G ?va5 ?vl5 ?vc5 ?vk5
      (case va5 => k_is); (case vl5 => k_is); (case vc5 => k_is); (case vk5 => k_is)
    case qz11h =>
      refine' Sw.has_mk KX G ?va6 ?vl6 ?vc6 ?vk6
      (case va6 => k_is); (case vl6 => k_is); (case vc6 => k_is); (case vk6 => k_is)
    case qz12h =>
      refine' Sw.has_mk KX G ?va7 ?vl7 ?vc7 ?vk7
      (case va7 => k_is); (case vl7 => k_is); (case vc7 => k_is); (case vk7 => k_is)
    case qz13h =>
      refine' Sw.has_mk KX G ?va8 ?vl8 ?vc8 ?vk8
      (case va8 => k_is); (case vl8 => k_is); (case vc8 => k_is); (case vk8 => k_is)
    case qz14h =>
      refine' Sw.has_mk KX G ?va9 ?vl9 ?vc9 ?vk9
      (case va9 => k_is); (case vl9 => k_is); (case vc9 => k_is); (case vk9 => k_is)
    case qz15h =>
      refine' Sw.has_mk KX G ?va10 ?vl10 ?vc10 ?vk10
      (case va10 => k_is); (case vl10 => k_is); (case vc10 => k_is); (case vk10 => k_is)
    case qz16h =>
      refine' Sw.has_mk KX G ?va11 ?vl11 ?vc11 ?vk11
      (case va11 => k_is); (case vl11 => k_is); (case vc11 => k_is); (case vk11 => k_is)
    case qz17h =>
      refine' Sw.has_mk KX G ?va12 ?vl12 ?vc12 ?vk12
      (case va12 => k_is); (case vl12 => k_is); (case vc12 => k_is); (case vk12 => k_is)
    case qz18h =>
      refine' Sw.has_mk KX G ?va13 ?vl13 ?vc13 ?vk13
      (case va13 => k_is); (case vl13 => k_is); (case vc13 => k_is); (case vk13 => k_is)
    case qz19h =>
      refine' Sw.has_mk KX G ?va14 ?vl14 ?vc14 ?vk14
      (case va14 => k_is); (case vl14 => k_is); (case vc14 => k_is); (case vk14 => k_is)
    case qz20h =>
      refine' Sw.has_mk KX G ?va15 ?vl15 ?vc15 ?vk15
      (case va15 => k_is); (case vl15 => k_is); (case vc15 => k_is); (case vk15 => k_is)
    case qz21h =>
      refine' Sw.has_mk KX G ?va16 ?vl16 ?vc16 ?vk16
      (case va16 => k_is); (case vl16 => k_is); (case vc16 => k_is); (case vk16 => k_is)
    case qz22h =>
      refine' Sw.has_mk KX G ?va17 ?vl17 ?vc17 ?vk17
      (case va17 => k_is); (case vl17 => k_is); (case vc17 => k_is); (case vk17 => k_is)
    case qz23h =>
      refine' Sw.has_mk KX G ?va18 ?vl18 ?vc18 ?vk18
      (case va18 => k_is); (case vl18 => k_is); (case vc18 => k_is); (case vk18 => k_is)
    case qz24h =>
      refine' Sw.has_mk KX G ?va19 ?vl19 ?vc19 ?vk19
      (case va19 => k_is); (case vl19 => k_is); (case vc19 => k_is); (case vk19 => k_is)
    case qz25h =>
      refine' Sw.has_mk KX G ?va20 ?vl20 ?vc20 ?vk20
      (case va20 => k_is); (case vl20 => k_is); (case vc20 => k_is); (case vk20 => k_is)
    case qz26h =>
      refine' Sw.has_mk KX G ?va21 ?vl21 ?vc21 ?vk21
      (case va21 => k_is); (case vl21 => k_is); (case vc21 => k_is); (case vk21 => k_is)
