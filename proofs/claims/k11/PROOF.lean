import PyProof.Rows.All
import Wide.All
import OpenK.AllK
import Wide.FinOn
import KE.KExcSuper
import HandS.ForExc
import HandS.ExcInit
import HandS.ExcValue
import KE.KExcStr
import PyProof.ReprReads
import PyProof.ReprLen
import PyProof.StrHeap
import HandS.Call
import HandS.IsInst
import KE.KExcIs
import HandS.ForMost
import HandS.Walk
import KE.GoesMore
import KE.GoesEnum
import PyProof.Draws
import HandS.TupLe
import HandS.Text
import HandS.Codes
import HandS.FStr
import HandS.List
import HandS.Base
import PyProof.CollectIter
import PyProof.Comp
import PyProof.Seq
import KE.KEqSeq
import KE.KDictPairs
import HandS.SortRule
import HandS.DictSub
import HandS.Conv
import HandS.TupAny
import HandS.ExcOwn
import HandS.Gcd
import HandS.TryOnly
import KE.KMathGC
import HandS.ExcIs
import PyProof.StrLawsRepr
import HandS.SetFor
import PyProof.NeKinds
import HandS.Wide
import HandS.Strs
import HandS.Ends
import HandS.Zip
import HandS.Evl
import HandS.TupMul
import HandS.Style
import HandS.WordsDict
import HandS.TupSets
import PyProof.SetRoads
import PySem.Challenge.RW_swapstops_k11_names_and_equal_calls
set_option Elab.async false
set_option linter.all false
set_option maxRecDepth 100000
set_option maxHeartbeats 4000000
namespace Sw
open PySem PySem.Spec PyProof.Rows PySem.W
/-- an exception's record -/
abbrev xRec (C : Addr) (d : Option Addr) (t : Addr) : Obj := { cls := .ref C, dict := d, data := .fields #[.ref t, .none, .none, .none, .bool false, .none] }
abbrev xTup (vs : List Value) : Obj := { cls := .type "tuple", data := .seq vs.toArray }
/-- what the written part says of an own exception's class over ValueError -/
structure XCls (K : Frag) (C : Addr) : Prop where
  cls : ∃ nm q N bs bm sn sub ab col dd k0 k1 k2 k3 k5, K.lookup C = some (excClassObj nm q C N bs bm true sn sub ab col dd k0 k1 k2 k3 k5 "ValueError.__new__") ∧ PySem.HandSPX.refsVE bm = true
  sa : findIn K (.ref C) "__setattr__" = some (some (.builtin "object.__setattr__"))
  opq : nsIn K cStatics "thirdparty.any" = some none
  kp : keepIn K (.ref C) = true
section
variable {P : Program} {w : World} {A : Around} {E : Value → Shared → Prop} {h : Heap} {g : Array GenState} {d : Drawn} {t : Nat} {os : OsState} {K : Frag} {C x : Addr}
/-- super().__init__ as it was bound, called: the args are laid anew -/
theorem bound_call (T : XCls K C) (X : K.In h) {u t0 : Addr} {dv : Option Addr} {rest : List Value} {Q : Value → Shared → Prop}
    (hu : h.get? u = some (kxs_mw "ValueError.__init__" x)) (hx : h.get? x = some (xRec C dv t0)) (hz : rest.length ≤ sizeLine)
    (hq : ∀ h' t1, (∀ b o, b ≠ x → h.get? b = some o → h'.get? b = some o) → h.get? t1 = none → t1 ≠ x → h'.get? x = some (xRec C dv t1) → h'.get? t1 = some (xTup rest) → Q .none ⟨h', g, d, t, os⟩) :
    wpAny (model P w) A (call (.ref u) rest) Q E ⟨h, g, d, t, os⟩ := by
  obtain ⟨nm, q, N, bs, bm, sn, sub, ab, col, dd, k0, k1, k2, k3, k5, hC, hbm⟩ := T.cls
  refine wpAny_call (codeAny_of_tree ?_)
  show wpAny _ A.in1 (callAny (.ref u) ⟨rest, []⟩) _ _ _
  simp only [callAny]
  refine wpAny_bind (wpAny_load hu ?_)
  simp only [kxs_mw, show (Value.type "method-wrapper" == Value.type "method" || Value.type "method-wrapper" == Value.type "builtin_function_or_method" || Value.type "method-wrapper" == Value.type "method-wrapper") = true by decide, if_true]
  refine KFB.if_so (by decide) ?_
  refine wpAny_bind (check_bound_init PySem.F.excBase_ValueError.toExcCallFacts (X _ _ hC) hx rfl ?_)
  refine wpAny_bind (wpAny_pure (wpAny_pure ?_))
  refine ⟨plainId_quiet PySem.F.excBase_ValueError.init.plain _, codeAny_builtin PySem.F.excBase_ValueError.initEntry ?_⟩
  refine exc_init_tree (cls := .ref C) (t0 := t0) (dv := dv) (c2 := .none) (c3 := .none) (b4 := .bool false) hx hz fun h' k e1 e2 => ?_
  refine hq h' h.objs.size k (Heap.get?_none_of_le (Nat.le_refl _)) (fun z => ?_) e1 e2
  rw [← z] at hx
  exact absurd (Heap.lt_size hx) (Nat.lt_irrefl _)
end
end Sw
namespace Sw
open PySem PySem.Spec PyProof.Rows PySem.W PySem.Calls
/-- the body that super().__init__(msg); self.fld = prm makes -/
abbrev initBody (msg fld prm : Str) (j : Nat) (p0 p1 p2 p3 p4 p5 p6 p7 p8 p9 : Pos) : List Stmt :=
  [.Expr (.Call (.Attribute (.Call (.Name "super" p0) [] [] p1) "__init__" p2) [.Constant (.str msg) j p3] [] p4) p5,
   .Assign [.Attribute (.Name "self" p6) fld p7] (.Name prm p8) p9]
theorem call_base {o : Expr} {name : Str} {apos pos : Pos} {e : Expr} {env : Env} (hl : (apos.endLine == pos.line) = true) (hs : starEach [e] env = [(false, eval e env)]) :
    eval (.Call (.Attribute o name apos) [e] [] pos) env = (do
      let ov ← attributeBase o name env (eval o env)
      standAt apos.atName
      let (f, first) ← holding [ov] (getMethod ov name (do return (← importBound o env).getD true))
      callWith pos f first (backTo pos (starEach [e] env)) []) := by
  have e2 : methodCallPos true o env apos pos = pure pos := by
    unfold methodCallPos
    rw [hl]
    rfl
  show (do
    let ov ← attributeBase o name env (eval o env)
    standAt apos.atName
    methodCall o name apos pos env ov 1 (backTo pos (starEach [e] env)) (backToKw pos (keywordEach [] env))) = _
  unfold methodCall
  rw [hs]
  show (do
    let ov ← attributeBase o name env (eval o env)
    standAt apos.atName
    let (f, first) ← holding [ov] (calleeOf true o env ov name)
    let callPos ← methodCallPos true o env apos pos
    callWith callPos f first (backTo pos [(false, eval e env)]) []) = _
  rw [e2]
  simp only [pure_bind]
  rfl
abbrev initScope (prm : Str) : Scope := { kind := .function, names := [(PySem.Str.ofString "self", .local), (prm, .local), (PySem.Str.ofString "__class__", .free), (PySem.Str.ofString "super", .globalImplicit)], isGenerator := false, isCoroutine := false, more := [] }
/-- what the written part says of the def __init__ of such a class -/
structure XInit (K : Frag) (C fI : Addr) (msg fld prm file : Str) : Prop where
  ex : ∃ (qual : Str) (j : Nat) (p0 p1 p2 p3 p4 p5 p6 p7 p8 p9 : Pos) (params : Arguments) (dV kV doc pm ct oc ccl cl : Value) (an od cdd cld : Option Addr) (osl ccs csl : Array (Option Value)) (cc cda : Addr) (vs : Array Value) (tf : Tok) (ar : Arg),
    K.lookup fI = some ⟨oc, od, .func (ksFn "__init__" qual params (initBody msg fld prm j p0 p1 p2 p3 p4 p5 p6 p7 p8 p9) (initScope prm) dV kV doc pm an (.ref cda) ct cc), osl⟩ ∧
    codeIn K (.ref cda) qual = true ∧ K.lookup cda = some ⟨ccl, cdd, .fields vs, ccs⟩ ∧ vs[2]? = some (.str file tf) ∧ K.lookup cc = some ⟨cl, cld, .cell (some (.ref C)), csl⟩ ∧
    (p2.endLine == p4.line) = true ∧ (params.posonlyargs ++ params.args).head? = some ar ∧ ar.arg = "self" ∧
    (∀ a u : Value, bindArgs (ksFn "__init__" qual params (initBody msg fld prm j p0 p1 p2 p3 p4 p5 p6 p7 p8 p9) (initScope prm) dV kV doc pm an (.ref cda) ct cc) ⟨[a, u], []⟩ = pure [(("self" : Str), a), (prm, u)])
  pn : ¬ prm = "self"
  pc : ¬ prm = "__class__"
  ps : ¬ prm = "super"
  pd : (prm == ("__debug__" : Str)) = false
  su : ks_superIn K C C "__init__" = some (some (.builtin "ValueError.__init__"))
  sub : subIn K (.ref C) (.type "ValueError") = some true
  self : mroIn K C (.ref C) = some true
  nf : findIn K (.ref C) fld = some none
  ty : typeIn K (.ref fI) = some (.type "function")
  fi : findIn K (.ref C) "__init__" = some (some (.ref fI))
section
variable {P : Program} {w : World} {A : Around} {E : Value → Shared → Prop} {h : Heap} {g : Array GenState} {d : Drawn} {t : Nat} {os : OsState} {K : Frag} {C x fI t0 : Addr} {mg mb : Str → Option Value} {u : Value} {msg fld prm file : Str}
theorem init_code (T : XCls K C) (F : XInit K C fI msg fld prm file) (X : K.In h) {R : Result → Shared → Prop}
    (hroom : A.depth < recursionLimit) (hlim : h.NoLimit) (hmg : h.Ns mainGlobals mg) (hmb : h.Ns builtinsNs mb) (hg : mg "super" = none) (hb : mb "super" = some (.type "super"))
    (hfile : ((P.main.file : Str) == file) = true) (htop : (P.main.scope.names.lookup ("super" : Str)).isSome = false)
    (hx : h.get? x = some (xRec C none t0)) (hxK : K.lookup x = none)
    (hq : ∀ h' tk t1 dx, (∀ b o, b ≠ x → h.get? b = some o → h'.get? b = some o) → h.get? t1 = none → t1 ≠ x → h'.get? x = some (xRec C (some dx) t1) → (∃ tm, h'.get? t1 = some (xTup [.str msg tm])) → h.get? dx = none → dx ≠ x → dx ≠ t1 → (∃ o, h'.get? dx = some o) → R (.ok (.ret .none)) ⟨h', g, d, tk, os⟩) :
    codeAny (model P w) A (.call (.ref fI) ⟨[.ref x, u], []⟩) R ⟨h, g, d, t, os⟩ := by
  obtain ⟨nm, q, N, bs, bm, sn, sub, ab, col, dd, k0, k1, k2, k3, k5, hC, hbm⟩ := T.cls
  obtain ⟨qual, j, p0, p1, p2, p3, p4, p5, p6, p7, p8, p9, params, dV, kV, doc, pm, ct, oc, ccl, cl, an, od, cdd, cld, osl, ccs, csl, cc, cda, vs, tf, ar, lk, hcd, hcda, hvs, hcc, hln, har, hself, hbind⟩ := F.ex
  have ne1 : (("__class__" : Str) == "self") = false := by decide
  have ne2 : (("super" : Str) == "self") = false := by decide
  have ne3 : (("super" : Str) == "__class__") = false := by decide
  have nb : ∀ {a b : Str}, ¬ b = a → (a == b) = false := fun h => beq_eq_false_iff_ne.mpr fun z => h z.symm
  have hsl : (initScope prm).names.lookup ("self" : Str) = some .local := by
    show List.lookup ("self" : Str) ((("self" : Str), NameKind.local) :: _) = _
    rw [List.lookup_cons_self]
  have hpl : (initScope prm).names.lookup prm = some .local := by
    show List.lookup prm ((("self" : Str), NameKind.local) :: (prm, NameKind.local) :: _) = _
    rw [List.lookup_cons, beq_eq_false_iff_ne.mpr F.pn, List.lookup_cons_self]
  have hcls : (initScope prm).names.lookup ("__class__" : Str) = some .free := by
    show List.lookup ("__class__" : Str) ((("self" : Str), NameKind.local) :: (prm, NameKind.local) :: (("__class__" : Str), NameKind.free) :: _) = _
    rw [List.lookup_cons, ne1, List.lookup_cons, nb F.pc, List.lookup_cons_self]
  have hsup : (initScope prm).names.lookup ("super" : Str) = some .globalImplicit := by
    show List.lookup ("super" : Str) ((("self" : Str), NameKind.local) :: (prm, NameKind.local) :: (("__class__" : Str), NameKind.free) :: (("super" : Str), NameKind.globalImplicit) :: _) = _
    rw [List.lookup_cons, ne2, List.lookup_cons, nb F.ps, List.lookup_cons, ne3, List.lookup_cons_self]
  have hncell : ∀ x ∈ (initScope prm).names, x.2 ≠ .cell := fun x hx => by
    simp at hx
    rcases hx with rfl | rfl | rfl | rfl <;> (intro z; cases z)
  have hk : (initScope prm).kind = .function := rfl
  have hcl : clsIn K C = some { name := nm, bases := bs, mro := .ref C :: bm, ns := N, qualname := q, hasDict := true, slotNames := sn, subclasses := sub, abstract := ab, collection := col, hasDel := false } := by unfold clsIn; rw [hC] <;> rfl
  have hCd : ∃ cd, h.get? C = some (excClassObj nm q C N bs bm true sn sub ab col dd k0 k1 k2 k3 k5 "ValueError.__new__") ∧ (excClassObj nm q C N bs bm true sn sub ab col dd k0 k1 k2 k3 k5 "ValueError.__new__").data = .cls cd := ⟨_, X _ _ hC, rfl⟩
  obtain ⟨cdC, hC1, hC2⟩ := hCd
  have hloc : ∀ y ∈ [(("self" : Str), Value.ref x), (prm, u)], (initScope prm).names.lookup y.1 = some .local := fun y hy => by
    rcases List.mem_cons.mp hy with rfl | hy
    · exact hsl
    · obtain rfl := List.mem_singleton.mp hy
      exact hpl
  refine ks_codeAny_call_defAt (fd := ksFn "__init__" qual params (initBody msg fld prm j p0 p1 p2 p3 p4 p5 p6 p7 p8 p9) (initScope prm) dV kV doc pm an (.ref cda) ct cc) (binds := [(("self" : Str), Value.ref x), (prm, u)]) hroom (X _ _ lk) rfl hlim (codeRec_of X hcd) rfl (.of_eq (hbind _ _)) hncell hloc (fun h1 hns k1 => ?_) rfl rfl hk
  have mp : ([(("self" : Str), Value.ref x), (prm, u)].reverse.lookup prm) = some u := by
    show List.lookup prm [(prm, u), (("self" : Str), Value.ref x)] = some u
    rw [List.lookup_cons_self]
  have ms : ([(("self" : Str), Value.ref x), (prm, u)].reverse.lookup ("self" : Str)) = some (.ref x) := by
    show List.lookup ("self" : Str) [(prm, u), (("self" : Str), Value.ref x)] = some (.ref x)
    have e : (("self" : Str) == prm) = false := beq_eq_false_iff_ne.mpr fun z => F.pn z.symm
    rw [List.lookup_cons, e, List.lookup_cons_self]
  -- super().__init__(msg)
  refine ks_wpAt_execs_cons (ks_wpAt_Expr_any (ks_wpAt_MethodCall ?_ (call_base hln rfl)))
  refine ks_wpAt_super_base (env := ksEnv qual (initScope prm) h.objs.size fI (.ref cda) cc) (ar := ar) hsup hcls (by decide) rfl (k1 _ _ (X _ _ lk)) rfl har rfl (k1 _ _ (X _ _ hcda)) rfl hvs hfile htop ?_
  refine ks_loadName_global hk hsup (loadGlobal_builtin (env := ksEnv qual (initScope prm) h.objs.size fI (.ref cda) cc) (hmg.keeps k1) hg (hmb.keeps k1) hb ⟨rfl, ?_⟩)
  refine wpAny_loadName_free hk hcls rfl ⟨_, k1 _ _ (X _ _ hcc), rfl⟩ ?_
  rw [hself]
  refine wpAny_loadName_local hk hsl hns ms ?_
  refine ks_wpAny_isType_cls (k1 _ _ hC1) hC2 ⟨rfl, ?_⟩
  have X1 : K.In h1 := X.keeps k1
  refine ks_wpAny_call_super (k1 _ _ hC1) hC2 (k1 _ _ hx) rfl (fun c e => by cases e) (looks_mroIn X1 F.self) (fun h2 eso k2 => ?_)
  have X2 : K.In h2 := X1.keeps k2
  have hx2 := k2 _ _ (k1 _ _ hx)
  have I2 : InstAt h2 x (xRec C none t0) C none := ⟨hx2, rfl, rfl, trivial⟩
  have hm := F.su
  unfold ks_superIn at hm
  rw [hcl] at hm
  refine kxs_getMethod kxs_ValueError eso (looks_opaque X2 T.opq) (l₀ := .ref C :: bm) ?_ rfl X2 hm (I2.type.andThen (looks_subIn X2 F.sub)) (ks_ne X2 I2 hcl) (by decide) ?_
  · exact fun A Q E s k q => wpAny_bind ((looks_clsIn X2 hcl) A _ E s k (wpAny_pure q))
  have k3 : ∀ b o, h2.get? b = some o → (h2.push (kxs_mw "ValueError.__init__" x)).get? b = some o := fun b o e => Heap.get?_push_of_some _ e
  have hu3 : (h2.push (kxs_mw "ValueError.__init__" x)).get? h2.objs.size = some (kxs_mw "ValueError.__init__" x) := Heap.get?_push_at rfl rfl
  refine kxs_callWith (i := "ValueError.__init__") (x := x) rfl (evalArgs_plain ?_)
  show wpAny _ _ (spliced ((false, eval (.Constant (.str msg) j p3) _) :: backTo p4 (starEach [] _))) _ _ _
  refine Calls.spliced_cons (Calls.Constant_str ?_)
  refine Calls.spliced_nil ⟨hu3, ?_⟩
  show wpAny _ _ (call (.ref h2.objs.size) [.str msg _]) _ _ _
  refine bound_call T (X2.keeps k3) hu3 (k3 _ _ hx2) (by show 1 ≤ sizeLine; rw [sizeLine_eq]; omega) fun h4 t1 k4 nt1 nx e1 e2 => ?_
  -- self.fld = prm
  have kAll : ∀ b o, b ≠ x → h.get? b = some o → h4.get? b = some o := fun b o hb e => k4 b o hb (k3 _ _ (k2 _ _ (k1 _ _ e)))
  have hLx : h.objs.size ≠ x := fun z => by
    rw [← z] at hx
    exact absurd (Heap.lt_size hx) (Nat.lt_irrefl _)
  have hns4 : h4.Ns h.objs.size fun z => List.lookup z [(("self" : Str), Value.ref x), (prm, u)].reverse := by
    obtain ⟨o, es, ep, ho, r⟩ := hns
    exact ⟨o, es, ep, k4 _ _ hLx (k3 _ _ (k2 _ _ ho)), r⟩
  have X4 : K.In h4 := fun b o e => kAll b o (fun z => by
    rw [z, hxK] at e
    cases e) (X _ _ e)
  refine ks_wpAt_execs_cons (wpAt_of_wpAny (plainObj_wpAny_Assign_Attribute ?_))
  refine wpAny_Name (wpAny_loadName_local hk hpl hns4 mp ?_) F.pd
  refine wpAny_Name (wpAny_loadName_local hk hsl hns4 ms ?_) (by decide)
  refine set_plain X4 (ox := xRec C none t1) (od := none) ⟨e1, rfl, rfl, trivial⟩ T.sa ?_
  refine PySem.HandSPX.exc_osa X4 e1 hcl (show PySem.HandSPX.refsVE (.ref C :: bm) = true from hbm) rfl F.nf (fun h5 tk' dx k5 dn dne hx5 hn5 => ?_)
  refine wpAt_of_wpAny (wpAny_pure ?_)
  obtain ⟨oD, es, ep, hoD, hdD, _⟩ := hn5
  have e2' := k5 _ _ nx e2
  refine hq h5 tk' t1 dx (fun b o hb e => k5 b o hb (kAll b o hb e)) ?_ nx hx5 ⟨_, e2'⟩ ?_ dne (fun z => ?_) ⟨oD, hoD⟩
  rotate_left
  · cases e : h.get? dx with
    | none => rfl
    | some o =>
      have hb : dx ≠ x := dne
      exact absurd (Heap.lt_size (kAll _ _ hb e)) (Nat.not_lt.mpr dn)
  · rw [z, e2'] at hoD
    obtain rfl := Option.some.inj hoD
    cases hdD
  cases e : h.get? t1 with
  | none => rfl
  | some o =>
    rw [k3 _ _ (k2 _ _ (k1 _ _ e))] at nt1
    cases nt1
end
end Sw
namespace Sw
open PySem PySem.Spec PyProof.Rows L2
/-- an exception of the class at C that was made, its args at t -/
def xV (C t : Addr) (d : Option Addr) (a : Addr) : HO := .ext fun h => h.get? a = some (xRec C d t)
theorem xV_ok {P : Program} {w : World} {H : Hp} {h : Heap} {C t a : Addr} {d : Option Addr} (e : h.get? a = some (xRec C d t)) : ObjOk P w H h a (xV C t d a) :=
  ⟨e, ⟨_, e⟩, fun _ _ z k => k _ z⟩
theorem xV_at {P : Program} {w : World} {H : Hp} {h : Heap} {C t a : Addr} {d : Option Addr} (ok : HOk P w H h) (e : H a = some (xV C t d a)) : h.get? a = some (xRec C d t) := by
  have x : ObjOk P w H h a (.ext fun h => h.get? a = some (xRec C d t)) := ok a _ e
  exact x.1
section
variable {X : Cx} {pins : List (Addr × Obj)} {σ : L2.St} {H : Hp} {s : Shared}
/-- two new objects laid -/
theorem laid2 {h' : Heap} {a b : Addr} {o u : HO} {t' : Nat} (I : Inv X pins σ H s) (k : ∀ c v, s.heap.get? c = some v → h'.get? c = some v) (ha : s.heap.get? a = none) (hb : s.heap.get? b = none) (ne : b ≠ a)
    (new : ObjOk X.prog X.w (upd (upd H b u) a o) h' a o) (new2 : ObjOk X.prog X.w (upd (upd H b u) a o) h' b u) : Inv X pins σ (upd (upd H b u) a o) { s with heap := h', toks := t' } := by
  have na : H a = none := I.hok.gone ha
  have nb : H b = none := I.hok.gone hb
  have up : ∀ {c : Addr} {v : HO}, H c = some v → (upd (upd H b u) a o) c = some v := fun {c v} e => by
    rw [upd_ne (ne_of_none e na), upd_ne (ne_of_none e nb)]
    exact e
  have old : ∀ {c : Addr} {v : Obj}, s.heap.get? c = some v → c ≠ a ∧ c ≠ b := fun {c v} e => by
    constructor
    · intro z
      rw [z, ha] at e
      cases e
    · intro z
      rw [z, hb] at e
      cases e
  refine I.un ⟨fun c v e _ _ _ => k c v e, fun c v e _ _ _ => ⟨v.slots, k c v e⟩, fun c v e n _ => ?_, fun c v e _ => ⟨v, k c v e⟩, fun c xs e => up e, fun c v xs e => up e, fun c ps e => ⟨#[], by rw [up e]; simp⟩⟩ fun c v e => ?_
  · rw [upd_ne (old e).1, upd_ne (old e).2]
    exact n
  · by_cases ca : c = a
    · subst ca
      rw [upd_same] at e
      cases e
      exact new
    · by_cases cb : c = b
      · subst cb
        rw [upd_ne ca, upd_same] at e
        cases e
        exact new2
      · rw [upd_ne ca, upd_ne cb] at e
        exact (I.hok c v e).stay (fun d q _ z => k d q z) (fun d z => up z) fun d xs z => up z
/-- three -/
theorem laid3 {h' : Heap} {a b c : Addr} {o u v : HO} {t' : Nat} (I : Inv X pins σ H s) (k : ∀ x y, s.heap.get? x = some y → h'.get? x = some y) (ha : s.heap.get? a = none) (hb : s.heap.get? b = none) (hc : s.heap.get? c = none) (ne : b ≠ a) (ca : c ≠ a) (cb : c ≠ b)
    (new : ObjOk X.prog X.w (upd (upd (upd H c v) b u) a o) h' a o) (new2 : ObjOk X.prog X.w (upd (upd (upd H c v) b u) a o) h' b u) (new3 : ObjOk X.prog X.w (upd (upd (upd H c v) b u) a o) h' c v) : Inv X pins σ (upd (upd (upd H c v) b u) a o) { s with heap := h', toks := t' } := by
  have na : H a = none := I.hok.gone ha
  have nb : H b = none := I.hok.gone hb
  have nc : H c = none := I.hok.gone hc
  have up : ∀ {x : Addr} {y : HO}, H x = some y → (upd (upd (upd H c v) b u) a o) x = some y := fun {x y} e => by
    rw [upd_ne (ne_of_none e na), upd_ne (ne_of_none e nb), upd_ne (ne_of_none e nc)]
    exact e
  have old : ∀ {x : Addr} {y : Obj}, s.heap.get? x = some y → x ≠ a ∧ x ≠ b ∧ x ≠ c := fun {x y} e => by
    refine ⟨?_, ?_, ?_⟩
    · intro z
      rw [z, ha] at e
      cases e
    · intro z
      rw [z, hb] at e
      cases e
    · intro z
      rw [z, hc] at e
      cases e
  refine I.un ⟨fun x y e _ _ _ => k x y e, fun x y e _ _ _ => ⟨y.slots, k x y e⟩, fun x y e n _ => ?_, fun x y e _ => ⟨y, k x y e⟩, fun x xs e => up e, fun x y xs e => up e, fun x ps e => ⟨#[], by rw [up e]; simp⟩⟩ fun x y e => ?_
  · obtain ⟨z1, z2, z3⟩ := old e
    rw [upd_ne z1, upd_ne z2, upd_ne z3]
    exact n
  · by_cases xa : x = a
    · subst xa
      rw [upd_same] at e
      cases e
      exact new
    · by_cases xb : x = b
      · subst xb
        rw [upd_ne xa, upd_same] at e
        cases e
        exact new2
      · by_cases xc : x = c
        · subst xc
          rw [upd_ne xa, upd_ne xb, upd_same] at e
          cases e
          exact new3
        · rw [upd_ne xa, upd_ne xb, upd_ne xc] at e
          exact (I.hok x y e).stay (fun d q _ z => k d q z) (fun d z => up z) fun d xs z => up z
variable {e : Expr} {te : TE} {x : Str} {p pos : Pos} {C fI : Addr} {msg fld prm file : Str}
theorem boot_super : bootBuiltins "super" = some (.type "super") := by first | boot_by_name | rfl | kernel_rfl
/-- C(e), C an own class of errors whose __init__ says super().__init__(msg); self.fld = prm -/
theorem pe_xmk (T : XCls X.K C) (F : XInit X.K C fI msg fld prm file) (hr : Room 1 X.A) (hg : Gl X x) (hm : X.mg x = some (.ref C)) (hs : X.mg "super" = none)
    (hfile : ((X.prog.main.file : Str) == file) = true) (htop : (X.prog.main.scope.names.lookup ("super" : Str)).isSome = false) (he : PE X e te)
    (hst : starEach [e] X.env = (false, eval e X.env) :: starEach [] X.env := by rfl) (hdb : (x == ("__debug__" : Str)) = false := by decide) :
    PE X (.Call (.Name x p) [e] [] pos) (fun σ H Q => te σ H fun _ H1 => ∀ a t1 dx, H1 a = none → H1 t1 = none → H1 dx = none → t1 ≠ a → dx ≠ a → dx ≠ t1 → Q (.ref a) (upd (upd (upd H1 dx (.own a)) t1 (.tup [.str msg])) a (xV C t1 (some dx) a))) := by
  refine ⟨fun pins s σ H Q I h => ?_⟩
  obtain ⟨nm, q, N, bs, bm, sn, sub, ab, col, dd, k0, k1, k2, k3, k5, hC, hbm⟩ := T.cls
  refine wpAny_Call_Name_kw (ld_glob I hg hm ?_ hdb)
  refine PySem.W.callWith_K (h₀ := X.base) I.ok.mod.kin T.kp ?_ hst (by rfl)
  rw [hst]
  show wpAny _ _ (spliced ((false, eval e X.env) :: backTo pos (starEach [] X.env))) _ _ s
  refine Calls.spliced_cons (thn (he.run pins s σ H _ I h) fun u s1 ⟨v, H1, I1, r1, q1⟩ => ?_)
  refine Calls.spliced_nil ⟨I1.kIn, ?_⟩
  show wpAny _ _ (call (.ref C) [u]) _ _ _
  obtain ⟨hp, g, dr, tk, os⟩ := s1
  have kk : ∀ b o, hp.get? b = some o → ((hp.push (PySem.W.kdv_tup [u])).push (PySem.HandSPX.excO C hp.objs.size)).get? b = some o := fun b o e => Heap.get?_push_of_some _ (Heap.get?_push_of_some _ e)
  have hget : ((hp.push (PySem.W.kdv_tup [u])).push (PySem.HandSPX.excO C hp.objs.size)).get? (hp.objs.size + 1) = some (xRec C none hp.objs.size) := by
    show _ = some (PySem.HandSPX.excO C hp.objs.size)
    heap_get
  have na : hp.get? (hp.objs.size + 1) = none := Heap.get?_none_of_le (Nat.le_succ _)
  have kin := I1.kIn
  obtain ⟨mb, hb1, hb2⟩ := I1.mod.blt
  refine wpAny_call (PySem.HandSPX.call_own PySem.F.excBase_ValueError (fun Y => PySem.HandSPX.refsVE_contains Y bm hbm) (kin _ _ hC) (PySem.W.looks_findIn kin F.fi) (fun self => PySem.W.bind_fn kin self F.ty) (by show 1 ≤ sizeLine; rw [sizeLine_eq]; omega) ?_)
  refine init_code T F (kin.keeps kk) (mg := X.mg) (mb := mb) (hr.make C [u] []).depth (I1.nolimit.keeps kk) ((I1.mod.glob.keeps I1.bk).keeps kk) ((hb1.keeps I1.bk).keeps kk) hs ((hb2 _ (by decide)).trans boot_super) hfile htop hget ?_ fun h' tk' t1 dx k4 nt1 ne e1 e2 nd da dt eo => ?_
  · cases z : X.K.lookup (hp.objs.size + 1) with
    | none => rfl
    | some o =>
      rw [kin _ _ z] at na
      cases na
  · have k5 : ∀ b o, hp.get? b = some o → h'.get? b = some o := fun b o e => k4 b o (fun z => by
      rw [z, na] at e
      cases e) (kk b o e)
    have nt0 : hp.get? t1 = none := by
      cases z : hp.get? t1 with
      | none => rfl
      | some o =>
        rw [kk _ _ z] at nt1
        cases nt1
    have nd0 : hp.get? dx = none := by
      cases z : hp.get? dx with
      | none => rfl
      | some o =>
        rw [kk _ _ z] at nd
        cases nd
    obtain ⟨tm, e3⟩ := e2
    refine ⟨rfl, ⟨.ref (hp.objs.size + 1), _, laid3 (t' := tk') (o := xV C t1 (some dx) (hp.objs.size + 1)) (u := .tup [.str msg]) (v := .own (hp.objs.size + 1)) I1 k5 na nt0 nd0 ne da dt (xV_ok e1) ⟨?_, [.str msg tm], .cons ⟨tm, rfl⟩ .nil, ⟨_, e3, rfl, _, rfl⟩⟩ eo, rfl, q1 _ t1 dx (I1.hok.gone na) (I1.hok.gone nt0) (I1.hok.gone nd0) ne da dt⟩⟩
    show 1 ≤ sizeLine
    rw [sizeLine_eq]
    omega
/-- C(), C an own class of errors without __init__ -/
theorem pe_xmk0 {k : Nat} {bmB : List Value} {B newId initId : String} (F : ExcBaseFacts B newId initId bmB) (q : PySem.W.excIn X.K C bmB newId = true) (kC : PySem.W.keepIn X.K (.ref C) = true) (hg : Gl X x) (hm : X.mg x = some (.ref C))
    (hdb : (x == ("__debug__" : Str)) = false := by decide) :
    PE X (.Call (.Name x p) [] [] pos) (fun _ H Q => ∀ a t1, H a = none → H t1 = none → t1 ≠ a → Q (.ref a) (upd (upd H t1 (.tup [])) a (xV C t1 none a))) := by
  refine ⟨fun pins s σ H Q I h => ?_⟩
  refine wpAny_Call_Name_kw (ld_glob I hg hm ?_ hdb)
  refine PySem.W.callWith_K0 (first := []) I.kIn kC ?_
  show wpAny _ _ (call (.ref C) []) _ _ _
  obtain ⟨bm, N, nm, qn, bs, hdct, sn, sub, ab, col, dd, k0, k1, k2, k3, k5, mN, hC, hN, hni, T⟩ := exc_obj I.kIn q
  refine wpAny_call_exc_subT F T hC hN hni (fun h' a hm => ?_) (by show 0 ≤ sizeLine; omega)
  obtain ⟨t1, e1, nt, e2⟩ := hm.there
  have ne : t1 ≠ a := fun z => by
    rw [z, e1] at e2
    have e3 := Option.some.inj e2
    cases e3
  exact ⟨.ref a, _, laid2 (t' := s.toks) (o := xV C t1 none a) (u := .tup []) I hm.keeps hm.new nt ne (xV_ok e1) ⟨Nat.zero_le _, [], .nil, ⟨_, e2, rfl, _, rfl⟩⟩, rfl, h a t1 (I.hok.gone hm.new) (I.hok.gone nt) ne⟩
end
end Sw
namespace Sw
open PySem PySem.Spec PyProof.Rows PySem.W Builtin Builtin.BaseException
/-- how repr calls a class -/
def exN (nm : Str) : Str := ((nm.toString.cutAt '.').getLastD "")
/-- a class of errors, by what repr and isinstance ask -/
structure XGood (K : Frag) (C : Addr) (n : Str) : Prop where
  nm : ∃ cd, clsIn K C = some cd ∧ exN cd.name = n
  len : n.length ≤ 60
  rp : findIn K (.ref C) "__repr__" = some (some (.builtin "BaseException.__repr__"))
  sub : subIn K (.ref C) (.type "BaseException") = some true
  ga : findIn K (.ref C) "__getattribute__" = some (some (.builtin "BaseException.__getattribute__"))
  gt : findIn K (.ref C) "__getattr__" = some none
  ca : findIn K (.ref C) "__class__" = some (some (.builtin "object.__class__"))
  cn : specialIn K (.builtin "object.__class__") "__get__" = some (some (.builtin "getset_descriptor.__get__"))
  ct : takesIn K (.builtin "object.__class__") = some true
  mo : mroIn K C (.type "object") = some true
  ni : subIn K (.ref C) (.type "int") = some false
  nb : subIn K (.ref C) (.type "bool") = some false
  nt : subIn K (.ref C) (.type "tuple") = some false
  ns : subIn K (.ref C) (.type "str") = some false
  nl : subIn K (.ref C) (.type "list") = some false
  nd : subIn K (.ref C) (.type "dict") = some false
/-- the text of such an error, by its args (none or one text) -/
def xText (n : Str) : Option Str → Str
  | none => n ++ "()"
  | some m => n ++ "(" ++ reprText m ++ ")"
def xArgs : Option Str → List L2.V
  | none => []
  | some m => [.str m]
section
variable {prog : Program} {w : World} {A : Around} {E : Value → Shared → Prop} {s : Shared} {K : Frag} {C e t0 : Addr} {n : Str}
theorem typeNameWhole_C {M : Model} (G : XGood K C n) (x : ExcC K C e t0 s.heap) {Q : String → Shared → Prop} (h : ∀ nm : String, (((nm.cutAt '.').getLastD "" : String) : Str) = n → Q nm s) : wpAny M A (typeNameOfWhole (.ref e)) Q E s := by
  obtain ⟨cd, hc, hn⟩ := G.nm
  unfold typeNameOfWhole shownTypeOf
  refine wpAny_bind (wpAny_bind ((x.LT).here ?_))
  simp only [show (Value.ref C == Value.type "builtin_function_or_method") = false from rfl, Bool.false_eq_true, if_false]
  refine wpAny_pure ?_
  unfold typeNameWhole
  refine wpAny_bind ((looks_clsIn x.1 hc).here (wpAny_pure ?_))
  exact h _ hn
theorem bexcRepr_C (G : XGood K C n) (x : ExcC K C e t0 s.heap) (m : Option Str) {its : List Value} (hi : L2.Vals (xArgs m) its) (ht : s.heap.TupAt t0 its) (b : Nat) (hsz : b + (xText n m).length ≤ sizeLine)
    (g : List Code) (hg : A.guards = some g) (hcl : Clear g t0) (hu : A.units + 2 < cLine) {Q : Fin → Shared → Prop}
    (h : ∀ h' u tk, (∀ b o, s.heap.get? b = some o → h'.get? b = some o) → Q (.done (.ret (.str (xText n m) u))) { s with heap := h', toks := tk }) :
    wpAny (model prog w) A (Builtin.bexcReprAt b ⟨[.ref e], []⟩) Q E s := by
  unfold Builtin.bexcReprAt
  cases m with
  | some m =>
    cases hi with
    | cons r1 r2 =>
      cases r2
      obtain ⟨tk, rfl⟩ := r1
      have eP : (Str.ofString "(").length = 1 := by rw [PySem.ofString_length]; rfl
      have e1 : b + (n ++ Str.ofString "(" ++ reprText m ++ Str.ofString ")").length ≤ sizeLine := hsz
      have hsz2 : (n ++ Str.ofString "(" ++ reprText m ++ Str.ofString ")").length ≤ sizeLine := Nat.le_trans (Nat.le_add_left _ b) e1
      rw [strLen_append, strLen_append, strLen_append, eP] at e1
      have hsz1 : (reprText m).length ≤ sizeLine := by omega
      have hpile : b + (n.length + 1) ≤ sizeLine := by omega
      refine wpAny_bind (wpAny_pure ?_)
      refine wpAny_bind (typeNameWhole_C G x fun nm en => ?_)
      refine wpAny_bind (bexcArgs_C x ht ?_)
      show wpAny _ _ (rule "BaseException.__repr__.one-argument" >>= _) _ _ _
      refine wpAny_bind (wpAny_rule ?_)
      rw [en]
      refine wpAny_bind ?_
      rw [pyReprUnder_leaf (v := .str m tk) hpile (by intro a; nofun)]
      refine wpAny_pyRepr_str ?_ hsz1
      unfold retStr
      refine wpAny_bind (wpAny_mkStr (wpAny_pure ?_) hsz2)
      exact h s.heap _ _ fun _ _ e => e
  | none =>
    cases hi
    obtain ⟨ot, kk, hto, hc, hd⟩ := id ht
    have e1 : b + (n ++ Str.ofString "()").length ≤ sizeLine := hsz
    have e2 : (n ++ Str.ofString "()").length ≤ sizeLine := Nat.le_trans (Nat.le_add_left _ b) e1
    rw [strLen_append] at e1
    have e3 : (Str.ofString "()").length = 2 := by rw [PySem.ofString_length]; rfl
    have et : tupleText [] = ("()" : Str) := by decide +kernel
    refine wpAny_bind (wpAny_pure ?_)
    refine wpAny_bind (typeNameWhole_C G x fun nm en => ?_)
    refine wpAny_bind (bexcArgs_C x ht ?_)
    show wpAny _ _ (pyReprUnder (b + _) (.ref t0) >>= _) _ _ _
    rw [en]
    refine wpAny_bind ?_
    have hK := ReprK.tuple (prog := prog) (w := w) (as := []) (h₀ := s.heap) (d := 0) (a := t0) (o := ot) (items := #[]) (n := kk) (ts := []) hto hc hd (by simp) .nil
    refine hK (b + n.length) (by rw [et]; show b + n.length + (Str.ofString "()").length ≤ sizeLine; omega) A g E s _ hg (fun b hb => ?_) (by omega) (fun _ _ e => e) fun h' tk hk => ?_
    · obtain rfl := List.mem_singleton.mp hb
      exact hcl
    · rw [et]
      unfold retStr
      refine wpAny_bind (wpAny_mkStr (wpAny_pure ?_) e2)
      exact h h' _ _ hk
theorem reprUnder_C (G : XGood K C n) (x : ExcC K C e t0 s.heap) (m : Option Str) {its : List Value} (hi : L2.Vals (xArgs m) its) (ht : s.heap.TupAt t0 its) (b : Nat) (hsz : b + (xText n m).length ≤ sizeLine)
    (g : List Code) (hg : A.guards = some g) (hcl : Clear g t0) (hu : A.units + 3 < cLine) {Q : Value → Shared → Prop}
    (h : ∀ h' u tk, (∀ b o, s.heap.get? b = some o → h'.get? b = some o) → Q (.str (xText n m) u) { s with heap := h', toks := tk }) :
    wpAny (model prog w) A (pyReprObjUnder b (.ref e)) Q E s := by
  unfold pyReprObjUnder pyReprObjBy
  have hf : Looks (model prog w) s.heap (typeLookup (.ref C) "__repr__") (some (.builtin "BaseException.__repr__")) := looks_findIn x.1 G.rp
  have hb : bindSpecial (.builtin "BaseException.__repr__") (.ref e) = pure (.builtin "BaseException.__repr__", [.ref e]) := PySem.F.excStr_Exception.repr.bind _
  have hT : Looks (model prog w) s.heap (typeOf (.ref e)) (.ref C) := x.LT
  refine wpAny_bind (wpAny_cRoomFor (by omega) ?_)
  unfold specialOf
  refine wpAny_bind (wpAny_bind (hT.here (hf.here ?_)))
  have fin : wpAny (model prog w) A (call (.builtin "BaseException.__repr__.under") [.ref e, rawInt b]) (fun v s' => (∃ x u, v = .str x u) ∧ Q v s') E s := by
    refine wpAny_call (codeAny_call_builtin PySem.F.plain_bexc_repr_under PySem.F.entry_bexc_repr_under ?_)
    rw [PySem.F.check_bexc_repr_under]
    refine wpAny_pure ?_
    show wpAny _ _ (reprTwin "BaseException.__repr__" Builtin.bexcReprAt ⟨[.ref e, rawInt b], []⟩) _ _ _
    rw [reprTwin_eq]
    refine wpAny_bind ?_
    refine @PySem.W.check_slot (model prog w) _ _ s "BaseException.__repr__" "BaseException" "__repr__" (.ref e) [] [] _ (by decide +kernel) (by decide +kernel) (x.LI G.sub) (PySem.F.args_bexc_repr _) ?_
    refine bexcRepr_C (A := A.in1) G x m hi ht b hsz g hg hcl (by show A.units + 1 + 2 < cLine; omega) fun h' u tk hk => ?_
    exact ⟨⟨_, _, rfl⟩, h h' u tk hk⟩
  simp only [Option.isNone_some, Bool.false_eq_true, if_false]
  refine wpAny_bind ?_
  unfold callSpecialIfBoundBy? bindSpecialIfBound? specialOf
  refine wpAny_holding (wpAny_bind (wpAny_bind (wpAny_bind (hT.here (hf.here ?_)))))
  simp only [hb]
  have fin2 : wpAny (model prog w) A (call (.builtin "BaseException.__repr__.under") [.ref e, rawInt b] >>= fun v => pure (some v)) (fun r s' => wpAny (model prog w) A (match r with
      | some r => do if ← isInstance r (.type "str") then pure r else raiseError "TypeError" s!"__repr__ returned non-string (type {← typeNameOf r})"
      | none => unsupported "repr:special-get-raises") Q E s') E s := by
    refine wpAny_bind (wpAny_mono fin (fun v s' hv => ?_) fun _ _ z => z)
    obtain ⟨⟨y, u, rfl⟩, hq⟩ := hv
    exact wpAny_pure (wpAny_bind (wpAny_isInstance (T := "str") (b := true) rfl isSubtype_str_str (wpAny_pure hq)))
  refine wpAny_bind (wpAny_askSetting (wpAny_ite ?_))
  split
  · exact wpAny_bind (wpAny_pure (wpAny_pure fin2))
  · exact wpAny_tryCatch (wpAny_bind (wpAny_pure (wpAny_pure fin2)))
end
end Sw
namespace Sw
open PySem PySem.Spec PyProof.Rows L2
/-- plain data, and errors of the package -/
inductive D where
  | non | bl (b : Bool) | int (i : Int) | str (x : Str) | tup (xs : List D) | lst (xs : List D) | dct | dx | exc (C : Addr) (n : Str) (m : Option Str)
mutual
/-- the text that repr gives -/
def shown : D → Str
  | .non => "None"
  | .bl b => if b then "True" else "False"
  | .int i => toString i
  | .str x => reprText x
  | .tup xs => tupleText (shownAll xs)
  | .lst xs => listText (shownAll xs)
  | .dct => "{}"
  | .dx => "{}"
  | .exc _ n m => xText n m
def shownAll : List D → List Str
  | [] => []
  | d :: r => shown d :: shownAll r
end
mutual
/-- no shorter than the text -/
def wt : D → Nat
  | .non => 4
  | .bl _ => 5
  | .int i => (Str.ofString (toString i)).length
  | .str x => (reprText x).length
  | .tup xs => wtAll xs + 3
  | .lst xs => wtAll xs + 3
  | .dct => 2
  | .dx => 2
  | .exc _ n m => (xText n m).length
def wtAll : List D → Nat
  | [] => 0
  | d :: r => wt d + 2 + wtAll r
end
mutual
def dep : D → Nat
  | .tup xs => depAll xs + 1
  | .lst xs => depAll xs + 1
  | .dct => 1
  | .exc _ _ _ => 3
  | _ => 0
def depAll : List D → Nat
  | [] => 0
  | d :: r => max (dep d) (depAll r)
end
mutual
/-- its ints can be written -/
def small : D → Prop
  | .int i => i.natAbs.log2 < 1920
  | .tup xs => smallAll xs
  | .lst xs => smallAll xs
  | .dx => False
  | _ => True
def smallAll : List D → Prop
  | [] => True
  | d :: r => small d ∧ smallAll r
end
mutual
theorem shown_wt : ∀ d : D, (shown d).length ≤ wt d
  | .non => by simp only [wt]; decide +kernel
  | .bl b => by cases b <;> (simp only [wt]; decide +kernel)
  | .int i => by simp only [shown, wt]; exact Nat.le_refl _
  | .str x => by simp only [shown, wt]; exact Nat.le_refl _
  | .tup xs => by
    have h := tupleText_len_le (shownAll xs)
    have h2 := shownAll_wt xs
    simp only [shown, wt]
    omega
  | .lst xs => by
    have h := listText_len_le (shownAll xs)
    have h2 := shownAll_wt xs
    simp only [shown, wt]
    omega
  | .dct => by simp only [wt]; decide +kernel
  | .dx => by simp only [wt]; decide +kernel
  | .exc _ n m => by simp only [shown, wt]; exact Nat.le_refl _
theorem shownAll_wt : ∀ xs : List D, ((shownAll xs).map (·.length)).sum + 2 * (shownAll xs).length ≤ wtAll xs
  | [] => by simp [shownAll, wtAll]
  | d :: r => by
    have h := shown_wt d
    have h2 := shownAll_wt r
    simp only [shownAll, wtAll, List.map_cons, List.sum_cons, List.length_cons]
    omega
end
theorem wt_mem : ∀ {xs : List D} {d : D}, d ∈ xs → wt d + 2 ≤ wtAll xs
  | x :: r, d, h => by
    simp only [wtAll]
    rcases List.mem_cons.mp h with e | e
    · rw [e]; omega
    · have := wt_mem e
      omega
theorem dep_mem : ∀ {xs : List D} {d : D}, d ∈ xs → dep d ≤ depAll xs
  | x :: r, d, h => by
    simp only [depAll]
    rcases List.mem_cons.mp h with e | e
    · rw [e]; exact Nat.le_max_left _ _
    · exact Nat.le_trans (dep_mem e) (Nat.le_max_right _ _)
theorem small_mem : ∀ {xs : List D} {d : D}, smallAll xs → d ∈ xs → small d
  | x :: r, d, s, h => by
    simp only [smallAll] at s
    rcases List.mem_cons.mp h with e | e
    · rw [e]; exact s.1
    · exact small_mem s.2 e
mutual
/-- in H the value v is the data d; as: the addresses of what it is made of -/
def Rep (K : PySem.W.Frag) (H : Hp) : D → V → List Addr → Prop
  | .non, v, as => v = .non ∧ as = []
  | .bl b, v, as => v = .bl b ∧ as = []
  | .int i, v, as => v = .int i ∧ as = []
  | .str x, v, as => v = .str x ∧ as = []
  | .tup ds, v, as => ∃ a xs bs, v = .ref a ∧ H a = some (.tup xs) ∧ RepAll K H ds xs bs ∧ a ∉ bs ∧ as = a :: bs
  | .lst ds, v, as => ∃ a xs bs, v = .ref a ∧ H a = some (.lst xs) ∧ RepAll K H ds xs bs ∧ a ∉ bs ∧ as = a :: bs
  | .dct, v, as => ∃ a, v = .ref a ∧ H a = some (.dK []) ∧ as = [a]
  | .dx, v, as => ∃ a kvs, v = .ref a ∧ H a = some (.dK kvs) ∧ as = [a]
  | .exc C n m, v, as => ∃ a t d, v = .ref a ∧ H a = some (xV C t d a) ∧ H t = some (.tup (xArgs m)) ∧ (∀ dx, d = some dx → H dx = some (.own a)) ∧ XGood K C n ∧ as = a :: t :: d.toList
def RepAll (K : PySem.W.Frag) (H : Hp) : List D → List V → List Addr → Prop
  | [], xs, as => xs = [] ∧ as = []
  | d :: ds, xs, as => ∃ x r bs cs, xs = x :: r ∧ Rep K H d x bs ∧ RepAll K H ds r cs ∧ as = bs ++ cs
end
section
variable {K : PySem.W.Frag} {H H' : Hp}
mutual
theorem Rep.keep : ∀ {d : D} {v : V} {as : List Addr}, Rep K H d v as → (∀ b ∈ as, ∀ o, H b = some o → H' b = some o) → Rep K H' d v as
  | .non, v, as, h, _ => by simpa only [Rep] using h
  | .bl _, v, as, h, _ => by simpa only [Rep] using h
  | .int _, v, as, h, _ => by simpa only [Rep] using h
  | .str _, v, as, h, _ => by simpa only [Rep] using h
  | .tup ds, v, as, h, k => by
    simp only [Rep] at h ⊢
    obtain ⟨a, xs, bs, e, ha, r, na, rfl⟩ := h
    exact ⟨a, xs, bs, e, k a (by simp) _ ha, RepAll.keep r fun b hb => k b (by simp [hb]), na, rfl⟩
  | .lst ds, v, as, h, k => by
    simp only [Rep] at h ⊢
    obtain ⟨a, xs, bs, e, ha, r, na, rfl⟩ := h
    exact ⟨a, xs, bs, e, k a (by simp) _ ha, RepAll.keep r fun b hb => k b (by simp [hb]), na, rfl⟩
  | .dct, v, as, h, k => by
    simp only [Rep] at h ⊢
    obtain ⟨a, e, ha, rfl⟩ := h
    exact ⟨a, e, k a (by simp) _ ha, rfl⟩
  | .dx, v, as, h, k => by
    simp only [Rep] at h ⊢
    obtain ⟨a, kvs, e, ha, rfl⟩ := h
    exact ⟨a, kvs, e, k a (by simp) _ ha, rfl⟩
  | .exc C n m, v, as, h, k => by
    simp only [Rep] at h ⊢
    obtain ⟨a, t, d, e, ha, ht, hd, g, rfl⟩ := h
    exact ⟨a, t, d, e, k a (by simp) _ ha, k t (by simp) _ ht, fun dx z => k dx (by simp [z]) _ (hd dx z), g, rfl⟩
theorem RepAll.keep : ∀ {ds : List D} {xs : List V} {as : List Addr}, RepAll K H ds xs as → (∀ b ∈ as, ∀ o, H b = some o → H' b = some o) → RepAll K H' ds xs as
  | [], xs, as, h, _ => by simpa only [RepAll] using h
  | d :: ds, xs, as, h, k => by
    simp only [RepAll] at h ⊢
    obtain ⟨x, r, bs, cs, e, h1, h2, rfl⟩ := h
    exact ⟨x, r, bs, cs, e, Rep.keep h1 fun b hb => k b (by simp [hb]), RepAll.keep h2 fun b hb => k b (by simp [hb]), rfl⟩
end
mutual
/-- all of it is tracked -/
theorem Rep.tracked : ∀ {d : D} {v : V} {as : List Addr}, Rep K H d v as → ∀ b ∈ as, ∃ o, H b = some o
  | .non, v, as, h, b, hb => by simp only [Rep] at h; rw [h.2] at hb; cases hb
  | .bl _, v, as, h, b, hb => by simp only [Rep] at h; rw [h.2] at hb; cases hb
  | .int _, v, as, h, b, hb => by simp only [Rep] at h; rw [h.2] at hb; cases hb
  | .str _, v, as, h, b, hb => by simp only [Rep] at h; rw [h.2] at hb; cases hb
  | .tup ds, v, as, h, b, hb => by
    simp only [Rep] at h
    obtain ⟨a, xs, bs, e, ha, r, na, rfl⟩ := h
    rcases List.mem_cons.mp hb with z | z
    · exact ⟨_, z ▸ ha⟩
    · exact RepAll.tracked r b z
  | .lst ds, v, as, h, b, hb => by
    simp only [Rep] at h
    obtain ⟨a, xs, bs, e, ha, r, na, rfl⟩ := h
    rcases List.mem_cons.mp hb with z | z
    · exact ⟨_, z ▸ ha⟩
    · exact RepAll.tracked r b z
  | .dct, v, as, h, b, hb => by
    simp only [Rep] at h
    obtain ⟨a, e, ha, rfl⟩ := h
    obtain rfl := List.mem_singleton.mp hb
    exact ⟨_, ha⟩
  | .dx, v, as, h, b, hb => by
    simp only [Rep] at h
    obtain ⟨a, kvs, e, ha, rfl⟩ := h
    obtain rfl := List.mem_singleton.mp hb
    exact ⟨_, ha⟩
  | .exc C n m, v, as, h, b, hb => by
    simp only [Rep] at h
    obtain ⟨a, t, d, e, ha, ht, hd, g, rfl⟩ := h
    rcases List.mem_cons.mp hb with z | z
    · exact ⟨_, z ▸ ha⟩
    · rcases List.mem_cons.mp z with z | z
      · exact ⟨_, z ▸ ht⟩
      · exact ⟨_, hd b (by simpa using z)⟩
theorem RepAll.tracked : ∀ {ds : List D} {xs : List V} {as : List Addr}, RepAll K H ds xs as → ∀ b ∈ as, ∃ o, H b = some o
  | [], xs, as, h, b, hb => by simp only [RepAll] at h; rw [h.2] at hb; cases hb
  | d :: ds, xs, as, h, b, hb => by
    simp only [RepAll] at h
    obtain ⟨x, r, bs, cs, e, h1, h2, rfl⟩ := h
    rcases List.mem_append.mp hb with z | z
    · exact Rep.tracked h1 b z
    · exact RepAll.tracked h2 b z
end
theorem RepAll.len : ∀ {ds : List D} {xs : List V} {as : List Addr}, RepAll K H ds xs as → xs.length = ds.length
  | [], xs, as, h => by
    simp only [RepAll] at h
    rw [h.1]
    rfl
  | d :: ds, xs, as, h => by
    simp only [RepAll] at h
    obtain ⟨x, r, bs, cs, e, h1, h2, _⟩ := h
    rw [e, List.length_cons, List.length_cons, RepAll.len h2]
theorem RepAll.at : ∀ {ds : List D} {xs : List V} {as : List Addr} {i : Nat} {d : D}, RepAll K H ds xs as → ds[i]? = some d → ∃ x bs, xs[i]? = some x ∧ Rep K H d x bs ∧ ∀ b ∈ bs, b ∈ as
  | [], xs, as, i, d, h, e => by simp at e
  | d :: ds, xs, as, 0, d', h, e => by
    simp only [RepAll] at h
    obtain ⟨x, r, bs, cs, rfl, h1, h2, rfl⟩ := h
    obtain rfl : d = d' := by simpa using e
    exact ⟨x, bs, rfl, h1, fun b hb => by simp [hb]⟩
  | d :: ds, xs, as, i + 1, d', h, e => by
    simp only [RepAll] at h
    obtain ⟨x, r, bs, cs, rfl, h1, h2, rfl⟩ := h
    obtain ⟨y, es, q1, q2, q3⟩ := RepAll.at (i := i) h2 (by simpa using e)
    exact ⟨y, es, by simpa using q1, q2, fun b hb => by simp [q3 b hb]⟩
theorem RepAll.at2 {ds : List D} {xs : List V} {as : List Addr} {i : Nat} {x : V} (h : RepAll K H ds xs as) (e : xs[i]? = some x) : ∃ d bs, ds[i]? = some d ∧ Rep K H d x bs ∧ ∀ b ∈ bs, b ∈ as := by
  have hl := h.len
  have hi : i < ds.length := by rw [← hl]; exact (List.getElem?_eq_some_iff.mp e).1
  obtain ⟨y, bs, q1, q2, q3⟩ := h.at (List.getElem?_eq_getElem hi)
  rw [e] at q1
  cases q1
  exact ⟨_, bs, List.getElem?_eq_getElem hi, q2, q3⟩
section
variable {P : Program} {w : World} {h : Heap}
mutual
/-- what stands there shows by its text -/
theorem Rep.shows (hok : HOk P w H h) (kin : K.In h) : ∀ {d : D} {v : V} {as : List Addr} {u : Value}, Rep K H d v as → RelV v u → small d → wt d ≤ sizeLine → ReprK P w as h (dep d) u (shown d)
  | .non, v, as, u, r, q, sm, z => by
    simp only [Rep] at r
    obtain ⟨rfl, rfl⟩ := r
    cases (show u = Value.none from q)
    exact ReprK.of_is ReprIs.none _ _ _
  | .bl b, v, as, u, r, q, sm, z => by
    simp only [Rep] at r
    obtain ⟨rfl, rfl⟩ := r
    cases (show u = Value.bool b from q)
    exact ReprK.of_is (ReprIs.bool b) _ _ _
  | .int i, v, as, u, r, q, sm, z => by
    simp only [Rep] at r
    obtain ⟨rfl, rfl⟩ := r
    obtain ⟨t, rfl⟩ := (show ∃ t, u = Value.int i t from q)
    simp only [small] at sm
    exact ReprK.of_is (ReprIs.int t sm) _ _ _
  | .str x, v, as, u, r, q, sm, z => by
    simp only [Rep] at r
    obtain ⟨rfl, rfl⟩ := r
    obtain ⟨t, rfl⟩ := (show ∃ t, u = Value.str x t from q)
    simp only [wt] at z
    exact ReprK.of_is (ReprIs.str x t z) _ _ _
  | .tup ds, v, as, u, r, q, sm, z => by
    simp only [Rep] at r
    obtain ⟨a, xs, bs, rfl, ha, ra, na, rfl⟩ := r
    cases (show u = Value.ref a from q)
    obtain ⟨_, its, rv, o, h1, h2, n, h3⟩ := (show ObjOk P w H h a (.tup xs) from hok a _ ha)
    simp only [small] at sm
    simp only [wt] at z
    have k := RepAll.shows hok kin ra rv sm (by omega) (depAll ds) (Nat.le_refl _)
    simp only [shown, dep]
    exact ReprK.tuple h1 h2 h3 na (by simpa using k)
  | .lst ds, v, as, u, r, q, sm, z => by
    simp only [Rep] at r
    obtain ⟨a, xs, bs, rfl, ha, ra, na, rfl⟩ := r
    cases (show u = Value.ref a from q)
    obtain ⟨_, its, n, rv, h1⟩ := (show ObjOk P w H h a (.lst xs) from hok a _ ha)
    simp only [small] at sm
    simp only [wt] at z
    have k := RepAll.shows hok kin ra rv sm (by omega) (depAll ds) (Nat.le_refl _)
    simp only [shown, dep]
    cases its with
    | nil =>
      generalize shownAll ds = ts at k ⊢
      cases k
      rw [show listText [] = ("[]" : Str) from listText_nil]
      exact ReprK.listEmpty h1 rfl rfl
    | cons y l =>
      exact ReprK.list h1 rfl rfl na (by simpa using k.length_eq) (fun i y e => k.item i y (by simpa using e))
  | .dx, v, as, u, r, q, sm, z => by
    simp only [small] at sm
  | .dct, v, as, u, r, q, sm, z => by
    simp only [Rep] at r
    obtain ⟨a, rfl, ha, rfl⟩ := r
    cases (show u = Value.ref a from q)
    obtain ⟨_, hs, vs, kv, o, es, ep, h1, h2, h3, h4⟩ := (show ObjOk P w H h a (.dK []) from hok a _ ha)
    cases kv
    simp only [shown, dep]
    have et : dictText [] = ("{}" : Str) := by decide +kernel
    rw [← et]
    refine ReprK.dict (as := []) (d := 0) (o := o) (es := es) (n := ep) h1 h2.1 h3 hs (by simp) ?_
    have e0 : es.toList = [] := by
      have q : Pairs (mixKind P w) es.toList [] := h4.2.1
      generalize es.toList = l at q
      cases q
      rfl
    rw [e0]
    exact .nil
  | .exc C n m, v, as, u, r, q, sm, z => by
    simp only [Rep] at r
    obtain ⟨a, t, d, rfl, ha, ht, _, g, rfl⟩ := r
    cases (show u = Value.ref a from q)
    have h1 := xV_at hok ha
    obtain ⟨_, its, rv, o, h2, h3, n2, h4⟩ := (show ObjOk P w H h t (.tup (xArgs m)) from hok t _ ht)
    simp only [wt] at z
    simp only [shown, dep]
    intro base hb A gs E s Q hg hcl hu hk0 hQ
    refine wpAny_pyReprUnder_ref (by omega) (reprUnder_C g ⟨kin.keeps hk0, _, _, hk0 _ _ h1, rfl, rfl, rfl⟩ m rv ⟨o, n2, hk0 _ _ h2, h3, h4⟩ base hb gs hg (hcl t (by simp)) hu fun h' u tk hk => ⟨_, _, rfl, hQ h' tk hk⟩)
theorem RepAll.shows (hok : HOk P w H h) (kin : K.In h) : ∀ {ds : List D} {xs : List V} {as : List Addr} {us : List Value}, RepAll K H ds xs as → Vals xs us → smallAll ds → wtAll ds ≤ sizeLine → ∀ n, depAll ds ≤ n → ReprAllK P w as h n us (shownAll ds)
  | [], xs, as, us, r, q, sm, z, n, hn => by
    simp only [RepAll] at r
    obtain ⟨rfl, rfl⟩ := r
    cases q
    simp only [shownAll]
    exact .nil
  | d :: ds, xs, as, us, r, q, sm, z, n, hn => by
    simp only [RepAll] at r
    obtain ⟨x, l, bs, cs, rfl, r1, r2, rfl⟩ := r
    cases q with
    | cons q1 q2 =>
      simp only [smallAll] at sm
      simp only [wtAll] at z
      simp only [depAll] at hn
      simp only [shownAll]
      have k1 := Rep.shows hok kin r1 q1 sm.1 (by omega)
      have k2 := RepAll.shows hok kin r2 q2 sm.2 (by omega) n (by omega)
      exact .cons ((k1.more fun b hb => List.mem_append_left _ hb).level_le (by omega)) (k2.more_le (fun b hb => List.mem_append_right _ hb) (Nat.le_refl _))
end
end
end
end Sw
namespace Sw
open PySem PySem.Spec PyProof.Rows L2
/-- repr(xs), xs a list of data -/
def rRepr (K : PySem.W.Frag) : List V → Hp → VK → Prop := fun xs H Q => ∃ x ds as, xs = [x] ∧ Rep K H (.lst ds) x as ∧ smallAll ds ∧ wtAll ds ≤ 10000000 ∧ depAll ds ≤ 30 ∧ Q (.str (shown (.lst ds))) H
theorem call_repr {X : Cx} {k : Nat} (hr : Room k X.A) (hg : X.A.guards = some []) : CallR X (.builtin "repr") (rRepr X.K) := by
  intro pins s σ H xs us Q I r h
  obtain ⟨x, ds, as, rfl, hd, sm, z, dp, q⟩ := h
  obtain ⟨u, rfl, hu⟩ := vals1 r
  have un := hr.units
  have hz : wt (.lst ds) ≤ sizeLine := by
    rw [sizeLine_eq]
    simp only [wt]
    omega
  have hsh : (listText (shownAll ds)).length ≤ sizeLine := by
    have h1 := shown_wt (.lst ds)
    simp only [shown] at h1
    omega
  simp only [Rep] at hd
  obtain ⟨a, ys, bs, rfl, ha, ra, na, rfl⟩ := hd
  cases (show u = Value.ref a from hu)
  obtain ⟨_, its, n, rv, h1⟩ := (show ObjOk X.prog X.w H s.heap a (.lst ys) from I.hok a _ ha)
  have kr := RepAll.shows I.hok I.kIn ra rv sm (by simp only [wt] at hz; omega) (depAll ds) (Nat.le_refl _)
  have hT : s.TypeIs (.ref a) "list" := ⟨_, h1, rfl⟩
  simp only [shown] at q
  refine call_repr_slot (by omega) hT PySem.F.slot_list_repr.toG ?_
  cases its with
  | nil =>
    generalize shownAll ds = ts at kr q
    cases kr
    rw [show listText [] = ("[]" : Str) from listText_nil] at q
    exact call_list_repr_empty hT h1 rfl ⟨_, _, rfl, .str "[]", H, I.tok _, ⟨_, rfl⟩, q⟩
  | cons y l =>
    refine call_list_reprK (as := bs) (h₀ := s.heap) (d := depAll ds) h1 rfl rfl na (by simpa using kr.length_eq) (fun i y e => kr.item i y (by simpa using e)) (g := []) hg (fun b _ => Clear.nil b) (by show X.A.units + 1 + _ < cLine; omega) (fun _ _ e => e) (fun h' u tk hk => ?_) hsh
    exact ⟨_, _, rfl, .str _, H, I.kept (t' := tk) hk, ⟨_, rfl⟩, q⟩
/-! ### what a class a thing is of -/
/-- isinstance(x, T), by the data -/
def isT (T : String) : D → Bool
  | .int _ => T == "int"
  | .bl _ => T == "bool" || T == "int"
  | .str _ => T == "str"
  | .tup _ => T == "tuple"
  | .lst _ => T == "list"
  | .dct => T == "dict"
  | .dx => T == "dict"
  | _ => false
def isTs : List String := ["int", "bool", "tuple", "str", "list", "dict"]
def rIsD (K : PySem.W.Frag) : List V → Hp → VK → Prop := fun xs H Q => ∃ (x : V) (d : D) (as : List Addr) (T : String), xs = [x, .ty T] ∧ T ∈ isTs ∧ Rep K H d x as ∧ Q (.bl (isT T d)) H
theorem kit_exc {K : PySem.W.Frag} {C : Addr} {n : Str} (G : XGood K C n) {T : String} (hT : T ∈ isTs) : PySem.W.kitOne K (.ref C) (.type T) = some false := by
  have e : ∀ T : String, PySem.W.kitMeta T = true → PySem.W.subIn K (.ref C) (.type T) = some false → PySem.W.kitOne K (.ref C) (.type T) = some false := fun T h1 h2 => by
    unfold PySem.W.kitOne PySem.W.kitCls
    rw [if_neg (show ¬ ((Value.ref C == Value.type T) = true) from Bool.false_ne_true)]
    show (if PySem.W.kitMeta T = true then _ else _) = _
    rw [if_pos h1, h2]
  simp only [isTs, List.mem_cons, List.not_mem_nil, or_false] at hT
  rcases hT with rfl | rfl | rfl | rfl | rfl | rfl
  · exact e _ (by decide +kernel) G.ni
  · exact e _ (by decide +kernel) G.nb
  · exact e _ (by decide +kernel) G.nt
  · exact e _ (by decide +kernel) G.ns
  · exact e _ (by decide +kernel) G.nl
  · exact e _ (by decide +kernel) G.nd
theorem kitB_none {T : String} (hT : T ∈ isTs) : kitB "NoneType" T = some false := by
  simp only [isTs, List.mem_cons, List.not_mem_nil, or_false] at hT
  rcases hT with rfl | rfl | rfl | rfl | rfl | rfl <;> decide +kernel
theorem kitB_bool {T : String} (hT : T ∈ isTs) : kitB "bool" T = some (T == "bool" || T == "int") := by
  simp only [isTs, List.mem_cons, List.not_mem_nil, or_false] at hT
  rcases hT with rfl | rfl | rfl | rfl | rfl | rfl <;> decide +kernel
theorem kitB_self {S T : String} (hS : S ∈ ["int", "str", "tuple", "list", "dict"]) (hT : T ∈ isTs) : kitB S T = some (T == S) := by
  simp only [isTs, List.mem_cons, List.not_mem_nil, or_false] at hT hS
  rcases hS with rfl | rfl | rfl | rfl | rfl <;> rcases hT with rfl | rfl | rfl | rfl | rfl | rfl <;> decide +kernel
theorem call_isD {X : Cx} : CallR X (.builtin "isinstance") (rIsD X.K) := by
  intro pins s σ H xs us Q I r h
  obtain ⟨x, d, as, T, rfl, hT, hd, q⟩ := h
  have ex : ∀ t b, TyX X.K H x t → PySem.W.kitOne X.K t (.type T) = some b → isT T d = b → wpAny (model X.prog X.w) X.A (call (.builtin "isinstance") us) (EP X pins σ Q) X.xe s := fun t b h1 h2 h3 => by
    rw [h3] at q
    exact call_isi pins s σ H _ us Q I r ⟨x, .ty T, t, .type T, b, rfl, .ty T, h1, h2, q⟩
  cases d with
  | non =>
    simp only [Rep] at hd
    obtain ⟨rfl, rfl⟩ := hd
    exact ex _ _ (.base .non) (kit_ty (kitB_none hT)) rfl
  | bl b =>
    simp only [Rep] at hd
    obtain ⟨rfl, rfl⟩ := hd
    exact ex _ _ (.base (.bl b)) (kit_ty (kitB_bool hT)) rfl
  | int i =>
    simp only [Rep] at hd
    obtain ⟨rfl, rfl⟩ := hd
    exact ex _ _ (.base (.int i)) (kit_ty (kitB_self (by decide) hT)) rfl
  | str y =>
    simp only [Rep] at hd
    obtain ⟨rfl, rfl⟩ := hd
    exact ex _ _ (.base (.str y)) (kit_ty (kitB_self (by decide) hT)) rfl
  | tup ds =>
    simp only [Rep] at hd
    obtain ⟨a, ys, bs, rfl, ha, _⟩ := hd
    exact ex _ _ (.base (.tup ha)) (kit_ty (kitB_self (by decide) hT)) rfl
  | lst ds =>
    simp only [Rep] at hd
    obtain ⟨a, ys, bs, rfl, ha, _⟩ := hd
    exact ex _ _ (.base (.lst ha)) (kit_ty (kitB_self (by decide) hT)) rfl
  | dct =>
    simp only [Rep] at hd
    obtain ⟨a, rfl, ha, _⟩ := hd
    exact ex _ _ (.base (.dK ha)) (kit_ty (kitB_self (by decide) hT)) rfl
  | dx =>
    simp only [Rep] at hd
    obtain ⟨a, kvs, rfl, ha, _⟩ := hd
    exact ex _ _ (.base (.dK ha)) (kit_ty (kitB_self (by decide) hT)) rfl
  | exc C n m =>
    simp only [Rep] at hd
    obtain ⟨a, t, dd, rfl, ha, ht, hx, G, _⟩ := hd
    obtain ⟨u1, u2, rfl, r1, r2⟩ := vals2 r
    cases (show u1 = Value.ref a from r1)
    cases (show u2 = Value.type T from r2)
    have h1 := xV_at I.hok ha
    obtain ⟨cd, hc, _⟩ := G.nm
    have fin : ∀ od, PySem.W.InstAt s.heap a (xRec C dd t) C od → wpAny (model X.prog X.w) X.A (call (.builtin "isinstance") [.ref a, .type T]) (EP X pins σ Q) X.xe s := fun od J =>
      PySem.W.kia_one (PySem.W.kitx_exc (od := od) (by rw [hc]; rfl) G.ga G.gt G.sub G.ca G.cn G.ct G.mo) I.kIn J (kit_exc G hT) (fun z => nomatch z) fun tk => ⟨.bl false, H, I.tok tk, rfl, q⟩
    cases dd with
    | none => exact fin none ⟨h1, rfl, rfl, trivial⟩
    | some dx =>
      obtain ⟨o, ho⟩ := (show ObjOk X.prog X.w H s.heap dx (.own a) from I.hok dx _ (hx dx rfl))
      exact fin (some o) ⟨h1, rfl, rfl, ho⟩
end Sw
namespace Sw
open PySem PySem.Spec PyProof.Rows
theorem enum_new1 {v : Value} {o : Obj} {Hx : Heap → Prop} (B : Begins v o Hx) :
    Meets (Builtin.«enumerate.__new__» ⟨[.type "enumerate", v], []⟩) (fun _ R s => Hx s.heap ∧
      R (.ok (.ret (.ref (s.heap.push o).objs.size))) { s with heap := (s.heap.push o).push { cls := .type "enumerate", data := .fields #[.none, .bool false, .ref s.heap.objs.size, rawInt 0, .none, .none] } }) :=
  .of_wp fun prog w A R s h => by
    obtain ⟨hp, g, d, tk, os⟩ := s
    obtain ⟨h1, h⟩ := h
    have hsub := sub_enumerate
    have q1 : ∀ {A' : Around} {E : Value → Shared → Prop} {Q : Value → Shared → Prop}, Q (.ref hp.objs.size) ⟨hp.push o, g, d, tk, os⟩ → wpAny (model prog w) A' (pyIter v) Q E ⟨hp, g, d, tk, os⟩ :=
      fun q => B.iter prog w _ _ ⟨hp, g, d, tk, os⟩ _ h1 q
    wp_walk using q1
    refine wpAny_stack_any fun st => wpAny_pure ?_
    split
    · rename_i c _ _ _ _ _
      cases (c == Value.type "enumerate")
      · wp_walk using q1
        exact ⟨_, rfl, h⟩
      · wp_walk using q1
        exact ⟨_, rfl, h⟩
    · wp_walk using q1
      exact ⟨_, rfl, h⟩
theorem enum_call1 {prog : Program} {w : World} {A : Around} {E : Value → Shared → Prop} {s : Shared} {v : Value} {o : Obj} {Hx : Heap → Prop} {Q : Value → Shared → Prop} (B : Begins v o Hx) (h1 : Hx s.heap)
    (h : ∀ h', IsEnum h' (s.heap.objs.size + 1) s.heap.objs.size 0 .none → h'.get? s.heap.objs.size = some o → (∀ b o, s.heap.get? b = some o → h'.get? b = some o) → Q (.ref (s.heap.objs.size + 1)) { s with heap := h' }) :
    wpAny (model prog w) A (call (.type "enumerate") [v]) Q E s := by
  refine callType_new F.called_enumerate (by decide) (F.typeCall_enumerate_1 _) (F.newCall_enumerate_1 _) (fun obj => F.args_object_init_2 obj _) F.entry_enumerate_new (enum_new1 B) ⟨h1, ?_⟩
  have hz : (s.heap.push o).objs.size = s.heap.objs.size + 1 := Heap.size_push ..
  show _ ∧ _
  rw [hz]
  have he : IsEnum ((s.heap.push o).push { cls := .type "enumerate", data := .fields #[.none, .bool false, .ref s.heap.objs.size, rawInt 0, .none, .none] }) (s.heap.objs.size + 1) s.heap.objs.size 0 .none := by
    have q := Heap.get?_push_size (s.heap.push o) (o := { cls := .type "enumerate", data := .fields #[.none, .bool false, .ref s.heap.objs.size, rawInt 0, .none, .none] }) rfl
    rw [hz] at q
    exact q
  exact ⟨⟨_, he, rfl⟩, h _ he (Heap.get?_push_of_some _ (Heap.get?_push_size _ B.free)) fun b o x => Heap.get?_push_of_some _ (Heap.get?_push_of_some _ x)⟩
end Sw
namespace Sw
open PySem PySem.Spec PyProof.Rows L2
/-- the tuple at a, each item in a new pair with its place -/
def ItTe (K : PySem.W.Frag) (a : Addr) : It :=
  ⟨fun i H => ∃ (xs : List V) (x : V), SqT K H a xs ∧ xs[i]? = some x, fun i H v H' => ∃ T x, v = .ref T ∧ H T = none ∧ H' = upd H T (.tup [.int (i : Nat), x]) ∧ ∀ xs, SqT K H a xs → xs[i]? = some x, fun i H => ∃ xs : List V, SqT K H a xs ∧ xs.length = i⟩
theorem turn_te {P : Program} {w : World} {K : PySem.W.Frag} {elts : List Expr} {kk : Nat} {tpos : Pos} (a e it : Addr) :
    Turn P w K (.Tuple elts kk tpos) (ItTe K a) [e, it] e (fun i h => (∃ old, IsEnum h e it ((i : Nat) : Int) old) ∧ h.IsTupleIter it a i ∧ e ≠ it ∧ a ≠ it ∧ a ≠ e) where
  mem := by simp
  obj := fun i h st b hb => by
    obtain ⟨⟨old, he⟩, ⟨o, ho, hc, hd⟩, _⟩ := st
    rcases List.mem_cons.mp hb with z | z
    · rw [z]; exact ⟨_, he, fun v q => nomatch q⟩
    · obtain rfl := List.mem_singleton.mp z
      exact ⟨o, ho, fun v q => by rw [hd] at q; cases q⟩
  keep := fun i h h' st k => by
    obtain ⟨⟨old, he⟩, hi, hne⟩ := st
    exact ⟨⟨old, k e (by simp) _ he⟩, hi.at fun o q => k it (by simp) o q, hne⟩
  item := by
    intro X hP hw hK hc i pins s σ H E I hf st hg
    subst hP hw hK
    obtain ⟨⟨old, he⟩, hit, hne, hai, hae⟩ := st
    obtain ⟨xs, x, hq, hx⟩ := hg
    obtain ⟨its, rv, p, hz⟩ := I.tuple hq
    obtain ⟨u, hu, ru⟩ := rv.get hx
    have hel : e < s.heap.objs.size := Heap.lt_size he
    have hil : it < s.heap.objs.size := by obtain ⟨_, q, _⟩ := hit; exact Heap.lt_size q
    have hlt : i < its.toArray.size := by
      have := (List.getElem?_eq_some_iff.mp hu).1
      simpa using this
    refine wpAny_pyNext_enum_itemD (Draws.tuple (A := X.A.in1) (I.ok.hd hc) it a hai its.toArray) he ⟨hit, p⟩ hlt hne (by simp [hne, Ne.symm hae]) fun y h' tk hy ho hst hT hsz hk => ?_
    obtain ⟨hit', _⟩ := hst
    have ey : y = u := by
      have q : its.toArray[i]? = some y := hy
      have q2 : its.toArray[i]? = some u := by simpa using hu
      rw [q2] at q
      exact (Option.some.inj q).symm
    subst ey
    refine ⟨_, rfl, wpAny_letOwnedTupleGo_enum (s := { s with heap := h', toks := tk + 1 }) ho fun h'' he' sb => ?_⟩
    have hT2 : h''.get? s.heap.objs.size = some { cls := .type "tuple", data := .seq #[.int i tk, y] } := (sb.2 _ (Nat.ne_of_gt hel)).trans hT
    have new : ObjOk X.prog X.w (upd H s.heap.objs.size (.tup [.int (i : Nat), x])) h'' s.heap.objs.size (.tup [.int (i : Nat), x]) :=
      ⟨by show 2 ≤ sizeLine; decide, [.int i tk, y], .cons ⟨_, rfl⟩ (.cons ru .nil), ⟨_, hT2, rfl, _, rfl⟩⟩
    have I1 : Inv X pins σ (upd H s.heap.objs.size (.tup [.int (i : Nat), x])) { s with heap := h'', toks := tk + 1 } :=
      I.turnedNew (ch := [e, it]) (fun b ob hb q => (sb.2 b (fun z => hb (by simp [z]))).trans (hk b ob (fun z => hb (by simp [z])) (fun z => hb (by simp [z])) q)) hf (Nat.le_refl _) new
    refine ⟨.ref s.heap.objs.size, _, I1, rfl, ⟨_, x, rfl, I.hok.fresh (Nat.le_refl _), rfl, fun ys hy => by rw [I.tuple_inj hy hq]; exact hx⟩, ⟨⟨y, ?_⟩, hit'.at fun o q => (sb.2 it (Ne.symm hne)).trans q, hne, hai, hae⟩, fun b hb => ?_⟩
    · have e1 : ((i + 1 : Nat) : Int) = (i : Int) + 1 := by omega
      rw [e1]; exact he'
    · have hb' : b < s.heap.objs.size := by
        rcases List.mem_cons.mp hb with z | z
        · rw [z]; exact hel
        · obtain rfl := List.mem_singleton.mp z
          exact hil
      rw [upd_ne (Nat.ne_of_lt hb')]
      exact (hf b hb).1
  done := by
    intro X hP hw hK hc i pins s σ H E I hf st hg
    subst hP hw hK
    obtain ⟨⟨old, he⟩, hit, hne, hai, hae⟩ := st
    obtain ⟨xs, hq, hx⟩ := hg
    obtain ⟨its, rv, p, hz⟩ := I.tuple hq
    obtain ⟨f0, f1, f2, f3, f4, f5⟩ := hf it (by simp)
    have hl := rv.length
    have hi : its.toArray.size = i := by simp; omega
    refine wpAny_pyNext_enum_endD (Draws.tuple (A := X.A.in1) (I.ok.hd hc) it a hai its.toArray) he (by rw [hi]; exact ⟨hit, p⟩) fun h' eb => ⟨rfl, I.turned (t' := s.toks) (fun b o hb q => eb b o hb q) f0 f1 f3 f4 f5⟩
  self := fun A i s Q E st h => let ⟨⟨_, he⟩, _⟩ := st; wpAny_pyIter_enum he h
def iTe (K : PySem.W.Frag) (ta : TA) : TI := fun σ H R => ta σ H fun vs H1 => ∃ a xs, vs = [.ref a] ∧ SqT K H1 a xs ∧ R (ItTe K a) H1
/-- for i, x in enumerate(t), t a tuple -/
theorem pi_enumT {X : Cx} {e : Expr} {ta : TA} {p pos tpos : Pos} {elts : List Expr} {kk : Nat} (hg : Gl X "enumerate") (hm : X.mg "enumerate" = none) (ha : PA X [e] ta) (hs : starEach [e] X.env = [(false, eval e X.env)] := by rfl) :
    PI X (.Tuple elts kk tpos) (.Call (.Name "enumerate" p) [e] [] pos) (iTe X.K ta) := by
  refine ⟨fun pins s σ H R I h => ?_⟩
  refine Call_ (ld_blt I hg hm boot_enumerate (PyProof.Rows.callWith_type1 (thn (ha.run pos pins s σ H _ I h) fun us s1 ⟨vs, H1, I1, r1, q1⟩ => ?_) hs rfl))
  obtain ⟨a, xs, ex, hq, q⟩ := q1
  subst ex
  cases r1 with
  | cons r rr =>
    cases rr
    cases r
    obtain ⟨its, rv, p', hz⟩ := I1.tuple hq
    have hal : a < s1.heap.objs.size := by obtain ⟨_, q, _⟩ := p'; exact Heap.lt_size q
    refine enum_call1 (begins_tuple a its.toArray) p' fun h' he hit hk => wpAny_pyIter_enum he ?_
    have I2 : Inv X pins σ H1 { s1 with heap := h' } := I1.kept (t' := s1.toks) hk
    refine ⟨s1.heap.objs.size + 1, [s1.heap.objs.size + 1, s1.heap.objs.size], _, _, H1, rfl, I2, turn_te a (s1.heap.objs.size + 1) s1.heap.objs.size, ⟨⟨.none, he⟩, ⟨_, hit, rfl, rfl⟩, Nat.succ_ne_self _, Nat.ne_of_lt hal, Nat.ne_of_lt (Nat.lt_succ_of_lt hal)⟩, fun b hb => ?_, q⟩
    have hle : s1.heap.objs.size ≤ b := by
      rcases List.mem_cons.mp hb with z | z
      · rw [z]; exact Nat.le_add_right _ _
      · obtain rfl := List.mem_singleton.mp z
        exact Nat.le_refl _
    exact I1.fpOk hle (I1.hok.fresh hle)
theorem walk_te {K : PySem.W.Frag} {a : Addr} {xs : List V} : Walk (ItTe K a) xs.length (fun H => SqT K H a xs) (YPair (fun i => some (.int (i : Nat))) (fun i => xs[i]?)) := by
  refine ⟨fun i _ hi q => ⟨xs, xs[i], q, by simp [hi]⟩, fun _ q => ⟨xs, q, rfl⟩, fun i H v H' _ q y => ?_⟩
  obtain ⟨T, x, h1, h2, h3, h4⟩ := y
  exact ⟨T, .int (i : Nat), x, h1, h2, h3, rfl, h4 xs q⟩
end Sw
namespace Sw
open PySem L2
/-! ### what all laws share: the text by places, the checks of the package, data in short -/
def top (i : Nat) : Stmt := PySem.Challenge.pw_swapstops_k11_names_and_equal_calls.main.body.getD i (.Pass ⟨0, 0, 0, 0⟩)
def isWhole (lo hi : Int) : D → Bool
  | .int i => decide (lo ≤ i) && decide (i ≤ hi)
  | _ => false
def isPair : D → Bool
  | .tup [_, _] => true
  | _ => false
/-- built-in names that no module has taken -/
structure NoNames (mg : Str → Option Value) : Prop where
  isi : mg "isinstance" = none
  len : mg "len" = none
  int : mg "int" = none
  bool : mg "bool" = none
  tuple : mg "tuple" = none
  enumerate : mg "enumerate" = none
  range : mg "range" = none
  abs : mg "abs" = none
  list : mg "list" = none
  dict : mg "dict" = none
  zip : mg "zip" = none
  sorted : mg "sorted" = none
  str : mg "str" = none
  repr : mg "repr" = none
  super : mg "super" = none
section
variable {P : Program} {w : World} {K : PySem.W.Frag} {mg : Str → Option Value} {base : Heap}
/-- isinstance(the name in slot i, T) -/
theorem pe_isi {X : Cx} {i : Nat} {x T : Str} {p1 p2 p3 p4 : Pos} {TN : String} (hN : X.N[i]? = some x) (hv : Vis X.env.scope x) (hd : (x == ("__debug__" : Str)) = false) (hcd : (x == ("__classdict__" : Str)) = false)
    (h1 : X.mg "isinstance" = none) (h2 : X.mg T = none) (g1 : Gl X "isinstance") (g2 : Gl X T) (hb : bootBuiltins T = some (.type TN)) (hn : T ≠ "__name__") (hd2 : (T == ("__debug__" : Str)) = false)
    (hs : starEach [Expr.Name x p1, Expr.Name T p2] X.env = (false, eval (.Name x p1) X.env) :: starEach [Expr.Name T p2] X.env := by rfl) (hs2 : starEach [Expr.Name T p2] X.env = (false, eval (.Name T p2) X.env) :: starEach [] X.env := by rfl)
    (hpl : (backTo p4 (starEach [Expr.Name T p2] X.env)).any (·.1) = false := by rfl) :
    PE X (.Call (.Name "isinstance" p3) [.Name x p1, .Name T p2] [] p4) (tCB (rIsD X.K) (tCons (tVar i) (tCons (tC (.ty TN)) tNil))) :=
  pe_callB call_isD g1 h1 (by decide +kernel) (pa_cons (pe_var hN hv hd hcd) (pa_cons (pe_bltn (v := .ty TN) g2 h2 hb rfl hn hd2) pa_nil hs2) hs) (by decide) (by decide) hs hpl
def spBetween (K : PySem.W.Frag) : Sp := fun vs H Q _ => ∃ (x : V) (d : D) (as : List Addr) (lo hi : Int), vs = [x, .int lo, .int hi] ∧ Rep K H d x as ∧ Q (.bl (isWhole lo hi d)) H
/-! ### is_pair -/
def spPair (K : PySem.W.Frag) : Sp := fun vs H Q _ => ∃ (x : V) (d : D) (as : List Addr), vs = [x] ∧ Rep K H d x as ∧ Q (.bl (isPair d)) H
/-- a def of one's own that may be called by its name -/
structure Own (P : Program) (w : World) (K : PySem.W.Frag) (mg : Str → Option Value) (base : Heap) (k : Nat) (x : Str) (ps : List Str) (sp : Sp) : Prop where
  ex : ∃ f fd, FnOk P w K mg base CX0 k f fd ps sp ∧ mg x = some (.ref f) ∧ PySem.W.keepIn K (.ref f) = true ∧ Binds K fd ps []
theorem two_of {d : D} (h : isPair d = true) : ∃ a b, d = .tup [a, b] := by
  cases d with
  | tup ds =>
    match ds, h with
    | [a, b], _ => exact ⟨a, b, rfl⟩
    | [], h => cases h
    | [_], h => cases h
    | _ :: _ :: _ :: _, h => cases h
  | _ => cases h
theorem int_wt {i : Nat} (h : i ≤ sizeLine) : (Str.ofString (toString (i : Int))).length ≤ 20 ∧ ((i : Int)).natAbs.log2 < 1920 := by
  rw [sizeLine_eq] at h
  have h1 : ((i : Int)).natAbs < 10 ^ 19 := by
    have : ((i : Int)).natAbs = i := rfl
    rw [this]
    omega
  have h2 := int_text_length_le10 (k := 19) (by decide) h1
  rw [PySem.ofString_length]
  refine ⟨h2, ?_⟩
  exact PySem.Spec.log2_small (Nat.lt_of_lt_of_le h1 (by decide +kernel))
theorem wt_len : ∀ ds : List D, 2 * ds.length ≤ wtAll ds
  | [] => by simp [wtAll]
  | d :: r => by
    have := wt_len r
    simp only [wtAll, List.length_cons]
    omega
/-- a new pair of a word and a place -/
theorem rep_err {H : Hp} {p : Addr} {z : Str} {i : Int} (h : H p = none) : Rep K (upd H p (.tup [.str z, .int i])) (.tup [.str z, .int i]) (.ref p) [p] := by
  simp only [Rep, RepAll]
  exact ⟨p, _, [], rfl, upd_same, ⟨_, _, [], [], rfl, ⟨rfl, rfl⟩, ⟨_, _, [], [], rfl, ⟨rfl, rfl⟩, ⟨rfl, rfl⟩, rfl⟩, rfl⟩, by simp, rfl⟩
theorem same_new {H : Hp} {p : Addr} {o : HO} (h : H p = none) : Same H (upd H p o) := fun b x e => by
  rw [upd_ne (ne_of_none e h)]
  exact e
theorem Rep.same {H H' : Hp} {d : D} {v : V} {as : List Addr} (h : Rep K H d v as) (s : Same H H') : Rep K H' d v as := h.keep fun b _ o e => s b o e
theorem RepAll.same {H H' : Hp} {d : List D} {v : List V} {as : List Addr} (h : RepAll K H d v as) (s : Same H H') : RepAll K H' d v as := h.keep fun b _ o e => s b o e
theorem pair_len {ds : List D} {n : Nat} (h : n = ds.length) : isPair (.tup ds) = decide (V.int (n : Int) = V.int 2) := by
  match ds, h with
  | [], hl => rw [hl]; rfl
  | [_], hl => rw [hl]; rfl
  | [_, _], hl => rw [hl]; rfl
  | _ :: _ :: _ :: r, hl =>
    rw [hl]
    show false = _
    refine (decide_eq_false fun z => ?_).symm
    have z2 : ((_ : Nat) : Int) = 2 := V.int.inj z
    simp only [List.length_cons] at z2
    omega
theorem tup_of {d : D} (e : isT "tuple" d = true) : ∃ ds, d = .tup ds := by
  cases d <;> first | exact ⟨_, rfl⟩ | (simp_all [isT])
theorem pair_tup {d : D} (e : isT "tuple" d = false) : isPair d = false := by
  cases d <;> simp_all [isT, isPair]
/-- isinstance(e, T) -/
theorem pe_isiE {X : Cx} {e : Expr} {te : TE} {T : Str} {p2 p3 p4 : Pos} {TN : String} (he : PE X e te)
    (h1 : X.mg "isinstance" = none) (h2 : X.mg T = none) (g1 : Gl X "isinstance") (g2 : Gl X T) (hb : bootBuiltins T = some (.type TN)) (hn : T ≠ "__name__") (hd2 : (T == ("__debug__" : Str)) = false)
    (hs : starEach [e, Expr.Name T p2] X.env = (false, eval e X.env) :: starEach [Expr.Name T p2] X.env := by rfl) (hs2 : starEach [Expr.Name T p2] X.env = (false, eval (.Name T p2) X.env) :: starEach [] X.env := by rfl)
    (hpl : (backTo p4 (starEach [Expr.Name T p2] X.env)).any (·.1) = false := by rfl) :
    PE X (.Call (.Name "isinstance" p3) [e, .Name T p2] [] p4) (tCB (rIsD X.K) (tCons te (tCons (tC (.ty TN)) tNil))) :=
  pe_callB call_isD g1 h1 (by decide +kernel) (pa_cons he (pa_cons (pe_bltn (v := .ty TN) g2 h2 hb rfl hn hd2) pa_nil hs2) hs) (by decide) (by decide) hs hpl
end
end Sw
namespace Sw
open PySem L2
abbrev sBetween : Stmt := top 6
theorem scBetween : FnScope ["value", "least", "most"] ["value", "least", "most"] (defScope sBetween) := ⟨rfl, rfl, rfl, by decide +kernel, rfl, by decide +kernel, by decide +kernel⟩
section
variable {P : Program} {w : World} {K : PySem.W.Frag} {mg : Str → Option Value} {base : Heap}
theorem ok_between {f : Addr} {fd : FuncData} (F : Fun K "is_integer_between" "is_integer_between" sBetween f fd) (B : NoNames mg) : FnOk P w K mg base CX0 1 f fd ["value", "least", "most"] (spBetween K) := by
  refine F.ok scBetween (fun vs H Q E h => ?_) (fun cdv A outer s H vs Q E hr h => ?_)
  · obtain ⟨x, d, as, lo, hi, rfl, _⟩ := h
    rfl
  · obtain ⟨x, d, as, lo, hi, rfl, hd, k⟩ := h
    refine ⟨_, pss_cons (ps_if (PW.pt (pw_or (pt_val (pe_isi (i := 0) (TN := "bool") rfl (Or.inl rfl) (by decide) (by decide) B.isi B.bool rfl rfl (by decide +kernel) (by decide) (by decide)))
        (pw_or1 (pt_not (pt_val (pe_isi (i := 0) (TN := "int") rfl (Or.inl rfl) (by decide) (by decide) B.isi B.int rfl rfl (by decide +kernel) (by decide) (by decide))))))) (pss_one (ps_ret pe_bl)) pss_nil)
      (pss_one (ps_ret (pe_chain op_le op_le (pv 1) (pv 0) (pv 2)))), ?_⟩
    refine ⟨_, rfl, x, d, as, "bool", rfl, by decide, hd, _, rfl, ?_⟩
    have no : isT "bool" d = true → isWhole lo hi d = false := fun e => by cases d <;> simp_all [isT, isWhole]
    have no2 : isT "bool" d = false → isT "int" d = false → isWhole lo hi d = false := fun e e2 => by cases d <;> simp_all [isT, isWhole]
    have yes : isT "bool" d = false → isT "int" d = true → ∃ i, d = .int i := fun e e2 => by cases d <;> first | exact ⟨_, rfl⟩ | (simp_all [isT])
    cases e1 : isT "bool" d with
    | true =>
      refine iteT (iteT ?_)
      rw [no e1] at k
      exact k
    | false =>
      refine iteF ⟨_, rfl, x, d, as, "int", rfl, by decide, hd, _, rfl, ?_⟩
      cases e2 : isT "int" d with
      | false =>
        refine iteT ?_
        rw [no2 e1 e2] at k
        exact k
      | true =>
        refine iteF ?_
        obtain ⟨i, rfl⟩ := yes e1 e2
        simp only [Rep] at hd
        obtain ⟨rfl, rfl⟩ := hd
        refine ⟨_, rfl, _, rfl, _, _, rfl, rfl, _, rfl, ?_⟩
        refine ite2 (fun z => ?_) (fun z => ?_)
        · refine ⟨_, rfl, _, _, rfl, rfl, ?_⟩
          simp only [isWhole] at k
          rw [z] at k
          exact k
        · simp only [isWhole] at k
          rw [Bool.eq_false_iff.mpr z] at k
          exact k
end
end Sw
namespace Sw
open PySem PySem.Spec PyProof.Rows L2 SX
/-! ### numbers in texts, ends -/
abbrev sNumIn : Stmt := top 35
abbrev sEndsIn : Stmt := top 34
theorem scNumIn : FnScope ["word", "number"] ["word"] (defScope sNumIn) := ⟨rfl, rfl, rfl, by decide +kernel, rfl, by decide +kernel, by decide +kernel⟩
theorem scEndsIn : FnScope ["word", "v", "_", "w"] ["word"] (defScope sEndsIn) := ⟨rfl, rfl, rfl, by decide +kernel, rfl, by decide +kernel, by decide +kernel⟩
/-- the decimal of a number, by signs -/
def figs (i : Nat) : List Nat := (Str.ofString (toString (i : Int))).cps.toList
theorem figs_S (i : Nat) : Str.ofString (toString (i : Int)) = S (figs i) := (S_tl _).symm
/-- the number from 0 to 12 that a text is in decimal -/
def numL (l : List Nat) : Option Nat := (List.range 13).find? fun i => decide (figs i = l)
def numV : Option Nat → V
  | none => .non
  | some i => .int (i : Int)
def numD : Option Nat → D
  | none => .non
  | some i => .int (i : Int)
theorem numL_some {l : List Nat} {i : Nat} (h : numL l = some i) : figs i = l ∧ i ≤ 12 := by
  have h1 := List.find?_some h
  have h2 := List.mem_of_find?_eq_some h
  have h3 := List.mem_range.mp h2
  exact ⟨of_decide_eq_true h1, by omega⟩
theorem figs_inj : ∀ i, i < 13 → ∀ j, j < 13 → figs i = figs j → i = j := by decide +kernel
theorem numL_figs {i : Nat} (h : i ≤ 12) : numL (figs i) = some i := by
  cases e : numL (figs i) with
  | none =>
    have := List.find?_eq_none.mp e i (List.mem_range.mpr (by omega))
    exact absurd (decide_eq_true rfl) this
  | some j =>
    obtain ⟨h1, h2⟩ := numL_some e
    rw [figs_inj j (by omega) i (by omega) h1]
/-- both numbers of a word -/
def endsL (l : List Nat) : Option Nat × Option Nat := match TL.par [62] [] l with
  | some (p, q) => (numL p, numL q)
  | none => (numL l, numL [])
section
variable {P : Program} {w : World} {K : PySem.W.Frag} {mg : Str → Option Value} {base : Heap}
def spNumIn : Sp := fun vs H Q _ => ∃ l : List Nat, vs = [.str (S l)] ∧ Q (numV (numL l)) H
theorem ok_numIn {f : Addr} {fd : FuncData} (F : Fun K "number_in" "number_in" sNumIn f fd) (B : NoNames mg) (t : Tok) (mM : mg "MAX_STOPS" = some (.int 12 t)) : FnOk P w K mg base CX0 1 f fd ["word"] spNumIn := by
  refine F.ok scNumIn (fun vs H Q E h => ?_) (fun cdv A outer s H vs Q E hr h => ?_)
  · obtain ⟨l, rfl, _⟩ := h
    rfl
  · obtain ⟨l, rfl, k⟩ := h
    refine ⟨_, pss_cons (ps_for PassesOwn.never rfl (pi_range1 (by rfl) B.range (pa_cons (pe_op op_add (pe_glob (v := .int 12) rfl mM ⟨_, rfl⟩) pe_int) pa_nil)) (pg_name (i := 1) scNumIn.nd rfl (.inl rfl))
        (pss_one (ps_if (pt_cmpR op_eq (pe_callTy call_str_int (by rfl) B.str (by decide +kernel) (pa_cons (pv 1) pa_nil)) (pv 0) (nomark _)) (pss_one (ps_ret (pv 1))) pss_nil))) <|
      pss_one (ps_ret pe_non), ?_⟩
    refine ⟨_, _, rfl, rfl, 13, rfl, by decide, by decide, for_range (lo := 0) (n := 13) (fun i σ H' => ∃ s1, σ = [some (.str (S l)), s1] ∧ H = H' ∧ ∀ j, j < i → figs j ≠ l)
      ⟨none, rfl, rfl, fun j hj => absurd hj (Nat.not_lt_zero _)⟩ ?_ ?_⟩
    · rintro i σ H' hi ⟨s1, rfl, rfl, no⟩
      rw [Int.zero_add]
      refine ⟨_, rfl, _, rfl, ?_, _, rfl, rfl, _, rfl, ?_⟩
      · rw [Int.natAbs_natCast]
        exact Nat.lt_of_le_of_lt (Nat.log2_le_self i) (by omega)
      have e : (decide (V.str (Str.ofString (toString (i : Int))) = V.str (S l))) = decide (figs i = l) := by
        rw [figs_S]
        by_cases h : figs i = l
        · rw [decide_eq_true h, decide_eq_true (by rw [h])]
        · rw [decide_eq_false h, decide_eq_false (fun z => h (S_inj (V.str.inj z)))]
      rw [e]
      refine ite2 (fun y => ?_) (fun y => ?_)
      · have y : figs i = l := of_decide_eq_true y
        refine ⟨_, rfl, ?_⟩
        rw [← y, numL_figs (by omega)] at k
        exact k
      · refine ⟨_, rfl, rfl, fun j hj => ?_⟩
        by_cases z : j = i
        · rw [z]
          exact fun q => y (decide_eq_true q)
        · exact no j (by omega)
    · rintro σ H' ⟨s1, rfl, rfl, no⟩
      have e : numL l = none := List.find?_eq_none.mpr fun i hi z => no i (List.mem_range.mp hi) (of_decide_eq_true z)
      rw [e] at k
      exact k
def spEndsIn : Sp := fun vs H Q _ => ∃ l : List Nat, vs = [.str (S l)] ∧ l.length ≤ 10000000 ∧ ∀ p H', Same H H' → H' p = some (.tup [numV (endsL l).1, numV (endsL l).2]) → Q (.ref p) H'
theorem ok_endsIn {f : Addr} {fd : FuncData} (F : Fun K "ends_in" "ends_in" sEndsIn f fd) (O : Own P w K mg base 1 "number_in" ["word"] spNumIn) : FnOk P w K mg base CX0 2 f fd ["word"] spEndsIn := by
  obtain ⟨fN, fdN, GN, mN, kN, bN⟩ := O.ex
  refine F.ok scEndsIn (fun vs H Q E h => ?_) (fun cdv A outer s H vs Q E hr h => ?_)
  · obtain ⟨l, rfl, _⟩ := h
    rfl
  · obtain ⟨l, rfl, hl, k⟩ := h
    refine ⟨_, pss_cons (ps_asg (pe_partition (pv 0) pe_str) (pg_tup (by rfl) (pgs_cons (pg_name (i := 1) scEndsIn.nd rfl (.inl rfl)) (pgs_cons (pg_name (i := 2) scEndsIn.nd rfl (.inl rfl)) (pgs_cons (pg_name (i := 3) scEndsIn.nd rfl (.inl rfl)) pgs_nil))))) <|
      pss_one (ps_ret (pe_tup (pa_cons (pe_call GN hr rfl mN kN bN .nil pass0 (pa_cons (pv 1) pa_nil)) (pa_cons (pe_call GN hr rfl mN kN bN .nil pass0 (pa_cons (pv 3) pa_nil)) pa_nil)))), ?_⟩
    obtain ⟨p1, p2, p3, ep, e1, e2⟩ : ∃ p1 p2 p3 : List Nat, Txt.partition (S l) (S [62]) = (S p1, S p2, S p3) ∧ numL p1 = (endsL l).1 ∧ numL p3 = (endsL l).2 := by
      unfold endsL
      cases e : TL.par [62] [] l with
      | none => exact ⟨l, [], [], partition_none (by decide) e, rfl, rfl⟩
      | some x => exact ⟨x.1, [62], x.2, partition_some (by decide) e, rfl, rfl⟩
    refine ⟨_, rfl, ⟨_, rfl⟩, S l, S [62], rfl, rfl, by decide, by rw [S_len, sizeLine_eq]; omega, fun p np => ?_⟩
    rw [ep]
    have s1 : Same H (upd H p (.tup [.str (S p1), .str (S p2), .str (S p3)])) := same_new np
    refine ⟨p, _, rfl, SqT.of upd_same, rfl, _, _, rfl, _, _, rfl, _, _, rfl, rfl, ?_⟩
    refine ⟨_, rfl, p1, rfl, _, rfl, p3, rfl, by show 2 ≤ sizeLine; decide, fun q nq => ?_⟩
    rw [e1, e2]
    exact k q _ (s1.trans (same_new nq)) upd_same
end
end Sw
namespace Sw
open PySem L2
abbrev sPair : Stmt := top 7
theorem scPair : FnScope ["value"] ["value"] (defScope sPair) := ⟨rfl, rfl, rfl, by decide +kernel, rfl, by decide +kernel, by decide +kernel⟩
section
variable {P : Program} {w : World} {K : PySem.W.Frag} {mg : Str → Option Value} {base : Heap}
theorem ok_pair {f : Addr} {fd : FuncData} (F : Fun K "is_pair" "is_pair" sPair f fd) (B : NoNames mg) : FnOk P w K mg base CX0 1 f fd ["value"] (spPair K) := by
  refine F.ok scPair (fun vs H Q E h => ?_) (fun cdv A outer s H vs Q E hr h => ?_)
  · obtain ⟨x, d, as, rfl, _⟩ := h
    rfl
  · obtain ⟨x, d, as, rfl, hd, k⟩ := h
    refine ⟨_, pss_one (ps_ret (pe_and (pe_isi (i := 0) (TN := "tuple") rfl (Or.inl rfl) (by decide) (by decide) B.isi B.tuple rfl rfl (by decide +kernel) (by decide) (by decide))
      (pe_one (pe_cmpR op_eq (pe_callB call_len_seq (by rfl) B.len PySem.boot_len (pa_cons (pv 0) pa_nil)) pe_int (nomark _))))), ?_⟩
    refine ⟨_, rfl, x, d, as, "tuple", rfl, by decide, hd, _, rfl, ?_⟩
    have no : isT "tuple" d = false → isPair d = false := fun e => by cases d <;> simp_all [isT, isPair]
    have yes : isT "tuple" d = true → ∃ ds, d = .tup ds := fun e => by cases d <;> first | exact ⟨_, rfl⟩ | (simp_all [isT])
    cases e : isT "tuple" d with
    | false =>
      refine iteF ?_
      rw [no e] at k
      exact k
    | true =>
      refine iteT ?_
      obtain ⟨ds, rfl⟩ := yes e
      simp only [Rep] at hd
      obtain ⟨a, xs, bs, rfl, ha, ra, na, rfl⟩ := hd
      refine ⟨_, rfl, a, xs, rfl, .inr (SqT.of ha), rfl, ?_⟩
      have hl := ra.len
      have ep : isPair (.tup ds) = decide (V.int (xs.length : Int) = V.int 2) := by
        match ds, hl with
        | [], hl => rw [hl]; rfl
        | [_], hl => rw [hl]; rfl
        | [_, _], hl => rw [hl]; rfl
        | _ :: _ :: _ :: r, hl =>
          rw [hl]
          show false = _
          refine (decide_eq_false fun z => ?_).symm
          have z2 : ((_ : Nat) : Int) = 2 := V.int.inj z
          simp only [List.length_cons] at z2
          omega
      rw [ep] at k
      exact k
end
end Sw
namespace Sw
open PySem L2
/-! ### is_stop -/
abbrev sStop : Stmt := top 11
theorem scStop : FnScope ["n", "value"] ["n", "value"] (defScope sStop) := ⟨rfl, rfl, rfl, by decide +kernel, rfl, by decide +kernel, by decide +kernel⟩
section
variable {P : Program} {w : World} {K : PySem.W.Frag} {mg : Str → Option Value} {base : Heap}
def isStop (n : Int) (d : D) : Bool := isWhole 0 (n - 1) d
def spStop (K : PySem.W.Frag) : Sp := fun vs H Q _ => ∃ (x : V) (d : D) (as : List Addr) (n : Int), vs = [.int n, x] ∧ Rep K H d x as ∧ Q (.bl (isStop n d)) H
theorem ok_stop {f : Addr} {fd : FuncData} (F : Fun K "is_stop" "is_stop" sStop f fd) (O : Own P w K mg base 1 "is_integer_between" ["value", "least", "most"] (spBetween K)) : FnOk P w K mg base CX0 2 f fd ["n", "value"] (spStop K) := by
  obtain ⟨fB, fdB, GB, mB, kB, bB⟩ := O.ex
  refine F.ok scStop (fun vs H Q E h => ?_) (fun cdv A outer s H vs Q E hr h => ?_)
  · obtain ⟨x, d, as, n, rfl, _⟩ := h
    rfl
  · obtain ⟨x, d, as, n, rfl, hd, k⟩ := h
    refine ⟨_, pss_one (ps_ret (pe_call GB hr rfl mB kB bB .nil pass0 (pa_cons (pv 1) (pa_cons pe_int (pa_cons (pe_op op_sub (pv 0) pe_int) pa_nil))))), ?_⟩
    exact ⟨_, rfl, _, rfl, _, _, rfl, rfl, x, d, as, 0, n - 1, rfl, hd, k⟩
end
end Sw
namespace Sw
open PySem PySem.Spec PyProof.Rows L2
abbrev sError : Stmt := top 9
abbrev sForm : Stmt := top 10
abbrev sArrow : Stmt := top 12
theorem scForm : FnScope ["value", "n", "arrows"] ["value"] (defScope sForm) := ⟨rfl, rfl, rfl, by decide +kernel, rfl, by decide +kernel, by decide +kernel⟩
theorem scArrow : FnScope ["n", "value", "v", "w"] ["n", "value"] (defScope sArrow) := ⟨rfl, rfl, rfl, by decide +kernel, rfl, by decide +kernel, by decide +kernel⟩
theorem scError : FnScope ["value", "n", "arrows", "spot", "arrow"] ["value"] (defScope sError) := ⟨rfl, rfl, rfl, by decide +kernel, rfl, by decide +kernel, by decide +kernel⟩
def isArrow (n : Int) : D → Bool
  | .tup [.int v, .int w] => (decide (0 ≤ v) && decide (v ≤ n - 1)) && (decide (0 ≤ w) && decide (w ≤ n - 1)) && !decide (v = w)
  | _ => false
def formOf : D → Option (Int × List D)
  | .tup [.int n, .tup as] => if 1 ≤ n ∧ n ≤ 12 then some (n, as) else none
  | _ => none
def twoInts : D → List Int
  | .tup [.int v, .int w] => [v, w]
  | _ => []
def leL (ns ms : List Int) : Bool := Ob.lexAt (fun j => decide (ns.getD j 0 = ms.getD j 0)) (fun j => decide (ns.getD j 0 ≤ ms.getD j 0)) (decide (ns.length ≤ ms.length)) 0 (min ns.length ms.length)
def BadAt (as : List D) (i : Nat) : Prop := ∃ x y, 0 < i ∧ as[i]? = some x ∧ as[i - 1]? = some y ∧ leL (twoInts x) (twoInts y) = true
inductive IsErr : D → D → Prop
  | form {d : D} (h : formOf d = none) : IsErr d (.str "form")
  | arrow {d x : D} {n : Int} {as : List D} {i : Nat} (h : formOf d = some (n, as)) (hx : as[i]? = some x) (hb : isArrow n x = false) (ha : ∀ (j : Nat) (y : D), j < i → as[j]? = some y → isArrow n y = true) : IsErr d (.tup [.str "arrow", .int i])
  | order {d : D} {n : Int} {as : List D} {i : Nat} (h : formOf d = some (n, as)) (ha : ∀ (j : Nat) (y : D), as[j]? = some y → isArrow n y = true) (hb : BadAt as i) (hl : ∀ j, j < i → ¬ BadAt as j) : IsErr d (.tup [.str "order", .int i])
  | fine {d : D} {n : Int} {as : List D} (h : formOf d = some (n, as)) (ha : ∀ (j : Nat) (y : D), as[j]? = some y → isArrow n y = true) (hl : ∀ j, ¬ BadAt as j) : IsErr d .non
theorem IsErr.det {d r r' : D} (h : IsErr d r) (h' : IsErr d r') : r = r' := by
  cases h with
  | form h =>
    cases h' with
    | form => rfl
    | arrow e => rw [h] at e; cases e
    | order e => rw [h] at e; cases e
    | fine e => rw [h] at e; cases e
  | @arrow x n as i h hx hb ha =>
    cases h' with
    | form e => rw [h] at e; cases e
    | @arrow x' n' as' i' e hx' hb' ha' =>
      rw [h] at e
      cases e
      rcases Nat.lt_trichotomy i i' with l | l | l
      · exact absurd (ha' i x l hx) (by rw [hb]; decide)
      · rw [l]
      · exact absurd (ha i' x' l hx') (by rw [hb']; decide)
    | order e ha' =>
      rw [h] at e
      cases e
      exact absurd (ha' i x hx) (by rw [hb]; decide)
    | fine e ha' =>
      rw [h] at e
      cases e
      exact absurd (ha' i x hx) (by rw [hb]; decide)
  | @order n as i h ha hb hl =>
    cases h' with
    | form e => rw [h] at e; cases e
    | @arrow x' n' as' i' e hx' hb' ha' =>
      rw [h] at e
      cases e
      exact absurd (ha i' x' hx') (by rw [hb']; decide)
    | @order n' as' i' e ha' hb' hl' =>
      rw [h] at e
      cases e
      rcases Nat.lt_trichotomy i i' with l | l | l
      · exact absurd hb (hl' i l)
      · rw [l]
      · exact absurd hb' (hl i' l)
    | fine e ha' hl' =>
      rw [h] at e
      cases e
      exact absurd hb (hl' i)
  | @fine n as h ha hl =>
    cases h' with
    | form e => rw [h] at e; cases e
    | @arrow x' n' as' i' e hx' hb' ha' =>
      rw [h] at e
      cases e
      exact absurd (ha i' x' hx') (by rw [hb']; decide)
    | @order n' as' i' e ha' hb' hl' =>
      rw [h] at e
      cases e
      exact absurd hb' (hl i')
    | fine => rfl
section
variable {P : Program} {w : World} {K : PySem.W.Frag} {mg : Str → Option Value} {base : Heap}
end
section
variable {P : Program} {w : World} {K : PySem.W.Frag} {mg : Str → Option Value} {base : Heap}
def spArrow (K : PySem.W.Frag) : Sp := fun vs H Q _ => ∃ (x : V) (d : D) (as : List Addr) (n : Int), vs = [.int n, x] ∧ Rep K H d x as ∧ Q (.bl (isArrow n d)) H
theorem arrow_pair {n : Int} {d : D} (h : isPair d = false) : isArrow n d = false := by
  cases d with
  | tup ds =>
    match ds, h with
    | [a, b], h => cases h
    | [], _ => rfl
    | [_], _ =>
      unfold isArrow
      split
      · rename_i e; cases e
      · rfl
    | _ :: _ :: _ :: _, _ =>
      unfold isArrow
      split
      · rename_i e; cases e
      · rfl
  | _ => rfl
theorem stop_int {n : Int} {d : D} (h : isStop n d = true) : ∃ i, d = .int i := by
  cases d <;> first | exact ⟨_, rfl⟩ | (cases h)
theorem arrow_two {n : Int} {a b : D} : isArrow n (.tup [a, b]) = true ↔ ∃ v w, a = .int v ∧ b = .int w ∧ isStop n a = true ∧ isStop n b = true ∧ ¬ v = w := by
  constructor
  · intro h
    cases a with
    | int v =>
      cases b with
      | int w =>
        simp only [isArrow, Bool.and_eq_true, Bool.not_eq_true', decide_eq_true_eq, decide_eq_false_iff_not] at h
        exact ⟨v, w, rfl, rfl, by simp [isStop, isWhole, h.1.1.1, h.1.1.2], by simp [isStop, isWhole, h.1.2.1, h.1.2.2], h.2⟩
      | _ => cases h
    | _ => cases h
  · rintro ⟨v, w, rfl, rfl, h1, h2, h3⟩
    simp only [isStop, isWhole, Bool.and_eq_true, decide_eq_true_eq] at h1 h2
    simp [isArrow, h1.1, h1.2, h2.1, h2.2, h3]
theorem ok_arrow {f : Addr} {fd : FuncData} (F : Fun K "is_arrow" "is_arrow" sArrow f fd) (O1 : Own P w K mg base 1 "is_pair" ["value"] (spPair K)) (O2 : Own P w K mg base 2 "is_stop" ["n", "value"] (spStop K)) : FnOk P w K mg base CX0 3 f fd ["n", "value"] (spArrow K) := by
  obtain ⟨fP, fdP, GP, mP, kP, bP⟩ := O1.ex
  obtain ⟨fS, fdS, GS, mS, kS, bS⟩ := O2.ex
  refine F.ok scArrow (fun vs H Q E h => ?_) (fun cdv A outer s H vs Q E hr h => ?_)
  · obtain ⟨x, d, as, n, rfl, _⟩ := h
    rfl
  · obtain ⟨x, d, as, n, rfl, hd, k⟩ := h
    have hr1 : Room 1 _ := hr.mono (by decide)
    refine ⟨_, pss_cons (ps_if (pt_not (pt_val (pe_call GP hr1 rfl mP kP bP .nil pass0 (pa_cons (pv 1) pa_nil)))) (pss_one (ps_ret pe_bl)) pss_nil)
      (pss_cons (ps_asg (pv 1) (pg_tup (by rfl) (pgs_cons (pg_name (i := 2) scArrow.nd rfl (.inl rfl)) (pgs_cons (pg_name (i := 3) scArrow.nd rfl (.inl rfl)) pgs_nil))))
      (pss_one (ps_ret (pe_and (pe_call GS hr rfl mS kS bS .nil pass0 (pa_cons (pv 0) (pa_cons (pv 2) pa_nil))) (pe_and (pe_call GS hr rfl mS kS bS .nil pass0 (pa_cons (pv 0) (pa_cons (pv 3) pa_nil))) (pe_one (pe_cmpR op_ne (pv 2) (pv 3) (nomark _)))))))), ?_⟩
    refine ⟨_, rfl, x, d, as, rfl, hd, _, rfl, ?_⟩
    cases e : isPair d with
    | false =>
      refine iteT ?_
      rw [arrow_pair e] at k
      exact k
    | true =>
      refine iteF ?_
      obtain ⟨a, b, rfl⟩ := two_of e
      simp only [Rep, RepAll] at hd
      obtain ⟨p, xs, bs, rfl, hp, ⟨y, r, b1, c1, rfl, ha, ⟨z, r2, b2, c2, rfl, hb, ⟨rfl, rfl⟩, rfl⟩, rfl⟩, na, rfl⟩ := hd
      refine ⟨_, rfl, p, [y, z], rfl, SqT.of hp, rfl, y, [z], rfl, z, [], rfl, rfl, ?_⟩
      refine ⟨_, rfl, _, rfl, y, a, b1, n, rfl, ha, _, rfl, ?_⟩
      cases e1 : isStop n a with
      | false =>
        refine iteF ?_
        have : isArrow n (.tup [a, b]) = false := Bool.eq_false_iff.mpr fun h => by
          obtain ⟨v, w, _, _, h1, _⟩ := arrow_two.mp h
          rw [e1] at h1
          cases h1
        rw [this] at k
        exact k
      | true =>
        refine iteT ⟨_, rfl, _, rfl, z, b, b2, n, rfl, hb, _, rfl, ?_⟩
        cases e2 : isStop n b with
        | false =>
          refine iteF ?_
          have : isArrow n (.tup [a, b]) = false := Bool.eq_false_iff.mpr fun h => by
            obtain ⟨v, w, _, _, _, h1, _⟩ := arrow_two.mp h
            rw [e2] at h1
            cases h1
          rw [this] at k
          exact k
        | true =>
          obtain ⟨v, rfl⟩ := stop_int e1
          obtain ⟨w', rfl⟩ := stop_int e2
          simp only [Rep] at ha hb
          obtain ⟨rfl, rfl⟩ := ha
          obtain ⟨rfl, rfl⟩ := hb
          refine iteT ⟨_, rfl, _, rfl, rfl, ?_⟩
          have e3 : isArrow n (.tup [.int v, .int w']) = !decide (V.int v = V.int w') := by
            by_cases ev : v = w'
            · subst ev
              rw [decide_eq_true rfl]
              exact Bool.eq_false_iff.mpr fun h => by
                obtain ⟨_, _, e1, e2, _, _, h1⟩ := arrow_two.mp h
                cases e1
                cases e2
                exact h1 rfl
            · rw [decide_eq_false (fun z => ev (V.int.inj z))]
              exact arrow_two.mpr ⟨v, w', rfl, rfl, e1, e2, ev⟩
          rw [e3] at k
          exact k
end
section
variable {P : Program} {w : World} {K : PySem.W.Frag} {mg : Str → Option Value} {base : Heap}
def isForm (d : D) : Bool := (formOf d).isSome
theorem form_two {d : D} (h : isForm d = true) : ∃ n ds, d = .tup [.int n, .tup ds] ∧ formOf d = some (n, ds) ∧ 1 ≤ n ∧ n ≤ 12 := by
  unfold isForm formOf at h
  split at h
  · rename_i n ds
    split at h
    · rename_i hn
      refine ⟨n, ds, rfl, ?_, hn⟩
      simp [formOf, hn]
    · cases h
  · cases h
theorem form_of {d a b : D} (e : d = .tup [a, b]) : isForm d = (isWhole 1 12 a && isT "tuple" b) := by
  subst e
  cases a with
  | int n =>
    cases b with
    | tup ds =>
      by_cases h : 1 ≤ n ∧ n ≤ 12
      · simp [isForm, formOf, isWhole, isT, h]
      · have h2 : (decide (1 ≤ n) && decide (n ≤ 12)) = false := by
          refine Bool.eq_false_iff.mpr fun z => h ?_
          simpa using z
        simp [isForm, formOf, isWhole, isT, h, h2]
    | _ => simp [isForm, formOf, isWhole, isT]
  | _ => simp [isForm, formOf, isWhole, isT]
theorem form_pair {d : D} (h : isPair d = false) : isForm d = false := by
  refine Bool.eq_false_iff.mpr fun z => ?_
  obtain ⟨n, ds, rfl, _⟩ := form_two z
  cases h
def spForm (K : PySem.W.Frag) : Sp := fun vs H Q _ => ∃ (x : V) (d : D) (as : List Addr), vs = [x] ∧ Rep K H d x as ∧ Q (.bl (isForm d)) H
theorem ok_form {f : Addr} {fd : FuncData} (F : Fun K "has_net_form" "has_net_form" sForm f fd) (B : NoNames mg) (t : Tok) (mM : mg "MAX_STOPS" = some (.int 12 t))
    (O1 : Own P w K mg base 1 "is_pair" ["value"] (spPair K)) (O2 : Own P w K mg base 1 "is_integer_between" ["value", "least", "most"] (spBetween K)) : FnOk P w K mg base CX0 2 f fd ["value"] (spForm K) := by
  obtain ⟨fP, fdP, GP, mP, kP, bP⟩ := O1.ex
  obtain ⟨fB, fdB, GB, mB, kB, bB⟩ := O2.ex
  refine F.ok scForm (fun vs H Q E h => ?_) (fun cdv A outer s H vs Q E hr h => ?_)
  · obtain ⟨x, d, as, rfl, _⟩ := h
    rfl
  · obtain ⟨x, d, as, rfl, hd, k⟩ := h
    refine ⟨_, pss_cons (ps_if (pt_not (pt_val (pe_call GP hr rfl mP kP bP .nil pass0 (pa_cons (pv 0) pa_nil)))) (pss_one (ps_ret pe_bl)) pss_nil)
      (pss_cons (ps_asg (pv 0) (pg_tup (by rfl) (pgs_cons (pg_name (i := 1) scForm.nd rfl (.inl rfl)) (pgs_cons (pg_name (i := 2) scForm.nd rfl (.inl rfl)) pgs_nil))))
      (pss_one (ps_ret (pe_and (pe_call GB hr rfl mB kB bB .nil pass0 (pa_cons (pv 1) (pa_cons pe_int (pa_cons (pe_glob (v := .int 12) rfl mM ⟨_, rfl⟩) pa_nil))))
        (pe_one (pe_isi (i := 2) (TN := "tuple") rfl (Or.inl rfl) (by decide) (by decide) B.isi B.tuple rfl rfl (by decide +kernel) (by decide) (by decide))))))), ?_⟩
    refine ⟨_, rfl, x, d, as, rfl, hd, _, rfl, ?_⟩
    cases e : isPair d with
    | false =>
      refine iteT ?_
      rw [form_pair e] at k
      exact k
    | true =>
      refine iteF ?_
      obtain ⟨a, b, rfl⟩ := two_of e
      rw [form_of rfl] at k
      simp only [Rep, RepAll] at hd
      obtain ⟨p, xs, bs, rfl, hp, ⟨y, r, b1, c1, rfl, ha, ⟨z, r2, b2, c2, rfl, hb, ⟨rfl, rfl⟩, rfl⟩, rfl⟩, na, rfl⟩ := hd
      refine ⟨_, rfl, p, [y, z], rfl, SqT.of hp, rfl, y, [z], rfl, z, [], rfl, rfl, ?_⟩
      refine ⟨_, rfl, y, a, b1, 1, 12, rfl, ha, _, rfl, ?_⟩
      cases e1 : isWhole 1 12 a with
      | false =>
        refine iteF ?_
        rw [e1] at k
        exact k
      | true =>
        rw [e1] at k
        exact iteT ⟨_, rfl, z, b, b2, "tuple", rfl, by decide, hb, k⟩
theorem arrow_ints {n : Int} {d : D} (h : isArrow n d = true) : ∃ v w, d = .tup [.int v, .int w] := by
  unfold isArrow at h
  split at h
  · exact ⟨_, _, rfl⟩
  · cases h
theorem rep_two {H : Hp} {v w : Int} {x : V} {as : List Addr} (h : Rep K H (.tup [.int v, .int w]) x as) : ∃ a, x = .ref a ∧ SqT K H a (([v, w] : List Int).map V.int) := by
  simp only [Rep, RepAll] at h
  obtain ⟨p, xs, bs, rfl, hp, ⟨y, r, b1, c1, rfl, ⟨rfl, rfl⟩, ⟨z, r2, b2, c2, rfl, ⟨rfl, rfl⟩, ⟨rfl, rfl⟩, rfl⟩, rfl⟩, na, rfl⟩ := h
  exact ⟨p, rfl, SqT.of hp⟩
def spError (K : PySem.W.Frag) : Sp := fun vs H Q _ => ∃ (x : V) (d : D) (as : List Addr), vs = [x] ∧ Rep K H d x as ∧ wt d ≤ 10000000 ∧ ∀ (r : D) (v : V) (bs : List Addr) (H' : Hp), IsErr d r → Same H H' → Rep K H' r v bs → (∀ b ∈ bs, H b = none) → small r → wt r ≤ 100 → dep r ≤ 1 → Q v H'
theorem ok_error {f : Addr} {fd : FuncData} (F : Fun K "net_error" "net_error" sError f fd) (B : NoNames mg)
    (O1 : Own P w K mg base 2 "has_net_form" ["value"] (spForm K)) (O2 : Own P w K mg base 3 "is_arrow" ["n", "value"] (spArrow K)) : FnOk P w K mg base CX0 4 f fd ["value"] (spError K) := by
  obtain ⟨fF, fdF, GF, mF, kF, bF⟩ := O1.ex
  obtain ⟨fA, fdA, GA, mA, kA, bA⟩ := O2.ex
  refine F.ok scError (fun vs H Q E h => ?_) (fun cdv A outer s H vs Q E hr h => ?_)
  · obtain ⟨x, d, as, rfl, _⟩ := h
    rfl
  · obtain ⟨x, d, as, rfl, hd, hw, k⟩ := h
    have hr2 : Room 2 _ := hr.mono (by decide)
    refine ⟨_, pss_cons (ps_if (pt_not (pt_val (pe_call GF hr2 rfl mF kF bF .nil pass0 (pa_cons (pv 0) pa_nil)))) (pss_one (ps_ret pe_str)) pss_nil)
      (pss_cons (ps_asg (pv 0) (pg_tup (by rfl) (pgs_cons (pg_name (i := 1) scError.nd rfl (.inl rfl)) (pgs_cons (pg_name (i := 2) scError.nd rfl (.inl rfl)) pgs_nil))))
      (pss_cons (ps_for PassesOwn.never rfl (pi_enumT (by rfl) B.enumerate (pa_cons (pv 2) pa_nil)) (pg_tup rfl (pgs_cons (pg_name (i := 3) scError.nd rfl (.inl rfl)) (pgs_cons (pg_name (i := 4) scError.nd rfl (.inl rfl)) pgs_nil)))
        (pss_one (ps_if (pt_not (pt_val (pe_call GA hr rfl mA kA bA .nil pass0 (pa_cons (pv 1) (pa_cons (pv 4) pa_nil))))) (pss_one (ps_ret (pe_tup (pa_cons pe_str (pa_cons (pv 3) pa_nil))))) pss_nil)))
      (pss_cons (ps_for PassesOwn.never rfl (pi_range2 (by rfl) B.range (pa_cons pe_int (pa_cons (pe_callB call_len_seq (by rfl) B.len PySem.boot_len (pa_cons (pv 2) pa_nil)) pa_nil))) (pg_name (i := 3) scError.nd rfl (.inl rfl))
        (pss_one (ps_if (pt_cmpR (op_leT hr.units0) (pe_ix ix_tup (pv 2) (pv 3) (fun _ _ => rfl)) (pe_ix ix_tup (pv 2) (pe_op op_sub (pv 3) pe_int) (fun _ _ => rfl)) (nomark _)) (pss_one (ps_ret (pe_tup (pa_cons pe_str (pa_cons (pv 3) pa_nil))))) pss_nil)))
      (pss_one (ps_ret pe_non))))), ?_⟩
    refine ⟨_, rfl, x, d, as, rfl, hd, _, rfl, ?_⟩
    cases e : isForm d with
    | false =>
      refine iteT ?_
      have hf : formOf d = none := by
        unfold isForm at e
        cases q : formOf d with
        | none => rfl
        | some z => rw [q] at e; cases e
      exact k (.str "form") (.str "form") [] H (.form hf) (Same.refl H) (by simp [Rep]) (fun _ h => absurd h (by simp)) (by simp only [small]) (by simp only [wt]; decide +kernel) (by simp only [dep]; decide)
    | true =>
      refine iteF ?_
      obtain ⟨n, ds, rfl, hf, hn⟩ := form_two e
      simp only [Rep, RepAll] at hd
      obtain ⟨p, xs, bs, rfl, hp, ⟨y, r, b1, c1, rfl, ⟨rfl, rfl⟩, ⟨z, r2, b2, c2, rfl, ⟨a, ys, cs, rfl, ha, hds, na, rfl⟩, ⟨rfl, rfl⟩, rfl⟩, rfl⟩, nap, rfl⟩ := hd
      refine ⟨_, rfl, p, _, rfl, SqT.of hp, rfl, _, _, rfl, _, [], rfl, rfl, ?_⟩
      have hl := hds.len
      have hsz : ys.length ≤ sizeLine := by
        simp only [wt, wtAll] at hw
        have h2 := wt_len ds
        rw [hl, sizeLine_eq]
        omega
      refine ⟨_, rfl, a, ys, rfl, SqT.of ha, for_it walk_te (fun i σ H' => (∃ s3 s4, σ = [some (.ref p), some (.int n), some (.ref a), s3, s4]) ∧ Same H H' ∧ ∀ (j : Nat) (y : D), j < i → ds[j]? = some y → isArrow n y = true)
        ⟨⟨_, _, rfl⟩, Same.refl H, fun j y h => absurd h (Nat.not_lt_zero _)⟩ (fun i σ H' _ h => SqT.of (h.2.1 _ _ ha)) ?_ ?_⟩
      · rintro i x σ H1 H2 hi ⟨⟨s3, s4, rfl⟩, s1, q⟩ ⟨T, x1, x2, rfl, nT, rfl, e1, e2⟩
        obtain rfl : V.int (i : Nat) = x1 := Option.some.inj e1
        refine ⟨T, [.int (i : Nat), x2], rfl, .inl (.inl upd_same), rfl, _, [x2], rfl, x2, [], rfl, rfl, ?_⟩
        have s2 : Same H (upd H1 T (.tup [.int (i : Nat), x2])) := s1.trans (same_new nT)
        obtain ⟨d2, b2, hd2, hr2', _⟩ := hds.at2 e2
        refine ⟨_, rfl, _, rfl, x2, d2, b2, n, rfl, hr2'.same s2, _, rfl, ?_⟩
        cases ea : isArrow n d2 with
        | true =>
          refine iteF ⟨⟨_, _, rfl⟩, s2, fun j y hj hy => ?_⟩
          rcases Nat.lt_succ_iff_lt_or_eq.mp hj with z | z
          · exact q j y z hy
          · subst z
            rw [hd2] at hy
            cases hy
            exact ea
        | false =>
          refine iteT ⟨_, rfl, by show 2 ≤ sizeLine; decide, fun p2 np2 => ?_⟩
          have hp2 : H p2 = none := s2.free np2
          have hlt : i ≤ sizeLine := Nat.le_trans (Nat.le_of_lt hi) hsz
          have hw := int_wt hlt
          refine k (.tup [.str "arrow", .int i]) _ _ _ (.arrow hf hd2 ea q) (s2.trans (same_new np2)) (rep_err np2) (fun b hb => ?_) ?_ ?_ ?_
          · obtain rfl := List.mem_singleton.mp hb
            exact hp2
          · simp only [small, smallAll]
            exact ⟨trivial, hw.2, trivial⟩
          · have : (reprText ("arrow" : Str)).length = 7 := by decide +kernel
            simp only [wt, wtAll, this]
            omega
          · simp only [dep, depAll]
            decide
      · rintro σ H1 ⟨⟨s3, s4, rfl⟩, s1, q⟩
        have qa : ∀ (j : Nat) (y : D), ds[j]? = some y → isArrow n y = true := fun j y hy => q j y (by rw [hl]; exact (List.getElem?_eq_some_iff.mp hy).1) hy
        have e0 : V.int ((ys.length : Nat) : Int) = V.int (ys.length : Int) := rfl
        have small62 : (ys.length : Int) < 2 ^ 62 := by
          rw [sizeLine_eq] at hsz
          omega
        refine ⟨_, rfl, a, ys, rfl, .inr (SqT.of (s1 _ _ ha)), 1, (ys.length : Int), rfl, ⟨by decide, by decide, by omega, small62⟩, for_range (lo := 1) (n := ((ys.length : Int) - 1).toNat)
          (fun i σ H' => (∃ s3 s4, σ = [some (.ref p), some (.int n), some (.ref a), s3, s4]) ∧ Same H H' ∧ ∀ j, j < i + 1 → ¬ BadAt ds j)
          ⟨⟨_, _, rfl⟩, s1, fun j hj hb => ?_⟩ ?_ ?_⟩
        · obtain ⟨_, _, h0, _⟩ := hb
          omega
        · rintro i σ H2 hi ⟨⟨s3, s4, rfl⟩, s2, ql⟩
          have hi1 : i + 1 < ys.length := by omega
          have hi0 : i < ys.length := by omega
          have g1 : ys[i + 1]? = some ys[i + 1] := List.getElem?_eq_getElem hi1
          have g0 : ys[i]? = some ys[i] := List.getElem?_eq_getElem hi0
          obtain ⟨d1, b1, hd1, r1, _⟩ := hds.at2 g1
          obtain ⟨d0, b0, hd0, r0, _⟩ := hds.at2 g0
          obtain ⟨v1, w1, rfl⟩ := arrow_ints (qa _ _ hd1)
          obtain ⟨v0, w0, rfl⟩ := arrow_ints (qa _ _ hd0)
          obtain ⟨a1, ea1, t1⟩ := rep_two (r1.same s2)
          obtain ⟨a0, ea0, t0⟩ := rep_two (r0.same s2)
          refine ⟨_, rfl, _, rfl, a, ys, _, _, rfl, rfl, SqT.of (s2 _ _ ha), at_of (j := i + 1) (by omega) g1, ?_⟩
          refine ⟨_, rfl, _, rfl, _, _, rfl, rfl, a, ys, _, _, rfl, rfl, SqT.of (s2 _ _ ha), at_of (j := i) (by omega) g0, ?_⟩
          refine ⟨a1, a0, [v1, w1], [v0, w0], ea1, ea0, t1, t0, _, rfl, ?_⟩
          refine ite2 (fun z => ?_) (fun z => ?_)
          · refine ⟨_, rfl, by show 2 ≤ sizeLine; decide, fun p2 np2 => ?_⟩
            have hp2 : H p2 = none := s2.free np2
            have ei : (1 : Int) + (i : Int) = ((i + 1 : Nat) : Int) := by omega
            have hw2 := int_wt (i := i + 1) (by omega)
            rw [ei]
            refine k (.tup [.str "order", .int ((i + 1 : Nat) : Int)]) _ _ _ (.order hf qa ⟨_, _, Nat.succ_pos i, hd1, hd0, z⟩ ql) (s2.trans (same_new np2)) (rep_err np2) (fun b hb => ?_) ?_ ?_ ?_
            · obtain rfl := List.mem_singleton.mp hb
              exact hp2
            · simp only [small, smallAll]
              exact ⟨trivial, hw2.2, trivial⟩
            · have : (reprText ("order" : Str)).length = 7 := by decide +kernel
              simp only [wt, wtAll, this]
              omega
            · simp only [dep, depAll]
              decide
          · refine ⟨⟨_, _, rfl⟩, s2, fun j hj hb => ?_⟩
            rcases Nat.lt_succ_iff_lt_or_eq.mp hj with y | y
            · exact ql j y hb
            · subst y
              obtain ⟨x', y', _, h1, h2, h3⟩ := hb
              rw [hd1] at h1
              cases h1
              rw [show i + 1 - 1 = i from rfl, hd0] at h2
              cases h2
              exact z h3
        · rintro σ H2 ⟨⟨s3, s4, rfl⟩, s2, ql⟩
          refine k .non .non [] H2 (.fine hf qa fun j hb => ?_) s2 (by simp [Rep]) (fun _ h => absurd h (by simp)) (by simp only [small]) (by simp only [wt]; decide) (by simp only [dep]; decide)
          obtain ⟨x', y', h0, h1, _⟩ := id hb
          have hj : j < ds.length := (List.getElem?_eq_some_iff.mp h1).1
          exact ql j (by omega) hb
end
end Sw
namespace Sw
open PySem PySem.Spec PyProof.Rows
/-! ### head, *rest = a list -/
section
variable {prog : Program} {w : World} {A : Around} {E : Value → Shared → Prop} {s : Shared}
theorem walk_rest {I l : Addr} {its : Array Value} (hh : A.handled = none) (hne : l ≠ I) (hs : 1 ≤ its.size) :
    WalksS prog w A I [I, l] [I] (fun a b => b = a) (its.size - 1) (fun i v => its[i + 1]? = some v) (fun i s => s.heap.IsListIter I l (i + 1) ∧ s.heap.IsList l its) where
  sub := fun b hb => by rw [List.mem_singleton.mp hb]; exact List.mem_cons_self
  grefl := fun _ => rfl
  gtrans := fun _ _ _ h1 h2 => h2.trans h1
  frame := fun i s h' tk st _ k => by
    obtain ⟨⟨o, ho, r⟩, ⟨o2, ho2, r2⟩⟩ := st
    exact ⟨⟨o, k I (by simp) _ ho, r⟩, ⟨o2, k l (by simp) _ ho2, r2⟩⟩
  item := fun i s Q E hi st hQ => by
    obtain ⟨h1, h2⟩ := st
    refine wpAny_pyNext_list_item h1 h2 (x := its[i + 1]) (by rw [Array.getElem?_eq_getElem (by omega)]) fun h' h3 h4 => ?_
    refine hQ _ _ (by rw [Array.getElem?_eq_getElem (by omega)]) ⟨h3, h2.extBut h4.extBut hne⟩ ⟨fun b o hb e => h4.extBut b o (fun z => hb (by rw [z]; exact List.mem_singleton.mpr rfl)) e, rfl, rfl, rfl, Nat.le_refl _⟩
  done := fun s Q E st hQ => by
    obtain ⟨h1, h2⟩ := st
    refine wpAny_pyNext_list_end hh h1 h2 (by rw [Array.getElem?_eq_none (by omega)]) fun h' h4 => ?_
    exact hQ _ ⟨fun b o hb e => h4 b o (fun z => hb (by rw [z]; exact List.mem_singleton.mpr rfl)) e, rfl, rfl, rfl, Nat.le_refl _⟩
  self := fun i s Q E st hQ => wpAny_pyIter_listiter st.1 hQ
theorem unpack_head {l : Addr} {v : Value} {vs : List Value} {targets : List (Bool × (Value → Sem Unit))} {Q : Unit → Shared → Prop} (hh : A.handled = none) (hl : s.heap.IsList l (v :: vs).toArray) (hz : vs.length ≤ sizeLine)
    (hn : targets.length = 2) (hstar : targets.findIdx? (·.1) = some 1)
    (h : ∀ (h' : Heap) (tk : Nat), (∀ b o, s.heap.get? b = some o → h'.get? b = some o) → wpAny (model prog w) A (assignInOrder (targets.map (·.2)) [v, .ref h'.objs.size]) Q E { s with heap := h'.push { cls := .type "list", data := .seq vs.toArray }, toks := tk }) :
    wpAny (model prog w) A (unpack (.ref l) targets) Q E s := by
  have hlt : l ≠ s.heap.objs.size := by obtain ⟨o, ho, _⟩ := hl; exact Nat.ne_of_lt (Heap.lt_size ho)
  unfold unpack
  rw [hn, hstar]
  refine wpAny_bind (wpAny_holding ?_)
  unfold unpackItems
  refine wpAny_bind ?_
  unfold notIterableAtAll
  refine wpAny_bind (wpAny_specialOf hl.typeIs F.slot_list_iter.lookup ?_)
  refine wpAny_pure ?_
  simp only [Bool.false_eq_true, if_false]
  refine wpAny_bind (wpAny_holding (wpAny_pyIter_list hl ?_))
  have hit0 : (s.heap.push { cls := .type "list_iterator", data := .fields #[.ref l, .int 0 0] }).IsListIter s.heap.objs.size l 0 := ⟨_, Heap.get?_push_size _ rfl, rfl, rfl⟩
  have hl0 := hl.push { cls := .type "list_iterator", data := .fields #[.ref l, .int 0 0] }
  have k0 : ∀ b o, s.heap.get? b = some o → (s.heap.push { cls := .type "list_iterator", data := .fields #[.ref l, .int 0 0] }).get? b = some o := fun b o e => Heap.get?_push_of_some _ e
  have z0 : (s.heap.push { cls := .type "list_iterator", data := .fields #[.ref l, .int 0 0] }).objs.size = s.heap.objs.size + 1 := Heap.size_push ..
  generalize (s.heap.push { cls := .type "list_iterator", data := .fields #[.ref l, .int 0 0] }) = h0 at hit0 hl0 k0 z0 ⊢
  refine wpAny_bind (wpAny_holding ?_)
  show wpAny _ _ (pyNext (.ref s.heap.objs.size) >>= _) _ _ _
  refine wpAny_bind (wpAny_pyNext_list_item hit0 hl0 (x := v) rfl fun h1 hit1 s1 => ?_)
  show wpAny _ _ (holding [v] (pure []) >>= _) _ _ _
  refine wpAny_bind (wpAny_holding (wpAny_pure ?_))
  refine wpAny_pure ?_
  rw [if_neg (by simp)]
  have hl1 := hl0.extBut s1.extBut hlt
  have szs : (v :: vs).toArray.size - 1 = vs.length := by simp
  have W := walk_rest (prog := prog) (w := w) (A := A.in1) (I := s.heap.objs.size) (l := l) (its := (v :: vs).toArray) hh hlt (by simp)
  rw [szs] at W
  have k1 : ∀ b o, s.heap.get? b = some o → h1.get? b = some o := fun b o e => s1.extBut b o (Nat.ne_of_lt (Heap.lt_size e)) (k0 b o e)
  refine wpAny_bind (wpAny_holding (wpAny_collect_iter (.inr (.inr (.inl rfl))) W (fun i s st => st.1.typeIs) ⟨hit1, hl1⟩ (fun b hb => ?_) (by simp) (fun s' acc mv ia => ?_) hz))
  · rcases List.mem_cons.mp hb with z | z
    · rw [z]
      obtain ⟨o, ho, _⟩ := hit1
      exact Heap.lt_size ho
    · rw [List.mem_singleton.mp z]
      obtain ⟨o, ho, _⟩ := hl1
      exact Heap.lt_size ho
  · have ea : acc.toList = vs := by
      refine List.ext_getElem? fun i => ?_
      obtain ⟨i1, i2⟩ := ia
      by_cases hi : i < vs.length
      · have e1 : acc[i]? = some acc[i] := by rw [Array.getElem?_eq_getElem (by omega)]
        have e2 := i2 i _ e1
        rw [Array.getElem?_toList, e1, ← e2]
        simp
      · rw [List.getElem?_eq_none (by rw [Array.length_toList]; omega), List.getElem?_eq_none (by omega)]
    rw [ea]
    rw [if_neg (by simp)]
    have k2 : ∀ b o, s.heap.get? b = some o → s'.heap.get? b = some o := fun b o e => mv.heap b o (fun z => Nat.ne_of_lt (Heap.lt_size e) (List.mem_singleton.mp z)) (k1 b o e)
    obtain ⟨hp, g, dr, tk, os⟩ := s'
    obtain ⟨_, g1, g2, g3, _⟩ := mv
    dsimp only at g1 g2 g3 k2
    subst g1
    subst g2
    subst g3
    refine wpAny_bind (wpAny_newList ?_ (by simpa using hz))
    refine wpAny_pure ?_
    rw [show (2 - 1 - 1 : Nat) = 0 from rfl, Nat.sub_zero, List.drop_length, List.take_length]
    exact h hp tk k2
end
end Sw
namespace Sw
open PySem PySem.Spec PyProof.Rows L2
section
variable {X : Cx} {pos : Pos}
/-- head, *rest = a list of one item or more: rest is a new list -/
def gHead (K : PySem.W.Frag) (t : TGs) : TG := fun v σ H Q => ∃ a x xs, v = .ref a ∧ SqL K H a (x :: xs) ∧ ∀ r, H r = none → t [x, .ref r] σ (upd H r (.lst xs)) Q
theorem pg_head {es : List Expr} {k : Nat} {t : TGs} (hc : X.calm = true) (h : PGs X es t)
    (hn : (assignEach es X.env).length = 2 := by rfl) (hst : (assignEach es X.env).findIdx? (·.1) = some 1 := by rfl) : PG X (.Tuple es k pos) (gHead X.K t) := by
  refine ⟨fun pins s σ H v u Q I r hw => ?_⟩
  obtain ⟨a, x, xs, e1, hq, hw⟩ := hw
  subst e1
  cases r
  obtain ⟨its, rv, hl, hz⟩ := I.list hq
  cases rv with
  | cons rx rr =>
    rw [arm_assign_Tuple]
    refine wpAny_bind (wpAny_standAt (unpack_head (I.ok.hd hc) hl.isList ?_ hn hst fun h' tk kp => ?_))
    · have := rr.length
      rw [List.length_cons] at hz
      omega
    · have I1 : Inv X pins σ H { s with heap := h', toks := tk } := I.kept (t' := tk) kp
      have I2 : Inv X pins σ (upd H h'.objs.size (.lst xs)) { s with heap := h'.push { cls := .type "list", data := .seq _ }, toks := tk } :=
        I1.laid (t' := tk) (fun b o e => Heap.get?_push_of_some _ e) (Nat.le_refl _) (show ObjOk X.prog X.w _ _ _ (.lst xs) from ⟨by rw [List.length_cons] at hz; omega, _, 0, rr, Heap.get?_push_size _ rfl⟩)
      exact h.run pins _ σ _ [x, .ref h'.objs.size] _ Q I2 (.cons rx (.cons (show RelV (.ref _) _ from rfl) .nil)) (hw _ (I1.hok.fresh (Nat.le_refl _)))
/-- (head, *rest) as targets: the starred one is assigned as its name is -/
theorem pgs_star {e : Expr} {p : Pos} {t : TG} (h1 : PG X e t) : PGs X [.Starred e p] (gCons t gNil) := by
  refine ⟨fun pins s σ H vs us Q I r h => ?_⟩
  obtain ⟨v, vr, e1, h⟩ := h
  subst e1
  cases r with
  | cons r rr =>
    show wpAny _ _ (assignInOrder (assign e X.env :: []) _) _ _ _
    refine assignInOrder_cons (thn (h1.run pins s σ H _ _ _ I r h) fun _ s1 ⟨σ1, H1, I1, q1⟩ => ?_)
    obtain ⟨e2, q1⟩ := q1
    subst e2
    cases rr
    exact assignInOrder_nil ⟨σ1, H1, I1, q1⟩
end
end Sw
namespace Sw
open PySem L2
abbrev sDeck : Stmt := top 44
abbrev sDraw : Stmt := top 45
abbrev sPick : Stmt := top 46
abbrev sMixed : Stmt := top 47
theorem scDeck : FnScope ["script", "deck", "cell", "whole", "state"] ["script"] (defScope sDeck) := ⟨rfl, rfl, rfl, by decide +kernel, rfl, by decide +kernel, by decide +kernel⟩
theorem scDraw : FnScope ["deck", "many", "whole", "one", "two"] ["deck", "many"] (defScope sDraw) := ⟨rfl, rfl, rfl, by decide +kernel, rfl, by decide +kernel, by decide +kernel⟩
theorem scPick : FnScope ["deck", "items"] ["deck", "items"] (defScope sPick) := ⟨rfl, rfl, rfl, by decide +kernel, rfl, by decide +kernel, by decide +kernel⟩
theorem scMixed : FnScope ["deck", "items", "left", "found"] ["deck", "items"] (defScope sMixed) := ⟨rfl, rfl, rfl, by decide +kernel, rfl, by decide +kernel, by decide +kernel⟩
/-! ### the deck -/
def kD : Key := .inr "deep"
def kS : Key := .inr "state"
theorem kDS : ¬ kD = kS := by decide +kernel
theorem kSD : ¬ kS = kD := by decide +kernel
def deckL (d : Addr) (st : Int) : List (Key × V) := [(kD, .ref d), (kS, .int st)]
theorem deck_deep (d : Addr) (st : Int) : valV (deckL d st) kD = some (.ref d) := by
  show ((deckL d st).find? fun kv => decide (kv.1 = kD)).map (·.2) = _
  unfold deckL
  rw [List.find?_cons, decide_eq_true rfl]
  rfl
theorem deck_state (d : Addr) (st : Int) : valV (deckL d st) kS = some (.int st) := by
  show ((deckL d st).find? fun kv => decide (kv.1 = kS)).map (·.2) = _
  unfold deckL
  rw [List.find?_cons, decide_eq_false kDS, List.find?_cons, decide_eq_true rfl]
  rfl
theorem deck_put_deep (d e : Addr) (st : Int) : putK (deckL d st) kD (.ref e) = deckL e st := by
  unfold putK deckL
  rw [if_pos (by simp)]
  simp [kSD]
theorem deck_put_state (d : Addr) (st z : Int) : putK (deckL d st) kS (.int z) = deckL d z := by
  unfold putK deckL
  rw [if_pos (by simp)]
  simp [kDS]
theorem deck_new (d : Addr) (st : Int) : mergeK [] [(kD, V.ref d), (kS, V.int st)] = deckL d st := by
  show putK (putK [] kD (.ref d)) kS (.int st) = _
  have e1 : putK ([] : List (Key × V)) kD (.ref d) = [(kD, .ref d)] := by simp [putK]
  rw [e1]
  unfold putK deckL
  rw [if_neg (by simp [kDS])]
  rfl
/-- a deck at p, its deep cells at d: at most m -/
structure Deck (H : Hp) (p d : Addr) (m : Nat) : Prop where
  ex : ∃ (ns : List Int) (st : Int), H p = some (.dK (deckL d st)) ∧ H d = some (.lst (ns.map V.int)) ∧ ns.length ≤ m ∧ (∀ n ∈ ns, 0 ≤ n) ∧ 0 ≤ st ∧ st < 2 ^ 61
theorem Deck.same {H H' : Hp} {p d : Addr} {m : Nat} (D : Deck H p d m) (s : Same H H') : Deck H' p d m := by
  obtain ⟨ns, st, h1, h2, r⟩ := D.ex
  exact ⟨ns, st, s _ _ h1, s _ _ h2, r⟩
theorem Deck.ne {H : Hp} {p d : Addr} {m : Nat} (D : Deck H p d m) : p ≠ d := by
  obtain ⟨ns, st, h1, h2, r⟩ := D.ex
  exact ne_of h1 h2 (by intro z; cases z)
theorem Deck.mono {H : Hp} {p d : Addr} {m k : Nat} (D : Deck H p d m) (h : m ≤ k) : Deck H p d k := by
  obtain ⟨ns, st, h1, h2, h3, r⟩ := D.ex
  exact ⟨ns, st, h1, h2, Nat.le_trans h3 h, r⟩
theorem dget_deep {H : Hp} {p d : Addr} {st : Int} (h : H p = some (.dK (deckL d st))) : DGet H p (.str "deep") (some (.ref d)) := by
  have q := DGet.k (k := kD) h
  rw [deck_deep] at q
  exact q
theorem dget_state {H : Hp} {p d : Addr} {st : Int} (h : H p = some (.dK (deckL d st))) : DGet H p (.str "state") (some (.int st)) := by
  have q := DGet.k (k := kS) h
  rw [deck_state] at q
  exact q
theorem dput_deep {H : Hp} {p d : Addr} {st : Int} (e : Addr) (h : H p = some (.dK (deckL d st))) : DPut H p (.str "deep") (.ref e) (upd H p (.dK (deckL e st))) := by
  have q := DPut.k (k := kD) (v := .ref e) h (by show 2 < sizeLine; rw [sizeLine_eq]; omega)
  rw [deck_put_deep] at q
  exact q
theorem dput_state {H : Hp} {p d : Addr} {st : Int} (z : Int) (h : H p = some (.dK (deckL d st))) : DPut H p (.str "state") (.int z) (upd H p (.dK (deckL d z))) := by
  have q := DPut.k (k := kS) (v := .int z) h (by show 2 < sizeLine; rw [sizeLine_eq]; omega)
  rw [deck_put_state] at q
  exact q
theorem cut_int (ns : List Int) (lo hi : Option Int) : ∃ ms : List Int, cutV (ns.map V.int) lo hi = ms.map V.int ∧ ms.length ≤ ns.length := by
  refine ⟨(ns.drop (HT.sIx (ns.map V.int).length 0 lo)).take (HT.sIx (ns.map V.int).length (ns.map V.int).length hi - HT.sIx (ns.map V.int).length 0 lo), ?_, ?_⟩
  · unfold cutV
    rw [List.map_take, List.map_drop]
  · rw [List.length_take, List.length_drop]
    omega
section
variable {P : Program} {w : World} {K : PySem.W.Frag} {mg : Str → Option Value} {base : Heap}
def spDeck (K : PySem.W.Frag) : Sp := fun vs H Q _ => ∃ (a : Addr) (ns : List Int), vs = [.ref a] ∧ SqL K H a (ns.map V.int) ∧ ns.length ≤ 63 ∧ ∀ (p d : Addr) (H' : Hp), Same H H' → H p = none → H d = none → Deck H' p d 63 → Q (.ref p) H'
theorem ok_deck {f : Addr} {fd : FuncData} (F : Fun K "_law_deck" "_law_deck" sDeck f fd) (B : NoNames mg) : FnOk P w K mg base CX0 1 f fd ["script"] (spDeck K) := by
  refine F.ok scDeck (fun vs H Q E h => ?_) (fun cdv A outer s H vs Q E hr h => ?_)
  · obtain ⟨a, ns, rfl, _⟩ := h
    rfl
  · obtain ⟨a, ns, rfl, hS, hl, k⟩ := h
    have hu := hu_of hr
    refine ⟨_, pss_cons (ps_set (i := 1) scDeck.nd rfl (.inl rfl) (pe_disp (pps_cons pe_str (pe_lst pa_nil) (pps_cons pe_str (pe_op op_add pe_int (pe_callB call_len_seq (by rfl) B.len PySem.boot_len (pa_cons (pe_slice sl_list (pv 0) po_none (po_some pe_int)) pa_nil))) pps_nil)) (by rfl) (by rfl) (fun z => by cases z) (by decide)))
      (pss_cons (ps_for PassesOwn.never rfl (pi_list (pe_slice sl_list (pv 0) po_none (po_some pe_int))) (pg_name (i := 2) scDeck.nd rfl (.inl rfl))
        (pss_cons (ps_set (i := 3) scDeck.nd rfl (.inl rfl) (pe_callB call_abs (by rfl) B.abs (by decide +kernel) (pa_cons (pv 2) pa_nil)))
        (pss_cons (ps_if (pt_cmpR op_ge (pv 3) (pe_op op_pow pe_int pe_int) (nomark _)) (pss_one (ps_dput hu (pv 1) pe_str (pe_op op_cat (pe_lst (pa_cons (pv 3) pa_nil)) (pe_dget hu (pv 1) pe_str (fun _ _ => rfl))) rfl)) pss_nil)
        (pss_cons (ps_set (i := 4) scDeck.nd rfl (.inl rfl) (pe_op op_add (pe_op op_mul (pe_op op_add (pe_op op_add (pe_op op_add (pe_dget hu (pv 1) pe_str (fun _ _ => rfl)) (pe_op op_mul pe_int (pv 3)))
            (pe_callTy call_int1 (by rfl) B.int (by decide +kernel) (pa_cons (pe_cmpR op_lt (pv 2) pe_int (nomark _)) pa_nil))) pe_int) pe_int) pe_int))
        (pss_one (ps_dput hu (pv 1) pe_str (pe_op op_mod (pe_callTy call_int1 (by rfl) B.int (by decide +kernel) (pa_cons (pv 4) pa_nil)) pe_int) rfl))))))
      (pss_one (ps_ret (pv 1)))), ?_⟩
    -- the deck
    intro p np
    refine ⟨Nat.zero_le _, fun l nl => ?_⟩
    have nlp : p ≠ l := fun z => by
      rw [z, upd_same] at nl
      cases nl
    have nl0 : H l = none := by
      rw [upd_ne nlp.symm] at nl
      exact nl
    have s1 : Same H (upd (upd H p (.dK [])) l (.lst [])) := (same_new np).trans (same_new nl)
    obtain ⟨ms, em, lm⟩ := cut_int ns none (some 63)
    refine ⟨_, rfl, 63, rfl, a, ns.map V.int, rfl, s1.seq hS, fun c nc => ?_⟩
    rw [em]
    refine ⟨c, _, rfl, .inl (SqL.of upd_same), _, _, rfl, rfl, ?_⟩
    have s2 := s1.trans (same_new (o := .lst (ms.map V.int)) nc)
    have ncp : p ≠ c := fun z => by
      rw [← z, upd_ne nlp, upd_same] at nc
      cases nc
    have ncl : l ≠ c := fun z => by
      rw [← z, upd_same] at nc
      cases nc
    refine ⟨by rw [upd_ne ncp, upd_ne nlp, upd_same], [(kD, .ref l), (kS, .int (1279811 + ((ms.map V.int).length : Int)))], rfl, by show 2 ≤ 15; decide, ?_⟩
    rw [deck_new]
    have em2 : (ms.map V.int).length ≤ 63 := by
      rw [List.length_map]
      omega
    have d0 : Deck (upd (upd (upd (upd H p (.dK [])) l (.lst [])) c (.lst (ms.map V.int))) p (.dK (deckL l (1279811 + ((ms.map V.int).length : Int))))) p l 0 :=
      ⟨[], _, upd_same, by rw [upd_ne nlp.symm, upd_ne ncl, upd_same]; rfl, Nat.le_refl _, fun _ h => absurd h (by simp), by omega, by omega⟩
    have s3 : Same H (upd (upd (upd (upd H p (.dK [])) l (.lst [])) c (.lst (ms.map V.int))) p (.dK (deckL l (1279811 + ((ms.map V.int).length : Int))))) := fun b o e => by
      rw [upd_ne (ne_of_none e np)]
      exact s2 b o e
    -- for cell in script[:63]
    refine ⟨_, rfl, 63, rfl, a, ns.map V.int, rfl, s3.seq hS, fun c2 nc2 => ?_⟩
    rw [em]
    have s4 := s3.trans (same_new (o := .lst (ms.map V.int)) nc2)
    have p0 : ∀ {H' : Hp}, (∃ d', Deck H' p d' 0) → True := fun _ => trivial
    refine ⟨c2, rfl, ⟨_, SqL.of upd_same⟩, for_it (walk_list (xs := ms.map V.int)) (fun i σ H' => ∃ s2 s3 s4 d', σ = [some (.ref a), some (.ref p), s2, s3, s4] ∧ Same H H' ∧ H' c2 = some (.lst (ms.map V.int)) ∧ H d' = none ∧ Deck H' p d' i)
      ⟨none, none, none, l, rfl, s4, upd_same, nl0, d0.same (same_new nc2)⟩ (fun i σ H' _ h => by obtain ⟨_, _, _, _, _, _, h3, _⟩ := h; exact SqL.of h3) ?_ ?_⟩
    · rintro i x σ H0 H1 hi ⟨t2, t3, t4, d', rfl, w1, w2, w3, D⟩ ⟨rfl, ex⟩
      obtain ⟨z, rfl⟩ : ∃ z, x = V.int z := by
        rw [List.getElem?_map] at ex
        cases q : ms[i]? with
        | none => rw [q] at ex; cases ex
        | some z => rw [q] at ex; exact ⟨z, (Option.some.inj ex).symm⟩
      have hi63 : i < 63 := by
        rw [List.length_map] at hi
        omega
      -- whole = abs(cell)
      refine ⟨_, rfl, z, rfl, ?_⟩
      obtain ⟨deep, st, hp1, hd1, hl1, hn1, hs1, hs2⟩ := id D.ex
      have hW : 0 ≤ (if z < 0 then -z else z) := by split <;> omega
      generalize (if z < 0 then -z else z) = W at hW ⊢
      refine ⟨_, rfl, _, _, rfl, rfl, ⟨by decide, by decide, by decide⟩, _, _, rfl, rfl, _, rfl, ?_⟩
      refine ite2 (fun _ => ?yes) (fun _ => ?no)
      case' yes =>
        -- deck["deep"] = [whole] + deck["deep"]
        refine ⟨_, rfl, by show 1 ≤ sizeLine; decide, fun q nq => ?_⟩
        have sq : Same H1 (upd H1 q (.lst [.int W])) := same_new nq
        refine ⟨_, rfl, p, _, rfl, dget_deep (sq _ _ hp1), q, d', _, _, rfl, rfl, upd_same, sq _ _ hd1, ?_, fun e ne => ?_⟩
        · rw [List.length_map, sizeLine_eq]
          show 1 + deep.length ≤ _
          omega
        have se := sq.trans (same_new (o := .lst ([V.int W] ++ deep.map V.int)) ne)
        refine ⟨_, rfl, p, _, rfl, dput_deep e (se _ _ hp1), ?_⟩
        have ep : e ≠ p := fun y => by
          rw [y, sq _ _ hp1] at ne
          cases ne
        have cp : c2 ≠ p := ne_of w2 hp1 (by intro y; cases y)
        have e0 : H e = none := w1.free (sq.free ne)
        have y1 : Same H (upd (upd (upd H1 q (.lst [.int W])) e (.lst ([V.int W] ++ deep.map V.int))) p (.dK (deckL e st))) := fun b o h => by
          rw [upd_ne (ne_of_none h np)]
          exact se _ _ (w1 b o h)
        have y2 : (upd (upd (upd H1 q (.lst [.int W])) e (.lst ([V.int W] ++ deep.map V.int))) p (.dK (deckL e st))) c2 = some (.lst (ms.map V.int)) := by
          rw [upd_ne cp]
          exact se _ _ w2
        have y3 : ∃ (d2 : Addr) (deep2 : List Int) (st2 : Int), (H d2 = none ∧ (upd (upd (upd H1 q (.lst [.int W])) e (.lst ([V.int W] ++ deep.map V.int))) p (.dK (deckL e st))) p = some (.dK (deckL d2 st2)) ∧
            (upd (upd (upd H1 q (.lst [.int W])) e (.lst ([V.int W] ++ deep.map V.int))) p (.dK (deckL e st))) d2 = some (.lst (deep2.map V.int)) ∧ deep2.length ≤ i + 1 ∧ (∀ n ∈ deep2, 0 ≤ n)) ∧ 0 ≤ st2 ∧ st2 < 2 ^ 61 :=
          ⟨e, W :: deep, st, ⟨e0, upd_same, by rw [upd_ne ep, upd_same]; rfl, by simp only [List.length_cons]; omega, fun n hn => by
            rcases List.mem_cons.mp hn with y | y
            · rw [y]; exact hW
            · exact hn1 n y⟩, hs1, hs2⟩
        generalize (upd (upd (upd H1 q (.lst [.int W])) e (.lst ([V.int W] ++ deep.map V.int))) p (.dK (deckL e st))) = H2 at y1 y2 y3 ⊢
      case' no =>
        have y1 : Same H H1 := w1
        have y2 : H1 c2 = some (.lst (ms.map V.int)) := w2
        have y3 : ∃ (d2 : Addr) (deep2 : List Int) (st2 : Int), (H d2 = none ∧ H1 p = some (.dK (deckL d2 st2)) ∧ H1 d2 = some (.lst (deep2.map V.int)) ∧ deep2.length ≤ i + 1 ∧ (∀ n ∈ deep2, 0 ≤ n)) ∧ 0 ≤ st2 ∧ st2 < 2 ^ 61 :=
          ⟨d', deep, st, ⟨w3, hp1, hd1, by omega, hn1⟩, hs1, hs2⟩
        generalize H1 = H2 at y1 y2 y3 ⊢
      all_goals
        obtain ⟨d2, deep2, st2, ⟨g0, g1, g2, g3, g4⟩, g5, g6⟩ := y3
        -- state
        refine ⟨_, rfl, p, _, rfl, dget_state g1, _, rfl, _, _, rfl, rfl, .inl ⟨by decide, by decide⟩, _, _, rfl, rfl, ?_⟩
        refine ⟨_, rfl, _, _, rfl, rfl, .inr ⟨_, rfl, _, _, rfl, rfl, ?_⟩⟩
        refine ⟨_, _, rfl, rfl, _, _, rfl, rfl, .inr ⟨by decide, by decide⟩, _, _, rfl, rfl, ?_⟩
        refine ⟨_, rfl, .inl ⟨_, rfl, _, _, rfl, rfl, (by show (0 : Int) < 2305843009213693951; decide), _, rfl, p, _, rfl, dput_state _ g1, ?_⟩⟩
        have np2 : p ≠ d2 := ne_of g1 g2 (by intro y; cases y)
        have cp : c2 ≠ p := ne_of y2 g1 (by intro y; cases y)
        refine ⟨_, _, _, d2, rfl, fun b o h => ?_, ?_, g0, ⟨deep2, _, upd_same, ?_, g3, g4, Int.emod_nonneg _ (by decide), Int.lt_of_lt_of_le (Int.emod_lt_of_pos _ (by decide)) (by decide)⟩⟩
        · rw [upd_ne (ne_of_none h np)]
          exact y1 b o h
        · rw [upd_ne cp]
          exact y2
        · rw [upd_ne np2.symm]
          exact g2
    · rintro σ H1 ⟨t2, t3, t4, d', rfl, w1, w2, w3, D⟩
      refine ⟨_, rfl, k p d' H1 w1 np w3 (D.mono ?_)⟩
      rw [List.length_map]
      omega
end
end Sw
namespace Sw
open PySem L2
/-- all but the deck stands -/
def Kp (p d : Addr) (H H' : Hp) : Prop := ∀ b o, H b = some o → b ≠ p → b ≠ d → H' b = some o
theorem Kp.of {p d : Addr} {H H' : Hp} (s : Same H H') : Kp p d H H' := fun b o e _ _ => s b o e
theorem Kp.refl {p d : Addr} {H : Hp} : Kp p d H H := fun _ _ e _ _ => e
theorem Kp.trans {p d : Addr} {H H1 H2 : Hp} (s : Kp p d H H1) (t : Kp p d H1 H2) : Kp p d H H2 := fun b o e n1 n2 => t b o (s b o e n1 n2) n1 n2
theorem Kp.new {p d : Addr} {H : Hp} {a : Addr} {o : HO} (h : H a = none) : Kp p d H (upd H a o) := .of (same_new h)
theorem Deck.ne_none {H : Hp} {p d : Addr} {m : Nat} (D : Deck H p d m) {a : Addr} (h : H a = none) : a ≠ p ∧ a ≠ d := by
  obtain ⟨ns, st, h1, h2, r⟩ := D.ex
  refine ⟨fun z => ?_, fun z => ?_⟩
  · rw [z, h1] at h
    cases h
  · rw [z, h2] at h
    cases h
/-- what is not yet stands not behind either -/
theorem Deck.free {H H' : Hp} {p d : Addr} {m : Nat} (D : Deck H p d m) (s : Kp p d H H') {a : Addr} (h : H' a = none) (D' : Deck H' p d m) : H a = none := by
  cases e : H a with
  | none => rfl
  | some o =>
    have n := D'.ne_none h
    have := s a o e n.1 n.2
    rw [this] at h
    cases h
theorem eqv_nil (ns : List Int) : (!PyData.eqv (.list (ns.map PyData.int)) (.list [])) = decide (ns ≠ []) := by
  cases ns with
  | nil => simp [PyData.eqv, PyData.eqvAll]
  | cons a r => simp [PyData.eqv, PyData.eqvAll]
theorem dpInts {K : PySem.W.Frag} {H : Hp} : ∀ ns : List Int, DpAll K H (ns.map V.int) (ns.map PyData.int)
  | [] => .nil
  | n :: r => .cons (.int n) (dpInts r)
theorem last_ints {ns : List Int} (h : ns ≠ []) : ∃ n ms, ns = ms ++ [n] ∧ (ns.map V.int)[(ns.map V.int).length - 1]? = some (.int n) ∧ (ns.map V.int).dropLast = ms.map V.int := by
  refine ⟨ns.getLast h, ns.dropLast, (List.dropLast_concat_getLast h).symm, ?_, ?_⟩
  · rw [List.getElem?_map, List.length_map]
    rw [← List.getLast?_eq_getElem?, List.getLast?_eq_some_getLast h]
    rfl
  · rw [List.map_dropLast]
section
variable {P : Program} {w : World} {K : PySem.W.Frag} {mg : Str → Option Value} {base : Heap}
def spDraw : Sp := fun vs H Q _ => ∃ (p d : Addr) (m : Int), vs = [.ref p, .int m] ∧ Deck H p d 63 ∧ m < 1000000 ∧ ∀ (r : Int) (H' : Hp), 0 ≤ r → (1 ≤ m → r < m) → (m < 2 → r = 0) → Deck H' p d 63 → Kp p d H H' → Q (.int r) H'
theorem ok_draw {f : Addr} {fd : FuncData} (F : Fun K "_law_draw" "_law_draw" sDraw f fd) (B : NoNames mg) : FnOk P w K mg base CX0 1 f fd ["deck", "many"] (spDraw) := by
  refine F.ok scDraw (fun vs H Q E h => ?_) (fun cdv A outer s H vs Q E hr h => ?_)
  · obtain ⟨p, d, m, rfl, _⟩ := h
    rfl
  · obtain ⟨p, d, m, rfl, D, hm, k⟩ := h
    have hu := hu_of hr
    refine ⟨_, pss_cons (ps_if (pt_cmpR op_lt (pv 1) pe_int (nomark _)) (pss_one (ps_ret pe_int)) pss_nil)
      (pss_cons (ps_if (pt_cmpR (op_neD hr.units) (pe_dget hu (pv 0) pe_str (fun _ _ => rfl)) (pe_lst pa_nil) (nomark _))
        (pss_cons (ps_set (i := 2) scDraw.nd rfl (.inl rfl) (pe_bm0 PySem.F.plainAttrs_list PySem.F.slot_list_pop PySem.F.type_list_pop mt_pop (pe_dget hu (pv 0) pe_str (fun _ _ => rfl))))
        (pss_cons (ps_if (pt_cmpR op_ge (pv 2) (pv 1) (nomark _)) (pss_one (ps_expr (pe_bm PySem.F.plainAttrs_list PySem.F.slot_list_append PySem.F.type_list_append mt_append (pe_dget hu (pv 0) pe_str (fun _ _ => rfl)) (pa_cons (pe_op op_fdiv (pv 2) (pv 1)) pa_nil)))) pss_nil)
        (pss_one (ps_ret (pe_op op_mod (pe_callTy call_int1 (by rfl) B.int (by decide +kernel) (pa_cons (pv 2) pa_nil)) (pv 1)))))) pss_nil)
      (pss_cons (ps_set (i := 3) scDraw.nd rfl (.inl rfl) (pe_op op_mod (pe_callTy call_int1 (by rfl) B.int (by decide +kernel) (pa_cons (pe_op op_add (pe_op op_mul (pe_dget hu (pv 0) pe_str (fun _ _ => rfl)) pe_int) pe_int) pa_nil)) pe_int))
      (pss_cons (ps_dput hu (pv 0) pe_str (pv 3) rfl)
      (pss_cons (ps_set (i := 4) scDraw.nd rfl (.inl rfl) (pe_op op_mod (pe_callTy call_int1 (by rfl) B.int (by decide +kernel) (pa_cons (pe_op op_add (pe_op op_add (pe_op op_mul (pv 3) (pv 3)) (pe_op op_mul pe_int (pv 3))) pe_int) pa_nil)) pe_int))
      (pss_one (ps_ret (pe_op op_mod (pe_callTy call_int1 (by rfl) B.int (by decide +kernel) (pa_cons (pe_op op_fdiv (pv 4) pe_int) pa_nil)) (pv 1)))))))), ?_⟩
    obtain ⟨ns, st, hp, hd, hl, hn, hs1, hs2⟩ := id D.ex
    refine ⟨_, rfl, _, _, rfl, rfl, _, rfl, ?_⟩
    refine ite2 (fun z => ?_) (fun z => ?_)
    · have z : m < 2 := of_decide_eq_true z
      exact k 0 H (by decide) (fun _ => by omega) (fun _ => rfl) D .refl
    have z : ¬ m < 2 := fun q => z (decide_eq_true q)
    refine ⟨_, rfl, p, _, rfl, dget_deep hp, by show 0 ≤ sizeLine; exact Nat.zero_le _, fun e ne => ?_⟩
    have se : Same H (upd H e (.lst [])) := same_new ne
    refine ⟨.list (ns.map PyData.int), .list [], .lst (SqL.of (se _ _ hd)) (dpInts ns), .lst (SqL.of upd_same) .nil, PySem.W.ke_shaped_ints ns, rfl, _, rfl, ?_⟩
    rw [eqv_nil]
    refine ite2 (fun y => ?_) (fun y => ?_)
    · obtain ⟨n, ms, rfl, hlast, hdrop⟩ := last_ints (of_decide_eq_true y)
      have hn0 : 0 ≤ n := hn n (by simp)
      refine ⟨_, rfl, p, _, rfl, dget_deep (se _ _ hp), .inl ⟨rfl, _, SqL.of (se _ _ hd)⟩, d, _, _, rfl, rfl, se _ _ hd, hlast, ?_⟩
      rw [hdrop]
      have hpd := D.ne
      have h1 : (upd (upd H e (.lst [])) d (.lst (ms.map V.int))) p = some (.dK (deckL d st)) := by
        rw [upd_ne hpd]
        exact se _ _ hp
      have h2 : (upd (upd H e (.lst [])) d (.lst (ms.map V.int))) d = some (.lst (ms.map V.int)) := upd_same
      have h3 : Kp p d H (upd (upd H e (.lst [])) d (.lst (ms.map V.int))) := fun b o e n1 n2 => by
        rw [upd_ne n2]
        exact se _ _ e
      have hl' : ms.length + 1 ≤ 63 := by simpa using hl
      have hn' : ∀ x ∈ ms, 0 ≤ x := fun x hx => hn x (by simp [hx])
      generalize (upd (upd H e (.lst [])) d (.lst (ms.map V.int))) = H1 at h1 h2 h3 ⊢
      have D1 : Deck H1 p d 63 := ⟨ms, st, h1, h2, by omega, hn', hs1, hs2⟩
      refine ⟨_, rfl, _, rfl, _, _, rfl, rfl, _, rfl, ?_⟩
      refine ite2 (fun x => ?_) (fun x => ?_)
      · have x : m ≤ n := of_decide_eq_true x
        refine ⟨_, rfl, p, _, rfl, dget_deep h1, .inl ⟨rfl, _, SqL.of h2⟩, _, rfl, _, rfl, _, _, rfl, rfl, ⟨by omega, by omega⟩, d, _, _, rfl, rfl, h2, ?_, ?_⟩
        · rw [List.length_map, sizeLine_eq]
          omega
        refine ⟨_, rfl, .inl ⟨_, rfl, _, rfl, _, _, rfl, rfl, by show 0 < m; omega, ?_⟩⟩
        refine k _ _ (Int.emod_nonneg _ (by omega)) (fun _ => Int.emod_lt_of_pos _ (by omega)) (fun y => absurd y (by omega)) ⟨ms ++ [n / m], st, ?_, ?_, ?_, ?_, hs1, hs2⟩ (h3.trans fun b o e n1 n2 => ?_)
        · rw [upd_ne hpd]
          exact h1
        · rw [upd_same, List.map_append]
          rfl
        · simp
          omega
        · intro x hx
          rcases List.mem_append.mp hx with q | q
          · exact hn' x q
          · rw [List.mem_singleton.mp q]
            exact Int.ediv_nonneg hn0 (by omega)
        · rw [upd_ne n2]
          exact e
      · refine ⟨_, rfl, .inl ⟨_, rfl, _, rfl, _, _, rfl, rfl, by show 0 < m; omega, ?_⟩⟩
        exact k _ _ (Int.emod_nonneg _ (by omega)) (fun _ => Int.emod_lt_of_pos _ (by omega)) (fun y => absurd y (by omega)) D1 h3
    · have D1 := D.same se
      generalize (upd H e (.lst [])) = H1 at se D1
      obtain ⟨ns, st, hp, hd, hl, hn, hs1, hs2⟩ := id D1.ex
      refine ⟨_, rfl, p, _, rfl, dget_state hp, _, _, rfl, rfl, .inl ⟨by omega, by omega⟩, _, _, rfl, rfl, ?_⟩
      refine .inl ⟨_, rfl, _, _, rfl, rfl, (by show (0 : Int) < 2305843009213693951; decide), ?_⟩
      dsimp only
      have o1 : 0 ≤ (st * 1181783497276652981 + 88172645463325) % 2305843009213693951 := Int.emod_nonneg _ (by decide)
      have o2 : (st * 1181783497276652981 + 88172645463325) % 2305843009213693951 < 2305843009213693951 := Int.emod_lt_of_pos _ (by decide)
      generalize (st * 1181783497276652981 + 88172645463325) % 2305843009213693951 = one at o1 o2 ⊢
      refine ⟨_, rfl, _, rfl, p, _, rfl, dput_state one hp, ?_⟩
      refine ⟨_, rfl, _, rfl, _, _, rfl, rfl, .inl ⟨by omega, by omega⟩, _, rfl, _, _, rfl, rfl, .inl ⟨by decide, by decide⟩, _, _, rfl, rfl, _, _, rfl, rfl, ?_⟩
      refine .inl ⟨_, rfl, _, _, rfl, rfl, (by show (0 : Int) < 2305843009213693921; decide), ?_⟩
      dsimp only
      generalize (one * one + 374761393 * one + 11) % 2305843009213693921 = two
      refine ⟨_, rfl, _, _, rfl, rfl, ⟨by decide, by decide⟩, ?_⟩
      refine .inl ⟨_, rfl, _, rfl, _, _, rfl, rfl, by show 0 < m; omega, ?_⟩
      refine k _ _ (Int.emod_nonneg _ (by omega)) (fun _ => Int.emod_lt_of_pos _ (by omega)) (fun y => absurd y (by omega)) ⟨ns, one, upd_same, ?_, hl, hn, o1, by omega⟩ (fun b o e n1 n2 => ?_)
      · rw [upd_ne (D1.ne).symm]
        exact hd
      · rw [upd_ne n1]
        exact se _ _ e
end
end Sw
namespace Sw
open PySem L2
theorem erase_map {α β : Type} (f : α → β) : ∀ (l : List α) (i : Nat), (l.map f).eraseIdx i = (l.eraseIdx i).map f
  | [], _ => rfl
  | _ :: _, 0 => rfl
  | a :: r, i + 1 => by
    show f a :: (r.map f).eraseIdx i = f a :: (r.eraseIdx i).map f
    rw [erase_map f r i]
theorem Deck.kne {H : Hp} {p d : Addr} {m : Nat} (D : Deck H p d m) {a : Addr} {xs : List V} (h : H a = some (.lst xs)) : a ≠ p := by
  obtain ⟨ns, st, h1, h2, r⟩ := D.ex
  exact ne_of h h1 (by intro y; cases y)
theorem Deck.tne {H : Hp} {p d : Addr} {m : Nat} (D : Deck H p d m) {a : Addr} {xs : List V} (h : H a = some (.tup xs)) : a ≠ p ∧ a ≠ d := by
  obtain ⟨ns, st, h1, h2, r⟩ := D.ex
  exact ⟨ne_of h h1 (by intro y; cases y), ne_of h h2 (by intro y; cases y)⟩
theorem Deck.upd {H : Hp} {p d a : Addr} {m : Nat} {o : HO} (D : Deck H p d m) (h1 : a ≠ p) (h2 : a ≠ d) : Deck (L2.upd H a o) p d m := by
  obtain ⟨ns, st, e1, e2, r⟩ := D.ex
  exact ⟨ns, st, by rw [upd_ne h1.symm]; exact e1, by rw [upd_ne h2.symm]; exact e2, r⟩
section
variable {P : Program} {w : World} {K : PySem.W.Frag} {mg : Str → Option Value} {base : Heap}
def spPick : Sp := fun vs H Q _ => ∃ (p d a : Addr) (xs : List V), vs = [.ref p, .ref a] ∧ Deck H p d 63 ∧ H a = some (.lst xs) ∧ a ≠ d ∧ xs ≠ [] ∧ xs.length < 1000000 ∧ ∀ (x : V) (H' : Hp), x ∈ xs → Deck H' p d 63 → Kp p d H H' → Q x H'
theorem ok_pick {f : Addr} {fd : FuncData} (F : Fun K "_law_pick" "_law_pick" sPick f fd) (B : NoNames mg) (O : Own P w K mg base 1 "_law_draw" ["deck", "many"] spDraw) : FnOk P w K mg base CX0 2 f fd ["deck", "items"] (spPick) := by
  obtain ⟨fD, fdD, GD, mD, kD, bD⟩ := O.ex
  refine F.ok scPick (fun vs H Q E h => ?_) (fun cdv A outer s H vs Q E hr h => ?_)
  · obtain ⟨p, d, a, xs, rfl, _⟩ := h
    rfl
  · obtain ⟨p, d, a, xs, rfl, D, ha, nd, hx, hl, k⟩ := h
    refine ⟨_, pss_one (ps_ret (pe_ix ix_list (pv 1) (pe_call GD hr rfl mD kD bD .nil pass0 (pa_cons (pv 0) (pa_cons (pe_callB call_len_seq (by rfl) B.len PySem.boot_len (pa_cons (pv 1) pa_nil)) pa_nil))) (fun _ _ => rfl))), ?_⟩
    have hpos : 0 < xs.length := List.length_pos_iff.mpr hx
    refine ⟨_, rfl, _, rfl, _, rfl, a, xs, rfl, .inl (SqL.of ha), p, d, (xs.length : Int), rfl, D, by omega, fun r H' r0 r1 r2 D' kp => ?_⟩
    have ha' := kp _ _ ha (D.kne ha) nd
    have hr : r < (xs.length : Int) := r1 (by omega)
    obtain ⟨i, rfl⟩ := Int.eq_ofNat_of_zero_le r0
    have hi : i < xs.length := by omega
    exact ⟨a, xs, _, xs[i], rfl, rfl, SqL.of ha', at_of (j := i) rfl (List.getElem?_eq_getElem hi), k _ _ (List.getElem_mem hi) D' kp⟩
def spMixed : Sp := fun vs H Q _ => ∃ (p d a : Addr) (ns : List Int), vs = [.ref p, .ref a] ∧ Deck H p d 63 ∧ H a = some (.lst (ns.map V.int)) ∧ ns.length < 1000000 ∧ ∀ (r : Addr) (ms : List Int) (H' : Hp), Deck H' p d 63 → Kp p d H H' → H r = none → H' r = some (.lst (ms.map V.int)) → ms.length = ns.length → (∀ m ∈ ms, m ∈ ns) → Q (.ref r) H'
theorem ok_mixed {f : Addr} {fd : FuncData} (F : Fun K "_law_mixed" "_law_mixed" sMixed f fd) (B : NoNames mg) (O : Own P w K mg base 1 "_law_draw" ["deck", "many"] spDraw) : FnOk P w K mg base CX0 2 f fd ["deck", "items"] (spMixed) := by
  obtain ⟨fD, fdD, GD, mD, kD, bD⟩ := O.ex
  refine F.ok scMixed (fun vs H Q E h => ?_) (fun cdv A outer s H vs Q E hr h => ?_)
  · obtain ⟨p, d, a, ns, rfl, _⟩ := h
    rfl
  · obtain ⟨p, d, a, ns, rfl, D, ha, hl, k⟩ := h
    refine ⟨_, pss_cons (ps_par (i := 2) (j := 3) rfl scMixed.nd rfl rfl (by decide) rfl rfl (pa_cons (pe_callTy call_list_of (by rfl) B.list (by decide +kernel) (pa_cons (pv 1) pa_nil)) (pa_cons (pe_lst pa_nil) pa_nil)) (by rfl))
      (pss_cons (ps_while PassesOwn.never (pt_cmpR (op_neD hr.units) (pv 2) (pe_lst pa_nil) (nomark _))
        (pss_one (ps_expr (pe_bm PySem.F.plainAttrs_list PySem.F.slot_list_append PySem.F.type_list_append mt_append (pv 3)
          (pa_cons (pe_bm PySem.F.plainAttrs_list PySem.F.slot_list_pop PySem.F.type_list_pop mt_popAt (pv 2)
            (pa_cons (pe_call GD hr rfl mD kD bD .nil pass0 (pa_cons (pv 0) (pa_cons (pe_callB call_len_seq (by rfl) B.len PySem.boot_len (pa_cons (pv 2) pa_nil)) pa_nil))) pa_nil)) pa_nil)))))
      (pss_one (ps_ret (pv 3)))), ?_⟩
    refine ⟨_, rfl, a, _, rfl, .inl (SqL.of ha), fun l nl => ⟨by show 0 ≤ sizeLine; exact Nat.zero_le _, fun g ng => ⟨_, _, rfl, ?_⟩⟩⟩
    have s1 : Same H (L2.upd H l (.lst (ns.map V.int))) := same_new nl
    have s2 := s1.trans (same_new (o := .lst []) ng)
    have ngl : g ≠ l := fun z => by
      rw [z, upd_same] at ng
      cases ng
    refine ⟨fun m σ H' => ∃ ls fs : List Int, σ = [some (.ref p), some (.ref a), some (.ref l), some (.ref g)] ∧ Deck H' p d 63 ∧ Kp p d H H' ∧ H' l = some (.lst (ls.map V.int)) ∧ H' g = some (.lst (fs.map V.int)) ∧ l ≠ d ∧ g ≠ d ∧ ls.length = m ∧ ls.length + fs.length = ns.length ∧ (∀ x ∈ ls, x ∈ ns) ∧ (∀ x ∈ fs, x ∈ ns),
      ⟨ns.length, ns, [], rfl, D.same s2, .of s2, by rw [upd_ne ngl.symm, upd_same], upd_same, (D.ne_none nl).2, (D.ne_none (s1.free ng)).2, rfl, rfl, fun _ h => h, fun _ h => absurd h (by simp)⟩, ?_⟩
    rintro m σ H1 ⟨ls, fs, rfl, D1, k1, h1, h2, n1, n2, rfl, hlen, m1, m2⟩
    refine ⟨_, rfl, by show 0 ≤ sizeLine; exact Nat.zero_le _, fun e ne => ?_⟩
    have se : Same H1 (L2.upd H1 e (.lst [])) := same_new ne
    refine ⟨.list (ls.map PyData.int), .list [], .lst (SqL.of (se _ _ h1)) (dpInts ls), .lst (SqL.of upd_same) .nil, PySem.W.ke_shaped_ints ls, rfl, _, rfl, ?_⟩
    have D2 := D1.same se
    have k2 := k1.trans (.of se)
    have h1' := se _ _ h1
    have h2' := se _ _ h2
    generalize (L2.upd H1 e (.lst [])) = H2 at D2 k2 h1' h2' ⊢
    rw [eqv_nil]
    refine ite2 (fun y => ?_) (fun y => ?_)
    · have y : ls ≠ [] := of_decide_eq_true y
      have hpos : 0 < ls.length := List.length_pos_iff.mpr y
      refine ⟨fun σ' H' => ∃ m', m' < ls.length ∧ ∃ ls fs : List Int, σ' = [some (.ref p), some (.ref a), some (.ref l), some (.ref g)] ∧ Deck H' p d 63 ∧ Kp p d H H' ∧ H' l = some (.lst (ls.map V.int)) ∧ H' g = some (.lst (fs.map V.int)) ∧ l ≠ d ∧ g ≠ d ∧ ls.length = m' ∧ ls.length + fs.length = ns.length ∧ (∀ x ∈ ls, x ∈ ns) ∧ (∀ x ∈ fs, x ∈ ns), fun _ _ h => h, ?_⟩
      refine ⟨_, rfl, .inl ⟨rfl, _, SqL.of h2'⟩, _, rfl, .inl ⟨rfl, _, SqL.of h1'⟩, _, rfl, _, rfl, l, ls.map V.int, rfl, .inl (SqL.of h1'), p, d, ((ls.map V.int).length : Int), rfl, D2, ?_, fun r H3 r0 r1 r2 D3 k3 => ?_⟩
      · rw [List.length_map]
        omega
      have h1 := k3 _ _ h1' (D2.kne h1') n1
      have h2 := k3 _ _ h2' (D2.kne h2') n2
      have np1 := D2.kne h1'
      have np2 := D2.kne h2'
      have hr : r < ((ls.map V.int).length : Int) := r1 (by rw [List.length_map]; omega)
      obtain ⟨i, rfl⟩ := Int.eq_ofNat_of_zero_le r0
      have hi : i < ls.length := by
        rw [List.length_map] at hr
        omega
      have hz : ((ls.map V.int).eraseIdx i) = (ls.eraseIdx i).map V.int := by
        exact erase_map _ ls i
      refine ⟨l, _, _, i, .int ls[i], rfl, rfl, h1, by omega, by omega, ?_, ?_, ?_⟩
      · exact PySem.seqIndex_of r0 hr
      · rw [List.getElem?_map, List.getElem?_eq_getElem hi]
        rfl
      rw [hz]
      refine ⟨g, fs.map V.int, _, rfl, rfl, by rw [upd_ne ngl]; exact h2, ?_, ?_⟩
      · rw [List.length_map, sizeLine_eq]
        omega
      have le : (ls.eraseIdx i).length + 1 = ls.length := by
        rw [List.length_eraseIdx_of_lt hi]
        omega
      refine ⟨(ls.eraseIdx i).length, by omega, ls.eraseIdx i, fs ++ [ls[i]], rfl, (D3.upd np1 n1).upd np2 n2, ?_, ?_, ?_, n1, n2, rfl, ?_, ?_, ?_⟩
      · intro b o e q1 q2
        rw [upd_ne (ne_of_none e (s1.free ng)), upd_ne (ne_of_none e nl)]
        exact k3 _ _ (k2 _ _ e q1 q2) q1 q2
      · rw [upd_ne ngl.symm, upd_same]
      · rw [upd_same, List.map_append]
        rfl
      · rw [List.length_append, List.length_singleton]
        omega
      · exact fun x hx => m1 x (List.mem_of_mem_eraseIdx hx)
      · intro x hx
        rcases List.mem_append.mp hx with q | q
        · exact m2 x q
        · rw [List.mem_singleton.mp q]
          exact m1 _ (List.getElem_mem hi)
    · have y : ls = [] := by
        refine Classical.byContradiction fun q => y (decide_eq_true q)
      subst y
      refine ⟨_, rfl, k g fs H2 D2 k2 ?_ h2' (by simpa using hlen) m2⟩
      exact s1.free ng
end
end Sw
namespace Sw
open PySem L2
/-! ### expressions that give data -/
abbrev SH := L2.St → Hp → Prop
/-- what is free may be used, and what S says holds -/
structure Fit (S : SH) (U : L2.St → Addr → Prop) (σ : L2.St) (H : Hp) : Prop where
  s : S σ H
  u : ∀ a, H a = none → U σ a
def tDat (K : PySem.W.Frag) (S : SH) (U : L2.St → Addr → Prop) (w k : Nat) : TE := fun σ H Q => Fit S U σ H ∧ ∀ (x : V) (dd : D) (as : List Addr) (H' : Hp), Rep K H' dd x as → (∀ a ∈ as, U σ a) → Same H H' → small dd → wt dd ≤ w → dep dd ≤ k → Q x H'
def tDats (K : PySem.W.Frag) (S : SH) (U : L2.St → Addr → Prop) (w k m : Nat) : TA := fun σ H Q => Fit S U σ H ∧ ∀ (xs : List V) (ds : List D) (as : List Addr) (H' : Hp), xs.length = m → RepAll K H' ds xs as → (∀ a ∈ as, U σ a) → Same H H' → smallAll ds → wtAll ds ≤ w → depAll ds ≤ k → Q xs H'
/-- a new list of data -/
def tDatL (K : PySem.W.Frag) (S : SH) (U : L2.St → Addr → Prop) (w k m : Nat) : TE := fun σ H Q => Fit S U σ H ∧ ∀ (l : Addr) (xs : List V) (ds : List D) (as : List Addr) (H' : Hp), H l = none → H' l = some (.lst xs) → l ∉ as → xs.length = m → RepAll K H' ds xs as → (∀ a ∈ as, U σ a) → Same H H' → smallAll ds → wtAll ds ≤ w → depAll ds ≤ k → Q (.ref l) H'
def SMono (S : SH) : Prop := ∀ σ H H', S σ H → Same H H' → S σ H'
theorem Fit.same {S : SH} {U : L2.St → Addr → Prop} {σ : L2.St} {H H' : Hp} (hS : SMono S) (f : Fit S U σ H) (s : Same H H') : Fit S U σ H' := ⟨hS σ H H' f.s s, fun a h => f.u a (s.free h)⟩
theorem pe_weak {X : Cx} {e : Expr} {t t' : TE} (h : PE X e t) (hw : ∀ σ H Q, t' σ H Q → t σ H Q) : PE X e t' := ⟨fun pins s σ H Q I q => h.run pins s σ H Q I (hw σ H Q q)⟩
theorem pa_weak {X : Cx} {es : List Expr} {t t' : TA} (h : PA X es t) (hw : ∀ σ H Q, t' σ H Q → t σ H Q) : PA X es t' := ⟨fun pos pins s σ H Q I q => h.run pos pins s σ H Q I (hw σ H Q q)⟩
section
variable {X : Cx} {S : SH} {U : L2.St → Addr → Prop} {e : Expr} {es : List Expr} {w k : Nat}
theorem dat_le {w' k' : Nat} (h : PE X e (tDat X.K S U w k)) (hw : w ≤ w') (hk : k ≤ k') : PE X e (tDat X.K S U w' k') :=
  pe_weak h fun σ H Q q => ⟨q.1, fun x dd as H' h1 h2 h3 h4 h5 h6 => q.2 x dd as H' h1 h2 h3 h4 (by omega) (by omega)⟩
theorem dat_of {t : TE} (h : PE X e t) (ht : ∀ σ H Q, S σ H → (∀ v dd, Rep X.K H dd v [] → small dd → wt dd ≤ w → dep dd ≤ k → Q v H) → t σ H Q) : PE X e (tDat X.K S U w k) :=
  pe_weak h fun σ H Q q => ht σ H Q q.1.s fun v dd h1 h2 h3 h4 => q.2 v dd [] H h1 (fun _ h => absurd h (by simp)) (Same.refl H) h2 h3 h4
theorem int_ok {K : PySem.W.Frag} {H : Hp} {i : Int} {w k : Nat} (hi : i.natAbs < 10 ^ w) (hw : 0 < w) (hw2 : w ≤ 40) : Rep K H (.int i) (.int i) [] ∧ small (.int i) ∧ wt (.int i) ≤ w + 1 ∧ dep (.int i) ≤ k := by
  refine ⟨by simp [Rep], ?_, ?_, by simp only [dep]; omega⟩
  · simp only [small]
    exact PySem.Spec.log2_small (Nat.lt_of_lt_of_le hi (Nat.le_trans (Nat.pow_le_pow_right (by decide) hw2) (by decide +kernel)))
  · simp only [wt]
    rw [PySem.ofString_length]
    exact int_text_length_le10 hw hi
theorem dat_int {i : Int} {t : TE} (h : PE X e t) (ht : ∀ σ H Q, Q (.int i) H → t σ H Q) (hi : i.natAbs < 10 ^ w := by decide +kernel) (hw : 0 < w := by decide) (hw2 : w ≤ 40 := by decide) : PE X e (tDat X.K S U (w + 1) k) :=
  dat_of h fun σ H Q _ q => ht σ H Q (by
    obtain ⟨h1, h2, h3, h4⟩ := int_ok (K := X.K) (H := H) (k := k) hi hw hw2
    exact q _ _ h1 h2 h3 h4)
/-- a slot that holds a small whole number -/
def SInt (S : SH) (i : Nat) : Prop := ∀ σ H, S σ H → ∃ v, σ[i]? = some (some (.int v)) ∧ v.natAbs < 10 ^ 3
theorem dat_var {i : Nat} (h : PE X e (tVar i)) (hS : SInt S i) : PE X e (tDat X.K S U 4 k) :=
  dat_of h fun σ H Q hs q => by
    obtain ⟨v, e, hv⟩ := hS σ H hs
    obtain ⟨h1, h2, h3, h4⟩ := int_ok (K := X.K) (H := H) (k := k) hv (by decide) (by decide)
    exact ⟨_, e, q _ _ h1 h2 h3 h4⟩
theorem dat_bl {t : TE} (h : PE X e t) (ht : ∀ σ H Q, S σ H → (∀ b, Q (.bl b) H) → t σ H Q) : PE X e (tDat X.K S U 5 k) :=
  dat_of h fun σ H Q hs q => ht σ H Q hs fun b => q _ (.bl b) (by simp [Rep]) (by simp only [small]) (by simp only [wt]; omega) (by simp only [dep]; omega)
theorem dat_true {b : Bool} (h : PE X e (tC (.bl b))) : PE X e (tDat X.K S U 5 k) := dat_bl h fun σ H Q _ q => q b
theorem dat_non (h : PE X e (tC .non)) : PE X e (tDat X.K S U 4 k) :=
  dat_of h fun σ H Q _ q => q .non .non (by simp [Rep]) (by simp only [small]) (by simp only [wt]; omega) (by simp only [dep]; omega)
theorem dat_str {x : Str} (h : PE X e (tC (.str x))) (hw : (reprText x).length ≤ w := by decide +kernel) : PE X e (tDat X.K S U w k) :=
  dat_of h fun σ H Q _ q => q (.str x) (.str x) (by simp [Rep]) (by simp only [small]) (by simp only [wt]; omega) (by simp only [dep]; omega)
theorem dat_dct {pos : Pos} : PE X (.Dict [] [] pos) (tDat X.K S U 2 (k + 1)) :=
  pe_weak pe_dnewK fun σ H Q q p np => q.2 _ .dct [p] _ (by simp only [Rep]; exact ⟨p, rfl, upd_same, rfl⟩) (fun a ha => by rw [List.mem_singleton.mp ha]; exact q.1.u p np) (same_new np) (by simp only [small]) (by simp only [wt]; omega) (by simp only [dep]; omega)
theorem dats_nil : PA X [] (tDats X.K S U 0 k 0) := pa_weak pa_nil fun σ H Q q => q.2 [] [] [] H rfl (by simp [RepAll]) (fun _ h => absurd h (by simp)) (Same.refl H) (by simp only [smallAll]) (by simp only [wtAll]; omega) (by simp only [depAll]; omega)
theorem dats_cons {w' m : Nat} (hS : SMono S) (ha : PE X e (tDat X.K S U w k)) (hr : PA X es (tDats X.K S U w' k m)) (hs : starEach (e :: es) X.env = (false, eval e X.env) :: starEach es X.env := by rfl) : PA X (e :: es) (tDats X.K S U (w + 2 + w') k (m + 1)) :=
  pa_weak (pa_cons ha hr hs) fun σ H Q q => ⟨q.1, fun x dd as H1 h1 h2 h3 h4 h5 h6 => ⟨q.1.same hS h3, fun xs ds bs H2 lm l1 l2 l3 l4 l5 l6 =>
    q.2 (x :: xs) (dd :: ds) (as ++ bs) H2 (by rw [List.length_cons, lm]) (by simp only [RepAll]; exact ⟨x, xs, as, bs, rfl, h1.same l3, l1, rfl⟩) (fun a ha => (List.mem_append.mp ha).elim (h2 a) (l2 a)) (h3.trans l3) (by simp only [smallAll]; exact ⟨h4, l4⟩) (by simp only [wtAll]; omega) (by simp only [depAll]; omega)⟩⟩
theorem wlen {K : PySem.W.Frag} {H : Hp} {xs : List V} {ds : List D} {as : List Addr} (h : RepAll K H ds xs as) (hw : wtAll ds ≤ 10000000) : xs.length ≤ sizeLine := by
  have h1 := wt_len ds
  rw [h.len, sizeLine_eq]
  omega
theorem nmem {K : PySem.W.Frag} {H : Hp} {xs : List V} {ds : List D} {as : List Addr} {a : Addr} (h : RepAll K H ds xs as) (ha : H a = none) : a ∉ as := fun z => by
  obtain ⟨o, e⟩ := h.tracked a z
  rw [ha] at e
  cases e
theorem dat_tup {x1 m : Nat} {pos : Pos} (h : PA X es (tDats X.K S U w k m)) (hS : SMono S) (hw : w ≤ 10000000 := by decide) : PE X (.Tuple es x1 pos) (tDat X.K S U (w + 3) (k + 1)) :=
  pe_weak (pe_tup h) fun σ H Q q => ⟨q.1, fun xs ds as H1 hm h1 h2 h3 h4 h5 h6 => ⟨wlen h1 (by omega), fun p np =>
    q.2 (.ref p) (.tup ds) (p :: as) _ (by simp only [Rep]; exact ⟨p, xs, as, rfl, upd_same, h1.same (same_new np), nmem h1 np, rfl⟩) (fun a ha => (List.mem_cons.mp ha).elim (fun z => by rw [z]; exact (q.1.same hS h3).u p np) (h2 a)) (h3.trans (same_new np)) (by simp only [small]; exact h4) (by simp only [wt]; omega) (by simp only [dep]; omega)⟩⟩
theorem dat_lst {m : Nat} {pos : Pos} (h : PA X es (tDats X.K S U w k m)) (hS : SMono S) (hw : w ≤ 10000000 := by decide) : PE X (.List es pos) (tDat X.K S U (w + 3) (k + 1)) :=
  pe_weak (pe_lst h) fun σ H Q q => ⟨q.1, fun xs ds as H1 hm h1 h2 h3 h4 h5 h6 => ⟨wlen h1 (by omega), fun p np =>
    q.2 (.ref p) (.lst ds) (p :: as) _ (by simp only [Rep]; exact ⟨p, xs, as, rfl, upd_same, h1.same (same_new np), nmem h1 np, rfl⟩) (fun a ha => (List.mem_cons.mp ha).elim (fun z => by rw [z]; exact (q.1.same hS h3).u p np) (h2 a)) (h3.trans (same_new np)) (by simp only [small]; exact h4) (by simp only [wt]; omega) (by simp only [dep]; omega)⟩⟩
theorem datL_lst {m : Nat} {pos : Pos} (h : PA X es (tDats X.K S U w k m)) (hS : SMono S) (hw : w ≤ 10000000 := by decide) : PE X (.List es pos) (tDatL X.K S U w k m) :=
  pe_weak (pe_lst h) fun σ H Q q => ⟨q.1, fun xs ds as H1 hm h1 h2 h3 h4 h5 h6 => ⟨wlen h1 (by omega), fun p np =>
    q.2 p xs ds as _ (h3.free np) upd_same (nmem h1 np) hm (h1.same (same_new np)) h2 (h3.trans (same_new np)) h4 (by omega) (by omega)⟩⟩
/-- an own error with an __init__ -/
structure XE (P : Program) (K : PySem.W.Frag) (mg : Str → Option Value) (x msg fld : Str) : Prop where
  ex : ∃ C fI file, XCls K C ∧ XInit K C fI msg fld fld file ∧ mg x = some (.ref C) ∧ ((P.main.file : Str) == file) = true ∧ (P.main.scope.names.lookup ("super" : Str)).isSome = false ∧ XGood K C x
/-- an own error without -/
structure XU (K : PySem.W.Frag) (mg : Str → Option Value) (x : Str) : Prop where
  ex : ∃ (C : Addr) (bmB : List Value) (B newId initId : String), ExcBaseFacts B newId initId bmB ∧ PySem.W.excIn K C bmB newId = true ∧ PySem.W.keepIn K (.ref C) = true ∧ mg x = some (.ref C) ∧ XGood K C x
theorem wt_exc {C : Addr} {n : Str} (h : n.length ≤ 60) : wt (.exc C n none) ≤ 62 := by
  simp only [wt, xText]
  rw [PySem.Str.length_append]
  have : ("()" : Str).length = 2 := by decide +kernel
  omega
theorem wt_exc1 {C : Addr} {n m : Str} (h : n.length ≤ 60) (hm : (reprText m).length ≤ 40) : wt (.exc C n (some m)) ≤ 102 := by
  simp only [wt, xText]
  rw [PySem.Str.length_append, PySem.Str.length_append, PySem.Str.length_append]
  have h1 : ("(" : Str).length = 1 := by decide +kernel
  have h2 : (")" : Str).length = 1 := by decide +kernel
  omega
theorem dat_xe {x msg fld : Str} {pos p : Pos} {kr : Nat} (E : XE X.prog X.K X.mg x msg fld) (hmsg : (reprText msg).length ≤ 40) (hdb : (x == ("__debug__" : Str)) = false) (B : NoNames X.mg) (hr : Room kr X.A) (h1r : 1 ≤ kr) (hS : SMono S) (hg : Gl X x) (he : PE X e (tDat X.K S U w k)) (hst : starEach [e] X.env = (false, eval e X.env) :: starEach [] X.env := by rfl) :
    PE X (.Call (.Name x p) [e] [] pos) (tDat X.K S U 102 (k + 3)) := by
  obtain ⟨C, fI, file, T, F, hm, hf, ht, G⟩ := E.ex
  refine pe_weak (pe_xmk T F (hr.mono h1r) hg hm B.super hf ht he hst hdb) fun σ H Q q => ⟨q.1, fun x' dd as H1 l1 l2 l3 l4 l5 l6 => fun a t1 dx na nt nd n1 n2 n3 => ?_⟩
  have u := (q.1.same hS l3).u
  refine q.2 (.ref a) (.exc C x (some msg)) [a, t1, dx] _ ?_ (fun b hb => ?_) ?_ (by simp only [small]) (wt_exc1 G.len hmsg) (by simp only [dep]; omega)
  · simp only [Rep]
    refine ⟨a, t1, some dx, rfl, upd_same, ?_, fun d hd => ?_, G, rfl⟩
    · rw [upd_ne n1, upd_same]
      rfl
    · cases hd
      rw [upd_ne n2, upd_ne n3, upd_same]
  · simp only [List.mem_cons, List.not_mem_nil, or_false] at hb
    rcases hb with rfl | rfl | rfl
    · exact u _ na
    · exact u _ nt
    · exact u _ nd
  · refine l3.trans fun b o hb => ?_
    rw [upd_ne (ne_of_none hb na), upd_ne (ne_of_none hb nt), upd_ne (ne_of_none hb nd)]
    exact hb
theorem dat_xu {x : Str} {pos p : Pos} (E : XU X.K X.mg x) (hdb : (x == ("__debug__" : Str)) = false) (hg : Gl X x) : PE X (.Call (.Name x p) [] [] pos) (tDat X.K S U 62 (k + 3)) := by
  obtain ⟨C, bmB, Bn, newId, initId, F, q, kC, hm, G⟩ := E.ex
  refine pe_weak (pe_xmk0 (k := 0) F q kC hg hm hdb) fun σ H Q q a t1 na nt n1 => ?_
  refine q.2 (.ref a) (.exc C x none) [a, t1] _ ?_ (fun b hb => ?_) ?_ (by simp only [small]) (wt_exc G.len) (by simp only [dep]; omega)
  · simp only [Rep]
    refine ⟨a, t1, none, rfl, upd_same, ?_, fun d hd => (nomatch hd), G, rfl⟩
    rw [upd_ne n1, upd_same]
    rfl
  · simp only [List.mem_cons, List.not_mem_nil, or_false] at hb
    rcases hb with rfl | rfl
    · exact q.1.u _ na
    · exact q.1.u _ nt
  · intro b o hb
    rw [upd_ne (ne_of_none hb na), upd_ne (ne_of_none hb nt)]
    exact hb
end
end Sw
namespace Sw
open PySem L2
/-- a statement kept to what it is to do with the slots and the heap -/
def tCut (J J' : L2.St → Hp → Prop) : TS := fun D σ H => J σ H ∧ ∀ σ' H', J' σ' H' → D.nx σ' H'
theorem ps_cut {X : Cx} {st : Stmt} {t : TS} {J J' : L2.St → Hp → Prop} (h : PS X st t) (hJ : ∀ D σ H, J σ H → (∀ σ' H', J' σ' H' → D.nx σ' H') → t D σ H) : PS X st (tCut J J') :=
  ⟨fun pins s σ H D I q => h.run pins s σ H D I (hJ D σ H q.1 q.2)⟩
def Inn (n a : Int) : Prop := 0 ≤ a ∧ a < n
/-- tuples stand -/
def TupS (H H' : Hp) : Prop := ∀ b xs, H b = some (.tup xs) → H' b = some (.tup xs)
theorem TupS.of {H H' : Hp} (s : Same H H') : TupS H H' := fun b xs e => s _ _ e
theorem TupS.refl {H : Hp} : TupS H H := fun _ _ e => e
theorem TupS.trans {H H1 H2 : Hp} (s : TupS H H1) (t : TupS H1 H2) : TupS H H2 := fun b xs e => t _ _ (s _ _ e)
theorem TupS.kp {H H' : Hp} {p d : Addr} {m : Nat} (D : Deck H p d m) (s : Kp p d H H') : TupS H H' := fun b xs e => s _ _ e (D.tne e).1 (D.tne e).2
/-- a list, a dict is written -/
theorem TupS.upd {H : Hp} {a : Addr} {o : HO} (h : ∀ xs, H a ≠ some (.tup xs)) : TupS H (L2.upd H a o) := fun b xs e => by
  rw [upd_ne (fun z => h xs (by rw [← z]; exact e))]
  exact e
theorem Kp.free {H H' : Hp} {p d : Addr} {m : Nat} (s : Kp p d H H') (D' : Deck H' p d m) {a : Addr} (h : H' a = none) : H a = none := by
  cases e : H a with
  | none => rfl
  | some o =>
    have n := D'.ne_none h
    have := s a o e n.1 n.2
    rw [this] at h
    cases h
end Sw
namespace Sw
open PySem L2
/-- off the deck -/
def Off (p d : Addr) : Addr → Prop := fun a => a ≠ p ∧ a ≠ d
/-- the deck, and U: addresses off the deck, what is free and all tuples among them -/
structure Dk (H : Hp) (p d : Addr) (U : Addr → Prop) : Prop where
  dk : Deck H p d 63
  off : ∀ a, U a → Off p d a
  free : ∀ a, H a = none → U a
  tup : ∀ a zs, H a = some (.tup zs) → U a
theorem Dk.kp {H H' : Hp} {p d : Addr} {U : Addr → Prop} (D : Dk H p d U) (s : Kp p d H H') (D' : Deck H' p d 63) : Dk H' p d U := by
  have fr : ∀ a, H' a = none → H a = none := fun a h => by
    cases e : H a with
    | none => rfl
    | some o =>
      have n := D'.ne_none h
      have := s a o e n.1 n.2
      rw [this] at h
      cases h
  refine ⟨D', D.off, fun a h => D.free a (fr a h), fun a zs h => ?_⟩
  cases e : H a with
  | none => exact D.free a e
  | some o =>
    have n := D'.tne h
    have := s a o e n.1 n.2
    rw [this] at h
    cases h
    exact D.tup a zs e
theorem Dk.same {H H' : Hp} {p d : Addr} {U : Addr → Prop} (D : Dk H p d U) (s : Same H H') : Dk H' p d U := D.kp (.of s) (D.dk.same s)
/-- x is data of a bounded kind, made of things of U -/
def Dat (K : PySem.W.Frag) (U : Addr → Prop) (w k : Nat) (H : Hp) (x : V) : Prop := ∃ dd as, Rep K H dd x as ∧ (∀ a ∈ as, U a) ∧ small dd ∧ wt dd ≤ w ∧ dep dd ≤ k
theorem Dat.keep {K : PySem.W.Frag} {p d : Addr} {U : Addr → Prop} {w k : Nat} {H H' : Hp} {x : V} (h : Dat K U w k H x) (o : ∀ a, U a → Off p d a) (s : Kp p d H H') : Dat K U w k H' x := by
  obtain ⟨dd, as, h1, h2, h3⟩ := h
  exact ⟨dd, as, h1.keep fun b hb y e => s b y e (o b (h2 b hb)).1 (o b (h2 b hb)).2, h2, h3⟩
theorem Dat.le {K : PySem.W.Frag} {U : Addr → Prop} {w k w' k' : Nat} {H : Hp} {x : V} (h : Dat K U w k H x) (h1 : w ≤ w') (h2 : k ≤ k') : Dat K U w' k' H x := by
  obtain ⟨dd, as, h3, h4, h5, h6, h7⟩ := h
  exact ⟨dd, as, h3, h4, h5, by omega, by omega⟩
theorem Dat.all {K : PySem.W.Frag} {U : Addr → Prop} {w k : Nat} {H : Hp} {xs : List V} {ds : List D} {as : List Addr} (h : RepAll K H ds xs as) (hu : ∀ a ∈ as, U a) (hs : smallAll ds) (hw : wtAll ds ≤ w) (hk : depAll ds ≤ k) : ∀ x ∈ xs, Dat K U w k H x := fun x hx => by
  obtain ⟨i, hi, e⟩ := List.getElem_of_mem hx
  obtain ⟨dd, bs, h1, h2, h3⟩ := h.at2 (i := i) (x := x) (by rw [List.getElem?_eq_getElem hi, e])
  have hm := List.mem_of_getElem? h1
  have := wt_mem hm
  have := dep_mem hm
  exact ⟨dd, bs, h2, fun a ha => hu a (h3 a ha), small_mem hs hm, by omega, by omega⟩
/-- a list of data -/
theorem dats_rep {K : PySem.W.Frag} {U : Addr → Prop} {w k : Nat} {H : Hp} : ∀ {xs : List V}, (∀ x ∈ xs, Dat K U w k H x) → ∃ ds as, RepAll K H ds xs as ∧ (∀ a ∈ as, U a) ∧ smallAll ds ∧ wtAll ds ≤ xs.length * (w + 2) ∧ depAll ds ≤ k
  | [], _ => ⟨[], [], by simp [RepAll], fun _ h => absurd h (by simp), by simp [smallAll], by simp [wtAll], by simp [depAll]⟩
  | x :: r, h => by
    obtain ⟨dd, as, h1, h2, h3, h4, h5⟩ := h x (by simp)
    obtain ⟨ds, bs, l1, l2, l3, l4, l5⟩ := dats_rep (xs := r) fun y hy => h y (by simp [hy])
    refine ⟨dd :: ds, as ++ bs, ?_, fun c hc => (List.mem_append.mp hc).elim (h2 c) (l2 c), ?_, ?_, ?_⟩
    · simp only [RepAll]
      exact ⟨x, r, as, bs, rfl, h1, l1, rfl⟩
    · simp only [smallAll]
      exact ⟨h3, l3⟩
    · simp only [wtAll, List.length_cons, Nat.succ_mul]
      omega
    · simp only [depAll]
      omega
/-- a new tuple of data -/
theorem Dat.newTup {K : PySem.W.Frag} {T : Addr} {U : Addr → Prop} {w k : Nat} {H : Hp} {xs : List V} (h : ∀ x ∈ xs, Dat K U w k H x) (nT : H T = none) (o : U T) : Dat K U (xs.length * (w + 2) + 3) (k + 1) (upd H T (.tup xs)) (.ref T) := by
  obtain ⟨ds, as, l1, l2, l3, l4, l5⟩ := dats_rep h
  refine ⟨.tup ds, T :: as, ?_, fun c hc => ?_, by simp only [small]; exact l3, by simp only [wt]; omega, by simp only [dep]; omega⟩
  · simp only [Rep]
    exact ⟨T, _, as, rfl, upd_same, l1.same (same_new nT), nmem l1 nT, rfl⟩
  · rcases List.mem_cons.mp hc with z | z
    · rw [z]; exact o
    · exact l2 c z
theorem Dat.int {K : PySem.W.Frag} {U : Addr → Prop} {w k : Nat} {H : Hp} {i : Int} (h : i.natAbs < 1000) (hw : 4 ≤ w) : Dat K U w k H (.int i) := by
  obtain ⟨i1, i2, i3, i4⟩ := int_ok (K := K) (H := H) (i := i) (w := 3) (k := k) h (by decide) (by decide)
  exact ⟨_, [], i1, fun _ h => absurd h (by simp), i2, by omega, i4⟩
end Sw
namespace Sw
open PySem PySem.Spec PyProof.Rows L2
/-- pairs of a tuple and a value, as they are laid: the key, its address, the value -/
abbrev PT := List Key × Addr × V
def PairT (K : PySem.W.Frag) (H : Hp) (p : Addr) (q : PT) : Prop := SqT K H p [.ref q.2.1, q.2.2] ∧ H q.2.1 = some (.tup (q.1.map kV))
theorem pairsT_of {X : Cx} {pins : List (Addr × Obj)} {σ : L2.St} {H : Hp} {s : Shared} (I : Inv X pins σ H s) : ∀ {ps : List Addr} {qs : List PT}, Paired (PairT X.K H) ps qs →
    ∃ prs : List (List Key × Addr × Value), Paired (fun (q : PT) (r : List Key × Addr × Value) => q.1 = r.1 ∧ q.2.1 = r.2.1 ∧ RelV q.2.2 r.2.2) qs prs ∧ prs.length = ps.length ∧
      ∀ (j : Nat) (r : List Key × Addr × Value), prs[j]? = some r → ∃ p, ps[j]? = some p ∧ s.heap.IsTuple p #[.ref r.2.1, r.2.2]
  | _, _, .nil => ⟨[], .nil, rfl, fun j r e => by simp at e⟩
  | _, _, .cons (a := p) (b := q) h t => by
    obtain ⟨prs, r, hl, hp⟩ := pairsT_of I t
    obtain ⟨its, rv, ht, _⟩ := I.tuple h.1
    obtain ⟨u, y, ei, ru, ry⟩ := vals2 rv
    subst ei
    cases (show u = Value.ref q.2.1 from ru)
    refine ⟨(q.1, q.2.1, y) :: prs, .cons ⟨rfl, rfl, ry⟩ r, by simp [hl], fun j z e => ?_⟩
    cases j with
    | zero =>
      obtain rfl : (q.1, q.2.1, y) = z := by simpa using e
      exact ⟨p, rfl, ht⟩
    | succ j =>
      obtain ⟨p2, h1, h2⟩ := hp j z (by simpa using e)
      exact ⟨p2, by simpa using h1, h2⟩
theorem stored_mem {κ : Type} [DecidableEq κ] {xs : List (κ × Addr × Value)} {k : κ} {a : Addr} {v : Value} {z : κ × Addr × Value} (h : z ∈ storedH xs k a v) : z = (k, a, v) ∨ z ∈ xs ∨ ∃ y ∈ xs, z = (y.1, y.2.1, v) := by
  unfold storedH at h
  split at h
  · obtain ⟨y, hy, e⟩ := List.mem_map.mp h
    unfold putAt at e
    split at e
    · exact .inr (.inr ⟨y, hy, e.symm⟩)
    · exact .inr (.inl (e ▸ hy))
  · rcases List.mem_append.mp h with q | q
    · exact .inr (.inl q)
    · exact .inl (by simpa using q)
theorem storedAll_mem {κ : Type} [DecidableEq κ] : ∀ (ps xs : List (κ × Addr × Value)) (z : κ × Addr × Value), z ∈ storedAllH xs ps →
    (∃ y, (y ∈ xs ∨ y ∈ ps) ∧ y.1 = z.1 ∧ y.2.1 = z.2.1) ∧ ∃ y, (y ∈ xs ∨ y ∈ ps) ∧ y.2.2 = z.2.2
  | [], xs, z, h => ⟨⟨z, .inl h, rfl, rfl⟩, z, .inl h, rfl⟩
  | p :: ps, xs, z, h => by
    obtain ⟨⟨y, hy, e1, e2⟩, y', hy', e3⟩ := storedAll_mem ps (storedH xs p.1 p.2.1 p.2.2) z h
    constructor
    · rcases hy with hy | hy
      · rcases stored_mem hy with q | q | ⟨t, q, e⟩
        · exact ⟨p, .inr (by simp), by rw [q] at e1; exact e1, by rw [q] at e2; exact e2⟩
        · exact ⟨y, .inl q, e1, e2⟩
        · exact ⟨t, .inl q, by rw [e] at e1; exact e1, by rw [e] at e2; exact e2⟩
      · exact ⟨y, .inr (by simp [hy]), e1, e2⟩
    · rcases hy' with hy | hy
      · rcases stored_mem hy with q | q | ⟨t, q, e⟩
        · exact ⟨p, .inr (by simp), by rw [q] at e3; exact e3⟩
        · exact ⟨y', .inl q, e3⟩
        · exact ⟨p, .inr (by simp), by rw [e] at e3; exact e3⟩
      · exact ⟨y', .inr (by simp [hy]), e3⟩
theorem stored_keep {κ : Type} [DecidableEq κ] {xs : List (κ × Addr × Value)} {k : κ} {a : Addr} {v : Value} {y : κ × Addr × Value} (h : y ∈ xs) : ∃ z ∈ storedH xs k a v, z.1 = y.1 := by
  unfold storedH
  split
  · refine ⟨putAt k v y, List.mem_map.mpr ⟨y, h, rfl⟩, ?_⟩
    unfold putAt
    split <;> rfl
  · exact ⟨y, List.mem_append.mpr (.inl h), rfl⟩
theorem stored_has {κ : Type} [DecidableEq κ] {xs : List (κ × Addr × Value)} {k : κ} {a : Addr} {v : Value} : ∃ z ∈ storedH xs k a v, z.1 = k := by
  by_cases e : (atKey xs k).isSome = true
  · obtain ⟨y, hy, e2⟩ : ∃ y ∈ xs, y.1 = k := by
      unfold atKey at e
      cases q : xs.find? (fun x => decide (x.1 = k)) with
      | none =>
        rw [q] at e
        cases e
      | some y => exact ⟨y, List.mem_of_find?_eq_some q, by simpa using List.find?_some q⟩
    obtain ⟨z, hz, e3⟩ := stored_keep (k := k) (a := a) (v := v) hy
    exact ⟨z, hz, e3.trans e2⟩
  · unfold storedH
    rw [if_neg e]
    exact ⟨(k, a, v), List.mem_append.mpr (.inr (by simp)), rfl⟩
theorem storedAll_has {κ : Type} [DecidableEq κ] : ∀ (ps xs : List (κ × Addr × Value)) (y : κ × Addr × Value), y ∈ xs ∨ y ∈ ps → ∃ z ∈ storedAllH xs ps, z.1 = y.1
  | [], xs, y, h => ⟨y, h.elim id (fun z => absurd z (by simp)), rfl⟩
  | p :: ps, xs, y, h => by
    show ∃ z ∈ storedAllH (storedH xs p.1 p.2.1 p.2.2) ps, z.1 = y.1
    rcases h with h | h
    · obtain ⟨z, hz, e⟩ := stored_keep (k := p.1) (a := p.2.1) (v := p.2.2) h
      obtain ⟨z2, h2, e2⟩ := storedAll_has ps _ z (.inl hz)
      exact ⟨z2, h2, e2.trans e⟩
    · rcases List.mem_cons.mp h with rfl | h
      · obtain ⟨z, hz, e⟩ := stored_has (xs := xs) (k := y.1) (a := y.2.1) (v := y.2.2)
        obtain ⟨z2, h2, e2⟩ := storedAll_has ps _ z (.inl hz)
        exact ⟨z2, h2, e2.trans e⟩
      · exact storedAll_has ps _ y (.inr h)
theorem storedAll_len {κ : Type} [DecidableEq κ] : ∀ (ps xs : List (κ × Addr × Value)), (storedAllH xs ps).length ≤ xs.length + ps.length
  | [], xs => Nat.le_refl _
  | p :: ps, xs => by
    have h := storedAll_len ps (storedH xs p.1 p.2.1 p.2.2)
    have h2 := storedH_length xs p.1 p.2.1 p.2.2
    show (storedAllH (storedH xs p.1 p.2.1 p.2.2) ps).length ≤ _
    simp only [List.length_cons]
    omega
theorem paired_mem {α β : Type} {F : α → β → Prop} : ∀ {l : List α} {m : List β} {b : β}, Paired F l m → b ∈ m → ∃ a ∈ l, F a b
  | _, _, b, .nil, h => by cases h
  | _, _, b, .cons h t, hb => by
    rcases List.mem_cons.mp hb with e | e
    · exact ⟨_, List.mem_cons_self .., e ▸ h⟩
    · obtain ⟨a, h1, h2⟩ := paired_mem t e
      exact ⟨a, List.mem_cons_of_mem _ h1, h2⟩
theorem paired_memL {α β : Type} {F : α → β → Prop} : ∀ {l : List α} {m : List β} {a : α}, Paired F l m → a ∈ l → ∃ b ∈ m, F a b
  | _, _, a, .nil, h => by cases h
  | _, _, a, .cons h t, ha => by
    rcases List.mem_cons.mp ha with e | e
    · exact ⟨_, List.mem_cons_self .., e ▸ h⟩
    · obtain ⟨b, h1, h2⟩ := paired_memL t e
      exact ⟨b, List.mem_cons_of_mem _ h1, h2⟩
/-- dict(xs), xs a list of pairs whose first things are tuples: its keys are just theirs -/
theorem call_dictTE {X : Cx} {k : Nat} (hr : Room k X.A) (hcalm : X.calm = true) : CallR X (.type "dict") (fun xs H Q => ∃ (a : Addr) (ps : List Addr) (qs : List PT), xs = [.ref a] ∧ SqL X.K H a (ps.map V.ref) ∧ Paired (PairT X.K H) ps qs ∧
    ∀ (d : Addr) (kvs : List (List Key × V)), H d = none → kvs.length ≤ ps.length → (∀ kv ∈ kvs, ∃ q ∈ qs, q.1 = kv.1) → (∀ q ∈ qs, ∃ kv ∈ kvs, kv.1 = q.1) → Q (.ref d) (upd H d (.dT kvs))) := by
  intro pins s σ H xs us Q I r q
  obtain ⟨a, ps, qs, rfl, hq, hp, q⟩ := q
  obtain ⟨u, rfl, rx⟩ := vals1 r
  cases rx
  obtain ⟨its, rv, pl, hz⟩ := I.list hq
  obtain rfl := refs_at rv
  rw [List.length_map] at hz
  obtain ⟨prs, rel, hl, hpr⟩ := pairsT_of I hp
  obtain ⟨o, n, ho, hc, hd, hdat⟩ := pl
  have un := hr.units
  let psV : List (Value × Value) := prs.map fun r => (.ref r.2.1, r.2.2)
  let Ts : Nat → Addr := fun j => ps.getD j 0
  have hlen : psV.length = ps.length := by simp [psV, hl]
  have keyAt : ∀ r ∈ prs, H r.2.1 = some (.tup (r.1.map kV)) := fun r hr => by
    obtain ⟨t, ht, e1, e2, _⟩ := paired_mem rel hr
    have back : ∀ {l : List Addr} {m : List PT}, Paired (PairT X.K H) l m → t ∈ m → H t.2.1 = some (.tup (t.1.map kV)) := fun h hm => by
      obtain ⟨_, _, z⟩ := paired_mem h hm
      exact z.2
    rw [← e1, ← e2]
    exact back hp ht
  have okP : PlainSeq "list" s.heap a (ps.map Value.ref).toArray ∧ PairItems s.heap (ps.map Value.ref).toArray Ts psV := by
    refine ⟨⟨o, n, ho, hc, hd, hdat⟩, by simp [hlen], fun j kk v e => ?_⟩
    obtain ⟨r, er, e2⟩ : ∃ r, prs[j]? = some r ∧ (Value.ref r.2.1, r.2.2) = (kk, v) := by
      simp only [psV, List.getElem?_map] at e
      cases z : prs[j]? with
      | none => rw [z] at e; simp at e
      | some r => rw [z] at e; exact ⟨r, rfl, by simpa using e⟩
    cases e2
    obtain ⟨p, h1, h2⟩ := hpr j r er
    have eT : Ts j = p := by simp [Ts, List.getD, h1]
    refine ⟨by simp [h1, eT], .inl (by rw [eT]; exact h2)⟩
  have hsz : psV.length ≤ sizeLine := by rw [hlen]; exact hz
  refine call_dict_pairsH (knd := tupleKind (mixKind X.prog X.w)) (ps := prs) (PairArg.list a (ps.map Value.ref).toArray Ts psV) (I.ok.hd hcalm) (by show X.A.units + 1 + 1 < cLine; omega) okP ⟨by simp [psV], fun i key v hrel => ?_⟩ (fun h' hk x hx => ?_) hsz fun h' tk hd' hk => ?_
  · have e : psV[i]? = some (key, v) := hrel
    simp only [psV, List.getElem?_map] at e
    cases z : prs[i]? with
    | none => rw [z] at e; simp at e
    | some r =>
      rw [z] at e
      obtain ⟨rk, rb, rv'⟩ := r
      have e2 : (Value.ref rb, rv') = (key, v) := by simpa using e
      cases e2
      exact ⟨rk, rb, rfl, rfl⟩
  · obtain ⟨o', its', n', h1, h2, h3, h4⟩ := key_of I.hok (keyAt x hx)
    exact ⟨o', its', n', hk _ _ (Nat.ne_of_lt (Heap.lt_size h1)) (by simp) h1, h2, h3, h4⟩
  · have hm : (s.heap.objs.size == sysModules) = false := beq_eq_false_iff_ne.mpr (Nat.ne_of_gt I.big)
    have hn : H s.heap.objs.size = none := I.hok.fresh (Nat.le_refl _)
    have hll : (storedAllH [] prs).length ≤ ps.length := by
      have := storedAll_len prs []
      rw [List.length_nil, Nat.zero_add, hl] at this
      exact this
    have vOf : ∀ z ∈ storedAllH [] prs, ∃ y, RelV y z.2.2 := fun z hz => by
      obtain ⟨_, y, hy, e⟩ := storedAll_mem prs [] z hz
      rcases hy with hy | hy
      · cases hy
      · obtain ⟨t, _, _, _, e3⟩ := paired_mem rel hy
        exact ⟨t.2.2, by rw [← e]; exact e3⟩
    have kOf : ∀ z ∈ storedAllH [] prs, H z.2.1 = some (.tup (z.1.map kV)) ∧ ∃ q ∈ qs, q.1 = z.1 := fun z hz => by
      obtain ⟨⟨y, hy, e1, e2⟩, _⟩ := storedAll_mem prs [] z hz
      rcases hy with hy | hy
      · cases hy
      · refine ⟨by rw [← e1, ← e2]; exact keyAt y hy, ?_⟩
        obtain ⟨t, ht, e3, _, _⟩ := paired_mem rel hy
        exact ⟨t, ht, e3.trans e1⟩
    obtain ⟨kvs, hkv⟩ : ∃ kvs : List (List Key × V), Paired (fun (p : List Key × V) (z : List Key × Addr × Value) => p.1 = z.1 ∧ (upd H s.heap.objs.size (.dT kvs)) z.2.1 = some (.tup (p.1.map kV)) ∧ RelV p.2 z.2.2) kvs (storedAllH [] prs) ∧ ∀ kv ∈ kvs, ∃ q ∈ qs, q.1 = kv.1 := by
      have mk : ∀ l : List (List Key × Addr × Value), (∀ z ∈ l, (∃ y, RelV y z.2.2) ∧ H z.2.1 = some (.tup (z.1.map kV)) ∧ ∃ q ∈ qs, q.1 = z.1) →
          ∃ kvs : List (List Key × V), Paired (fun (p : List Key × V) (z : List Key × Addr × Value) => p.1 = z.1 ∧ H z.2.1 = some (.tup (p.1.map kV)) ∧ RelV p.2 z.2.2) kvs l ∧ ∀ kv ∈ kvs, ∃ q ∈ qs, q.1 = kv.1 := by
        intro l
        induction l with
        | nil => intro _; exact ⟨[], .nil, fun _ h => by cases h⟩
        | cons z l ih =>
          intro hz
          obtain ⟨⟨y, hy⟩, hk', hq'⟩ := hz z (List.mem_cons_self ..)
          obtain ⟨kvs, h1, h2⟩ := ih fun t ht => hz t (List.mem_cons_of_mem _ ht)
          refine ⟨(z.1, y) :: kvs, .cons ⟨rfl, hk', hy⟩ h1, fun kv hkv => ?_⟩
          rcases List.mem_cons.mp hkv with e | e
          · rw [e]; exact hq'
          · exact h2 kv e
      obtain ⟨kvs, h1, h2⟩ := mk (storedAllH [] prs) fun z hz => ⟨vOf z hz, kOf z hz⟩
      exact ⟨kvs, Paired.mapP h1 fun p z h => ⟨h.1, by rw [upd_ne (ne_of_none h.2.1 hn)]; exact h.2.1, h.2.2⟩, h2⟩
    have hkl : kvs.length = (storedAllH [] prs).length := hkv.1.length
    obtain ⟨o', es, ep, h1, h2, h3, h4, _, h5⟩ := hd'
    exact ⟨.ref s.heap.objs.size, upd H s.heap.objs.size (.dT kvs), I.laid (t' := tk) (fun b o e => hk b o (by simp) e) (Nat.le_refl _)
      (show ObjOk X.prog X.w _ _ _ (.dT kvs) from ⟨by omega, hm, storedAllH [] prs, hkv.1, o', es, ep, h1, h2, h3, h4, h5⟩), rfl, q _ kvs hn (by omega) hkv.2 fun t ht => by
        obtain ⟨r, hr, e⟩ := paired_memL rel ht
        obtain ⟨z, hz, e2⟩ := storedAll_has prs [] r (.inr hr)
        obtain ⟨kv, hk, e3⟩ := paired_mem hkv.1 hz
        exact ⟨kv, hk, e3.1.trans (e2.trans e.1.symm)⟩⟩
/-- the same, told less -/
theorem call_dictT {X : Cx} {k : Nat} (hr : Room k X.A) (hcalm : X.calm = true) : CallR X (.type "dict") (fun xs H Q => ∃ (a : Addr) (ps : List Addr) (qs : List PT), xs = [.ref a] ∧ SqL X.K H a (ps.map V.ref) ∧ Paired (PairT X.K H) ps qs ∧
    ∀ (d : Addr) (kvs : List (List Key × V)), H d = none → kvs.length ≤ ps.length → (∀ kv ∈ kvs, ∃ q ∈ qs, q.1 = kv.1) → Q (.ref d) (upd H d (.dT kvs))) := by
  intro pins s σ H xs us Q I r q
  obtain ⟨a, ps, qs, e, hq, hp, q⟩ := q
  exact call_dictTE hr hcalm pins s σ H xs us Q I r ⟨a, ps, qs, e, hq, hp, fun d kvs h1 h2 h3 _ => q d kvs h1 h2 h3⟩
end Sw
namespace Sw
open PySem L2
/-- an arrow of whole numbers below n -/
def Arr (n : Int) (H : Hp) (x : V) : Prop := ∃ t a b, x = .ref t ∧ H t = some (.tup [.int a, .int b]) ∧ Inn n a ∧ Inn n b
def Arrs (n : Int) (H : Hp) (xs : List V) : Prop := ∀ x ∈ xs, Arr n H x
def KOk (n : Int) (k : List Key) : Prop := ∃ a b : Int, k = [.inl a, .inl b] ∧ Inn n a ∧ Inn n b
def PairH (H : Hp) (p : Addr) (q : PT) : Prop := H p = some (.tup [.ref q.2.1, q.2.2]) ∧ H q.2.1 = some (.tup (q.1.map kV))
theorem PairH.t {K : PySem.W.Frag} {H : Hp} {p : Addr} {q : PT} (h : PairH H p q) : PairT K H p q := ⟨SqT.of h.1, h.2⟩
theorem Arr.keep {n : Int} {H H' : Hp} {x : V} (h : Arr n H x) (s : TupS H H') : Arr n H' x := by
  obtain ⟨t, a, b, e, h, r⟩ := h
  exact ⟨t, a, b, e, s _ _ h, r⟩
theorem Arrs.keep {n : Int} {H H' : Hp} {xs : List V} (h : Arrs n H xs) (s : TupS H H') : Arrs n H' xs := fun x hx => (h x hx).keep s
theorem PairH.keep {H H' : Hp} {p : Addr} {q : PT} (h : PairH H p q) (s : TupS H H') : PairH H' p q := ⟨s _ _ h.1, s _ _ h.2⟩
theorem paired_mono {α β : Type} {F G : α → β → Prop} (h : ∀ a b, F a b → G a b) : ∀ {l : List α} {m : List β}, Paired F l m → Paired G l m
  | _, _, .nil => .nil
  | _, _, .cons x t => .cons (h _ _ x) (paired_mono h t)
theorem paired_app {α β : Type} {F : α → β → Prop} : ∀ {l l' : List α} {m m' : List β}, Paired F l m → Paired F l' m' → Paired F (l ++ l') (m ++ m')
  | _, _, _, _, .nil, h => h
  | _, _, _, _, .cons x t, h => .cons x (paired_app t h)
/-- the list of pairs that a block has made so far -/
def PV (D : Addr) (H1 : Hp) (n : Int) (i : Nat) (H : Hp) : Prop := ∃ ps qs, H D = some (.lst (ps.map V.ref)) ∧ Paired (PairH H) ps qs ∧ (∀ q ∈ qs, KOk n q.1) ∧ ps.length ≤ i ∧ H1 D = none ∧ Same H1 H
theorem PV.start {D : Addr} {H1 : Hp} {n : Int} (h : H1 D = none) : PV D H1 n 0 (L2.upd H1 D (.lst [])) :=
  ⟨[], [], upd_same, .nil, fun _ h => absurd h (by simp), Nat.le_refl _, h, same_new h⟩
theorem PV.add {D : Addr} {H1 : Hp} {n : Int} {i : Nat} {H H2 : Hp} {t k : Addr} {a b : Int} {v : V} (h : PV D H1 n i H) (s : Same H H2) (hi : i < 1000) (ht : H2 t = some (.tup [.ref k, v])) (hk : H2 k = some (.tup [.int a, .int b])) (ia : Inn n a) (ib : Inn n b) :
    ∃ acc, H2 D = some (.lst acc) ∧ acc.length < sizeLine ∧ PV D H1 n (i + 1) (L2.upd H2 D (.lst (acc ++ [.ref t]))) := by
  obtain ⟨ps, qs, h1, h2, h3, h4, h5, h6⟩ := h
  have hD := s _ _ h1
  have ts : TupS H2 (L2.upd H2 D (.lst (ps.map V.ref ++ [.ref t]))) := TupS.upd fun xs z => by
    rw [hD] at z
    cases z
  refine ⟨_, hD, ?_, ps ++ [t], qs ++ [([.inl a, .inl b], k, v)], ?_, (paired_mono (fun _ _ x => x.keep ((TupS.of s).trans ts)) h2).snoc (b := (([.inl a, .inl b] : List Key), k, v)) ⟨ts _ _ ht, ts k [.int a, .int b] hk⟩, fun q hq => ?_, ?_, h5, fun c o e => ?_⟩
  · rw [List.length_map, sizeLine_eq]
    omega
  · rw [upd_same, List.map_append]
    rfl
  · rcases List.mem_append.mp hq with z | z
    · exact h3 q z
    · rw [List.mem_singleton.mp z]
      exact ⟨a, b, rfl, ia, ib⟩
  · rw [List.length_append, List.length_singleton]
    omega
  · rw [upd_ne (ne_of_none e h5)]
    exact s _ _ (h6 _ _ e)
/-- the list of arrows that a block has made so far -/
def EV (q : Prop) (D : Addr) (H1 : Hp) (n : Int) (i : Nat) (H : Hp) : Prop := ∃ xs, H D = some (.lst xs) ∧ Arrs n H xs ∧ (xs.length ≤ i ∧ (q → xs.length = i)) ∧ H1 D = none ∧ Same H1 H
theorem EV.start {q : Prop} {D : Addr} {H1 : Hp} {n : Int} (h : H1 D = none) : EV q D H1 n 0 (L2.upd H1 D (.lst [])) :=
  ⟨[], upd_same, fun _ h => absurd h (by simp), ⟨Nat.le_refl _, fun _ => rfl⟩, h, same_new h⟩
theorem EV.skip {D : Addr} {H1 : Hp} {n : Int} {i : Nat} {H : Hp} (h : EV False D H1 n i H) : EV False D H1 n (i + 1) H := by
  obtain ⟨xs, h1, h2, h3, r⟩ := h
  exact ⟨xs, h1, h2, ⟨by omega, fun z => z.elim⟩, r⟩
theorem EV.add {q : Prop} {D : Addr} {H1 : Hp} {n : Int} {i : Nat} {H H2 : Hp} {t : Addr} {a b : Int} (h : EV q D H1 n i H) (s : Same H H2) (hi : i < 1000) (ht : H2 t = some (.tup [.int a, .int b])) (ia : Inn n a) (ib : Inn n b) :
    ∃ acc, H2 D = some (.lst acc) ∧ acc.length < sizeLine ∧ EV q D H1 n (i + 1) (L2.upd H2 D (.lst (acc ++ [.ref t]))) := by
  obtain ⟨xs, h1, h2, h4, h5, h6⟩ := h
  have hD := s _ _ h1
  have ts : TupS H2 (L2.upd H2 D (.lst (xs ++ [.ref t]))) := TupS.upd fun xs z => by
    rw [hD] at z
    cases z
  refine ⟨_, hD, ?_, xs ++ [.ref t], upd_same, fun q hq => ?_, ?_, h5, fun c o e => ?_⟩
  · rw [sizeLine_eq]
    omega
  · rcases List.mem_append.mp hq with z | z
    · exact (h2 q z).keep ((TupS.of s).trans ts)
    · rw [List.mem_singleton.mp z]
      exact ⟨t, a, b, rfl, ts _ _ ht, ia, ib⟩
  · rw [List.length_append, List.length_singleton]
    exact ⟨by omega, fun z => by rw [h4.2 z]⟩
  · rw [upd_ne (ne_of_none e h5)]
    exact s _ _ (h6 _ _ e)
/-- what the making of a net carries -/
def NJ (p d : Addr) (n : Int) (H0 : Hp) (m : Nat) (σ : L2.St) (H : Hp) : Prop :=
  ∃ (sort : Int) (o g e : Addr) (sv st : Option V) (os : List Int) (es : List V) (kvs : List (List Key × V)),
    σ = [some (.ref p), some (.int n), some (.int sort), some (.ref o), some (.ref g), some (.ref e), sv, st, none, none] ∧ Inn 8 sort ∧ Deck H p d 63 ∧ Kp p d H0 H ∧
    (H o = some (.lst (os.map V.int)) ∧ o ≠ d ∧ (os.length : Int) = n ∧ ∀ a ∈ os, Inn n a) ∧ (H g = some (.dT kvs) ∧ (∀ kv ∈ kvs, KOk n kv.1) ∧ kvs.length ≤ m ∧ H0 g = none) ∧
    (H e = some (.lst es) ∧ e ≠ d ∧ Arrs n H es ∧ es ≠ [] ∧ es.length ≤ 144)
theorem NJ.turn {p d : Addr} {n : Int} {H0 H : Hp} {m : Nat} {σ : L2.St} {x : Option V} (j : NJ p d n H0 m σ H) : NJ p d n H0 m (σ.set 7 x) H := by
  obtain ⟨sort, o, g, e, sv, st, os, es, kvs, rfl, r⟩ := j
  exact ⟨sort, o, g, e, sv, x, os, es, kvs, rfl, r⟩
theorem putK_keys {n : Int} {kvs : List (List Key × V)} {k : List Key} {v : V} (h : ∀ kv ∈ kvs, KOk n kv.1) (hk : KOk n k) : ∀ kv ∈ putK kvs k v, KOk n kv.1 := by
  intro kv hkv
  unfold putK at hkv
  split at hkv
  · obtain ⟨z, hz, e⟩ := List.mem_map.mp hkv
    have := h z hz
    split at e
    · rw [← e]; exact this
    · rw [← e]; exact this
  · rcases List.mem_append.mp hkv with z | z
    · exact h kv z
    · rw [List.mem_singleton.mp z]
      exact hk
theorem NJ.same {p d : Addr} {n : Int} {H0 H H' : Hp} {m : Nat} {σ : L2.St} (j : NJ p d n H0 m σ H) (s : Same H H') : NJ p d n H0 m σ H' := by
  obtain ⟨sort, o, g, e, sv, st, os, es, kvs, rfl, i1, D1, k1, ⟨h1, h2, h3, h4⟩, ⟨g1, g2, g3, g4⟩, e1, e2, e3, e4, e5⟩ := j
  exact ⟨sort, o, g, e, sv, st, os, es, kvs, rfl, i1, D1.same s, k1.trans (.of s), ⟨s _ _ h1, h2, h3, h4⟩, ⟨s _ _ g1, g2, g3, g4⟩, s _ _ e1, e2, e3.keep (.of s), e4, e5⟩
theorem NJ.put {p d g2 : Addr} {n : Int} {H0 H H' : Hp} {m m' : Nat} {σ : L2.St} {ks : List (List Key × V)} (j : NJ p d n H0 m σ H) (s : Same H H') (ng : H' g2 = none) (k1 : ∀ kv ∈ ks, KOk n kv.1) (k2 : ks.length ≤ m') : NJ p d n H0 m' (σ.set 4 (some (.ref g2))) (L2.upd H' g2 (.dT ks)) := by
  obtain ⟨sort, o, g, e, sv, st, os, es, kvs, rfl, i1, D1, k, ⟨h1, h2, h3, h4⟩, ⟨g1, _, g3⟩, e1, e2, e3, e4, e5⟩ := j
  have s2 : Same H (L2.upd H' g2 (.dT ks)) := s.trans (same_new ng)
  exact ⟨sort, o, g2, e, sv, st, os, es, ks, rfl, i1, D1.same s2, k.trans (.of s2), ⟨s2 _ _ h1, h2, h3, h4⟩, ⟨upd_same, k1, k2, (k.trans (.of s)).free (D1.same s) ng⟩, s2 _ _ e1, e2, e3.keep (.of s2), e4, e5⟩
theorem PV.dict {K : PySem.W.Frag} {p d D : Addr} {n : Int} {H0 H1 H : Hp} {i m m' : Nat} {σ : L2.St} (h : PV D H1 n i H) (j : NJ p d n H0 m σ H1) (hi : i ≤ m') {Q : VK} (k : ∀ g' H', NJ p d n H0 m' (σ.set 4 (some (.ref g'))) H' → Q (.ref g') H') :
    ∃ (a : Addr) (ps : List Addr) (qs : List PT), [V.ref D] = [.ref a] ∧ SqL K H a (ps.map V.ref) ∧ Paired (PairT K H) ps qs ∧
      ∀ (d : Addr) (kvs : List (List Key × V)), H d = none → kvs.length ≤ ps.length → (∀ kv ∈ kvs, ∃ q ∈ qs, q.1 = kv.1) → Q (.ref d) (L2.upd H d (.dT kvs)) := by
  obtain ⟨ps, qs, h1, h2, h3, h4, h5, h6⟩ := h
  refine ⟨D, ps, qs, rfl, SqL.of h1, paired_mono (fun _ _ x => x.t) h2, fun g' kvs ng l1 l2 => k g' _ (j.put h6 ng (fun kv hkv => ?_) (by omega))⟩
  obtain ⟨q, hq, e⟩ := l2 kv hkv
  rw [← e]
  exact h3 q hq
theorem PV.cat {D1 D2 : Addr} {n : Int} {H1 Ha Hb0 Hb : Hp} {i1 i2 : Nat} (a : PV D1 H1 n i1 Ha) (s : Same Ha Hb0) (b : PV D2 Hb0 n i2 Hb) (hi : i1 + i2 ≤ 1000) :
    ∃ xs zs, Hb D1 = some (.lst xs) ∧ Hb D2 = some (.lst zs) ∧ xs.length + zs.length ≤ sizeLine ∧ ∀ c, Hb c = none → PV c H1 n (i1 + i2) (L2.upd Hb c (.lst (xs ++ zs))) := by
  obtain ⟨ps, qs, h1, h2, h3, h4, h5, h6⟩ := a
  obtain ⟨ps2, qs2, l1, l2, l3, l4, l5, l6⟩ := b
  have sb := s.trans l6
  refine ⟨_, _, sb _ _ h1, l1, ?_, fun c nc => ?_⟩
  · rw [List.length_map, List.length_map, sizeLine_eq]
    omega
  · have sc : Same Hb (L2.upd Hb c (.lst (ps.map V.ref ++ ps2.map V.ref))) := same_new nc
    have nc1 : H1 c = none := (h6.trans sb).free nc
    refine ⟨ps ++ ps2, qs ++ qs2, ?_, paired_app (paired_mono (fun _ _ x => x.keep (.of (sb.trans sc))) h2) (paired_mono (fun _ _ x => x.keep (.of sc)) l2), fun q hq => (List.mem_append.mp hq).elim (h3 q) (l3 q), ?_, nc1, (h6.trans sb).trans sc⟩
    · rw [upd_same, List.map_append]
    · rw [List.length_append]
      omega
/-- whole numbers below n -/
def Ins (n : Int) (xs : List V) : Prop := ∀ x ∈ xs, ∃ a, x = .int a ∧ Inn n a
theorem Ins.of {n : Int} {os : List Int} (h : ∀ a ∈ os, Inn n a) : Ins n (os.map V.int) := fun x hx => by
  obtain ⟨a, ha, rfl⟩ := List.mem_map.mp hx
  exact ⟨a, rfl, h a ha⟩
theorem Ins.cut {n : Int} {xs : List V} (h : Ins n xs) (lo hi : Option Int) : Ins n (cutV xs lo hi) := fun x hx => h x (List.mem_of_mem_drop (List.mem_of_mem_take hx))
theorem Ins.app {n : Int} {xs ys : List V} (h : Ins n xs) (h' : Ins n ys) : Ins n (xs ++ ys) := fun x hx => (List.mem_append.mp hx).elim (h x) (h' x)
theorem Ins.at {n : Int} {xs : List V} {i : Nat} {x : V} (h : Ins n xs) (e : xs[i]? = some x) : ∃ a, x = .int a ∧ Inn n a := h x (List.mem_of_getElem? e)
end Sw
namespace Sw
open PySem L2
/-! ### nets as data -/
theorem arr_rep {K : PySem.W.Frag} {n : Int} {H : Hp} {x : V} (hn : n ≤ 12) (h : Arr n H x) : ∃ dd as, Rep K H dd x as ∧ (∀ c ∈ as, ∃ v w : Int, H c = some (.tup [.int v, .int w])) ∧ small dd ∧ wt dd ≤ 15 ∧ dep dd ≤ 1 := by
  obtain ⟨t, a, b, rfl, ht, ha, hb⟩ := h
  obtain ⟨a1, a2, a3, _⟩ := int_ok (K := K) (H := H) (i := a) (w := 3) (k := 0) (by have := ha.1; have := ha.2; omega) (by decide) (by decide)
  obtain ⟨b1, b2, b3, _⟩ := int_ok (K := K) (H := H) (i := b) (w := 3) (k := 0) (by have := hb.1; have := hb.2; omega) (by decide) (by decide)
  refine ⟨.tup [.int a, .int b], [t], ?_, fun c hc => ?_, ?_, ?_, by simp [dep, depAll]⟩
  · simp only [Rep, RepAll]
    exact ⟨t, _, [], rfl, ht, ⟨_, _, [], [], rfl, ⟨rfl, rfl⟩, ⟨_, _, [], [], rfl, ⟨rfl, rfl⟩, ⟨rfl, rfl⟩, rfl⟩, rfl⟩, by simp, rfl⟩
  · rw [List.mem_singleton.mp hc]
    exact ⟨a, b, ht⟩
  · simp only [small, smallAll]
    simp only [small] at a2 b2
    exact ⟨a2, b2, trivial⟩
  · simp only [wt, wtAll] at a3 b3 ⊢
    omega
theorem arrs_rep {K : PySem.W.Frag} {n : Int} {H : Hp} (hn : n ≤ 12) : ∀ {xs : List V}, Arrs n H xs → ∃ ds as, RepAll K H ds xs as ∧ (∀ c ∈ as, ∃ v w : Int, H c = some (.tup [.int v, .int w])) ∧ smallAll ds ∧ wtAll ds ≤ xs.length * 17 ∧ depAll ds ≤ 1
  | [], _ => ⟨[], [], by simp [RepAll], fun _ h => absurd h (by simp), by simp [smallAll], by simp [wtAll], by simp [depAll]⟩
  | x :: r, h => by
    obtain ⟨dd, as, h1, h2, h3, h4, h5⟩ := arr_rep (K := K) hn (h x (by simp))
    obtain ⟨ds, bs, l1, l2, l3, l4, l5⟩ := arrs_rep (K := K) (xs := r) hn fun y hy => h y (by simp [hy])
    refine ⟨dd :: ds, as ++ bs, ?_, fun c hc => (List.mem_append.mp hc).elim (h2 c) (l2 c), ?_, ?_, ?_⟩
    · simp only [RepAll]
      exact ⟨x, r, as, bs, rfl, h1, l1, rfl⟩
    · simp only [smallAll]
      exact ⟨h3, l3⟩
    · simp only [wtAll, List.length_cons]
      omega
    · simp only [depAll]
      omega
/-- a net as it stands at a, its arrows at b -/
structure NetAt (n : Int) (H : Hp) (a b : Addr) (ts : List V) : Prop where
  a : H a = some (.tup [.int n, .ref b])
  b : H b = some (.tup ts)
  arr : Arrs n H ts
  len : ts.length ≤ 200
  n1 : 1 ≤ n
  n2 : n ≤ 12
theorem NetAt.keep {n : Int} {H H' : Hp} {a b : Addr} {ts : List V} (N : NetAt n H a b ts) (s : TupS H H') : NetAt n H' a b ts := ⟨s _ _ N.a, s _ _ N.b, N.arr.keep s, N.len, N.n1, N.n2⟩
theorem NetAt.repB {K : PySem.W.Frag} {n : Int} {H : Hp} {a b : Addr} {ts : List V} (N : NetAt n H a b ts) : ∃ ds as, Rep K H (.tup ds) (.ref b) (b :: as) ∧ (∀ c ∈ as, ∃ v w : Int, H c = some (.tup [.int v, .int w])) ∧ small (.tup ds) ∧ wt (.tup ds) ≤ 3403 ∧ dep (.tup ds) ≤ 2 := by
  obtain ⟨ds, as, h1, h2, h3, h4, h5⟩ := arrs_rep (K := K) N.n2 N.arr
  refine ⟨ds, as, ?_, h2, by simp only [small]; exact h3, ?_, by simp only [dep]; omega⟩
  · simp only [Rep]
    refine ⟨b, ts, as, rfl, N.b, h1, fun z => ?_, rfl⟩
    obtain ⟨v, w, e⟩ := h2 b z
    rw [N.b] at e
    cases e
    obtain ⟨t, _, _, e, _⟩ := N.arr (.int v) (by simp)
    cases e
  · have := N.len
    simp only [wt]
    omega
theorem NetAt.rep {K : PySem.W.Frag} {n : Int} {H : Hp} {a b : Addr} {ts : List V} (N : NetAt n H a b ts) : ∃ dd as, Rep K H dd (.ref a) as ∧ (∀ c ∈ as, ∃ zs, H c = some (.tup zs)) ∧ small dd ∧ wt dd ≤ 3500 ∧ dep dd ≤ 3 := by
  obtain ⟨ds, as, h1, h2, h3, h4, h5⟩ := N.repB (K := K)
  obtain ⟨i1, i2, i3, _⟩ := int_ok (K := K) (H := H) (i := n) (w := 3) (k := 0) (by have := N.n1; have := N.n2; omega) (by decide) (by decide)
  refine ⟨.tup [.int n, .tup ds], a :: b :: as, ?_, fun c hc => ?_, ?_, ?_, by simp only [dep, depAll] at h5 ⊢; omega⟩
  · rw [Rep]
    refine ⟨a, _, b :: as, rfl, N.a, ?_, fun z => ?_, rfl⟩
    · rw [RepAll]
      refine ⟨_, _, [], b :: as, rfl, i1, ?_, rfl⟩
      rw [RepAll]
      refine ⟨_, _, b :: as, [], rfl, h1, by simp [RepAll], by simp⟩
    · rcases List.mem_cons.mp z with z | z
      · have e := N.b
        rw [← z, N.a] at e
        cases e
        obtain ⟨t, _, _, e, _⟩ := N.arr (.int n) (by simp)
        cases e
      · obtain ⟨v, w, e⟩ := h2 a z
        rw [N.a] at e
        cases e
  · rcases List.mem_cons.mp hc with z | z
    · rw [z]; exact ⟨_, N.a⟩
    · rcases List.mem_cons.mp z with z | z
      · rw [z]; exact ⟨_, N.b⟩
      · obtain ⟨v, w, e⟩ := h2 c z
        exact ⟨_, e⟩
  · simp only [small, smallAll] at h3 i2 ⊢
    exact ⟨i2, h3, trivial⟩
  · simp only [wt, wtAll] at h4 i3 ⊢
    omega
theorem NetAt.datA {K : PySem.W.Frag} {n : Int} {H : Hp} {p d a b : Addr} {U : Addr → Prop} {ts : List V} (N : NetAt n H a b ts) (D : Dk H p d U) : Dat K U 3500 3 H (.ref a) := by
  obtain ⟨dd, as, h1, h2, h3, h4, h5⟩ := N.rep (K := K)
  refine ⟨dd, as, h1, fun c hc => ?_, h3, h4, h5⟩
  obtain ⟨zs, e⟩ := h2 c hc
  exact D.tup _ _ e
theorem NetAt.datB {K : PySem.W.Frag} {n : Int} {H : Hp} {p d a b : Addr} {U : Addr → Prop} {ts : List V} (N : NetAt n H a b ts) (D : Dk H p d U) : Dat K U 3500 3 H (.ref b) := by
  obtain ⟨ds, as, h1, h2, h3, h4, h5⟩ := N.repB (K := K)
  refine ⟨.tup ds, b :: as, h1, fun c hc => ?_, h3, by omega, by omega⟩
  rcases List.mem_cons.mp hc with z | z
  · rw [z]
    exact D.tup _ _ N.b
  · obtain ⟨v, w, e⟩ := h2 c z
    exact D.tup _ _ e
theorem Arr.dat {K : PySem.W.Frag} {p d : Addr} {U : Addr → Prop} {n : Int} {H : Hp} {x : V} (D : Dk H p d U) (hn : n ≤ 12) (h : Arr n H x) : Dat K U 300 10 H x := by
  obtain ⟨dd, as, h1, h2, h3, h4, h5⟩ := arr_rep (K := K) hn h
  refine ⟨dd, as, h1, fun c hc => ?_, h3, by omega, by omega⟩
  obtain ⟨v, w, e⟩ := h2 c hc
  exact D.tup _ _ e
end Sw
namespace Sw
open PySem L2
/-! ### what a heap's dict is known to be: no key twice -/
def NdT (H : Hp) : Prop := ∀ a kvs, H a = some (.dT kvs) → (kvs.map Prod.fst).Nodup
theorem paired_fst {α β γ : Type} {F : α → β → Prop} {f : α → γ} {g : β → γ} (h : ∀ a b, F a b → f a = g b) : ∀ {l : List α} {m : List β}, Paired F l m → l.map f = m.map g
  | _, _, .nil => rfl
  | _, _, .cons x t => by rw [List.map_cons, List.map_cons, h _ _ x, paired_fst h t]
theorem nd_inv {X : Cx} {pins : List (Addr × Obj)} {σ : L2.St} {H : Hp} {s : Shared} (I : Inv X pins σ H s) : NdT H := fun a kvs e => by
  obtain ⟨_, _, xs, pr, o, es, ep, _, _, _, _, nd⟩ := (show ObjOk X.prog X.w H s.heap a (.dT kvs) from I.hok a _ e)
  rw [paired_fst (f := Prod.fst) (g := fun z : List Key × Addr × Value => z.1) (fun a b h => h.1) pr]
  exact nd
theorem ps_fact {X : Cx} {st : Stmt} {t : TS} (h : PS X st t) : PS X st (fun D σ H => NdT H → t D σ H) := ⟨fun pins s σ H D I q => h.run pins s σ H D I (q (nd_inv I))⟩
/-- a key as a pair, if its things are two unlike ones -/
def kPair (kv : List Key × V) : Option (Int × Int) := match kv.1 with
  | [.inl a, .inl b] => if a = b then none else some (a, b)
  | _ => none
def kPairs (kvs : List (List Key × V)) : List (Int × Int) := kvs.filterMap kPair
theorem kPair_inj {x y : List Key × V} {e : Int × Int} (h1 : kPair x = some e) (h2 : kPair y = some e) : x.1 = y.1 := by
  have sol : ∀ z : List Key × V, kPair z = some e → z.1 = [.inl e.1, .inl e.2] := fun z hz => by
    unfold kPair at hz
    split at hz
    · rename_i a b q
      split at hz
      · cases hz
      · cases hz
        exact q
    · cases hz
  rw [sol x h1, sol y h2]
theorem kPairs_nd {kvs : List (List Key × V)} (h : (kvs.map Prod.fst).Nodup) : (kPairs kvs).Nodup := by
  unfold kPairs
  refine List.pairwise_filterMap.mpr ?_
  refine (List.pairwise_map.mp h).imp ?_
  intro x y ne a ha b hb z
  subst z
  exact ne (kPair_inj ha hb)
theorem kPairs_ne {kvs : List (List Key × V)} : ∀ e ∈ kPairs kvs, e.1 ≠ e.2 := fun e he => by
  obtain ⟨x, _, hx⟩ := List.mem_filterMap.mp he
  unfold kPair at hx
  split at hx
  · split at hx
    · cases hx
    · rename_i q
      cases hx
      exact q
  · cases hx
/-- pairs below n, each once, are n * n at most -/
theorem pigeon : ∀ (m : Nat) (l : List Nat), l.Nodup → (∀ x ∈ l, x < m) → l.length ≤ m
  | 0, l, _, h => by
    cases l with
    | nil => exact Nat.le_refl _
    | cons a r => exact absurd (h a (by simp)) (Nat.not_lt_zero _)
  | m + 1, l, nd, h => by
    have h1 := pigeon m (l.erase m) (nd.erase m) fun x hx => by
      have h2 := h x (List.mem_of_mem_erase hx)
      have : x ≠ m := fun z => by
        rw [z] at hx
        exact (List.Nodup.not_mem_erase nd) hx
      omega
    have h3 := List.length_erase_of_mem (a := m) (l := l)
    by_cases hm : m ∈ l
    · have := h3 hm
      omega
    · rw [List.erase_of_not_mem hm] at h1
      omega
theorem pairs_le {n : Int} {ars : List (Int × Int)} (nd : ars.Nodup) (h : ∀ e ∈ ars, Inn n e.1 ∧ Inn n e.2) : ars.length ≤ n.toNat * n.toNat := by
  have inj : (ars.map fun e => e.1.toNat * n.toNat + e.2.toNat).Nodup := by
    refine List.pairwise_map.mpr (List.Pairwise.imp_of_mem ?_ nd)
    intro a b ha hb ne z
    obtain ⟨a1, a2⟩ := h a ha
    obtain ⟨b1, b2⟩ := h b hb
    have a2' : a.2.toNat < n.toNat := by have := a2.1; have := a2.2; omega
    have b2' : b.2.toNat < n.toNat := by have := b2.1; have := b2.2; omega
    have np : 0 < n.toNat := by omega
    have q1 : (a.1.toNat * n.toNat + a.2.toNat) / n.toNat = a.1.toNat := by
      rw [Nat.mul_comm, Nat.mul_add_div np, Nat.div_eq_of_lt a2', Nat.add_zero]
    have q2 : (b.1.toNat * n.toNat + b.2.toNat) / n.toNat = b.1.toNat := by
      rw [Nat.mul_comm, Nat.mul_add_div np, Nat.div_eq_of_lt b2', Nat.add_zero]
    have e1 : a.1.toNat = b.1.toNat := by rw [← q1, ← q2, z]
    rw [e1] at z
    have e2 : a.2.toNat = b.2.toNat := by omega
    refine ne (Prod.ext ?_ ?_)
    · have := a1.1; have := b1.1; omega
    · have := a2.1; have := b2.1; omega
  have := pigeon (n.toNat * n.toNat) _ inj fun x hx => by
    obtain ⟨e, he, rfl⟩ := List.mem_map.mp hx
    obtain ⟨a1, a2⟩ := h e he
    have l1 : e.1.toNat < n.toNat := by have := a1.1; have := a1.2; omega
    have l2 : e.2.toNat < n.toNat := by have := a2.1; have := a2.2; omega
    calc e.1.toNat * n.toNat + e.2.toNat < e.1.toNat * n.toNat + n.toNat := by omega
      _ = (e.1.toNat + 1) * n.toNat := by rw [Nat.add_mul, Nat.one_mul]
      _ ≤ n.toNat * n.toNat := Nat.mul_le_mul_right _ l1
  rwa [List.length_map] at this
/-- ascending pairs -/
def lt2 (e f : Int × Int) : Prop := e.1 < f.1 ∨ (e.1 = f.1 ∧ e.2 < f.2)
theorem asc_of {l : List (Int × Int)} (nd : l.Nodup) (h : l.Pairwise fun x y => SrtO.lexB y x = false) : l.Pairwise lt2 := by
  refine (List.Pairwise.and nd h).imp ?_
  rintro a b ⟨ne, hb⟩
  have hb := SrtO.lexB_no.mp hb
  unfold lt2
  by_cases q : a.1 = b.1
  · refine .inr ⟨q, ?_⟩
    have : a.2 ≠ b.2 := fun z => ne (Prod.ext q z)
    omega
  · exact .inl (by omega)
end Sw
namespace Sw
open PySem L2
abbrev sNet : Stmt := top 48
abbrev nNet : List Str := ["deck", "n", "sort", "order", "found", "every", "v", "turn", "w", "pair"]
theorem scNet : FnScope nNet ["deck", "n"] (defScope sNet) := ⟨rfl, rfl, rfl, by decide +kernel, rfl, by decide +kernel, by decide +kernel⟩
theorem putK_le (c : List (List Key × V)) (k : List Key) (x : V) : (putK c k x).length ≤ c.length + 1 := by
  unfold putK
  split
  · rw [List.length_map]
    omega
  · rw [List.length_append, List.length_singleton]
    omega
/-- the two ends of an arrow of the heap -/
def endsOf (H : Hp) (x : V) : Int × Int := match x with
  | .ref t => (match H t with
    | some (.tup [.int a, .int b]) => (a, b)
    | _ => (0, 0))
  | _ => (0, 0)
theorem endsOf_arr {n : Int} {H : Hp} {x : V} (h : Arr n H x) : ∃ t, x = .ref t ∧ H t = some (.tup [.int (endsOf H x).1, .int (endsOf H x).2]) := by
  obtain ⟨t, a, b, rfl, ht, _⟩ := h
  refine ⟨t, rfl, ?_⟩
  simp only [endsOf, ht]
/-- the list of arrows that a block has made so far of the keys of a dict -/
def EVK (D : Addr) (H1 : Hp) (n : Int) (kvs : List (List Key × V)) (i : Nat) (H : Hp) : Prop := ∃ xs, H D = some (.lst xs) ∧ Arrs n H xs ∧ xs.length ≤ i ∧ H1 D = none ∧ Same H1 H ∧ xs.map (endsOf H) = kPairs (kvs.take i)
theorem EVK.start {D : Addr} {H1 : Hp} {n : Int} {kvs : List (List Key × V)} (h : H1 D = none) : EVK D H1 n kvs 0 (L2.upd H1 D (.lst [])) :=
  ⟨[], upd_same, fun _ h => absurd h (by simp), Nat.le_refl _, h, same_new h, rfl⟩
theorem endsOf_keep {n : Int} {H H' : Hp} {x : V} (h : Arr n H x) (s : TupS H H') : endsOf H' x = endsOf H x := by
  obtain ⟨t, a, b, rfl, ht, _⟩ := h
  simp only [endsOf, ht, s _ _ ht]
theorem kPairs_succ {kvs : List (List Key × V)} {i : Nat} {k : List Key} {v : V} (h : kvs[i]? = some (k, v)) : kPairs (kvs.take (i + 1)) = kPairs (kvs.take i) ++ (kPair (k, v)).toList := by
  unfold kPairs
  rw [List.take_add_one, h, List.filterMap_append]
  cases q : kPair (k, v) <;> simp [q]
theorem EVK.skip {D : Addr} {H1 : Hp} {n : Int} {i : Nat} {H H' : Hp} {kvs : List (List Key × V)} {a b : Int} {v : V} (h : EVK D H1 n kvs i H) (s : Same H H') (hk : kvs[i]? = some ([.inl a, .inl b], v)) (q : a = b) : EVK D H1 n kvs (i + 1) H' := by
  obtain ⟨xs, h1, h2, h3, h4, h5, h6⟩ := h
  refine ⟨xs, s _ _ h1, h2.keep (.of s), by omega, h4, h5.trans s, ?_⟩
  rw [kPairs_succ hk, ← h6]
  simp only [kPair, if_pos q, Option.toList, List.append_nil]
  exact List.map_congr_left fun x hx => endsOf_keep (h2 x hx) (.of s)
theorem EVK.add {D : Addr} {H1 : Hp} {n : Int} {i : Nat} {H H2 : Hp} {t : Addr} {a b : Int} {v : V} {kvs : List (List Key × V)} (h : EVK D H1 n kvs i H) (s : Same H H2) (hi : i < 1000) (ht : H2 t = some (.tup [.int a, .int b])) (ia : Inn n a) (ib : Inn n b) (hk : kvs[i]? = some ([.inl a, .inl b], v)) (q : a ≠ b) :
    ∃ acc, H2 D = some (.lst acc) ∧ acc.length < sizeLine ∧ EVK D H1 n kvs (i + 1) (L2.upd H2 D (.lst (acc ++ [.ref t]))) := by
  obtain ⟨xs, h1, h2, h4, h5, h6, h7⟩ := h
  have hD := s _ _ h1
  have ts : TupS H2 (L2.upd H2 D (.lst (xs ++ [.ref t]))) := TupS.upd fun xs z => by
    rw [hD] at z
    cases z
  refine ⟨_, hD, ?_, xs ++ [.ref t], upd_same, fun q hq => ?_, ?_, h5, fun c o e => ?_, ?_⟩
  · rw [sizeLine_eq]
    omega
  · rcases List.mem_append.mp hq with z | z
    · exact (h2 q z).keep ((TupS.of s).trans ts)
    · rw [List.mem_singleton.mp z]
      exact ⟨t, a, b, rfl, ts _ _ ht, ia, ib⟩
  · rw [List.length_append, List.length_singleton]
    omega
  · rw [upd_ne (ne_of_none e h5)]
    exact s _ _ (h6 _ _ e)
  · rw [List.map_append, kPairs_succ hk, ← h7]
    have e1 : xs.map (endsOf (L2.upd H2 D (.lst (xs ++ [.ref t])))) = xs.map (endsOf H) := List.map_congr_left fun x hx => endsOf_keep (h2 x hx) ((TupS.of s).trans ts)
    rw [e1]
    congr 1
    have e2 := ts _ _ ht
    simp only [List.map_cons, List.map_nil, endsOf, e2, kPair, if_neg q, Option.toList]
theorem kV_ne {a b : Int} (z : ¬ a = b) : (!decide (kV (Sum.inl a) = kV (Sum.inl b))) = true := by
  show (!decide (V.int a = V.int b)) = true
  rw [decide_eq_false fun e => z (V.int.inj e)]
  rfl
theorem kV_eq {a b : Int} (y : (!decide (kV (Sum.inl a) = kV (Sum.inl b))) = true) : a ≠ b := fun z => by
  rw [z, decide_eq_true rfl] at y
  cases y
theorem arr_two (n : Int) (H : Hp) : Arrs n H [] := fun _ h => absurd h (by simp)
section
variable {P : Program} {w : World} {K : PySem.W.Frag} {mg : Str → Option Value} {base : Heap}
def spNet : Sp := fun vs H Q _ => ∃ (p d : Addr) (n : Int), vs = [.ref p, .int n] ∧ Deck H p d 63 ∧ 1 ≤ n ∧ n ≤ 12 ∧ ∀ (a b : Addr) (xs : List V) (H' : Hp), Deck H' p d 63 → Kp p d H H' → H' a = some (.tup [.int n, .ref b]) → H' b = some (.tup xs) → Arrs n H' xs → xs.length ≤ 200 → Q (.ref a) H'
/-- the same, told whole: the arrows ascend, none doubled, none from a stop to itself -/
def spNetS : Sp := fun vs H Q _ => ∃ (p d : Addr) (n : Int), vs = [.ref p, .int n] ∧ Deck H p d 63 ∧ 1 ≤ n ∧ n ≤ 12 ∧ ∀ (a b : Addr) (xs : List V) (H' : Hp), Deck H' p d 63 → Kp p d H H' → H' a = some (.tup [.int n, .ref b]) → H' b = some (.tup xs) → Arrs n H' xs → xs.length ≤ 200 → (xs.map (endsOf H')).Pairwise lt2 → (∀ x ∈ xs, (endsOf H' x).1 ≠ (endsOf H' x).2) → Q (.ref a) H'
theorem ok_netS {f : Addr} {fd : FuncData} (F : Fun K "_law_net" "_law_net" sNet f fd) (B : NoNames mg) (O : Own P w K mg base 1 "_law_draw" ["deck", "many"] spDraw)
    (OP : Own P w K mg base 2 "_law_pick" ["deck", "items"] spPick) (OM : Own P w K mg base 2 "_law_mixed" ["deck", "items"] spMixed) : FnOk P w K mg base CX0 3 f fd ["deck", "n"] spNetS := by
  obtain ⟨fD, fdD, GD, mD, kD, bD⟩ := O.ex
  obtain ⟨fP, fdP, GP, mP, kP, bP⟩ := OP.ex
  obtain ⟨fM, fdM, GM, mM, kM, bM⟩ := OM.ex
  refine F.ok scNet (fun vs H Q E h => ?_) (fun cdv A outer s H vs Q E hr h => ?_)
  · obtain ⟨p, d, n, rfl, _⟩ := h
    rfl
  · obtain ⟨p, d, n, rfl, D, n1, n2, k⟩ := h
    have hu := hu_of hr
    have hr1 : Room 1 _ := hr.mono (by decide)
    refine ⟨_, pss_cons (ps_asg (pe_tup (pa_cons (pe_call GD hr1 rfl mD kD bD .nil pass0 (pa_cons (pv 0) (pa_cons pe_int pa_nil)))
          (pa_cons (pe_call GM hr rfl mM kM bM .nil pass0 (pa_cons (pv 0) (pa_cons (pe_listRg rfl (by rfl) B.list (prg_1 (by rfl) B.range (pv 1))) pa_nil)))
          (pa_cons pe_dnewT pa_nil)))) (pg_tup (by rfl) (pgs_cons (pg_name (i := 2) scNet.nd rfl (.inl rfl)) (pgs_cons (pg_name (i := 3) scNet.nd rfl (.inr rfl)) (pgs_cons (pg_name (i := 4) scNet.nd rfl (.inl rfl)) pgs_nil))))) <|
      pss_cons (ps_set (i := 5) scNet.nd rfl (.inl rfl) (pe_lst pa_nil)) <|
      pss_cons (ps_for PassesOwn.never rfl (pi_range1 (by rfl) B.range (pa_cons (pv 1) pa_nil)) (pg_name (i := 6) scNet.nd rfl (.inr rfl))
        (pss_one (ps_set (i := 5) scNet.nd rfl (.inl rfl) (pe_op op_cat (pv 5) (pe_lc (own := [("w", 8)]) (g := gName 8) (tt := tYes) rfl scNet.nd (pi_range1 (by rfl) B.range (pa_cons (pv 1) pa_nil)) (blkOk_by (own := [("w", 8)]) (N := nNet) (sc := defScope sNet) (by decide +kernel))
          (fun _ _ _ _ _ => pg_name (i := 8) scNet.nd rfl (Or.inl rfl)) (fun _ _ _ _ _ => pts_nil) (fun _ _ _ _ _ => pe_tup (pa_cons (pv 6) (pa_cons (pv 8) pa_nil)))))))) <|
      pss_cons (ps_cut (J := NJ p d n H 144) (J' := NJ p d n H 144) (ps_if (pt_cmpR op_in_seq (pv 2) (pe_tup (pa_cons pe_int (pa_cons pe_int pa_nil))) (by with_unfolding_all rfl))
        (pss_one (ps_set (i := 4) scNet.nd rfl (.inl rfl) (pe_callTy (call_dictT hr rfl) (by rfl) B.dict (by decide +kernel) (pa_cons
          (pe_lc (own := [("v", 6), ("w", 8)]) (g := gTup K 2 (gCons (gName 6) (gCons (gName 8) gNil))) (tt := tYes) rfl scNet.nd (pi_zip (by rfl) B.zip (pa_cons (pv 3) (pa_cons (pe_op op_cat (pe_slice sl_list (pv 3) (po_some pe_int) po_none) (pe_slice sl_list (pv 3) po_none (po_some pe_int))) pa_nil)))
            (blkOk_by (own := [("v", 6), ("w", 8)]) (N := nNet) (sc := defScope sNet) (by decide +kernel))
            (fun _ _ _ _ _ => pg_tup rfl (pgs_cons (pg_name (i := 6) scNet.nd rfl (Or.inl rfl)) (pgs_cons (pg_name (i := 8) scNet.nd rfl (Or.inl rfl)) pgs_nil))) (fun _ _ _ _ _ => pts_nil)
            (fun _ _ _ _ _ => pe_tup (pa_cons (pe_tup (pa_cons (pv 6) (pa_cons (pv 8) pa_nil))) (pa_cons pe_bl pa_nil)))) pa_nil)))) pss_nil) ?s4) <|
      pss_cons (ps_cut (J := NJ p d n H 144) (J' := NJ p d n H 144) (ps_if (pt_cmpR op_eq (pv 2) pe_int (nomark _))
        (pss_one (ps_set (i := 4) scNet.nd rfl (.inl rfl) (pe_callTy (call_dictT hr rfl) (by rfl) B.dict (by decide +kernel) (pa_cons
          (pe_lc (own := [("pair", 9)]) (tt := tYes) rfl scNet.nd (pi_list (pv 5)) (blkOk_by (own := [("pair", 9)]) (N := nNet) (sc := defScope sNet) (by decide +kernel))
            (fun _ _ _ _ _ => pg_name (i := 9) scNet.nd rfl (Or.inl rfl)) (fun _ _ _ _ _ => pts_nil)
            (fun _ _ _ _ _ => pe_tup (pa_cons (pv 9) (pa_cons pe_bl pa_nil)))) pa_nil)))) pss_nil) ?s5) <|
      pss_cons (ps_cut (J := NJ p d n H 144) (J' := NJ p d n H 144) (ps_if (pt_cmpR op_eq (pv 2) pe_int (nomark _))
        (pss_one (ps_set (i := 4) scNet.nd rfl (.inl rfl) (pe_callTy (call_dictT hr rfl) (by rfl) B.dict (by decide +kernel) (pa_cons
          (pe_op op_cat (pe_lc (own := [("w", 8)]) (tt := tYes) rfl scNet.nd (pi_list (pe_slice sl_list (pv 3) (po_some pe_int) po_none)) (blkOk_by (own := [("w", 8)]) (N := nNet) (sc := defScope sNet) (by decide +kernel))
            (fun _ _ _ _ _ => pg_name (i := 8) scNet.nd rfl (Or.inl rfl)) (fun _ _ _ _ _ => pts_nil)
            (fun _ _ _ _ _ => pe_tup (pa_cons (pe_tup (pa_cons (pe_ix (r := rIxL K) ix_list (pv 3) pe_int (fun _ _ => rfl)) (pa_cons (pv 8) pa_nil))) (pa_cons pe_bl pa_nil))))
           (pe_lc (own := [("w", 8)]) (tt := tYes) rfl scNet.nd (pi_list (pe_slice sl_list (pv 3) (po_some pe_int) po_none)) (blkOk_by (own := [("w", 8)]) (N := nNet) (sc := defScope sNet) (by decide +kernel))
            (fun _ _ _ _ _ => pg_name (i := 8) scNet.nd rfl (Or.inl rfl)) (fun _ _ _ _ _ => pts_nil)
            (fun _ _ _ _ _ => pe_tup (pa_cons (pe_tup (pa_cons (pv 8) (pa_cons (pe_ix (r := rIxL K) ix_list (pv 3) pe_int (fun _ _ => rfl)) pa_nil))) (pa_cons pe_bl pa_nil))))) pa_nil)))) pss_nil) ?s6) <|
      pss_cons (ps_cut (J := NJ p d n H 144) (J' := NJ p d n H 144) (ps_if (pt_cmpR op_eq (pv 2) pe_int (nomark _))
        (pss_one (ps_set (i := 4) scNet.nd rfl (.inl rfl) (pe_callTy (call_dictT hr rfl) (by rfl) B.dict (by decide +kernel) (pa_cons
          (pe_lc (own := [("v", 6), ("w", 8)]) (g := gTup K 2 (gCons (gName 6) (gCons (gName 8) gNil))) (tt := tYes) rfl scNet.nd (pi_zip (by rfl) B.zip (pa_cons (pv 3) (pa_cons (pe_slice sl_list (pv 3) (po_some pe_int) po_none) pa_nil)))
            (blkOk_by (own := [("v", 6), ("w", 8)]) (N := nNet) (sc := defScope sNet) (by decide +kernel))
            (fun _ _ _ _ _ => pg_tup rfl (pgs_cons (pg_name (i := 6) scNet.nd rfl (Or.inl rfl)) (pgs_cons (pg_name (i := 8) scNet.nd rfl (Or.inl rfl)) pgs_nil))) (fun _ _ _ _ _ => pts_nil)
            (fun _ _ _ _ _ => pe_tup (pa_cons (pe_tup (pa_cons (pv 6) (pa_cons (pv 8) pa_nil))) (pa_cons pe_bl pa_nil)))) pa_nil)))) pss_nil) ?s7) <|
      pss_cons (ps_cut (J := NJ p d n H 144) (J' := NJ p d n H 180) (ps_if (pt_cmpR op_in_seq (pv 2) (pe_tup (pa_cons pe_int (pa_cons pe_int (pa_cons pe_int pa_nil)))) (by with_unfolding_all rfl))
        (pss_one (ps_for PassesOwn.never rfl (pi_range1 (by rfl) B.range (pa_cons (pe_ix ix_list (pe_lst (pa_cons pe_int (pa_cons pe_int (pa_cons pe_int (pa_cons pe_int (pa_cons pe_int (pa_cons pe_int (pa_cons (pv 1) (pa_cons (pe_op op_mul pe_int (pv 1)) pa_nil))))))))) (pv 2) (fun _ _ => rfl)) pa_nil)) (pg_name (i := 7) scNet.nd rfl (.inl rfl))
          (pss_one (ps_dput hu (pv 4) (pe_call GP hr rfl mP kP bP .nil pass0 (pa_cons (pv 0) (pa_cons (pv 5) pa_nil))) pe_bl rfl)))) pss_nil) ?s8) <|
      pss_one (ps_fact (ps_ret (pe_tup (pa_cons (pv 1) (pa_cons (pe_callTy call_tuple_of (by rfl) B.tuple (by decide +kernel) (pa_cons (pe_callB cr_sortedPO (by rfl) B.sorted (by decide +kernel) (pa_cons
        (pe_lock (pe_lc (own := [("v", 6), ("w", 8)]) (g := gTup K 2 (gCons (gName 6) (gCons (gName 8) gNil))) rfl scNet.nd (pi_keys (pv 4)) (blkOk_by (own := [("v", 6), ("w", 8)]) (N := nNet) (sc := defScope sNet) (by decide +kernel))
          (fun _ _ _ _ _ => pg_tup rfl (pgs_cons (pg_name (i := 6) scNet.nd rfl (Or.inl rfl)) (pgs_cons (pg_name (i := 8) scNet.nd rfl (Or.inl rfl)) pgs_nil)))
          (fun _ _ _ _ _ => pts_one (pt_cmpR op_ne (pv 6) (pv 8) (nomark _))) (fun _ _ _ _ _ => pe_tup (pa_cons (pv 6) (pa_cons (pv 8) pa_nil))))) pa_nil)) pa_nil)) pa_nil))))), ?main⟩
    case s4 =>
      rintro DD σ1 H1 j1 kk
      obtain ⟨sort, o, g, e, sv, st, os, es, kvs, rfl, i1, D1, k1, ⟨h1, h2, h3, h4⟩, ⟨g1, g2, g3, g4⟩, e1, e2, e3, e4, e5⟩ := id j1
      refine ⟨_, rfl, by show 2 ≤ sizeLine; decide, fun T nT => ⟨T, _, rfl, .inr (SqT.of upd_same), rfl, rfl, _, rfl, ?_⟩⟩
      have s2 : Same H1 (L2.upd H1 T (.tup [.int 1, .int 2])) := same_new nT
      have j2 := j1.same s2
      refine ite2 (fun _ => ?_) (fun _ => kk _ _ j2)
      have o1 := Ins.of h4
      have ol : (os.map V.int).length ≤ 12 := by
        rw [List.length_map]
        omega
      refine ⟨_, rfl, _, rfl, 1, rfl, o, _, rfl, SqL.of (s2 _ _ h1), fun c1 n1 => ?_⟩
      have t1 : Same (L2.upd H1 T (.tup [.int 1, .int 2])) _ := same_new (o := .lst (cutV (os.map V.int) (some 1) none)) n1
      refine ⟨_, rfl, 1, rfl, o, _, rfl, SqL.of ((s2.trans t1) _ _ h1), fun c2 n2 => ?_⟩
      have t2 := t1.trans (same_new (o := .lst (cutV (os.map V.int) none (some 1))) n2)
      have y1 : (cutV (os.map V.int) (some 1) none).length ≤ (os.map V.int).length := cutV_length _ _ _
      have y2 : (cutV (os.map V.int) none (some 1)).length ≤ (os.map V.int).length := cutV_length _ _ _
      refine ⟨c1, c2, _, _, rfl, rfl, (same_new n2) _ _ upd_same, upd_same, by rw [sizeLine_eq]; omega, fun c3 n3 => ?_⟩
      have oy := (o1.cut (some 1) none).app (o1.cut none (some 1))
      have t3 := t2.trans (same_new (o := .lst (cutV (os.map V.int) (some 1) none ++ cutV (os.map V.int) none (some 1))) n3)
      refine ⟨o, c3, _, _, rfl, SqL.of ((s2.trans t3) _ _ h1), SqL.of upd_same, fun L nL => ?_⟩
      refine lc_it (walk_zip (xs := os.map V.int) (ys := cutV (os.map V.int) (some 1) none ++ cutV (os.map V.int) none (some 1)) rfl) (PV L _ n) (PV.start nL) (fun i Ha hi pv => ?_) ?_ ?_
      · obtain ⟨_, _, _, _, _, _, _, sm⟩ := pv
        exact ⟨SqL.of (sm _ _ ((s2.trans t3) _ _ h1)), SqL.of (sm _ _ upd_same)⟩
      · intro i x Ha Hb hi pv y
        obtain ⟨T2, x1, y1, rfl, nT2, rfl, ex, ey⟩ := y
        obtain ⟨a, rfl, ia⟩ := o1.at ex
        obtain ⟨b, rfl, ib⟩ := oy.at ey
        refine ⟨T2, _, rfl, SqT.of upd_same, rfl, _, _, rfl, _, _, rfl, rfl, ?_⟩
        refine ⟨rfl, ?_⟩
        refine ⟨_, rfl, _, rfl, by show 2 ≤ sizeLine; decide, fun K1 nK => ⟨by show 2 ≤ sizeLine; decide, fun T3 nT3 => ?_⟩⟩
        exact pv.add ((same_new nT2).trans ((same_new nK).trans (same_new nT3))) (by have := Nat.min_le_left (os.map V.int).length (cutV (os.map V.int) (some 1) none ++ cutV (os.map V.int) none (some 1)).length; omega) upd_same ((same_new nT3) _ _ upd_same) ia ib
      · intro Ha pv
        refine PV.dict (K := K) (m' := 144) (Q := fun x H1 => gName 4 x _ H1 DD.nx) pv (j2.same t3) (by have := Nat.min_le_left (os.map V.int).length (cutV (os.map V.int) (some 1) none ++ cutV (os.map V.int) none (some 1)).length; omega) ?_
        intro g' H' j
        exact kk _ _ j
    case s5 =>
      rintro DD σ1 H1 j1 kk
      obtain ⟨sort, o, g, e, sv, st, os, es, kvs, rfl, i1, D1, k1, ⟨h1, h2, h3, h4⟩, ⟨g1, g2, g3, g4⟩, e1, e2, e3, e4, e5⟩ := id j1
      refine ⟨_, rfl, rfl, _, rfl, ?_⟩
      refine ite2 (fun _ => ?_) (fun _ => kk _ _ j1)
      refine ⟨_, rfl, e, rfl, ⟨_, SqL.of e1⟩, fun L nL => ?_⟩
      refine lc_it (walk_list (xs := es)) (PV L _ n) (PV.start nL) (fun i Ha hi pv => ?_) ?_ ?_
      · obtain ⟨_, _, _, _, _, _, _, sm⟩ := pv
        exact SqL.of (sm _ _ e1)
      · rintro i x Ha Hb hi pv ⟨rfl, ex⟩
        have sm := pv.choose_spec.choose_spec.2.2.2.2.2
        obtain ⟨t, a, b, rfl, ht, ia, ib⟩ := Arr.keep (e3 x (List.mem_of_getElem? ex)) (.of sm)
        refine ⟨rfl, ?_⟩
        refine ⟨_, rfl, by show 2 ≤ sizeLine; decide, fun T3 nT3 => ?_⟩
        exact pv.add (same_new nT3) (by omega) upd_same ((same_new nT3) _ _ ht) ia ib
      · intro Ha pv
        refine PV.dict (K := K) (m' := 144) (Q := fun x H1 => gName 4 x _ H1 DD.nx) pv j1 (by omega) ?_
        intro g' H' j
        exact kk _ _ j
    case s6 =>
      rintro DD σ1 H1 j1 kk
      obtain ⟨sort, o, g, e, sv, st, os, es, kvs, rfl, i1, D1, k1, ⟨h1, h2, h3, h4⟩, ⟨g1, g2, g3, g4⟩, e1, e2, e3, e4, e5⟩ := id j1
      refine ⟨_, rfl, rfl, _, rfl, ?_⟩
      refine ite2 (fun _ => ?_) (fun _ => kk _ _ j1)
      have o1 := Ins.of h4
      have ol : (os.map V.int).length ≤ 12 := by
        rw [List.length_map]
        omega
      obtain ⟨f0, os', rfl⟩ : ∃ f0 os', os = f0 :: os' := by
        cases os with
        | nil =>
          simp at h3
          omega
        | cons a r => exact ⟨a, r, rfl⟩
      have i0 : Inn n f0 := h4 f0 (by simp)
      refine ⟨_, rfl, 1, rfl, o, _, rfl, SqL.of h1, fun c1 n1 => ?_⟩
      have oy := o1.cut (some 1) none
      have yl : (cutV ((f0 :: os').map V.int) (some 1) none).length ≤ ((f0 :: os').map V.int).length := cutV_length _ _ _
      have t1 : Same H1 _ := same_new (o := .lst (cutV ((f0 :: os').map V.int) (some 1) none)) n1
      refine ⟨c1, rfl, ⟨_, SqL.of upd_same⟩, fun L nL => ?_⟩
      refine lc_it (walk_list (xs := cutV ((f0 :: os').map V.int) (some 1) none)) (PV L _ n) (PV.start nL) (fun i Ha hi pv => ?_) ?_ ?_
      · obtain ⟨_, _, _, _, _, _, _, sm⟩ := pv
        exact SqL.of (sm _ _ upd_same)
      · rintro i x Ha Hb hi pv ⟨rfl, ex⟩
        have sm := pv.choose_spec.choose_spec.2.2.2.2.2
        obtain ⟨a, rfl, ia⟩ := oy.at ex
        refine ⟨rfl, ?_⟩
        refine ⟨_, rfl, o, _, 0, .int f0, rfl, rfl, SqL.of (sm _ _ (t1 _ _ h1)), at_of (j := 0) rfl rfl, _, rfl, by show 2 ≤ sizeLine; decide, fun K1 nK => ⟨by show 2 ≤ sizeLine; decide, fun T3 nT3 => ?_⟩⟩
        exact pv.add ((same_new nK).trans (same_new nT3)) (by omega) upd_same ((same_new nT3) _ _ upd_same) i0 ia
      · intro Ha pv
        have sm := pv.choose_spec.choose_spec.2.2.2.2.2
        refine ⟨_, rfl, 1, rfl, o, _, rfl, SqL.of (sm _ _ (t1 _ _ h1)), fun c2 n2 => ?_⟩
        have t2 : Same Ha _ := same_new (o := .lst (cutV ((f0 :: os').map V.int) (some 1) none)) n2
        refine ⟨c2, rfl, ⟨_, SqL.of upd_same⟩, fun L2 nL2 => ?_⟩
        refine lc_it (walk_list (xs := cutV ((f0 :: os').map V.int) (some 1) none)) (PV L2 _ n) (PV.start nL2) (fun i Ha hi pv => ?_) ?_ ?_
        · obtain ⟨_, _, _, _, _, _, _, sm⟩ := pv
          exact SqL.of (sm _ _ upd_same)
        · rintro i x Hc Hb hi pv2 ⟨rfl, ex⟩
          have sm2 := pv2.choose_spec.choose_spec.2.2.2.2.2
          obtain ⟨a, rfl, ia⟩ := oy.at ex
          refine ⟨rfl, ?_⟩
          refine ⟨_, rfl, _, rfl, o, _, 0, .int f0, rfl, rfl, SqL.of (sm2 _ _ (t2 _ _ (sm _ _ (t1 _ _ h1)))), at_of (j := 0) rfl rfl, by show 2 ≤ sizeLine; decide, fun K1 nK => ⟨by show 2 ≤ sizeLine; decide, fun T3 nT3 => ?_⟩⟩
          exact pv2.add ((same_new nK).trans (same_new nT3)) (by omega) upd_same ((same_new nT3) _ _ upd_same) ia i0
        · intro Hb pv2
          obtain ⟨xs, zs, x1, x2, x3, x4⟩ := pv.cat t2 pv2 (by omega)
          refine ⟨L, L2, xs, zs, rfl, rfl, x1, x2, x3, fun c3 n3 => ?_⟩
          refine PV.dict (K := K) (m' := 144) (Q := fun x H1 => gName 4 x _ H1 DD.nx) (x4 c3 n3) (j1.same t1) (by omega) ?_
          intro g' H' j
          exact kk _ _ j
    case s7 =>
      rintro DD σ1 H1 j1 kk
      obtain ⟨sort, o, g, e, sv, st, os, es, kvs, rfl, i1, D1, k1, ⟨h1, h2, h3, h4⟩, ⟨g1, g2, g3, g4⟩, e1, e2, e3, e4, e5⟩ := id j1
      refine ⟨_, rfl, rfl, _, rfl, ?_⟩
      refine ite2 (fun _ => ?_) (fun _ => kk _ _ j1)
      have o1 := Ins.of h4
      have ol : (os.map V.int).length ≤ 12 := by
        rw [List.length_map]
        omega
      refine ⟨_, rfl, _, rfl, 1, rfl, o, _, rfl, SqL.of h1, fun c1 n1 => ?_⟩
      have t1 : Same H1 _ := same_new (o := .lst (cutV (os.map V.int) (some 1) none)) n1
      have oy := o1.cut (some 1) none
      refine ⟨o, c1, _, _, rfl, SqL.of (t1 _ _ h1), SqL.of upd_same, fun L nL => ?_⟩
      have j2 := j1
      refine lc_it (walk_zip (xs := os.map V.int) (ys := cutV (os.map V.int) (some 1) none) rfl) (PV L _ n) (PV.start nL) (fun i Ha hi pv => ?_) ?_ ?_
      · obtain ⟨_, _, _, _, _, _, _, sm⟩ := pv
        exact ⟨SqL.of (sm _ _ (t1 _ _ h1)), SqL.of (sm _ _ upd_same)⟩
      · intro i x Ha Hb hi pv y
        obtain ⟨T2, x1, y1, rfl, nT2, rfl, ex, ey⟩ := y
        obtain ⟨a, rfl, ia⟩ := o1.at ex
        obtain ⟨b, rfl, ib⟩ := oy.at ey
        refine ⟨T2, _, rfl, SqT.of upd_same, rfl, _, _, rfl, _, _, rfl, rfl, ?_⟩
        refine ⟨rfl, ?_⟩
        refine ⟨_, rfl, _, rfl, by show 2 ≤ sizeLine; decide, fun K1 nK => ⟨by show 2 ≤ sizeLine; decide, fun T3 nT3 => ?_⟩⟩
        exact pv.add ((same_new nT2).trans ((same_new nK).trans (same_new nT3))) (by have := Nat.min_le_left (os.map V.int).length (cutV (os.map V.int) (some 1) none).length; omega) upd_same ((same_new nT3) _ _ upd_same) ia ib
      · intro Ha pv
        refine PV.dict (K := K) (m' := 144) (Q := fun x H1 => gName 4 x _ H1 DD.nx) pv (j2.same t1) (by have := Nat.min_le_left (os.map V.int).length (cutV (os.map V.int) (some 1) none).length; omega) ?_
        intro g' H' j
        exact kk _ _ j
    case s8 =>
      rintro DD σ1 H1 j1 kk
      obtain ⟨sort, o, g, e, sv, st, os, es, kvs, rfl, i1, D1, k1, ⟨h1, h2, h3, h4⟩, ⟨g1, g2, g3, g4⟩, e1, e2, e3, e4, e5⟩ := id j1
      refine ⟨_, rfl, by show 3 ≤ sizeLine; decide, fun T nT => ⟨T, _, rfl, .inr (SqT.of upd_same), rfl, rfl, _, rfl, ?_⟩⟩
      have j2 := j1.same (same_new (o := .tup [.int 2, .int 6, .int 7]) nT)
      generalize (L2.upd H1 T (.tup [.int 2, .int 6, .int 7])) = H2 at j2
      have j180 : ∀ {i σ' H'}, i ≤ 36 → NJ p d n H (144 + i) σ' H' → NJ p d n H 180 σ' H' := by
        rintro i σ' H' hi ⟨sort, o, g, e, sv, st, os, es, kvs, e0, i1, D1, k1, hh, ⟨g1, g2, g3, g4⟩, ee⟩
        exact ⟨sort, o, g, e, sv, st, os, es, kvs, e0, i1, D1, k1, hh, ⟨g1, g2, by omega, g4⟩, ee⟩
      refine ite2 (fun _ => ?_) (fun _ => kk _ _ (j180 (i := 0) (by decide) j2))
      refine ⟨_, rfl, _, rfl, _, _, rfl, rfl, .inl ⟨by decide, by decide⟩, by show 8 ≤ sizeLine; decide, fun L nL => ?_⟩
      have j3 := j2.same (same_new (o := .lst [.int 0, .int 0, .int 2, .int 0, .int 0, .int 0, .int n, .int (3 * n)]) nL)
      obtain ⟨k0, rfl⟩ := Int.eq_ofNat_of_zero_le i1.1
      have hk0 : k0 < 8 := by
        have := i1.2
        omega
      obtain ⟨m, hm, m0, m1⟩ : ∃ m : Int, [V.int 0, V.int 0, V.int 2, V.int 0, V.int 0, V.int 0, V.int n, V.int (3 * n)][k0]? = some (V.int m) ∧ 0 ≤ m ∧ m ≤ 36 := by
        match k0, hk0 with
        | 0, _ => exact ⟨_, rfl, by omega, by omega⟩
        | 1, _ => exact ⟨_, rfl, by omega, by omega⟩
        | 2, _ => exact ⟨_, rfl, by omega, by omega⟩
        | 3, _ => exact ⟨_, rfl, by omega, by omega⟩
        | 4, _ => exact ⟨_, rfl, by omega, by omega⟩
        | 5, _ => exact ⟨_, rfl, by omega, by omega⟩
        | 6, _ => exact ⟨_, rfl, by omega, by omega⟩
        | 7, _ => exact ⟨_, rfl, by omega, by omega⟩
      refine ⟨_, rfl, L, _, _, _, rfl, rfl, SqL.of upd_same, at_of (j := k0) rfl hm, m, rfl, by omega, by omega, ?_⟩
      refine for_range (lo := 0) (n := m.toNat) (fun i σ H' => NJ p d n H (144 + i) σ H') j3 ?_ ?_
      · intro i σ2 H3 hi j4
        have j5 := j4.turn (x := some (.int (0 + (i : Int))))
        show (sDPut _ _ _) _ _ _
        generalize σ2.set 7 (some (.int (0 + (i : Int)))) = σ3 at j5 ⊢
        obtain ⟨sort, o, g, e, sv, st, os, es, kvs, rfl, i1, D1, k1, hh, ⟨g1, g2, g3, g4⟩, e1, e2, e3, e4, e5⟩ := id j5
        refine ⟨_, rfl, _, rfl, _, rfl, p, d, e, es, rfl, D1, e1, e2, e4, by omega, fun x H4 hx D4 kp => ?_⟩
        obtain ⟨t, a, b, rfl, ht, ia, ib⟩ := (e3 x hx).keep (.kp D1 kp)
        have gp : g ≠ p := fun z => by
          obtain ⟨_, _, y, _⟩ := D1.ex
          rw [← z, g1] at y
          cases y
        have gd : g ≠ d := fun z => by
          obtain ⟨_, _, _, y, _⟩ := D1.ex
          rw [← z, g1] at y
          cases y
        have g5 := kp _ _ g1 gp gd
        refine ⟨g, _, rfl, DPut.t (k := [.inl a, .inl b]) g5 ht (by rw [sizeLine_eq]; omega), ?_⟩
        have ts : TupS H4 (L2.upd H4 g (.dT (putK kvs [.inl a, .inl b] (.bl true)))) := TupS.upd fun xs z => by
          rw [g5] at z
          cases z
        have og : o ≠ g := fun z => by
          rw [z, g1] at hh
          cases hh.1
        have eg : e ≠ g := fun z => by
          rw [z, g1] at e1
          cases e1
        refine ⟨sort, o, g, e, sv, st, os, es, _, rfl, i1, D4.upd gp gd, fun b o hb q1 q2 => ?_, ⟨?_, hh.2⟩, ⟨upd_same, putK_keys g2 ⟨a, b, rfl, ia, ib⟩, ?_, g4⟩, ?_, e2, (e3.keep (.kp D1 kp)).keep ts, e4, e5⟩
        · rw [upd_ne (ne_of_none hb g4)]
          exact kp _ _ (k1 _ _ hb q1 q2) q1 q2
        · rw [upd_ne og]
          exact kp _ _ hh.1 (D1.kne hh.1) hh.2.1
        · have := putK_le kvs [.inl a, .inl b] (.bl true)
          omega
        · rw [upd_ne eg]
          exact kp _ _ e1 (D1.kne e1) e2
      · intro σ2 H3 j4
        exact kk _ _ (j180 (by omega) j4)
    case main =>
      have hN : n.toNat ≤ 12 := by omega
      have eN : ((n.toNat : Nat) : Int) = n := Int.toNat_of_nonneg (by omega)
      refine ⟨_, rfl, p, d, 8, rfl, D, by decide, fun r Ha r0 r1 r2 Da ka => ?_⟩
      refine ⟨_, rfl, _, rfl, n, rfl, RgOk.of_le (by decide) (by omega) (by decide) (by omega), fun q nq => ?_⟩
      have eR : rgV 0 n = ((List.range n.toNat).map fun i => (0 : Int) + (i : Nat)).map V.int := by
        unfold rgV
        rw [List.map_map, Int.sub_zero]
        rfl
      rw [eR]
      refine ⟨p, d, q, _, rfl, Da.same (same_new nq), upd_same, by rw [List.length_map, List.length_range]; omega, fun o os Hb Db kb no ho lo mo => ?_⟩
      rw [List.length_map, List.length_range] at lo
      have mo2 : ∀ a ∈ os, Inn n a := fun a ha => by
        obtain ⟨i, hi, rfl⟩ := List.mem_map.mp (mo a ha)
        have := List.mem_range.mp hi
        exact ⟨by omega, by omega⟩
      have kab : Kp p d H Hb := ka.trans ((Kp.new nq).trans kb)
      have od : o ≠ d := ((Da.same (same_new nq)).ne_none no).2
      refine fun g ng => ⟨by show 3 ≤ sizeLine; decide, fun T nT => ⟨T, _, rfl, SqT.of upd_same, rfl, _, _, rfl, _, _, rfl, _, _, rfl, rfl, ?_⟩⟩
      have s1 : Same Hb (L2.upd Hb g (.dT [])) := same_new ng
      have s2 := s1.trans (same_new (o := .tup [.int r, .ref o, .ref g]) nT)
      refine ⟨by show 0 ≤ sizeLine; exact Nat.zero_le _, fun ev nev => ?_⟩
      have s3 := s2.trans (same_new (o := .lst []) nev)
      have hg : (L2.upd (L2.upd (L2.upd Hb g (.dT [])) T (.tup [.int r, .ref o, .ref g])) ev (.lst [])) g = some (.dT []) := (same_new nev) _ _ ((same_new nT) _ _ upd_same)
      have ng0 : H g = none := kab.free Db ng
      have evd : ev ≠ d := (Db.ne_none (s2.free nev)).2
      have hev : (L2.upd (L2.upd (L2.upd Hb g (.dT [])) T (.tup [.int r, .ref o, .ref g])) ev (.lst [])) ev = some (.lst []) := upd_same
      generalize (L2.upd (L2.upd (L2.upd Hb g (.dT [])) T (.tup [.int r, .ref o, .ref g])) ev (.lst [])) = Hc at s3 hg hev ⊢
      have ho3 := s3 _ _ ho
      refine ⟨_, rfl, n, rfl, by omega, by omega, for_range (lo := 0) (n := n.toNat) (fun i σ H' => ∃ e sv es, σ = [some (.ref p), some (.int n), some (.int r), some (.ref o), some (.ref g), some (.ref e), sv, none, none, none] ∧ Same Hc H' ∧
        H' e = some (.lst es) ∧ e ≠ d ∧ Arrs n H' es ∧ es.length = i * n.toNat) ⟨ev, none, [], rfl, Same.refl _, hev, evd, fun _ h => absurd h (by simp), by simp⟩ ?_ ?_⟩
      · rintro i σ H1 hi ⟨e, sv, es, rfl, sm, he, ed, ae, le⟩
        refine ⟨_, rfl, _, rfl, n, rfl, by omega, by omega, fun L nL => ?_⟩
        have hi12 : i * n.toNat ≤ 12 * 12 := Nat.mul_le_mul (by omega) hN
        refine lc_it walk_range (EV True L H1 n) (EV.start nL) (fun _ _ _ _ => trivial) ?_ ?_
        · rintro j x H2 H3 hj ev2 ⟨rfl, rfl⟩
          refine ⟨rfl, ?_⟩
          refine ⟨_, rfl, _, rfl, by show 2 ≤ sizeLine; decide, fun T3 nT3 => ?_⟩
          exact ev2.add (same_new nT3) (by omega) upd_same ⟨by omega, by omega⟩ ⟨by omega, by omega⟩
        · rintro H2 ⟨acc, h1, h2, h3, h4, h5⟩
          have l2 := h3.2 trivial
          refine ⟨e, L, es, acc, rfl, rfl, h5 _ _ he, h1, by rw [sizeLine_eq]; omega, fun c nc => ?_⟩
          have sc : Same H1 _ := h5.trans (same_new (o := .lst (es ++ acc)) nc)
          refine ⟨c, _, es ++ acc, rfl, sm.trans sc, upd_same, ?_, fun x hx => ?_, ?_⟩
          · exact ((Db.same (s3.trans (sm.trans h5))).ne_none nc).2
          · rcases List.mem_append.mp hx with z | z
            · exact (ae x z).keep (.of sc)
            · exact (h2 x z).keep (.of (same_new nc))
          · rw [List.length_append, l2, le, Nat.succ_mul]
      · rintro σ H1 ⟨e, sv, es, rfl, sm, he, ed, ae, le⟩
        have hi12 : n.toNat * n.toNat ≤ 12 * 12 := Nat.mul_le_mul hN hN
        have hi1 : 1 * 1 ≤ n.toNat * n.toNat := Nat.mul_le_mul (by omega) (by omega)
        refine ⟨⟨r, o, g, e, sv, none, os, es, [], rfl, ⟨r0, r1 (by decide)⟩, Db.same (s3.trans sm), kab.trans (.of (s3.trans sm)), ⟨sm _ _ ho3, od, by omega, mo2⟩, ⟨sm _ _ hg, fun _ h => absurd h (by simp), Nat.zero_le _, ng0⟩, he, ed, ae, ?_, by omega⟩, fun σ' H' j1 => ⟨j1, fun σ' H' j1 => ⟨j1, fun σ' H' j1 => ⟨j1, fun σ' H' j1 => ⟨j1, fun σ' H' j1 => ?_⟩⟩⟩⟩⟩
        · intro z
          rw [z] at le
          simp at le
          try omega
        obtain ⟨sort, o, g, e, sv, st, os, es, kvs, rfl, i1, D1, k1, ⟨h1, h2, h3, h4⟩, ⟨g1, g2, g3, g4⟩, e1, e2, e3, e4, e5⟩ := j1
        have gd : g ≠ d := fun z => by
          obtain ⟨_, _, _, y, _⟩ := D1.ex
          rw [← z, g1] at y
          cases y
        have gp : g ≠ p := fun z => by
          obtain ⟨_, _, y, _⟩ := D1.ex
          rw [← z, g1] at y
          cases y
        refine fun ndT => ?_
        have ndk := ndT g kvs g1
        refine ⟨_, rfl, g, .dT kvs, g1, trivial, fun ob => ⟨_, rfl, g, ob, rfl, .inr ⟨kvs, upd_same, fun L nL => ?_⟩⟩⟩
        refine lc_it walk_keysT (EVK L (L2.upd H' g (.frz ob (.dT kvs))) n kvs) (EVK.start nL) (fun i Ha hi pv => ?_) ?_ ?_
        · obtain ⟨_, _, _, _, _, sm, _⟩ := pv
          exact sm _ _ upd_same
        · rintro i x H2 H3 hi pv ⟨rfl, k, v, q, hk, rfl, hq⟩
          obtain ⟨a, b, e0, ia, ib⟩ := g2 _ (List.mem_of_getElem? hk)
          have e0 : k = [.inl a, .inl b] := e0
          subst e0
          refine ⟨q, _, rfl, SqT.of hq, rfl, _, _, rfl, _, _, rfl, rfl, ?_⟩
          refine ⟨rfl, ?_⟩
          refine ⟨_, rfl, _, rfl, rfl, _, rfl, ?_⟩
          refine ite2 (fun y => ?_) (fun y => pv.skip (Same.refl _) hk (Classical.byContradiction fun z => y (kV_ne z)))
          have yne : a ≠ b := kV_eq y
          refine ⟨_, rfl, _, rfl, by show 2 ≤ sizeLine; decide, fun T3 nT3 => ?_⟩
          exact pv.add (same_new nT3) (by omega) upd_same ia ib hk yne
        · rintro H2 ⟨acc, a1, a2, a3, a4, a5, a8⟩
          refine ⟨a5 _ _ upd_same, ?_⟩
          have hg2 := a5 _ _ upd_same
          have gL : L ≠ g := fun z => by
            rw [z, upd_same] at a4
            cases a4
          have D2 := ((D1.upd (o := .frz ob (.dT kvs)) gp gd).same a5).upd (o := .dT kvs) gp gd
          have k2 : Kp p d H (L2.upd H2 g (.dT kvs)) := fun b o hb q1 q2 => by
            rw [upd_ne (ne_of_none hb g4)]
            refine a5 _ _ ?_
            rw [upd_ne (ne_of_none hb g4)]
            exact k1 _ _ hb q1 q2
          have a6 : (L2.upd H2 g (.dT kvs)) L = some (.lst acc) := by
            rw [upd_ne gL]
            exact a1
          have tg : TupS H2 (L2.upd H2 g (.dT kvs)) := TupS.upd fun xs z => by
            rw [hg2] at z
            cases z
          have a7 : Arrs n (L2.upd H2 g (.dT kvs)) acc := a2.keep tg
          have a9 : acc.map (endsOf (L2.upd H2 g (.dT kvs))) = kPairs kvs := by
            rw [List.take_length] at a8
            rw [← a8]
            exact List.map_congr_left fun x hx => endsOf_keep (a2 x hx) tg
          generalize (L2.upd H2 g (.dT kvs)) = H3 at D2 k2 a6 a7 a9 ⊢
          refine ⟨L, acc, endsOf H3, rfl, SqL.of a6, fun x hx => endsOf_arr (a7 x hx), fun ys p2 srt stb np2 => ?_⟩
          refine ⟨p2, ys, rfl, .inl ⟨SqL.of upd_same, fun l nl => ⟨by show 2 ≤ sizeLine; decide, fun T nT => ?_⟩⟩⟩
          have sa : Same H3 (L2.upd H3 p2 (.lst ys)) := same_new np2
          have sb := sa.trans (same_new (o := .tup ys) nl)
          have sc := sb.trans (same_new (o := .tup [.int n, .ref l]) nT)
          have ay : Arrs n H3 ys := fun x hx => a7 x (stb.perm.mem_iff.mp hx)
          have ndy : (ys.map (endsOf H3)).Nodup := by
            refine (stb.perm.map (endsOf H3)).nodup_iff.mpr ?_
            rw [a9]
            exact kPairs_nd ndk
          have srt2 : (ys.map (endsOf H3)).Pairwise lt2 := asc_of ndy (List.pairwise_map.mpr srt)
          have ey : ys.map (endsOf (L2.upd (L2.upd (L2.upd H3 p2 (.lst ys)) l (.tup ys)) T (.tup [.int n, .ref l]))) = ys.map (endsOf H3) := List.map_congr_left fun x hx => endsOf_keep (ay x hx) (.of sc)
          refine k T l ys _ (D2.same sc) (k2.trans (.of sc)) upd_same ((same_new nT) _ _ upd_same) (ay.keep (.of sc)) (by rw [stb.len]; omega) (by rw [ey]; exact srt2) (fun x hx => ?_)
          rw [endsOf_keep (ay x hx) (.of sc)]
          refine kPairs_ne (kvs := kvs) _ ?_
          rw [← a9]
          exact List.mem_map_of_mem (stb.perm.mem_iff.mp hx)
theorem ok_net {f : Addr} {fd : FuncData} (F : Fun K "_law_net" "_law_net" sNet f fd) (B : NoNames mg) (O : Own P w K mg base 1 "_law_draw" ["deck", "many"] spDraw)
    (OP : Own P w K mg base 2 "_law_pick" ["deck", "items"] spPick) (OM : Own P w K mg base 2 "_law_mixed" ["deck", "items"] spMixed) : FnOk P w K mg base CX0 3 f fd ["deck", "n"] spNet :=
  (ok_netS F B O OP OM).imp fun vs H Q E ⟨p, d, n, e, D, n1, n2, k⟩ => ⟨p, d, n, e, D, n1, n2, fun a b xs H' h1 h2 h3 h4 h5 h6 _ _ => k a b xs H' h1 h2 h3 h4 h5 h6⟩
end
end Sw
namespace Sw
open PySem L2
/-- the arrows of a net, as pairs -/
def ArsAt (H : Hp) (ts : List V) (ars : List (Int × Int)) : Prop := Paired (fun x (e : Int × Int) => ∃ t, x = V.ref t ∧ H t = some (.tup [.int e.1, .int e.2])) ts ars
theorem ArsAt.len {H : Hp} : ∀ {ts : List V} {ars : List (Int × Int)}, ArsAt H ts ars → ts.length = ars.length
  | _, _, .nil => rfl
  | _, _, .cons _ t => by
    rw [List.length_cons, List.length_cons, ArsAt.len t]
theorem ArsAt.at {H : Hp} : ∀ {ts : List V} {ars : List (Int × Int)} {i : Nat} {x : V}, ArsAt H ts ars → ts[i]? = some x → ∃ e t, ars[i]? = some e ∧ x = .ref t ∧ H t = some (.tup [.int e.1, .int e.2])
  | _, _, i, x, .nil, h => by simp at h
  | _, _, 0, x, .cons (b := e) q t, h => by
    obtain ⟨t', e1, e2⟩ := q
    have h : some _ = some x := h
    cases h
    exact ⟨e, t', rfl, e1, e2⟩
  | _, _, i + 1, x, .cons q t, h => ArsAt.at (i := i) t h
theorem ArsAt.keep {H H' : Hp} {ts : List V} {ars : List (Int × Int)} (h : ArsAt H ts ars) (s : TupS H H') : ArsAt H' ts ars := paired_mono (fun _ _ ⟨t, e, x⟩ => ⟨t, e, s _ _ x⟩) h
/-- every net's arrows are some pairs -/
theorem ArsAt.ex {n : Int} {H : Hp} : ∀ {ts : List V}, Arrs n H ts → ∃ ars, ArsAt H ts ars
  | [], _ => ⟨[], .nil⟩
  | x :: r, h => by
    obtain ⟨t, a, b, rfl, ht, _⟩ := h x (by simp)
    obtain ⟨ars, q⟩ := ArsAt.ex (ts := r) fun y hy => h y (by simp [hy])
    exact ⟨(a, b) :: ars, .cons ⟨t, rfl, ht⟩ q⟩
end Sw
namespace Sw
open PySem L2
/-- a statement kept to what it is to do, for whatever i stands for -/
def tCutI {ι : Type} (J J' : ι → L2.St → Hp → Prop) : TS := fun D σ H => ∃ i, J i σ H ∧ ∀ σ' H', J' i σ' H' → D.nx σ' H'
theorem ps_cutI {ι : Type} {X : Cx} {st : Stmt} {t : TS} (J J' : ι → L2.St → Hp → Prop) (h : PS X st t) (hJ : ∀ i D σ H, J i σ H → (∀ σ' H', J' i σ' H' → D.nx σ' H') → t D σ H) : PS X st (tCutI J J') :=
  ⟨fun pins s σ H D I q => by
    obtain ⟨i, a, b⟩ := q
    exact h.run pins s σ H D I (hJ i D σ H a b)⟩
theorem int_at {os : List Int} {i : Nat} {x : V} (h : (os.map V.int)[i]? = some x) : ∃ z, os[i]? = some z ∧ x = .int z := by
  rw [List.getElem?_map] at h
  cases q : os[i]? with
  | none => rw [q] at h; cases h
  | some z => rw [q] at h; exact ⟨z, rfl, (Option.some.inj h).symm⟩
end Sw
namespace Sw
open PySem PySem.Spec PyProof.Rows L2
/-! ### raise C() -/
section
variable {X : Cx} {C : Addr} {bmB : List Value} {B newId initId : String}
theorem pmk_own0 {x : Str} {p pos : Pos} (F : ExcBaseFacts B newId initId bmB) (q : PySem.W.excIn X.K C bmB newId = true) (gC : X.mg x = some (.ref C)) (kC : PySem.W.keepIn X.K (.ref C) = true) (r : Raises X (.ref C)) (hg : Gl X x)
    (hdb : (x == ("__debug__" : Str)) = false := by decide) : PMk X (.Call (.Name x p) [] [] pos) (fun _ H Q => Q (.ref C) none H) := by
  intro pins s σ H Q I h
  refine wpAny_Call_Name_kw (ld_glob I hg gC ?_ hdb)
  refine PySem.W.callWith_K0 (first := []) I.kIn kC ?_
  show wpAny _ _ (call (.ref C) []) _ _ _
  obtain ⟨bm, N, nm, qn, bs, hdct, sn, sub, ab, col, dd, k0, k1, k2, k3, k5, mN, hC, hN, hni, T⟩ := exc_obj I.kIn q
  exact wpAny_call_exc_subT F T hC hN hni (fun h' e hm => mk_of I hm r h (I.hok.gone hm.new)) (by show 0 ≤ sizeLine; omega)
end
end Sw
namespace Sw
open PySem PySem.Spec PyProof.Rows L2
/-! ### an own error x without __init__, under the error y of the package: raised, caught, asked -/
structure UErr (K : PySem.W.Frag) (mg : Str → Option Value) (x y : Str) (C S : Addr) : Prop where
  mx : mg x = some (.ref C)
  my : mg y = some (.ref S)
  made : PySem.W.excIn K C [.type "ValueError", .type "Exception", .type "BaseException", .type "object"] "ValueError.__new__" = true
  kC : PySem.W.keepIn K (.ref C) = true
  base : PySem.W.subIn K (.ref C) (.type "BaseException") = some true
  ty : PySem.W.typeIn K (.ref C) = some (.type "type")
  self : PySem.W.subIn K (.ref C) (.ref C) = some true
  ex : ExcC K C
  sub : PySem.W.kitOne K (.ref C) (.ref S) = some true
theorem UErr.raises {X : Cx} {x y : Str} {C S : Addr} (U : UErr X.K X.mg x y C S) : Raises X (.ref C) := raises_own U.base U.ty
theorem UErr.takes {K : PySem.W.Frag} {mg : Str → Option Value} {x y : Str} {C S : Addr} (U : UErr K mg x y C S) : PySem.W.exmOne K (.ref C) (.ref C) = some true := PySem.W.exm_ref U.base U.ex.hd U.ty U.self
theorem UErr.mk0 {X : Cx} {x y : Str} {C S : Addr} {p pos : Pos} (U : UErr X.K X.mg x y C S) (hg : Gl X x) (hdb : (x == ("__debug__" : Str)) = false := by decide) : PMk X (.Call (.Name x p) [] [] pos) (fun _ H Q => Q (.ref C) none H) :=
  pmk_own0 PySem.F.excBase_ValueError U.made U.mx U.kC U.raises hg hdb
section
variable {X : Cx} {CX : CXT} {k : Nat} {f : Addr} {fd : FuncData} {ps ks : List Str} {sp : Sp} {E : L2.St → XK} {x : Str} {p pos : Pos} {kws : List Keyword} {tk : TA} {g : List Value → List Value → List Value} {gV : List V → List V → List V}
/-- f(k = v) in a try: what it may let out is wished for at the slots -/
theorem pe_callWS (F : FnOk X.prog X.w X.K X.mg X.base CX k f fd ps sp) (hr : Room k X.A) (hg : Gl X x) (hm : X.mg x = some (.ref f)) (hk : PySem.W.keepIn X.K (.ref f) = true) (hb : KBinds X.K fd ps ks g gV) (hx : ∀ σ, PassesAt CX X σ (E σ))
    (hkw : PK X kws tk) (hall : (backToKw pos (keywordEach kws X.env)).all (·.1.isSome) = true := by rfl) (hks : (backToKw pos (keywordEach kws X.env)).filterMap (·.1) = ks := by rfl)
    (hdb : (x == ("__debug__" : Str)) = false := by decide)
    (hpl : ((backTo pos (starEach [] X.env)).any (·.1) || (backToKw pos (keywordEach kws X.env)).any (·.1.isNone)) = false := by rfl) :
    PE X (.Call (.Name x p) [] kws pos) (fun σ H Q => tk σ H fun zs H2 => sp (gV [] zs) H2 Q (E σ)) := by
  refine ⟨fun pins s σ H Q I h => wpAny_Call_Name_kw (ld_glob I hg hm ?_ hdb)⟩
  refine PySem.W.callWith_KW0 (first := []) (h₀ := X.base) I.ok.mod.kin hk hall (thn (hkw.run pos pins s σ H _ I h) fun ws s2 ⟨zs, H2, I2, rz, q2⟩ => ⟨I2.kIn, ?_⟩) hpl
  rw [hks]
  have r2 := hb.rel (us := []) .nil rz
  have hl : (g [] ws).length = ps.length := by
    rw [← r2.length]
    exact F.len _ _ _ _ q2
  refine wpAny_call (codeAny_mono (F.run X.A X.stack s2 H2 ⟨[], ks.zip ws⟩ (g [] ws) (gV [] zs) Q (E σ) hr I2.env0 (hb.to s2 [] ws I2.kIn hl) r2 q2) fun r s' hq => ?_)
  rcases r with e | fl
  · exact hx σ pins H2 s2 e s' I2 hq
  rcases fl with _ | _ | _ | u
  all_goals first | exact hq.elim | skip
  exact I2.after hq
end
end Sw
namespace Sw
open PySem PySem.Spec PyProof.Rows L2 SX
/-! ### texts of nets -/
abbrev sNetText : Stmt := top 32
theorem scNetText : FnScope ["net", "n", "arrows", "v", "w"] ["net"] (defScope sNetText) := ⟨rfl, rfl, rfl, by decide +kernel, rfl, by decide +kernel, by decide +kernel⟩
/-- the decimal of a whole number, by signs -/
def figsI (i : Int) : List Nat := (Str.ofString (toString i)).cps.toList
theorem figsI_S (i : Int) : Str.ofString (toString i) = S (figsI i) := (S_tl _).symm
def arrL (e : Int × Int) : List Nat := [32] ++ figsI e.1 ++ [62] ++ figsI e.2
def textL (n : Int) (ars : List (Int × Int)) : List Nat := figsI n ++ [58] ++ (ars.map arrL).flatten
theorem figs_len : ∀ i, i < 13 → (figs i).length ≤ 2 := by decide +kernel
theorem figsI_len {i : Int} (h : 0 ≤ i) (h2 : i < 13) : (figsI i).length ≤ 2 := by
  obtain ⟨k, rfl⟩ := Int.eq_ofNat_of_zero_le h
  exact figs_len k (by omega)
theorem ends58 (h : List Nat) : Txt.endswith (S h) (S [58]) = decide (h.getLast? = some 58) := by
  unfold Txt.endswith
  rw [StrLaws.subAt_eq, S_len, S_len]
  show (decide (0 + 1 ≤ h.length) && ((h.drop (h.length - 1)).take 1 == [58])) = _
  cases e : h.getLast? with
  | none =>
    have : h = [] := List.getLast?_eq_none_iff.mp e
    subst this
    rfl
  | some x =>
    obtain ⟨l, rfl⟩ := List.getLast?_eq_some_iff.mp e
    rw [List.length_append, List.length_singleton, Nat.add_sub_cancel, List.drop_left']
    · rw [show List.take 1 [x] = [x] from rfl, decide_eq_true (show 0 + 1 ≤ l.length + 1 by omega), Bool.true_and]
      by_cases z : x = 58
      · subst z
        rfl
      · rw [decide_eq_false (fun q => z (Option.some.inj q))]
        simp [z]
    · rfl
theorem cut1 (h : List Nat) : cutS (S h) none (some (-1)) = S h.dropLast := by
  unfold cutS
  show S (((S h).cps.toList.drop 0).take (((-1 : Int) + ((S h).length : Int)).toNat - 0)) = _
  rw [S_len, List.drop_zero, Nat.sub_zero]
  show S (h.take _) = _
  rw [List.dropLast_eq_take]
  congr 2
  omega
theorem joinL_nil : ∀ l : List (List Nat), TL.joinL [] l = l.flatten
  | [] => rfl
  | [p] => by
    show p = _
    simp
  | p :: q :: r => by
    show p ++ ([] ++ TL.joinL [] (q :: r)) = _
    rw [List.nil_append, joinL_nil (q :: r)]
    simp
section
variable {P : Program} {w : World} {K : PySem.W.Frag} {mg : Str → Option Value} {base : Heap}
def spNetText : Sp := fun vs H Q _ => ∃ (a b : Addr) (n : Int) (ts : List V) (ars : List (Int × Int)), vs = [.ref a] ∧ NetAt n H a b ts ∧ ArsAt H ts ars ∧ ∀ H', Same H H' → Q (.str (S (textL n ars))) H'
theorem ok_netText {f : Addr} {fd : FuncData} (F : Fun K "net_text" "net_text" sNetText f fd) : FnOk P w K mg base CX0 1 f fd ["net"] spNetText := by
  refine F.ok scNetText (fun vs H Q E h => ?_) (fun cdv A outer s H vs Q E hr h => ?_)
  · obtain ⟨a, b, n, ts, ars, rfl, _⟩ := h
    rfl
  · obtain ⟨a, b, n, ts, ars, rfl, N, AR, k⟩ := h
    refine ⟨_, pss_cons (ps_asg (pv 0) (pg_tup (by rfl) (pgs_cons (pg_name (i := 1) scNetText.nd rfl (.inl rfl)) (pgs_cons (pg_name (i := 2) scNetText.nd rfl (.inl rfl)) pgs_nil)))) <|
      pss_one (ps_ret (pe_op op_add_str (pe_joined (.cons (pe_fmt (pv 1)) (.cons pe_str .nil))) (pe_join pe_str (pe_lc (own := [("v", 3), ("w", 4)]) (g := gTup K 2 (gCons (gName 3) (gCons (gName 4) gNil))) (tt := tYes) rfl scNetText.nd (pi_tup (pv 2)) (blkOk_by (own := [("v", 3), ("w", 4)]) (N := ["net", "n", "arrows", "v", "w"]) (sc := defScope sNetText) (by decide +kernel))
        (fun _ _ _ _ _ => pg_tup rfl (pgs_cons (pg_name (i := 3) scNetText.nd rfl (Or.inl rfl)) (pgs_cons (pg_name (i := 4) scNetText.nd rfl (Or.inl rfl)) pgs_nil))) (fun _ _ _ _ _ => pts_nil)
        (fun _ _ _ _ _ => pe_joined (.cons pe_str (.cons (pe_fmt (pv 3)) (.cons pe_str (.cons (pe_fmt (pv 4)) .nil))))))))), ?_⟩
    have n1 := N.n1
    have n2 := N.n2
    have n3 := figsI_len (i := n) (by omega) (by omega)
    have lg : n.natAbs.log2 < 1920 := Nat.lt_of_le_of_lt (Nat.log2_le_self _) (by omega)
    refine ⟨_, rfl, a, _, rfl, SqT.of N.a, rfl, _, _, rfl, _, _, rfl, rfl, ?_⟩
    refine ⟨_, rfl, .inr ⟨n, rfl, lg, _, rfl, ?_, _, rfl, ?_, ?_⟩⟩
    · rw [figsI_S]
      show (S [] ++ S (figsI n)).length ≤ sizeLine
      rw [S_cat, S_len, sizeLine_eq, List.nil_append]
      omega
    · rw [figsI_S]
      show (S [] ++ S (figsI n) ++ S [58]).length ≤ sizeLine
      rw [S_cat, S_cat, S_len, sizeLine_eq, List.length_append, List.length_append, List.length_nil, List.length_singleton]
      omega
    have ll := AR.len
    have lt := N.len
    have each : ∀ e ∈ ars, Inn n e.1 ∧ Inn n e.2 := fun e he => by
      obtain ⟨x, hx, t, rfl, ht⟩ := paired_mem AR he
      obtain ⟨t2, a2, b2, e2, h2, q1, q2⟩ := N.arr _ hx
      cases e2
      rw [ht] at h2
      have h2 := HO.tup.inj (Option.some.inj h2)
      cases h2
      exact ⟨q1, q2⟩
    have al : ∀ e ∈ ars, (arrL e).length ≤ 6 := fun e he => by
      obtain ⟨⟨a1, a2⟩, b1, b2⟩ := each e he
      have := figsI_len a1 (by omega)
      have := figsI_len b1 (by omega)
      unfold arrL
      rw [List.length_append, List.length_append, List.length_append, List.length_singleton, List.length_singleton]
      omega
    have tk : ∀ {i : Nat} {e : Int × Int}, ars[i]? = some e → (ars.map arrL).take (i + 1) = (ars.map arrL).take i ++ [arrL e] := fun {i e} h => by
      rw [List.take_add_one, List.getElem?_map, h]
      rfl
    refine ⟨⟨_, rfl⟩, _, rfl, b, rfl, ⟨_, SqT.of N.b⟩, fun D nD => ?_⟩
    refine lc_it (te := fun σ H Q => tJs [tC (.str (Str.ofString " ")), tFmt (tVar 3), tC (.str (Str.ofString ">")), tFmt (tVar 4)] Str.empty σ H fun out H1 => Q (.str out) H1) (walk_tup (xs := ts)) (fun i H' => H' D = some (.lst ((((ars.map arrL).take i).map S).map V.str)) ∧ Same H H') ⟨upd_same, same_new nD⟩ (fun i H' _ h => SqT.of (h.2 _ _ N.b)) ?_ ?_
    · rintro i x Hb Ha hi ⟨h1, h2⟩ ⟨rfl, ex⟩
      obtain ⟨e, t, he, rfl, ht⟩ := AR.at ex
      have me := List.mem_of_getElem? he
      obtain ⟨⟨a1, a2⟩, b1, b2⟩ := each e me
      have f1 := figsI_len a1 (by omega)
      have f2 := figsI_len b1 (by omega)
      have g1 : e.1.natAbs.log2 < 1920 := Nat.lt_of_le_of_lt (Nat.log2_le_self _) (by omega)
      have g2 : e.2.natAbs.log2 < 1920 := Nat.lt_of_le_of_lt (Nat.log2_le_self _) (by omega)
      refine ⟨t, _, rfl, SqT.of (h2 _ _ ht), rfl, _, _, rfl, _, _, rfl, rfl, ?_⟩
      refine ⟨rfl, ?_⟩
      dsimp only [tYes]
      rw [if_pos rfl]
      have z1 : Str.empty ++ Str.ofString " " = S [32] := rfl
      have z2 : Str.empty ++ Str.ofString " " ++ Str.ofString (toString e.1) = S ([32] ++ figsI e.1) := by rw [z1, figsI_S, S_cat]
      have z3 : Str.empty ++ Str.ofString " " ++ Str.ofString (toString e.1) ++ Str.ofString ">" = S ([32] ++ figsI e.1 ++ [62]) := by
        rw [z2, show Str.ofString ">" = S [62] from rfl, S_cat]
      have z4 : Str.empty ++ Str.ofString " " ++ Str.ofString (toString e.1) ++ Str.ofString ">" ++ Str.ofString (toString e.2) = S (arrL e) := by
        rw [z3, figsI_S, S_cat]
        rfl
      have al := al e me
      refine ⟨_, rfl, ?_, _, rfl, .inr ⟨e.1, rfl, g1, _, rfl, ?_, _, rfl, ?_, _, rfl, .inr ⟨e.2, rfl, g2, _, rfl, ?_, ?_⟩⟩⟩
      · rw [z1, S_len]
        decide
      · rw [z2, S_len, sizeLine_eq, List.length_append, List.length_singleton]
        omega
      · rw [z3, S_len, sizeLine_eq, List.length_append, List.length_append, List.length_singleton, List.length_singleton]
        omega
      · rw [z4, S_len, sizeLine_eq]
        omega
      rw [z4]
      refine ⟨_, h1, ?_, ?_, fun c o ec => ?_⟩
      · rw [List.length_map, List.length_map, List.length_take, List.length_map, sizeLine_eq]
        omega
      · rw [upd_same, tk he, List.map_append, List.map_append]
        rfl
      · rw [upd_ne (ne_of_none ec nD)]
        exact h2 _ _ ec
    · rintro Ha ⟨h1, h2⟩
      rw [ll, List.take_of_length_le (by rw [List.length_map]; exact Nat.le_refl _)] at h1
      have sum : ∀ l : List (Int × Int), (∀ e ∈ l, (arrL e).length ≤ 6) → (((l.map arrL).map S).map (·.length)).sum ≤ l.length * 6 ∧ ((l.map arrL).flatten).length ≤ l.length * 6 := by
        intro l
        induction l with
        | nil => exact fun _ => ⟨Nat.le_refl _, Nat.le_refl _⟩
        | cons e r ih =>
          intro h
          obtain ⟨i1, i2⟩ := ih fun x hx => h x (List.mem_cons_of_mem _ hx)
          have := h e List.mem_cons_self
          refine ⟨?_, ?_⟩
          · rw [List.map_cons, List.map_cons, List.map_cons, List.sum_cons, S_len, List.length_cons]
            omega
          · rw [List.map_cons, List.flatten_cons, List.length_append, List.length_cons]
            omega
      obtain ⟨s1, s2⟩ := sum ars al
      have ej : Txt.join (Str.ofString "") ((ars.map arrL).map S) = S (ars.map arrL).flatten := by
        show Txt.join (S []) _ = _
        rw [join_S]
        rw [joinL_nil]
      refine ⟨_, D, (ars.map arrL).map S, rfl, rfl, .inl (SqL.of h1), ?_, ?_⟩
      · rw [List.length_map, List.length_map]
        show _ + _ * 0 ≤ _
        omega
      rw [ej]
      have z5 : Str.empty ++ Str.ofString (toString n) ++ Str.ofString ":" = S (figsI n ++ [58]) := by
        rw [figsI_S]
        show S [] ++ S (figsI n) ++ S [58] = _
        rw [S_cat, S_cat, List.nil_append]
      rw [z5]
      refine ⟨_, _, rfl, rfl, ?_, ?_⟩
      · rw [S_len, S_len, sizeLine_eq, List.length_append, List.length_singleton]
        omega
      · rw [S_cat]
        exact k Ha h2
end
end Sw
namespace Sw
open PySem PySem.Spec PyProof.Rows L2 SX
/-! ### read_net -/
abbrev sReadNet : Stmt := top 33
theorem scReadNet : FnScope ["value", "head", "words", "word", "net"] ["value"] (defScope sReadNet) := ⟨rfl, rfl, rfl, by decide +kernel, rfl, by decide +kernel, by decide +kernel⟩
def wordD (wd : List Nat) : D := .tup [numD (endsL wd).1, numD (endsL wd).2]
def netData (l : List Nat) : Option D := match TL.spl [32] 0 [] l with
  | [] => none
  | h :: ws => if h.getLast? = some 58 then some (.tup [numD (numL h.dropLast), .tup (ws.map wordD)]) else none
def Good (l : List Nat) (d : D) : Prop := netData l = some d ∧ IsErr d .non
theorem spl_cons : ∀ (l : List Nat) (k : Nat) (acc : List Nat), ∃ h ws, TL.spl [32] k acc l = h :: ws
  | [], k, acc => ⟨acc, [], TL.spl_nil _ _ _⟩
  | c :: r, 0, acc => by
    by_cases z : TL.pre [32] (c :: r) = true
    · rw [TL.spl_hit z]
      exact ⟨_, _, rfl⟩
    · show ∃ h ws, (if TL.pre [32] (c :: r) = true then acc :: TL.spl [32] ([32].length - 1) [] r else TL.spl [32] 0 (acc ++ [c]) r) = h :: ws
      rw [if_neg z]
      exact spl_cons r 0 _
  | c :: r, k + 1, acc => spl_cons r k acc
theorem spl_len (l : List Nat) : (TL.spl [32] 0 [] l).length ≤ l.length + 2 := by
  have := PyProof.Rows.split_le (S l) (S [32])
  rw [split_S (by decide) (by decide), List.length_map, S_len] at this
  exact this
theorem spl_part : ∀ (l : List Nat) (k : Nat) (acc : List Nat), ∀ p ∈ TL.spl [32] k acc l, p.length ≤ acc.length + l.length
  | [], k, acc, p, hp => by
    rw [TL.spl_nil] at hp
    rw [List.mem_singleton.mp hp]
    omega
  | c :: r, 0, acc, p, hp => by
    by_cases z : TL.pre [32] (c :: r) = true
    · rw [TL.spl_hit z] at hp
      rcases List.mem_cons.mp hp with e | e
      · rw [e]; omega
      · have := spl_part r _ _ p e
        rw [List.length_nil] at this
        rw [List.length_cons]
        omega
    · have hp : p ∈ (if TL.pre [32] (c :: r) = true then acc :: TL.spl [32] ([32].length - 1) [] r else TL.spl [32] 0 (acc ++ [c]) r) := hp
      rw [if_neg z] at hp
      have := spl_part r _ _ p hp
      rw [List.length_append, List.length_singleton] at this
      rw [List.length_cons]
      omega
  | c :: r, k + 1, acc, p, hp => by
    have := spl_part r k acc p hp
    rw [List.length_cons]
    omega
theorem num_wt {o : Option Nat} (h : ∀ i, o = some i → i ≤ 12) : small (numD o) ∧ wt (numD o) ≤ 4 ∧ dep (numD o) = 0 := by
  cases o with
  | none => exact ⟨trivial, by simp [numD, wt], by simp [numD, dep]⟩
  | some i =>
    have := h i rfl
    obtain ⟨_, i2, i3, i4⟩ := int_ok (K := default) (H := fun _ => none) (i := (i : Int)) (w := 3) (k := 0) (by omega) (by decide) (by decide)
    exact ⟨i2, i3, by simp [numD, dep]⟩
theorem endsL_le (l : List Nat) : (∀ i, (endsL l).1 = some i → i ≤ 12) ∧ ∀ i, (endsL l).2 = some i → i ≤ 12 := by
  unfold endsL
  split
  · exact ⟨fun i h => (numL_some (l := _) h).2, fun i h => (numL_some (l := _) h).2⟩
  · exact ⟨fun i h => (numL_some (l := l) h).2, fun i h => (numL_some (l := []) h).2⟩
theorem word_wt (wd : List Nat) : small (wordD wd) ∧ wt (wordD wd) ≤ 15 ∧ dep (wordD wd) ≤ 1 := by
  obtain ⟨a, b⟩ := endsL_le wd
  obtain ⟨a1, a2, a3⟩ := num_wt a
  obtain ⟨b1, b2, b3⟩ := num_wt b
  unfold wordD
  refine ⟨?_, ?_, ?_⟩
  · simp only [small, smallAll]
    exact ⟨a1, b1, trivial⟩
  · simp only [wt, wtAll]
    omega
  · simp only [dep, depAll]
    omega
theorem words_wt : ∀ ws : List (List Nat), smallAll (ws.map wordD) ∧ wtAll (ws.map wordD) ≤ ws.length * 17 ∧ depAll (ws.map wordD) ≤ 1
  | [] => ⟨by simp [smallAll], by simp [wtAll], by simp [depAll]⟩
  | wd :: r => by
    obtain ⟨h1, h2, h3⟩ := words_wt r
    obtain ⟨g1, g2, g3⟩ := word_wt wd
    refine ⟨?_, ?_, ?_⟩
    · rw [List.map_cons, smallAll]
      exact ⟨g1, h1⟩
    · rw [List.map_cons, wtAll, List.length_cons]
      omega
    · rw [List.map_cons, depAll]
      omega
section
variable {K : PySem.W.Frag} {H : Hp}
theorem num_rep (o : Option Nat) : Rep K H (numD o) (numV o) [] := by
  cases o <;> simp [numD, numV, Rep]
theorem repAll_nil : RepAll K H [] [] [] := by simp [RepAll]
theorem repAll_cat : ∀ {ds es : List D} {xs ys : List V} {as bs : List Addr}, RepAll K H ds xs as → RepAll K H es ys bs → RepAll K H (ds ++ es) (xs ++ ys) (as ++ bs)
  | [], es, xs, ys, as, bs, h, g => by
    simp only [RepAll] at h
    obtain ⟨rfl, rfl⟩ := h
    exact g
  | d :: ds, es, xs, ys, as, bs, h, g => by
    rw [RepAll] at h
    obtain ⟨x, r, b1, b2, rfl, h1, h2, rfl⟩ := h
    rw [List.cons_append, List.append_assoc]
    show RepAll K H (d :: (ds ++ es)) (x :: (r ++ ys)) _
    rw [RepAll]
    exact ⟨x, r ++ ys, b1, b2 ++ bs, rfl, h1, repAll_cat h2 g, rfl⟩
theorem repAll_one {d : D} {x : V} {as : List Addr} (h : Rep K H d x as) : RepAll K H [d] [x] as := by
  rw [RepAll]
  exact ⟨x, [], as, [], rfl, h, repAll_nil, (List.append_nil _).symm⟩
theorem word_rep {p : Addr} {wd : List Nat} (h : H p = some (.tup [numV (endsL wd).1, numV (endsL wd).2])) : Rep K H (wordD wd) (.ref p) [p] := by
  unfold wordD
  rw [Rep]
  refine ⟨p, _, [], rfl, h, ?_, by simp, rfl⟩
  rw [RepAll]
  exact ⟨_, _, [], [], rfl, num_rep _, repAll_one (num_rep _), rfl⟩
end
section
variable {P : Program} {w : World} {K : PySem.W.Frag} {mg : Str → Option Value} {base : Heap} {C S' : Addr}
def spReadNet (K : PySem.W.Frag) (C : Addr) : Sp := fun vs H Q E => ∃ (x : V) (d : D) (as : List Addr), vs = [x] ∧ Rep K H d x as ∧ (∀ l : List Nat, d = .str (S l) → l.length ≤ 100000) ∧
  ((∀ l dd, d = .str (S l) → ¬ Good l dd) → ∀ H', Same H H' → E (.ref C) none H') ∧
  (∀ l dd, d = .str (S l) → Good l dd → ∀ (q : Addr) (bs : List Addr) (H' : Hp), Same H H' → Rep K H' dd (.ref q) bs → Q (.ref q) H')
theorem ok_readNet {f : Addr} {fd : FuncData} (F : Fun K "read_net" "read_net" sReadNet f fd) (B : NoNames mg) (U : UErr K mg "BadText" "SwapError" C S')
    (ON : Own P w K mg base 1 "number_in" ["word"] spNumIn) (OE : Own P w K mg base 2 "ends_in" ["word"] spEndsIn) (OR : Own P w K mg base 4 "net_error" ["value"] (spError K)) : FnOk P w K mg base (L2.CX P w) 5 f fd ["value"] (spReadNet K C) := by
  obtain ⟨fN, fdN, GN, mN, kN, bN⟩ := ON.ex
  obtain ⟨fE, fdE, GE, mE, kE, bE⟩ := OE.ex
  obtain ⟨fR, fdR, GR, mR, kR, bR⟩ := OR.ex
  refine F.okX scReadNet (fun vs H Q E h => ?_) (fun cdv A outer s H vs Q E hr h => ?_)
  · obtain ⟨x, d, as, rfl, _⟩ := h
    rfl
  · obtain ⟨x, d, as, rfl, hd, hlen, k1, k2⟩ := h
    have hr1 : Room 1 _ := hr.mono (by decide)
    have hr2 : Room 2 _ := hr.mono (by decide)
    have hr4 : Room 4 _ := hr.mono (by decide)
    refine ⟨_, pss_cons (ps_if (pt_not (pt_val (pe_isi (i := 0) (TN := "str") rfl (Or.inl rfl) (by decide) (by decide) B.isi B.str rfl rfl (by decide +kernel) (by decide) (by decide)))) (pss_one (ps_raise rfl (takes_of rfl rfl rfl rfl) (U.mk0 rfl))) pss_nil) <|
      pss_cons (ps_asg (pe_split (pv 0) pe_str) (pg_head (by rfl) (pgs_cons (pg_name (i := 1) scReadNet.nd rfl (.inl rfl)) (pgs_star (pg_name (i := 2) scReadNet.nd rfl (.inl rfl)))))) <|
      pss_cons (ps_if (pt_not (pt_val (pe_m1 PySem.F.slot_str_endswith PySem.F.type_str_endswith mt_endswith (pv 1) pe_str rfl rfl rfl))) (pss_one (ps_raise rfl (takes_of rfl rfl rfl rfl) (U.mk0 rfl))) pss_nil) <|
      pss_cons (ps_set (i := 4) scReadNet.nd rfl (.inl rfl) (pe_tup (pa_cons (pe_call GN hr1 rfl mN kN bN .nil pass0 (pa_cons (pe_slice sl_str (pv 1) po_none (po_some (pe_un un_neg pe_int))) pa_nil))
        (pa_cons (pe_callTy call_tuple_of (by rfl) B.tuple (by decide +kernel) (pa_cons (pe_lc (own := [("word", 3)]) (g := gName 3) (tt := tYes) rfl scReadNet.nd (pi_list (pv 2)) (blkOk_by (own := [("word", 3)]) (N := ["value", "head", "words", "word", "net"]) (sc := defScope sReadNet) (by decide +kernel))
          (fun _ _ _ _ _ => pg_name (i := 3) scReadNet.nd rfl (Or.inl rfl)) (fun _ _ _ _ _ => pts_nil) (fun _ _ _ _ _ => pe_call GE hr2 rfl mE kE bE .nil pass0 (pa_cons (pv 3) pa_nil))) pa_nil)) pa_nil)))) <|
      pss_cons (ps_if (pt_cmpR op_notN (pe_call GR hr4 rfl mR kR bR .nil pass0 (pa_cons (pv 4) pa_nil)) pe_non (nomark _)) (pss_one (ps_raise rfl (takes_of rfl rfl rfl rfl) (U.mk0 rfl))) pss_nil) <|
      pss_one (ps_ret (pv 4)), ?_⟩
    refine ⟨_, rfl, x, d, as, "str", rfl, by decide, hd, _, rfl, ?_⟩
    cases e : isT "str" d with
    | false =>
      refine iteT (k1 (fun l dd z => ?_) H (Same.refl H))
      rw [z] at e
      cases e
    | true =>
      obtain ⟨z, rfl⟩ : ∃ z, d = .str z := by cases d <;> first | exact ⟨_, rfl⟩ | (cases e)
      simp only [Rep] at hd
      obtain ⟨rfl, rfl⟩ := hd
      obtain ⟨l, rfl⟩ : ∃ l, z = S l := ⟨z.cps.toList, (S_tl z).symm⟩
      have ll := hlen l rfl
      clear e hlen
      refine iteF ?_
      obtain ⟨hh, ws, ep⟩ := spl_cons l 0 []
      have le := spl_len l
      rw [ep, List.length_cons] at le
      have lp := spl_part l 0 []
      rw [ep] at lp
      have lh : hh.length ≤ l.length := by
        have := lp hh List.mem_cons_self
        rw [List.length_nil] at this
        omega
      refine ⟨_, rfl, ⟨_, rfl⟩, S l, S [32], rfl, rfl, by decide, by rw [S_len, sizeLine_eq]; omega, fun sp nsp => ?_⟩
      rw [split_S (by decide) (by decide), ep]
      have s1 : Same H (upd H sp (.lst (((hh :: ws).map S).map V.str))) := same_new nsp
      refine ⟨sp, .str (S hh), (ws.map S).map V.str, rfl, SqL.of upd_same, fun wl nwl => ⟨_, _, rfl, _, _, rfl, rfl, ?_⟩⟩
      have s2 := s1.trans (same_new (o := .lst ((ws.map S).map V.str)) nwl)
      have hwl : (upd (upd H sp (.lst (((hh :: ws).map S).map V.str))) wl (.lst ((ws.map S).map V.str))) wl = some (.lst ((ws.map S).map V.str)) := upd_same
      clear s1 nsp nwl
      generalize (upd (upd H sp (.lst (((hh :: ws).map S).map V.str))) wl (.lst ((ws.map S).map V.str))) = H1 at s2 hwl ⊢
      refine ⟨_, rfl, ⟨_, rfl⟩, S hh, S [58], rfl, rfl, _, rfl, ?_⟩
      rw [ends58]
      cases e5 : decide (hh.getLast? = some 58) with
      | false =>
        have ne := of_decide_eq_false e5
        refine iteT ?_
        show E (.ref C) none H1
        refine k1 (fun l' dd z gd => ?_) H1 s2
        obtain rfl := S_inj (D.str.inj z)
        have g1 := gd.1
        unfold netData at g1
        rw [ep] at g1
        dsimp only at g1
        rw [if_neg ne] at g1
        cases g1
      | true =>
        have ye := of_decide_eq_true e5
        refine iteF ?_
        have ed : netData l = some (.tup [numD (numL hh.dropLast), .tup (ws.map wordD)]) := by
          unfold netData
          rw [ep]
          dsimp only
          rw [if_pos ye]
        have dl : hh.dropLast.length ≤ 1000000 := by
          rw [List.length_dropLast]
          omega
        refine ⟨_, rfl, 1, rfl, -1, rfl, S hh, rfl, by rw [S_len, sizeLine_eq]; omega, ?_⟩
        rw [cut1]
        refine ⟨hh.dropLast, rfl, _, rfl, wl, rfl, ⟨_, SqL.of hwl⟩, fun D nD => ?_⟩
        have tk : ∀ {i : Nat} {wd : List Nat}, ws[i]? = some wd → (ws.map wordD).take (i + 1) = (ws.map wordD).take i ++ [wordD wd] := fun {i wd} h => by
          rw [List.take_add_one, List.getElem?_map, h]
          rfl
        refine lc_it (walk_list (xs := (ws.map S).map V.str)) (fun i H' => ∃ (ys : List V) (bs : List Addr), H' D = some (.lst ys) ∧ ys.length = i ∧ Same H1 H' ∧ RepAll K H' ((ws.map wordD).take i) ys bs ∧ D ∉ bs) ⟨[], [], upd_same, rfl, same_new nD, by rw [List.take_zero]; exact repAll_nil, by simp⟩ (fun i H' _ h => by obtain ⟨_, _, _, _, h, _⟩ := h; exact SqL.of (h _ _ hwl)) ?_ ?_
        · rintro i x Hb Ha hi ⟨ys, bs, h1, h2, h3, h4, h5⟩ ⟨rfl, ex⟩
          rw [List.length_map, List.length_map] at hi
          rw [List.getElem?_map, List.getElem?_map, List.getElem?_eq_getElem hi] at ex
          obtain rfl := Option.some.inj ex
          have hw : ws[i]? = some ws[i] := List.getElem?_eq_getElem hi
          have lw := lp ws[i] (List.mem_cons_of_mem _ (List.getElem_mem hi))
          rw [List.length_nil] at lw
          refine ⟨rfl, ?_⟩
          dsimp only [tYes]
          rw [if_pos rfl]
          refine ⟨_, rfl, ws[i], rfl, by omega, fun p H2 s2' hp => ?_⟩
          have hD := s2' _ _ h1
          have dp : D ≠ p := fun z => by
            rw [z, hp] at hD
            cases hD
          refine ⟨ys, hD, ?_, ys ++ [.ref p], bs ++ [p], upd_same, by rw [List.length_append, h2]; rfl, fun c o ec => ?_, ?_, ?_⟩
          · rw [h2, sizeLine_eq]
            omega
          · rw [upd_ne (ne_of_none ec nD)]
            exact s2' _ _ (h3 _ _ ec)
          · rw [tk hw]
            have k0 : ∀ c ∈ bs, ∀ o, Ha c = some o → upd H2 D (.lst (ys ++ [.ref p])) c = some o := fun c hc o ec => by
              rw [upd_ne (fun z => h5 (by rw [← z]; exact hc))]
              exact s2' _ _ ec
            refine repAll_cat (h4.keep k0) (repAll_one (word_rep ?_))
            rw [upd_ne dp.symm]
            exact hp
          · rw [List.mem_append, not_or]
            exact ⟨h5, fun z => dp (List.mem_singleton.mp z)⟩
        rintro Ha ⟨ys, bs, h1, h2, h3, h4, h5⟩
        rw [List.length_map, List.length_map] at h2 h4
        rw [List.take_of_length_le (by rw [List.length_map]; exact Nat.le_refl _)] at h4
        obtain ⟨w1, w2, w3⟩ := words_wt ws
        obtain ⟨m1, m2, m3⟩ := num_wt (o := numL hh.dropLast) fun i h => (numL_some h).2
        refine ⟨D, _, rfl, .inl ⟨SqL.of h1, fun T nT => ?_⟩⟩
        have sT : Same Ha (upd Ha T (.tup ys)) := same_new nT
        have rT : Rep K (upd Ha T (.tup ys)) (.tup (ws.map wordD)) (.ref T) (T :: bs) := by
          rw [Rep]
          exact ⟨T, ys, bs, rfl, upd_same, h4.same sT, nmem h4 nT, rfl⟩
        refine ⟨by show 2 ≤ sizeLine; decide, fun N nN => ?_⟩
        have sN : Same (upd Ha T (.tup ys)) (upd (upd Ha T (.tup ys)) N (.tup [numV (numL hh.dropLast), .ref T])) := same_new nN
        have r2 : RepAll K (upd Ha T (.tup ys)) [numD (numL hh.dropLast), .tup (ws.map wordD)] [numV (numL hh.dropLast), .ref T] ([] ++ (T :: bs)) := repAll_cat (repAll_one (num_rep _)) (repAll_one rT)
        have rN : Rep K (upd (upd Ha T (.tup ys)) N (.tup [numV (numL hh.dropLast), .ref T])) (.tup [numD (numL hh.dropLast), .tup (ws.map wordD)]) (.ref N) (N :: ([] ++ (T :: bs))) := by
          rw [Rep]
          exact ⟨N, _, _, rfl, upd_same, r2.same sN, nmem r2 nN, rfl⟩
        have sA := (s2.trans h3).trans (sT.trans sN)
        generalize (upd (upd Ha T (.tup ys)) N (.tup [numV (numL hh.dropLast), .ref T])) = HN at rN sA ⊢
        generalize edd : (Sw.D.tup [numD (numL hh.dropLast), Sw.D.tup (ws.map wordD)]) = dd at rN ed
        have wdd : wt dd ≤ 10000000 := by
          rw [← edd]
          simp only [wt, wtAll]
          omega
        refine ⟨_, rfl, .ref N, dd, _, rfl, rN, wdd, fun r v bs' H3 er s3 rv _ _ _ _ => ⟨rfl, _, rfl, ?_⟩⟩
        have only : ∀ l' d', Sw.D.str (S l) = .str (S l') → Good l' d' → d' = dd ∧ IsErr dd .non := fun l' d' z gd => by
          obtain rfl := S_inj (Sw.D.str.inj z)
          have := gd.1.symm.trans ed
          have e := Option.some.inj this
          rw [e] at gd
          exact ⟨e, gd.2⟩
        by_cases ez : r = .non
        · subst ez
          simp only [Rep] at rv
          obtain ⟨rfl, _⟩ := rv
          refine iteF ⟨_, rfl, ?_⟩
          exact k2 l dd rfl ⟨ed, er⟩ N _ H3 (sA.trans s3) (rN.same s3)
        · have nv : v ≠ .non := fun z => by
            rw [z] at rv
            cases er with
            | form h => simp [Rep] at rv
            | arrow h hx hb ha => simp [Rep] at rv
            | order h ha hb hl => simp [Rep] at rv
            | fine h ha hl => exact ez rfl
          rw [decide_eq_false nv]
          refine iteT ?_
          show E (.ref C) none H3
          exact k1 (fun l' d' z gd => ez (er.det (only l' d' z gd).2)) H3 (sA.trans s3)
end
end Sw
namespace Sw
open PySem PySem.Spec PyProof.Rows L2 SX
/-! ### texts of nets: their lengths, their signs -/
theorem arrL_le {n : Int} {H : Hp} {a b : Addr} {ts : List V} {ars : List (Int × Int)} (N : NetAt n H a b ts) (AR : ArsAt H ts ars) : (∀ e ∈ ars, Inn n e.1 ∧ Inn n e.2) ∧ ∀ e ∈ ars, (arrL e).length ≤ 6 := by
  have n2 := N.n2
  have each : ∀ e ∈ ars, Inn n e.1 ∧ Inn n e.2 := fun e he => by
    obtain ⟨x, hx, t, rfl, ht⟩ := paired_mem AR he
    obtain ⟨t2, a2, b2, e2, h2, q1, q2⟩ := N.arr _ hx
    cases e2
    rw [ht] at h2
    have h2 := HO.tup.inj (Option.some.inj h2)
    cases h2
    exact ⟨q1, q2⟩
  refine ⟨each, fun e he => ?_⟩
  obtain ⟨⟨a1, a2⟩, b1, b2⟩ := each e he
  have := figsI_len a1 (by omega)
  have := figsI_len b1 (by omega)
  unfold arrL
  rw [List.length_append, List.length_append, List.length_append, List.length_singleton, List.length_singleton]
  omega
theorem arrs_sum : ∀ l : List (Int × Int), (∀ e ∈ l, (arrL e).length ≤ 6) → (((l.map arrL).map S).map (·.length)).sum ≤ l.length * 6 ∧ ((l.map arrL).flatten).length ≤ l.length * 6
  | [], _ => ⟨Nat.le_refl _, Nat.le_refl _⟩
  | e :: r, h => by
    obtain ⟨i1, i2⟩ := arrs_sum r fun x hx => h x (List.mem_cons_of_mem _ hx)
    have := h e List.mem_cons_self
    refine ⟨?_, ?_⟩
    · rw [List.map_cons, List.map_cons, List.map_cons, List.sum_cons, S_len, List.length_cons]
      omega
    · rw [List.map_cons, List.flatten_cons, List.length_append, List.length_cons]
      omega
theorem textL_len {n : Int} {H : Hp} {a b : Addr} {ts : List V} {ars : List (Int × Int)} (N : NetAt n H a b ts) (AR : ArsAt H ts ars) : (textL n ars).length ≤ 1300 := by
  have ll := AR.len
  have lt := N.len
  have n1 := N.n1
  have n2 := N.n2
  have n3 := figsI_len (i := n) (by omega) (by omega)
  obtain ⟨s1, s2⟩ := arrs_sum ars (arrL_le N AR).2
  unfold textL
  rw [List.length_append, List.length_append, List.length_singleton]
  omega
theorem join_cons : ∀ (h : List Nat) (ws : List (List Nat)), TL.joinL [32] (h :: ws) = h ++ (ws.map fun wd => [32] ++ wd).flatten
  | h, [] => by
    show h = _
    simp
  | h, w :: ws => by
    show h ++ ([32] ++ TL.joinL [32] (w :: ws)) = _
    rw [join_cons w ws]
    simp
def arrD (e : Int × Int) : D := .tup [.int e.1, .int e.2]
theorem figs_lt : ∀ i, i < 13 → ∀ c ∈ figs i, c < 100 := by decide +kernel
theorem figsI_lt {v : Int} (h : 0 ≤ v) (h2 : v < 13) : ∀ c ∈ figsI v, c < 100 := by
  obtain ⟨k, rfl⟩ := Int.eq_ofNat_of_zero_le h
  exact figs_lt k (by omega)
theorem textL_lt {n : Int} {H : Hp} {a b : Addr} {ts : List V} {ars : List (Int × Int)} (N : NetAt n H a b ts) (AR : ArsAt H ts ars) : ∀ c ∈ textL n ars, c < 100 := fun c hc => by
  have n1 := N.n1
  have n2 := N.n2
  obtain ⟨each, _⟩ := arrL_le N AR
  unfold textL at hc
  rcases List.mem_append.mp hc with hc | hc
  · rcases List.mem_append.mp hc with hc | hc
    · exact figsI_lt (by omega) (by omega) c hc
    · rw [List.mem_singleton.mp hc]
      decide
  · obtain ⟨x, hx, hc⟩ := List.mem_flatten.mp hc
    obtain ⟨e, he, rfl⟩ := List.mem_map.mp hx
    obtain ⟨⟨a1, a2⟩, b1, b2⟩ := each e he
    unfold arrL at hc
    rcases List.mem_append.mp hc with hc | hc
    · rcases List.mem_append.mp hc with hc | hc
      · rcases List.mem_append.mp hc with hc | hc
        · rw [List.mem_singleton.mp hc]; decide
        · exact figsI_lt (by omega) (by omega) c hc
      · rw [List.mem_singleton.mp hc]; decide
    · exact figsI_lt (by omega) (by omega) c hc
theorem text_wt {l : List Nat} (h : ∀ c ∈ l, c < 100) : wt (.str (S l)) ≤ 10 * l.length + 2 := by
  have := PySem.StrLaws.reprText_len (S l) fun c hc => Nat.lt_trans (h c hc) (by decide)
  rw [S_len] at this
  simp only [wt]
  exact this
theorem arrs_wt {n : Int} (n2 : n ≤ 12) : ∀ ars : List (Int × Int), (∀ e ∈ ars, Inn n e.1 ∧ Inn n e.2) → smallAll (ars.map arrD) ∧ wtAll (ars.map arrD) ≤ ars.length * 20 ∧ depAll (ars.map arrD) ≤ 1
  | [], _ => ⟨by simp [smallAll], by simp [wtAll], by simp [depAll]⟩
  | e :: r, h => by
    obtain ⟨h1, h2, h3⟩ := arrs_wt n2 r fun x hx => h x (List.mem_cons_of_mem _ hx)
    obtain ⟨⟨a1, a2⟩, b1, b2⟩ := h e List.mem_cons_self
    obtain ⟨_, i2, i3, _⟩ := int_ok (K := default) (H := fun _ => none) (i := e.1) (w := 3) (k := 0) (by omega) (by decide) (by decide)
    obtain ⟨_, j2, j3, _⟩ := int_ok (K := default) (H := fun _ => none) (i := e.2) (w := 3) (k := 0) (by omega) (by decide) (by decide)
    refine ⟨?_, ?_, ?_⟩
    · rw [List.map_cons, smallAll]
      exact ⟨by unfold arrD; simp only [small, smallAll] at i2 j2 ⊢; exact ⟨i2, j2, trivial⟩, h1⟩
    · rw [List.map_cons, wtAll, List.length_cons]
      have : wt (arrD e) ≤ 17 := by
        unfold arrD
        simp only [wt, wtAll] at i3 j3 ⊢
        omega
      omega
    · rw [List.map_cons, depAll]
      have : dep (arrD e) ≤ 1 := by
        unfold arrD
        simp [dep, depAll]
      omega
end Sw
namespace Sw
/-! ### numbers of rows -/
def fac : Nat → Nat
  | 0 => 1
  | n + 1 => (n + 1) * fac n
theorem fac_pos : ∀ n, 0 < fac n
  | 0 => Nat.one_pos
  | n + 1 => Nat.mul_pos (Nat.succ_pos n) (fac_pos n)
/-- how many things of r are less than x -/
def less (x : Int) (r : List Int) : Nat := (r.filter fun y => decide (y < x)).length
/-- the number of a row, from the left -/
def rkAcc : Nat → List Int → Nat
  | acc, [] => acc
  | acc, x :: r => rkAcc (acc * (r.length + 1) + less x r) r
def rk : List Int → Nat
  | [] => 0
  | x :: r => less x r * fac r.length + rk r
theorem less_le (x : Int) (r : List Int) : less x r ≤ r.length := List.length_filter_le _ _
theorem rkAcc_eq : ∀ (r : List Int) (acc : Nat), rkAcc acc r = acc * fac r.length + rk r
  | [], acc => by simp [rkAcc, rk, fac]
  | x :: r, acc => by
    rw [rkAcc, rkAcc_eq r, rk]
    simp only [List.length_cons, fac]
    rw [Nat.add_mul, Nat.mul_assoc, Nat.add_assoc]
theorem rk_lt : ∀ r : List Int, rk r < fac r.length
  | [] => Nat.one_pos
  | x :: r => by
    have h := rk_lt r
    have h2 := less_le x r
    have h3 : less x r * fac r.length ≤ r.length * fac r.length := Nat.mul_le_mul_right _ h2
    simp only [rk, List.length_cons, fac, Nat.add_mul, Nat.one_mul]
    omega
/-- a row again: so many things of what is left are less -/
def unrk : List Int → Nat → Nat → List Int
  | _, 0, _ => []
  | left, m + 1, num => left.getD (num / fac m) 0 :: unrk (left.eraseIdx (num / fac m)) m (num % fac m)
/-- in an ascending list a thing stands behind just those that are less -/
theorem asc_at : ∀ {left : List Int} {x : Int} {i : Nat}, left.Pairwise (· < ·) → left[i]? = some x → less x left = i
  | [], x, i, _, h => by simp at h
  | y :: l, x, 0, hp, h => by
    obtain rfl : y = x := by simpa using h
    have h1 := (List.pairwise_cons.mp hp).1
    unfold less
    rw [List.filter_cons_of_neg (by simp), List.length_eq_zero_iff]
    refine List.filter_eq_nil_iff.mpr fun z hz => ?_
    have := h1 z hz
    simp only [decide_eq_true_eq]
    omega
  | y :: l, x, i + 1, hp, h => by
    obtain ⟨h1, h2⟩ := List.pairwise_cons.mp hp
    have h3 : l[i]? = some x := by simpa using h
    have := asc_at h2 h3
    have hy := h1 x (List.mem_of_getElem? h3)
    unfold less at this ⊢
    rw [List.filter_cons_of_pos (by simpa using hy), List.length_cons, this]
theorem less_perm {x : Int} {r s : List Int} (h : r.Perm s) : less x r = less x s := (h.filter _).length_eq
theorem less_self (x : Int) (r : List Int) : less x (x :: r) = less x r := by
  unfold less
  rw [List.filter_cons_of_neg (by simp)]
theorem erase_at : ∀ {l : List Int} {x : Int} {i : Nat}, l.Nodup → l[i]? = some x → l.eraseIdx i = l.erase x
  | [], x, i, _, h => by simp at h
  | y :: l, x, 0, hn, h => by
    obtain rfl : y = x := by simpa using h
    simp
  | y :: l, x, i + 1, hn, h => by
    obtain ⟨h1, h2⟩ := List.nodup_cons.mp hn
    have h3 : l[i]? = some x := by simpa using h
    have ne : ¬ y = x := fun z => h1 (z ▸ List.mem_of_getElem? h3)
    rw [List.eraseIdx_cons_succ, List.erase_cons_tail (by simpa using ne), erase_at h2 h3]
theorem asc_nodup {l : List Int} (h : l.Pairwise (· < ·)) : l.Nodup := List.Pairwise.imp (fun {a b} h => by omega) h
theorem unrk_rk : ∀ (row left : List Int), left.Pairwise (· < ·) → row.Perm left → unrk left row.length (rk row) = row
  | [], left, _, _ => rfl
  | x :: r, left, hp, pm => by
    have hx : x ∈ left := pm.mem_iff.mp (by simp)
    obtain ⟨i, hi, e⟩ := List.getElem_of_mem hx
    have ei : left[i]? = some x := by rw [List.getElem?_eq_getElem hi, e]
    have el : less x r = i := by
      rw [← less_self, less_perm pm]
      exact asc_at hp ei
    have hf := fac_pos r.length
    have hlt := rk_lt r
    have d1 : (i * fac r.length + rk r) / fac r.length = i := by
      rw [Nat.mul_comm, Nat.mul_add_div hf, Nat.div_eq_of_lt hlt, Nat.add_zero]
    have d2 : (i * fac r.length + rk r) % fac r.length = rk r := by
      rw [Nat.mul_comm, Nat.mul_add_mod, Nat.mod_eq_of_lt hlt]
    have pe : r.Perm (left.eraseIdx i) := by
      rw [erase_at (asc_nodup hp) ei]
      have := pm.erase x
      rwa [List.erase_cons_head] at this
    have ae : (left.eraseIdx i).Pairwise (· < ·) := hp.sublist (List.eraseIdx_sublist _ _)
    rw [List.length_cons, unrk, rk, el, d1, d2, unrk_rk r _ ae pe, List.getD_eq_getElem?_getD, ei]
    rfl
/-- by the law: what is left is looked through -/
def lawAcc : Nat → List Int → List Int → Nat
  | acc, _, [] => acc
  | acc, left, x :: r => lawAcc (acc * left.length + left.idxOf x) (left.erase x) r
theorem idx_less {left : List Int} {x : Int} (hp : left.Pairwise (· < ·)) (hx : x ∈ left) : left.idxOf x = less x left := by
  have h := List.idxOf_lt_length_iff.mpr hx
  exact (asc_at hp (by rw [List.getElem?_eq_getElem h, List.getElem_idxOf])).symm
theorem lawAcc_eq : ∀ (row left : List Int) (acc : Nat), left.Pairwise (· < ·) → row.Perm left → lawAcc acc left row = rkAcc acc row
  | [], left, acc, _, _ => rfl
  | x :: r, left, acc, hp, pm => by
    have hx : x ∈ left := pm.mem_iff.mp (by simp)
    have pe := pm.erase x
    rw [List.erase_cons_head] at pe
    rw [lawAcc, rkAcc, lawAcc_eq r _ _ (hp.sublist List.erase_sublist) pe, idx_less hp hx, ← less_perm pm, less_self, ← pm.length_eq, List.length_cons]
end Sw
namespace Sw
open PySem L2
/-! ### the numbers below m; whole numbers mixed; as data -/
/-- the numbers below m -/
def rgI (m : Nat) : List Int := (List.range m).map fun i => ((i : Nat) : Int)
theorem rgI_len (m : Nat) : (rgI m).length = m := by rw [rgI, List.length_map, List.length_range]
theorem rgV_rgI (m : Nat) : rgV 0 (m : Int) = (rgI m).map V.int := by
  unfold rgV rgI
  rw [List.map_map, Int.sub_zero, Int.toNat_natCast]
  refine List.map_congr_left fun i _ => ?_
  show V.int (0 + (i : Int)) = V.int (i : Int)
  rw [Int.zero_add]
theorem rgI_asc (m : Nat) : (rgI m).Pairwise (· < ·) := by
  unfold rgI
  refine List.pairwise_map.mpr (List.pairwise_lt_range.imp fun {a b} h => ?_)
  omega
theorem flat_ints (ns : List Int) : (ns.map V.int).all flatV = true := by
  refine List.all_eq_true.mpr fun x hx => ?_
  obtain ⟨n, _, rfl⟩ := List.mem_map.mp hx
  rfl
theorem rgI_mem {m : Nat} {x : Int} (h : x ∈ rgI m) : 0 ≤ x ∧ x < m := by
  obtain ⟨i, hi, rfl⟩ := List.mem_map.mp h
  have := List.mem_range.mp hi
  omega
theorem ints_rep {K : PySem.W.Frag} {H : Hp} : ∀ {os : List Int}, (∀ o ∈ os, 0 ≤ o ∧ o < 14) → RepAll K H (os.map D.int) (os.map V.int) [] ∧ smallAll (os.map D.int) ∧ wtAll (os.map D.int) ≤ os.length * 6 ∧ depAll (os.map D.int) = 0
  | [], _ => ⟨by simp [RepAll], by simp [smallAll], by simp [wtAll], by simp [depAll]⟩
  | o :: r, h => by
    obtain ⟨r1, r2, r3, r4⟩ := ints_rep (K := K) (H := H) (os := r) fun x hx => h x (List.mem_cons_of_mem _ hx)
    obtain ⟨h1, h2⟩ := h o (List.mem_cons_self ..)
    obtain ⟨i1, i2, i3, i4⟩ := int_ok (K := K) (H := H) (i := o) (w := 3) (k := 0) (by omega) (by decide) (by decide)
    refine ⟨?_, ?_, ?_, ?_⟩
    · simp only [List.map_cons, RepAll]
      exact ⟨_, _, [], [], rfl, i1, r1, rfl⟩
    · simp only [List.map_cons, smallAll]
      exact ⟨i2, r2⟩
    · simp only [List.map_cons, wtAll, List.length_cons]
      omega
    · simp only [List.map_cons, depAll]
      omega
theorem scMixed2 : FnScope ["deck", "items", "left", "found"] ["deck", "items"] (defScope sMixed) := ⟨rfl, rfl, rfl, by decide +kernel, rfl, by decide +kernel, by decide +kernel⟩
theorem erase_perm {l : List Int} {i : Nat} (h : i < l.length) : (l[i] :: l.eraseIdx i).Perm l := by
  induction l generalizing i with
  | nil => exact absurd h (Nat.not_lt_zero _)
  | cons a l ih =>
    cases i with
    | zero => exact .refl _
    | succ i =>
      have h2 : i < l.length := by simpa using h
      exact ((List.Perm.swap _ _ _).trans ((ih h2).cons a))
section
variable {P : Program} {w : World} {K : PySem.W.Frag} {mg : Str → Option Value} {base : Heap}
def spMixedP : Sp := fun vs H Q _ => ∃ (p d a : Addr) (ns : List Int), vs = [.ref p, .ref a] ∧ Deck H p d 63 ∧ H a = some (.lst (ns.map V.int)) ∧ ns.length < 1000000 ∧ ∀ (r : Addr) (ms : List Int) (H' : Hp), Deck H' p d 63 → Kp p d H H' → H r = none → H' r = some (.lst (ms.map V.int)) → ms.Perm ns → Q (.ref r) H'
theorem ok_mixedP {f : Addr} {fd : FuncData} (F : Fun K "_law_mixed" "_law_mixed" sMixed f fd) (B : NoNames mg) (O : Own P w K mg base 1 "_law_draw" ["deck", "many"] spDraw) : FnOk P w K mg base CX0 2 f fd ["deck", "items"] (spMixedP) := by
  obtain ⟨fD, fdD, GD, mD, kD, bD⟩ := O.ex
  refine F.ok scMixed2 (fun vs H Q E h => ?_) (fun cdv A outer s H vs Q E hr h => ?_)
  · obtain ⟨p, d, a, ns, rfl, _⟩ := h
    rfl
  · obtain ⟨p, d, a, ns, rfl, D, ha, hl, k⟩ := h
    refine ⟨_, pss_cons (ps_par (i := 2) (j := 3) rfl scMixed2.nd rfl rfl (by decide) rfl rfl (pa_cons (pe_callTy call_list_of (by rfl) B.list (by decide +kernel) (pa_cons (pv 1) pa_nil)) (pa_cons (pe_lst pa_nil) pa_nil)) (by rfl))
      (pss_cons (ps_while PassesOwn.never (pt_cmpR (op_neD hr.units) (pv 2) (pe_lst pa_nil) (nomark _))
        (pss_one (ps_expr (pe_bm PySem.F.plainAttrs_list PySem.F.slot_list_append PySem.F.type_list_append mt_append (pv 3)
          (pa_cons (pe_bm PySem.F.plainAttrs_list PySem.F.slot_list_pop PySem.F.type_list_pop mt_popAt (pv 2)
            (pa_cons (pe_call GD hr rfl mD kD bD .nil pass0 (pa_cons (pv 0) (pa_cons (pe_callB call_len_seq (by rfl) B.len PySem.boot_len (pa_cons (pv 2) pa_nil)) pa_nil))) pa_nil)) pa_nil)))))
      (pss_one (ps_ret (pv 3)))), ?_⟩
    refine ⟨_, rfl, a, _, rfl, .inl (SqL.of ha), fun l nl => ⟨by show 0 ≤ sizeLine; exact Nat.zero_le _, fun g ng => ⟨_, _, rfl, ?_⟩⟩⟩
    have s1 : Same H (L2.upd H l (.lst (ns.map V.int))) := same_new nl
    have s2 := s1.trans (same_new (o := .lst []) ng)
    have ngl : g ≠ l := fun z => by
      rw [z, upd_same] at ng
      cases ng
    refine ⟨fun m σ H' => ∃ ls fs : List Int, σ = [some (.ref p), some (.ref a), some (.ref l), some (.ref g)] ∧ Deck H' p d 63 ∧ Kp p d H H' ∧ H' l = some (.lst (ls.map V.int)) ∧ H' g = some (.lst (fs.map V.int)) ∧ l ≠ d ∧ g ≠ d ∧ ls.length = m ∧ (fs ++ ls).Perm ns,
      ⟨ns.length, ns, [], rfl, D.same s2, .of s2, by rw [upd_ne ngl.symm, upd_same], upd_same, (D.ne_none nl).2, (D.ne_none (s1.free ng)).2, rfl, .refl _⟩, ?_⟩
    rintro m σ H1 ⟨ls, fs, rfl, D1, k1, h1, h2, n1, n2, rfl, hpm⟩
    refine ⟨_, rfl, by show 0 ≤ sizeLine; exact Nat.zero_le _, fun e ne => ?_⟩
    have se : Same H1 (L2.upd H1 e (.lst [])) := same_new ne
    refine ⟨.list (ls.map PyData.int), .list [], .lst (SqL.of (se _ _ h1)) (dpInts ls), .lst (SqL.of upd_same) .nil, PySem.W.ke_shaped_ints ls, rfl, _, rfl, ?_⟩
    have D2 := D1.same se
    have k2 := k1.trans (.of se)
    have h1' := se _ _ h1
    have h2' := se _ _ h2
    have hlen : fs.length + ls.length = ns.length := by
      rw [← hpm.length_eq, List.length_append]
    generalize (L2.upd H1 e (.lst [])) = H2 at D2 k2 h1' h2' ⊢
    rw [eqv_nil]
    refine ite2 (fun y => ?_) (fun y => ?_)
    · have y : ls ≠ [] := of_decide_eq_true y
      have hpos : 0 < ls.length := List.length_pos_iff.mpr y
      refine ⟨fun σ' H' => ∃ m', m' < ls.length ∧ ∃ ls fs : List Int, σ' = [some (.ref p), some (.ref a), some (.ref l), some (.ref g)] ∧ Deck H' p d 63 ∧ Kp p d H H' ∧ H' l = some (.lst (ls.map V.int)) ∧ H' g = some (.lst (fs.map V.int)) ∧ l ≠ d ∧ g ≠ d ∧ ls.length = m' ∧ (fs ++ ls).Perm ns, fun _ _ h => h, ?_⟩
      refine ⟨_, rfl, .inl ⟨rfl, _, SqL.of h2'⟩, _, rfl, .inl ⟨rfl, _, SqL.of h1'⟩, _, rfl, _, rfl, l, ls.map V.int, rfl, .inl (SqL.of h1'), p, d, ((ls.map V.int).length : Int), rfl, D2, ?_, fun r H3 r0 r1 r2 D3 k3 => ?_⟩
      · rw [List.length_map]
        omega
      have h1 := k3 _ _ h1' (D2.kne h1') n1
      have h2 := k3 _ _ h2' (D2.kne h2') n2
      have np1 := D2.kne h1'
      have np2 := D2.kne h2'
      have hr : r < ((ls.map V.int).length : Int) := r1 (by rw [List.length_map]; omega)
      obtain ⟨i, rfl⟩ := Int.eq_ofNat_of_zero_le r0
      have hi : i < ls.length := by
        rw [List.length_map] at hr
        omega
      refine ⟨l, _, _, i, .int ls[i], rfl, rfl, h1, by omega, by omega, PySem.seqIndex_of r0 hr, ?_, ?_⟩
      · rw [List.getElem?_map, List.getElem?_eq_getElem hi]
        rfl
      rw [erase_map]
      refine ⟨g, fs.map V.int, _, rfl, rfl, by rw [upd_ne ngl]; exact h2, ?_, ?_⟩
      · rw [List.length_map, sizeLine_eq]
        omega
      have le : (ls.eraseIdx i).length + 1 = ls.length := by
        rw [List.length_eraseIdx_of_lt hi]
        omega
      refine ⟨(ls.eraseIdx i).length, by omega, ls.eraseIdx i, fs ++ [ls[i]], rfl, (D3.upd np1 n1).upd np2 n2, ?_, ?_, ?_, n1, n2, rfl, ?_⟩
      · intro b o e q1 q2
        rw [upd_ne (ne_of_none e (s1.free ng)), upd_ne (ne_of_none e nl)]
        exact k3 _ _ (k2 _ _ e q1 q2) q1 q2
      · rw [upd_ne ngl.symm, upd_same]
      · rw [upd_same, List.map_append]
        rfl
      · rw [List.append_assoc]
        exact ((erase_perm hi).append_left fs).trans hpm
    · have y : ls = [] := Classical.byContradiction fun q => y (decide_eq_true q)
      subst y
      rw [List.append_nil] at hpm
      exact ⟨_, rfl, k g fs H2 D2 k2 (s1.free ng) h2' hpm⟩
end
end Sw
namespace Sw
open PySem PySem.Spec PyProof.Rows L2
/-! ### math.factorial -/
theorem fac_eq : ∀ n : Nat, Builtin.Math.factorialNat n = fac n
  | 0 => rfl
  | n + 1 => by
    rw [PySem.W.mc_fac_succ, fac_eq n, fac, Nat.mul_comm]
def rFac : List V → Hp → VK → Prop := fun vs H Q => ∃ n : Nat, vs = [.int n] ∧ n ≤ 20000 ∧ Q (.int (fac n : Nat)) H
theorem cr_fac {X : Cx} : CallR X (.builtin "math.factorial") rFac := by
  intro pins s σ H vs us Q I r h
  obtain ⟨n, rfl, hn, q⟩ := h
  obtain ⟨u, rfl, hu⟩ := vals1 r
  obtain ⟨t, rfl⟩ := (show ∃ t, u = Value.int (n : Nat) t from hu)
  refine PySem.W.mc_factorial (Int.natCast_nonneg n) (by omega) fun _ => ?_
  rw [Int.toNat_natCast, fac_eq]
  exact ⟨.int _, H, I.tok _, ⟨_, rfl⟩, q⟩
theorem fac_mono {a b : Nat} (h : a ≤ b) : fac a ≤ fac b := by
  induction h with
  | refl => exact Nat.le_refl _
  | step h ih => exact Nat.le_trans ih (Nat.le_mul_of_pos_left _ (Nat.succ_pos _))
theorem fac_12 : fac 12 = 479001600 := by decide +kernel
theorem fac_13 : fac 13 = 6227020800 := by decide +kernel
theorem rk_bd {r : List Int} (h : r.length ≤ 13) : rk r < 6227020800 := by
  have h1 := rk_lt r
  have h2 := fac_mono h
  rw [fac_13] at h2
  omega
/-- the numbers on the way -/
theorem rkAcc_step {os : List Int} {i : Nat} {x : Int} (h : os[i]? = some x) (acc : Nat) : rkAcc acc (os.drop i) = rkAcc (acc * (os.drop i).length + less x (os.drop i)) (os.drop (i + 1)) := by
  obtain ⟨hi, e⟩ := List.getElem?_eq_some_iff.mp h
  have ed : os.drop i = x :: os.drop (i + 1) := by rw [← e]; exact (List.getElem_cons_drop hi).symm
  rw [ed, rkAcc, less_self, List.length_cons]
theorem rkAcc_le : ∀ (r : List Int) (acc : Nat), acc ≤ rkAcc acc r
  | [], acc => Nat.le_refl _
  | x :: r, acc => by
    refine Nat.le_trans ?_ (rkAcc_le r _)
    exact Nat.le_trans (Nat.le_mul_of_pos_right _ (Nat.succ_pos _)) (Nat.le_add_right _ _)
abbrev sRowNum : Stmt := top 41
abbrev nRowNum : List Str := ["row", "number", "place", "thing", "behind", "lesser", "other"]
theorem scRowNum : FnScope nRowNum ["row"] (defScope sRowNum) := ⟨rfl, rfl, rfl, by decide +kernel, rfl, by decide +kernel, by decide +kernel⟩
section
variable {P : Program} {w : World} {K : PySem.W.Frag} {mg : Str → Option Value} {base : Heap}
def spRowNum (K : PySem.W.Frag) : Sp := fun vs H Q _ => ∃ (a : Addr) (os : List Int), vs = [.ref a] ∧ H a = some (.tup (os.map V.int)) ∧ os.length ≤ 13 ∧ ∀ H', Same H H' → Q (.int (rk os : Nat)) H'
theorem sIx_from (n i : Nat) : HT.sIx n 0 (some (i : Int)) = min i n := HT.sIx_nat ..
theorem ok_rowNum {f : Addr} {fd : FuncData} (F : Fun K "row_number" "row_number" sRowNum f fd) (B : NoNames mg) : FnOk P w K mg base CX0 1 f fd ["row"] (spRowNum K) := by
  refine F.ok scRowNum (fun vs H Q E h => ?_) (fun cdv A outer s H vs Q E hr h => ?_)
  · obtain ⟨a, os, rfl, _⟩ := h
    rfl
  · obtain ⟨a, os, rfl, ha, hl, k⟩ := h
    refine ⟨_, pss_cons (ps_set (i := 1) scRowNum.nd rfl (.inl rfl) pe_int) <|
      pss_cons (ps_for PassesOwn.never rfl (pi_enumT (by rfl) B.enumerate (pa_cons (pv 0) pa_nil)) (pg_tup rfl (pgs_cons (pg_name (i := 2) scRowNum.nd rfl (.inl rfl)) (pgs_cons (pg_name (i := 3) scRowNum.nd rfl (.inr rfl)) pgs_nil)))
        (pss_cons (ps_cutI (ι := Nat × Nat × Int × Hp) (fun q σ H' => (∃ s4 s5, σ = [some (.ref a), some (.int q.1), some (.int q.2.1), some (.int q.2.2.1), s4, s5, none]) ∧ os[q.2.1]? = some q.2.2.1 ∧ H' = q.2.2.2 ∧ Same H H')
            (fun q σ H' => ∃ c s5, σ = [some (.ref a), some (.int q.1), some (.int q.2.1), some (.int q.2.2.1), some (.ref c), s5, none] ∧ Same q.2.2.2 H' ∧ H' c = some (.tup ((os.drop q.2.1).map V.int)))
            (ps_set (i := 4) scRowNum.nd rfl (.inl rfl) (pe_slice sl_tupA (pv 0) (po_some (pv 2)) po_none)) ?c1) <|
        pss_cons (ps_setLc (i := 5) (own := [("other", 6)]) (g := gName 6) (by rfl) scRowNum.nd rfl rfl (sw_true rfl rfl rfl (by decide +kernel)) (pi_tup (pv 4)) (blkOk_by (own := [("other", 6)]) (N := nRowNum) (sc := defScope sRowNum) (by decide +kernel))
          (fun _ _ _ _ _ => pg_name (i := 6) scRowNum.nd rfl (Or.inl rfl)) (fun _ _ _ _ _ => pts_one (pt_cmpR op_lt (pv 6) (pv 3) (nomark _))) (fun _ _ _ _ _ => pv 6)) <|
        pss_one (ps_set (i := 1) scRowNum.nd rfl (.inl rfl) (pe_op op_add (pe_op op_mul (pv 1) (pe_callB call_len_seq (by rfl) B.len PySem.boot_len (pa_cons (pv 4) pa_nil))) (pe_callB call_len_seq (by rfl) B.len PySem.boot_len (pa_cons (pv 5) pa_nil)))))) <|
      pss_one (ps_ret (pv 1)), ?_⟩
    case c1 =>
      rintro ⟨acc, i, z, H1⟩ D σ _ ⟨⟨s4, s5, rfl⟩, ez, rfl, s1⟩ nx
      have il : i < os.length := (List.getElem?_eq_some_iff.mp ez).1
      refine ⟨_, rfl, _, rfl, (i : Int), rfl, a, _, rfl, SqT.of (s1 _ _ ha), fun hw => ?_, fun hw c nc => ?_⟩
      · rw [HT.sIx_nat, List.length_map] at hw
        have i0 : i = 0 := by omega
        exact nx _ _ ⟨a, s5, rfl, Same.refl _, by show _ = some (HO.tup ((os.drop i).map V.int)); rw [i0, List.drop_zero]; exact s1 _ _ ha⟩
      · refine nx _ _ ⟨c, s5, rfl, same_new nc, ?_⟩
        rw [upd_same]
        unfold cutV
        rw [HT.sIx_nat, HT.sIx_none, List.length_map, Nat.min_eq_left (Nat.le_of_lt il), ← List.map_drop, List.take_of_length_le (by rw [List.length_map, List.length_drop]; exact Nat.le_refl _)]
    refine ⟨_, rfl, a, _, rfl, SqT.of ha, for_it walk_te (fun i σ H' => (∃ (acc : Nat) (s2 s3 s4 s5 : Option V), σ = [some (.ref a), some (.int acc), s2, s3, s4, s5, none] ∧ rkAcc acc (os.drop i) = rk os) ∧ Same H H')
      ⟨⟨0, _, _, _, _, rfl, by rw [List.drop_zero, rkAcc_eq]; omega⟩, Same.refl H⟩ (fun i σ H' _ h => SqT.of (h.2 _ _ ha)) ?_ ?_⟩
    · rintro i x σ H1 H2 hi ⟨⟨acc, s2, s3, s4, s5, rfl, inv⟩, s1⟩ ⟨T, x1, x2, rfl, nT, rfl, e1, e2⟩
      obtain rfl : V.int (i : Nat) = x1 := Option.some.inj e1
      obtain ⟨z, ez, rfl⟩ := int_at e2
      refine ⟨T, [.int (i : Nat), .int z], rfl, .inl (.inl upd_same), rfl, _, [.int z], rfl, .int z, [], rfl, rfl, ?_⟩
      refine ⟨(acc, i, z, _), ⟨⟨s4, s5, rfl⟩, ez, rfl, s1.trans (same_new nT)⟩, ?_⟩
      intro σ' H3 q
      obtain ⟨c, s5, rfl, s3, hc⟩ : ∃ c s5, σ' = [some (.ref a), some (.int acc), some (.int i), some (.int z), some (.ref c), s5, none] ∧ Same (upd H1 T (.tup [.int (i : Nat), .int z])) H3 ∧ H3 c = some (.tup ((os.drop i).map V.int)) := q
      have sH3 : Same H H3 := (s1.trans (same_new nT)).trans s3
      refine ⟨_, rfl, c, rfl, ⟨_, SqT.of hc⟩, fun L nL => ?_⟩
      have il : i < os.length := (List.getElem?_eq_some_iff.mp ez).1
      have hdl : (os.drop i).length = os.length - i := List.length_drop ..
      refine lc_it (walk_tup (xs := (os.drop i).map V.int)) (fun j H' => H' L = some (.lst ((((os.drop i).take j).filter fun y => decide (y < z)).map V.int)) ∧ Same H3 H') ⟨upd_same, same_new nL⟩ (fun j H' _ h => SqT.of (h.2 _ _ hc)) ?_ ?_
      · rintro j x Hb Ha hj ⟨h1, h2⟩ ⟨rfl, ex⟩
        obtain ⟨y, ey, rfl⟩ := int_at ex
        refine ⟨rfl, _, rfl, _, rfl, _, _, rfl, rfl, _, rfl, ?_⟩
        have et : (os.drop i).take (j + 1) = (os.drop i).take j ++ [y] := by
          rw [List.take_add_one, ey]
          rfl
        have ef : ((os.drop i).take (j + 1)).filter (fun y => decide (y < z)) = ((os.drop i).take j).filter (fun y => decide (y < z)) ++ (if y < z then [y] else []) := by
          rw [et, List.filter_append]
          congr 1
          by_cases c2 : y < z <;> simp [c2]
        refine ite2 (fun z2 => ?_) (fun z2 => ?_)
        · have z2 : y < z := of_decide_eq_true z2
          refine ⟨_, rfl, _, h1, ?_, ?_, ?_⟩
          · rw [List.length_map, sizeLine_eq]
            have := List.length_filter_le (fun y => decide (y < z)) ((os.drop i).take j)
            rw [List.length_take] at this
            omega
          · rw [upd_same, ef, if_pos z2, List.map_append]
            rfl
          · intro b o e
            rw [upd_ne (ne_of_none e nL)]
            exact h2 _ _ e
        · have z2 : ¬ y < z := fun q => z2 (decide_eq_true q)
          rw [ef, if_neg z2, List.append_nil]
          exact ⟨h1, h2⟩
      · rintro H4 ⟨h1, h2⟩
        rw [List.length_map, List.take_length] at h1
        refine ⟨_, rfl, _, rfl, c, _, rfl, .inr (SqT.of (h2 _ _ hc)), _, _, rfl, rfl, .inl ⟨by omega, ?_⟩, _, rfl, L, _, rfl, .inl (SqL.of h1), _, _, rfl, rfl, ?_⟩
        · have b1 := rkAcc_le (os.drop i) acc
          have b2 := rk_bd hl
          rw [inv] at b1
          omega
        · have en : (acc : Int) * (((os.drop i).map V.int).length : Int) + ((((os.drop i).filter fun y => decide (y < z)).map V.int).length : Int) = ((acc * (os.drop i).length + less z (os.drop i) : Nat) : Int) := by
            rw [List.length_map, List.length_map]
            unfold less
            omega
          refine ⟨⟨acc * (os.drop i).length + less z (os.drop i), some (.int i), some (.int z), some (.ref c), some (.ref L), ?_, by rw [← inv, rkAcc_step ez]⟩, sH3.trans h2⟩
          rw [← en]
          rfl
    · rintro σ H1 ⟨⟨acc, s2, s3, s4, s5, rfl, inv⟩, s1⟩
      rw [List.length_map, List.drop_length] at inv
      have e : acc = rk os := inv
      subst e
      exact ⟨_, rfl, k _ s1⟩
/-! ### standing_number -/
abbrev sStNum : Stmt := top 39
theorem scStNum : FnScope ["n", "standing", "row", "stop"] ["n", "standing"] (defScope sStNum) := ⟨rfl, rfl, rfl, by decide +kernel, rfl, by decide +kernel, by decide +kernel⟩
/-- a standing as it stands -/
structure StandAt (n : Int) (H : Hp) (a b : Addr) (os : List Int) (st : Int) : Prop where
  a : H a = some (.tup [.ref b, .int st])
  b : H b = some (.tup (os.map V.int))
  len : (os.length : Int) = n + 1
  n1 : 1 ≤ n
  n2 : n ≤ 12
theorem StandAt.keep {n st : Int} {H H' : Hp} {a b : Addr} {os : List Int} (S : StandAt n H a b os st) (s : TupS H H') : StandAt n H' a b os st := ⟨s _ _ S.a, s _ _ S.b, S.len, S.n1, S.n2⟩
def spStNum : Sp := fun vs H Q _ => ∃ (n st : Int) (a b : Addr) (os : List Int), vs = [.int n, .ref a] ∧ StandAt n H a b os st ∧ ∀ H', Same H H' → Q (.int ((rk os : Nat) * n + st)) H'
theorem ok_stNum {f : Addr} {fd : FuncData} (F : Fun K "standing_number" "standing_number" sStNum f fd) (O : Own P w K mg base 1 "row_number" ["row"] (spRowNum K)) : FnOk P w K mg base CX0 2 f fd ["n", "standing"] spStNum := by
  obtain ⟨fR, fdR, GR, mR, kR, bR⟩ := O.ex
  refine F.ok scStNum (fun vs H Q E h => ?_) (fun cdv A outer s H vs Q E hr h => ?_)
  · obtain ⟨n, st, a, b, os, rfl, _⟩ := h
    rfl
  · obtain ⟨n, st, a, b, os, rfl, S, k⟩ := h
    refine ⟨_, pss_cons (ps_asg (pv 1) (pg_tup (by rfl) (pgs_cons (pg_name (i := 2) scStNum.nd rfl (.inl rfl)) (pgs_cons (pg_name (i := 3) scStNum.nd rfl (.inl rfl)) pgs_nil)))) <|
      pss_one (ps_ret (pe_op op_add (pe_op op_mul (pe_call GR hr rfl mR kR bR .nil pass0 (pa_cons (pv 2) pa_nil)) (pv 0)) (pv 3))), ?_⟩
    have hl := S.len
    have n2 := S.n2
    have hl2 : os.length ≤ 13 := by omega
    have bd := rk_bd hl2
    exact ⟨_, rfl, a, _, rfl, SqT.of S.a, rfl, _, _, rfl, _, [], rfl, rfl, _, rfl, b, os, rfl, S.b, hl2, fun H' s1 => ⟨_, rfl, _, _, rfl, rfl, .inl ⟨by omega, by omega⟩, _, rfl, _, _, rfl, rfl, k _ s1⟩⟩
/-! ### row_at -/
abbrev sRowAt : Stmt := top 42
theorem scRowAt : FnScope ["many", "number", "left", "row", "spot"] ["many", "number"] (defScope sRowAt) := ⟨rfl, rfl, rfl, by decide +kernel, rfl, by decide +kernel, by decide +kernel⟩
def spRowAt : Sp := fun vs H Q _ => ∃ m num : Nat, vs = [.int m, .int num] ∧ m ≤ 13 ∧ num < fac m ∧ ∀ (a : Addr) (H' : Hp), Same H H' → H' a = some (.tup ((unrk (rgI m) m num).map V.int)) → Q (.ref a) H'
theorem ok_rowAt {f : Addr} {fd : FuncData} (F : Fun K "row_at" "row_at" sRowAt f fd) (B : NoNames mg) (bd : mg "divmod" = none) (mF : mg "factorial" = some (.builtin "math.factorial")) : FnOk P w K mg base CX0 1 f fd ["many", "number"] spRowAt := by
  refine F.ok scRowAt (fun vs H Q E h => ?_) (fun cdv A outer s H vs Q E hr h => ?_)
  · obtain ⟨m, num, rfl, _⟩ := h
    rfl
  · obtain ⟨m, num, rfl, hm, hnum, k⟩ := h
    refine ⟨_, pss_cons (ps_set (i := 2) scRowAt.nd rfl (.inl rfl) (pe_listRg rfl (by rfl) B.list (prg_1 (by rfl) B.range (pv 0)))) <|
      pss_cons (ps_set (i := 3) scRowAt.nd rfl (.inl rfl) (pe_lst pa_nil)) <|
      pss_cons (ps_while PassesOwn.never (pt_truth (pv 2) (by intro _; rfl))
        (pss_cons (ps_asg (pe_callB call_divmod (by rfl) bd (by decide +kernel) (pa_cons (pv 1) (pa_cons (pe_callBfun cr_fac (by rfl) mF (pa_cons (pe_op op_sub (pe_callB call_len_seq (by rfl) B.len PySem.boot_len (pa_cons (pv 2) pa_nil)) pe_int) pa_nil)) pa_nil)))
          (pg_tup (by rfl) (pgs_cons (pg_name (i := 4) scRowAt.nd rfl (.inl rfl)) (pgs_cons (pg_name (i := 1) scRowAt.nd rfl (.inl rfl)) pgs_nil)))) <|
        pss_one (ps_expr (pe_bm PySem.F.plainAttrs_list PySem.F.slot_list_append PySem.F.type_list_append mt_append (pv 3) (pa_cons (pe_bm PySem.F.plainAttrs_list PySem.F.slot_list_pop PySem.F.type_list_pop mt_popAt (pv 2) (pa_cons (pv 4) pa_nil)) pa_nil))))) <|
      pss_one (ps_ret (pe_callTy call_tuple_of (by rfl) B.tuple (by decide +kernel) (pa_cons (pv 3) pa_nil))), ?_⟩
    refine ⟨_, rfl, (m : Int), rfl, RgOk.of_le (by decide) (by omega) (by decide) (by omega), fun l nl => ?_⟩
    rw [rgV_rgI]
    refine ⟨Nat.zero_le _, fun g ng => ?_⟩
    have s1 : Same H (upd H l (.lst ((rgI m).map V.int))) := same_new nl
    have ngl : g ≠ l := fun z => by
      rw [z, upd_same] at ng
      cases ng
    have s2 := s1.trans (same_new (o := .lst []) ng)
    have ng0 : H g = none := s1.free ng
    refine ⟨fun j σ H' => ∃ (ls fs : List Int) (nu : Nat) (s4 : Option V), σ = [some (.int m), some (.int nu), some (.ref l), some (.ref g), s4] ∧ ls.length = j ∧ j ≤ m ∧ Same H H' ∧ H' l = some (.lst (ls.map V.int)) ∧ H' g = some (.lst (fs.map V.int)) ∧ nu < fac ls.length ∧
      fs.length + ls.length = m ∧ fs ++ unrk ls ls.length nu = unrk (rgI m) m num, ⟨m, rgI m, [], num, none, rfl, rgI_len m, Nat.le_refl _, s2, by rw [upd_ne ngl.symm, upd_same], upd_same, by rw [rgI_len]; exact hnum, by rw [rgI_len]; exact Nat.zero_add _, by rw [rgI_len]; rfl⟩, ?_⟩
    rintro j σ H1 ⟨ls, fs, nu, s4, rfl, rfl, hj, s1, h1, h2, hn, hlen, hinv⟩
    refine ⟨_, rfl, _, .inl ⟨_, SqL.of h1, rfl⟩, ?_⟩
    cases ls with
    | nil =>
      refine iteF ?_
      rw [List.length_nil, unrk, List.append_nil] at hinv
      refine ⟨_, rfl, g, _, rfl, .inl ⟨SqL.of h2, fun c nc => ?_⟩⟩
      refine k c _ (s1.trans (same_new nc)) ?_
      rw [upd_same, hinv]
    | cons y0 r0 =>
      refine iteT ?_
      generalize els : y0 :: r0 = ls at *
      have pos : 0 < ls.length := by rw [← els]; exact Nat.succ_pos _
      obtain ⟨d, ed⟩ : ∃ d, ls.length = d + 1 := ⟨ls.length - 1, by omega⟩
      refine ⟨fun σ' H' => ∃ j', j' < ls.length ∧ ∃ (ls fs : List Int) (nu : Nat) (s4 : Option V), σ' = [some (.int m), some (.int nu), some (.ref l), some (.ref g), s4] ∧ ls.length = j' ∧ j' ≤ m ∧ Same H H' ∧ H' l = some (.lst (ls.map V.int)) ∧ H' g = some (.lst (fs.map V.int)) ∧ nu < fac ls.length ∧
        fs.length + ls.length = m ∧ fs ++ unrk ls ls.length nu = unrk (rgI m) m num, fun _ _ h => h, ?_⟩
      have fp := fac_pos d
      have f12 : fac d ≤ 479001600 := by
        rw [← fac_12]
        exact fac_mono (by omega)
      refine ⟨_, rfl, _, rfl, l, _, rfl, .inl (SqL.of h1), _, _, rfl, rfl, d, ?_, by omega, _, _, rfl, ⟨by omega, by omega⟩, fun p np => ?_⟩
      · rw [List.length_map, ed]
        have e1 : ((d + 1 : Nat) : Int) - 1 = (d : Int) := by omega
        exact congrArg (fun z => [V.int z]) e1
      have sp : Same H1 (upd H1 p (.tup [.int ((nu : Int) / (fac d : Nat)), .int ((nu : Int) % (fac d : Nat))])) := same_new np
      have q1 : (nu : Int) / (fac d : Nat) = ((nu / fac d : Nat) : Int) := (Int.natCast_ediv _ _).symm
      have q2 : (nu : Int) % (fac d : Nat) = ((nu % fac d : Nat) : Int) := (Int.natCast_emod _ _).symm
      rw [q1, q2] at sp ⊢
      have h1' := sp _ _ h1
      have h2' := sp _ _ h2
      have s1' := s1.trans sp
      refine ⟨p, _, rfl, SqT.of upd_same, rfl, _, [.int ((nu % fac d : Nat) : Int)], rfl, .int ((nu % fac d : Nat) : Int), [], rfl, rfl, ?_⟩
      generalize (upd H1 p (.tup [.int ((nu / fac d : Nat) : Int), .int ((nu % fac d : Nat) : Int)])) = H2 at sp h1' h2' s1' ⊢
      have lt : nu / fac d < ls.length := by
        rw [Nat.div_lt_iff_lt_mul fp, ed]
        rw [ed, fac] at hn
        exact hn
      have lg : l ≠ g := ngl.symm
      have nn : (0 : Int) ≤ ((nu / fac d : Nat) : Int) := Int.natCast_nonneg _
      have nl2 : ((nu / fac d : Nat) : Int) < (ls.length : Int) := Int.ofNat_lt.mpr lt
      refine ⟨_, rfl, .inl ⟨rfl, _, SqL.of h2'⟩, _, rfl, .inl ⟨rfl, _, SqL.of h1'⟩, _, rfl, l, _, _, nu / fac d, .int (ls[nu / fac d]'lt), rfl, rfl, h1', by omega, by omega, ?_, ?_, ?_⟩
      · exact PySem.seqIndex_of nn (by rw [List.length_map]; exact nl2)
      · rw [List.getElem?_map, List.getElem?_eq_getElem lt]
        rfl
      rw [erase_map]
      refine ⟨g, fs.map V.int, _, rfl, rfl, by rw [upd_ne ngl]; exact h2', by rw [List.length_map, sizeLine_eq]; omega, ?_⟩
      have le : (ls.eraseIdx (nu / fac d)).length = d := by
        rw [List.length_eraseIdx_of_lt lt]
        omega
      refine ⟨d, by rw [ed]; exact Nat.lt_succ_self d, ls.eraseIdx (nu / fac d), fs ++ [ls[nu / fac d]'lt], nu % fac d, _, rfl, le, Nat.le_trans (by rw [ed]; exact Nat.le_succ d) hj, fun b o e => ?_, by rw [upd_ne lg, upd_same], by rw [upd_same, List.map_append]; rfl, by rw [le]; exact Nat.mod_lt _ fp, by rw [le, List.length_append, List.length_singleton]; omega, ?_⟩
      · rw [upd_ne (ne_of_none e ng0), upd_ne (ne_of_none e nl)]
        exact s1' _ _ e
      · rw [ed, unrk, List.getD_eq_getElem?_getD, List.getElem?_eq_getElem lt] at hinv
        rw [le, List.append_assoc, ← hinv]
        rfl
end
end Sw
namespace Sw
open PySem PySem.Spec PyProof.Rows L2
/-! ### standing_at -/
abbrev sStAt : Stmt := top 40
theorem scStAt : FnScope ["n", "value", "number", "stop"] ["n", "value"] (defScope sStAt) := ⟨rfl, rfl, rfl, by decide +kernel, rfl, by decide +kernel, by decide +kernel⟩
section
variable {P : Program} {w : World} {K : PySem.W.Frag} {mg : Str → Option Value} {base : Heap} {C S : Addr}
/-- how many standings of n there are -/
def manyS (n : Int) : Int := n * (fac (n.toNat + 1) : Nat)
/-- the standing with a number -/
def stRow (n num : Int) : List Int := unrk (rgI (n.toNat + 1)) (n.toNat + 1) (num / n).toNat
def spStAt (K : PySem.W.Frag) (C : Addr) : Sp := fun vs H Q E => ∃ (n : Int) (x : V) (d : D) (as : List Addr), vs = [.int n, x] ∧ Rep K H d x as ∧ 1 ≤ n ∧ n ≤ 12 ∧
  (isWhole 0 (manyS n - 1) d = false → ∀ H', Same H H' → E (.ref C) none H') ∧ (∀ num : Int, d = .int num → 0 ≤ num → num < manyS n → ∀ (a b : Addr) (H' : Hp), Same H H' → StandAt n H' a b (stRow n num) (num % n) → Q (.ref a) H')
theorem unrk_len : ∀ (m : Nat) (left : List Int) (num : Nat), (unrk left m num).length = m
  | 0, _, _ => rfl
  | m + 1, left, num => by rw [unrk, List.length_cons, unrk_len m]
theorem many_ok {n num : Int} (n1 : 1 ≤ n) (h0 : 0 ≤ num) (h1 : num < manyS n) : (num / n).toNat < fac (n.toNat + 1) ∧ 0 ≤ num / n := by
  have hq : 0 ≤ num / n := Int.ediv_nonneg h0 (by omega)
  have hl : num / n < (fac (n.toNat + 1) : Nat) := by
    refine Int.ediv_lt_of_lt_mul (by omega) ?_
    unfold manyS at h1
    rw [Int.mul_comm]
    exact h1
  exact ⟨by omega, hq⟩
theorem ok_stAt {f : Addr} {fd : FuncData} (F : Fun K "standing_at" "standing_at" sStAt f fd) (B : NoNames mg) (bd : mg "divmod" = none) (mF : mg "factorial" = some (.builtin "math.factorial")) (U : UErr K mg "Unfit" "SwapError" C S)
    (O1 : Own P w K mg base 1 "is_integer_between" ["value", "least", "most"] (spBetween K)) (O2 : Own P w K mg base 1 "row_at" ["many", "number"] spRowAt) : FnOk P w K mg base (L2.CX P w) 2 f fd ["n", "value"] (spStAt K C) := by
  obtain ⟨fI, fdI, GI, mI, kI, bI⟩ := O1.ex
  obtain ⟨fR, fdR, GR, mR, kR, bR⟩ := O2.ex
  refine F.okX scStAt (fun vs H Q E h => ?_) (fun cdv A outer s H vs Q E hr h => ?_)
  · obtain ⟨n, x, d, as, rfl, _⟩ := h
    rfl
  · obtain ⟨n, x, d, as, rfl, hd, n1, n2, k1, k2⟩ := h
    refine ⟨_, pss_cons (ps_if (pt_not (pt_val (pe_call GI hr rfl mI kI bI .nil pass0 (pa_cons (pv 1) (pa_cons pe_int (pa_cons (pe_op op_sub (pe_op op_mul (pv 0) (pe_callBfun cr_fac (by rfl) mF (pa_cons (pe_op op_add (pv 0) pe_int) pa_nil))) pe_int) pa_nil))))))
        (pss_one (ps_raise rfl (takes_of rfl rfl rfl rfl) (U.mk0 rfl))) pss_nil) <|
      pss_cons (ps_asg (pe_callB call_divmod (by rfl) bd (by decide +kernel) (pa_cons (pv 1) (pa_cons (pv 0) pa_nil)))
        (pg_tup (by rfl) (pgs_cons (pg_name (i := 2) scStAt.nd rfl (.inl rfl)) (pgs_cons (pg_name (i := 3) scStAt.nd rfl (.inl rfl)) pgs_nil)))) <|
      pss_one (ps_ret (pe_tup (pa_cons (pe_call GR hr rfl mR kR bR .nil pass0 (pa_cons (pe_op op_add (pv 0) pe_int) (pa_cons (pv 2) pa_nil))) (pa_cons (pv 3) pa_nil)))), ?_⟩
    have en : ((n.toNat + 1 : Nat) : Int) = n + 1 := by omega
    refine ⟨_, rfl, _, rfl, _, rfl, _, _, rfl, rfl, n.toNat + 1, by rw [en], by omega, _, _, rfl, rfl, .inl ⟨by omega, by omega⟩, _, _, rfl, rfl, x, d, as, 0, manyS n - 1, rfl, hd, _, rfl, ?_⟩
    cases e : isWhole 0 (manyS n - 1) d with
    | false => exact iteT (k1 e H (Same.refl H))
    | true =>
      obtain ⟨num, rfl⟩ : ∃ i, d = .int i := by cases d <;> first | exact ⟨_, rfl⟩ | (cases e)
      simp only [isWhole, Bool.and_eq_true, decide_eq_true_eq] at e
      simp only [Rep] at hd
      obtain ⟨rfl, rfl⟩ := hd
      obtain ⟨m1, m2⟩ := many_ok n1 e.1 (by omega)
      refine iteF ⟨_, rfl, _, rfl, num, n, rfl, ⟨by omega, by omega⟩, fun p np => ?_⟩
      refine ⟨p, _, rfl, SqT.of upd_same, rfl, _, [.int (num % n)], rfl, .int (num % n), [], rfl, rfl, ?_⟩
      have s1 : Same H (upd H p (.tup [.int (num / n), .int (num % n)])) := same_new np
      refine ⟨_, rfl, _, _, rfl, rfl, _, rfl, n.toNat + 1, (num / n).toNat, ?_, by omega, m1, fun b H1 s2 hb => ⟨_, rfl, by show 2 ≤ sizeLine; decide, fun a na => ?_⟩⟩
      · rw [en, Int.toNat_of_nonneg m2]
        rfl
      · have s3 := (s1.trans s2).trans (same_new (o := .tup [.ref b, .int (num % n)]) na)
        refine k2 num rfl e.1 (by omega) a b _ s3 ⟨upd_same, same_new na _ _ hb, ?_, n1, n2⟩
        unfold stRow
        rw [unrk_len]
        omega
end
/-- the number of a standing, and the standing again -/
theorem num_back {n st : Int} {os : List Int} (n1 : 1 ≤ n) (pm : os.Perm (rgI (n.toNat + 1))) (h0 : 0 ≤ st) (h1 : st < n) : 0 ≤ (rk os : Nat) * n + st ∧ (rk os : Nat) * n + st < manyS n ∧ stRow n ((rk os : Nat) * n + st) = os ∧ ((rk os : Nat) * n + st) % n = st := by
  have hl : os.length = n.toNat + 1 := by rw [pm.length_eq, rgI_len]
  have lt := rk_lt os
  rw [hl] at lt
  have e1 : ((rk os : Nat) * n + st) / n = (rk os : Nat) := by
    rw [Int.add_comm, Int.add_mul_ediv_right _ _ (by omega), Int.ediv_eq_zero_of_lt h0 h1, Int.zero_add]
  have e2 : ((rk os : Nat) * n + st) % n = st := by
    rw [Int.add_comm, Int.add_mul_emod_self_right, Int.emod_eq_of_lt h0 h1]
  have p0 : 0 ≤ (rk os : Nat) * n := Int.mul_nonneg (Int.natCast_nonneg _) (by omega)
  refine ⟨by omega, ?_, ?_, e2⟩
  · unfold manyS
    have : ((rk os : Nat) + 1 : Int) * n ≤ (fac (n.toNat + 1) : Nat) * n := Int.mul_le_mul_of_nonneg_right (by omega) (by omega)
    rw [Int.add_mul, Int.one_mul] at this
    rw [Int.mul_comm n]
    omega
  · unfold stRow
    rw [e1, Int.toNat_natCast]
    have := unrk_rk os (rgI (n.toNat + 1)) (rgI_asc _) pm
    rw [hl] at this
    exact this
end Sw
namespace Sw
/-! ### what runs do with rows -/
/-- what stands at i and at j changes places -/
def sw2 (xs : List Int) (i j : Nat) : List Int := (xs.set i (xs.getD j 0)).set j (xs.getD i 0)
theorem sw2_len (xs : List Int) (i j : Nat) : (sw2 xs i j).length = xs.length := by simp [sw2]
theorem sw2_get {xs : List Int} {i j : Nat} (hi : i < xs.length) (hj : j < xs.length) (k : Nat) : (sw2 xs i j)[k]? = if k = j then xs[i]? else if k = i then xs[j]? else xs[k]? := by
  unfold sw2
  rw [List.getElem?_set]
  by_cases h1 : k = j
  · subst h1
    rw [if_pos rfl, if_pos rfl, if_pos (by simpa using hj), List.getD_eq_getElem?_getD, List.getElem?_eq_getElem hi]
    rfl
  · rw [if_neg (Ne.symm h1), if_neg h1, List.getElem?_set]
    by_cases h2 : k = i
    · subst h2
      rw [if_pos rfl, if_pos rfl, if_pos hi, List.getD_eq_getElem?_getD, List.getElem?_eq_getElem hj]
      rfl
    · rw [if_neg (Ne.symm h2), if_neg h2]
theorem sw2_comm {xs : List Int} {i j : Nat} (hi : i < xs.length) (hj : j < xs.length) : sw2 xs i j = sw2 xs j i := by
  refine List.ext_getElem? fun k => ?_
  rw [sw2_get hi hj, sw2_get hj hi]
  by_cases h1 : k = j
  · by_cases h2 : k = i
    · rw [if_pos h1, if_pos h2, ← h1, ← h2]
    · rw [if_pos h1, if_neg h2, if_pos h1]
  · by_cases h2 : k = i
    · rw [if_neg h1, if_pos h2, if_pos h2]
    · rw [if_neg h1, if_neg h2, if_neg h2, if_neg h1]
/-- the row in pieces -/
theorem sw2_cut {xs : List Int} {i j : Nat} (hij : i < j) (hj : j < xs.length) : ∃ (A B C : List Int) (x y : Int), xs = A ++ x :: (B ++ y :: C) ∧ sw2 xs i j = A ++ y :: (B ++ x :: C) ∧ xs[i]? = some x ∧ xs[j]? = some y := by
  have hi : i < xs.length := by omega
  have e1 : xs = xs.take i ++ xs[i] :: xs.drop (i + 1) := by
    rw [List.getElem_cons_drop hi, List.take_append_drop]
  have hd : j - (i + 1) < (xs.drop (i + 1)).length := by
    rw [List.length_drop]
    omega
  have e2 : xs.drop (i + 1) = (xs.drop (i + 1)).take (j - (i + 1)) ++ (xs.drop (i + 1))[j - (i + 1)] :: (xs.drop (i + 1)).drop (j - (i + 1) + 1) := by
    rw [List.getElem_cons_drop hd, List.take_append_drop]
  have e3 : (xs.drop (i + 1))[j - (i + 1)] = xs[j] := by
    rw [List.getElem_drop]
    congr 1
    omega
  rw [e3] at e2
  rw [e2] at e1
  refine ⟨_, _, _, _, _, e1, ?_, List.getElem?_eq_getElem hi, List.getElem?_eq_getElem hj⟩
  have lA : (xs.take i).length = i := by rw [List.length_take]; omega
  have lB : ((xs.drop (i + 1)).take (j - (i + 1))).length = j - (i + 1) := by rw [List.length_take]; omega
  have gj : xs.getD j 0 = xs[j] := by rw [List.getD_eq_getElem?_getD, List.getElem?_eq_getElem hj]; rfl
  have gi : xs.getD i 0 = xs[i] := by rw [List.getD_eq_getElem?_getD, List.getElem?_eq_getElem hi]; rfl
  unfold sw2
  rw [gi, gj]
  generalize xs[i] = x at *
  generalize xs[j] = y at *
  generalize (xs.drop (i + 1)).drop (j - (i + 1) + 1) = C at *
  generalize (xs.drop (i + 1)).take (j - (i + 1)) = B at *
  generalize xs.take i = A at *
  subst e1
  rw [List.set_append_right _ _ (by omega), lA, Nat.sub_self, List.set_cons_zero, List.set_append_right _ _ (by omega), lA]
  obtain ⟨k, hk⟩ : ∃ k, j - i = k + 1 := ⟨j - i - 1, by omega⟩
  rw [hk, List.set_cons_succ, List.set_append_right _ _ (by omega), show k - B.length = 0 by omega, List.set_cons_zero]
theorem perm_two {A B C : List Int} {x y : Int} : (A ++ y :: (B ++ x :: C)).Perm (A ++ x :: (B ++ y :: C)) := by
  refine List.Perm.append_left A ?_
  have h1 : (y :: (B ++ x :: C)).Perm (y :: x :: (B ++ C)) := List.Perm.cons y List.perm_middle
  have h2 : (x :: (B ++ y :: C)).Perm (x :: y :: (B ++ C)) := List.Perm.cons x List.perm_middle
  exact (h1.trans (List.Perm.swap x y _)).trans h2.symm
theorem sw2_self {xs : List Int} {i : Nat} (hi : i < xs.length) : sw2 xs i i = xs := by
  refine List.ext_getElem? fun k => ?_
  rw [sw2_get hi hi]
  by_cases h : k = i
  · rw [if_pos h, h]
  · rw [if_neg h, if_neg h]
theorem sw2_perm {xs : List Int} {i j : Nat} (hi : i < xs.length) (hj : j < xs.length) : (sw2 xs i j).Perm xs := by
  rcases Nat.lt_trichotomy i j with h | h | h
  · obtain ⟨A, B, C, x, y, e1, e2, _⟩ := sw2_cut h hj
    rw [e2]
    conv => rhs; rw [e1]
    exact perm_two
  · subst h
    rw [sw2_self hi]
  · rw [sw2_comm hi hj]
    obtain ⟨A, B, C, x, y, e1, e2, _⟩ := sw2_cut h hi
    rw [e2]
    conv => rhs; rw [e1]
    exact perm_two
/-! ### even and odd rows -/
/-- how many pairs of things fall -/
def inv : List Int → Nat
  | [] => 0
  | x :: r => less x r + inv r
def more (x : Int) (r : List Int) : Nat := (r.filter fun y => decide (x < y)).length
theorem less_app (x : Int) (A B : List Int) : less x (A ++ B) = less x A + less x B := by
  unfold less
  rw [List.filter_append, List.length_append]
theorem less_cons (x y : Int) (r : List Int) : less x (y :: r) = (if y < x then 1 else 0) + less x r := by
  unfold less
  by_cases h : y < x
  · rw [List.filter_cons_of_pos (by simpa using h), if_pos h, List.length_cons, Nat.add_comm]
  · rw [List.filter_cons_of_neg (by simpa using h), if_neg h, Nat.zero_add]
theorem more_cons (x y : Int) (r : List Int) : more x (y :: r) = (if x < y then 1 else 0) + more x r := by
  unfold more
  by_cases h : x < y
  · rw [List.filter_cons_of_pos (by simpa using h), if_pos h, List.length_cons, Nat.add_comm]
  · rw [List.filter_cons_of_neg (by simpa using h), if_neg h, Nat.zero_add]
theorem less_more {x : Int} : ∀ {B : List Int}, x ∉ B → less x B + more x B = B.length
  | [], _ => rfl
  | b :: B, h => by
    have ih := less_more (x := x) (B := B) fun z => h (List.mem_cons_of_mem _ z)
    have ne : b ≠ x := fun z => h (z ▸ List.mem_cons_self)
    rw [less_cons, more_cons, List.length_cons]
    by_cases q : b < x
    · rw [if_pos q, if_neg (by omega)]
      omega
    · rw [if_neg q, if_pos (by omega)]
      omega
theorem inv_mid (y : Int) (C : List Int) : ∀ B : List Int, inv (B ++ y :: C) = inv (B ++ C) + more y B + less y C
  | [] => by simp [inv, more]; omega
  | b :: B => by
    have ih := inv_mid y C B
    rw [List.cons_append, inv, ih, List.cons_append, inv, less_app, less_app, less_cons, more_cons]
    by_cases q : y < b
    · rw [if_pos q]
      omega
    · rw [if_neg q]
      omega
theorem inv_two : ∀ {A B C : List Int} {x y : Int}, (A ++ x :: (B ++ y :: C)).Nodup → (inv (A ++ y :: (B ++ x :: C)) + inv (A ++ x :: (B ++ y :: C))) % 2 = 1
  | [], B, C, x, y, h => by
    rw [List.nil_append, List.nil_append, inv, inv, inv_mid, inv_mid, less_app, less_app, less_cons, less_cons]
    rw [List.nil_append] at h
    obtain ⟨h1, h2⟩ := List.nodup_cons.mp h
    have hx : x ∉ B := fun z => h1 (List.mem_append.mpr (.inl z))
    have hxy : x ≠ y := fun z => h1 (List.mem_append.mpr (.inr (z ▸ List.mem_cons_self)))
    have hy : y ∉ B := fun z => (List.nodup_append.mp h2).2.2 y z y List.mem_cons_self rfl
    have l1 := less_more hx
    have l2 := less_more hy
    by_cases q : x < y
    · rw [if_pos q, if_neg (by omega)]
      omega
    · rw [if_neg q, if_pos (by omega)]
      omega
  | a :: A, B, C, x, y, h => by
    obtain ⟨h1, h2⟩ := List.nodup_cons.mp (List.cons_append ▸ h)
    have ih := inv_two h2
    rw [List.cons_append, List.cons_append, inv, inv, less_perm (x := a) (perm_two (A := A) (B := B) (C := C) (x := x) (y := y))]
    omega
theorem inv_sw2 {xs : List Int} {i j : Nat} (hn : xs.Nodup) (hi : i < xs.length) (hj : j < xs.length) (hij : i ≠ j) : (inv (sw2 xs i j) + inv xs) % 2 = 1 := by
  rcases Nat.lt_or_gt_of_ne hij with h | h
  · obtain ⟨A, B, C, x, y, e1, e2, _⟩ := sw2_cut h hj
    rw [e2]
    rw [e1] at hn
    have := inv_two hn
    rw [← e1] at this
    exact this
  · rw [sw2_comm hi hj]
    obtain ⟨A, B, C, x, y, e1, e2, _⟩ := sw2_cut h hi
    rw [e2]
    rw [e1] at hn
    have := inv_two hn
    rw [← e1] at this
    exact this
theorem inv_asc : ∀ {xs : List Int}, xs.Pairwise (· < ·) → inv xs = 0
  | [], _ => rfl
  | x :: r, h => by
    obtain ⟨h1, h2⟩ := List.pairwise_cons.mp h
    rw [inv, inv_asc h2, Nat.add_zero]
    unfold less
    rw [List.length_eq_zero_iff]
    refine List.filter_eq_nil_iff.mpr fun z hz => ?_
    have := h1 z hz
    simp only [decide_eq_true_eq]
    omega
/-! ### runs -/
/-- what stands at i and what stands last change places -/
def stp (xs : List Int) (i : Nat) : List Int := sw2 xs i (xs.length - 1)
def ledI (xs os : List Int) : List Int := os.foldl (fun xs o => stp xs o.toNat) xs
theorem stp_len (xs : List Int) (i : Nat) : (stp xs i).length = xs.length := sw2_len _ _ _
theorem ledI_len : ∀ (os xs : List Int), (ledI xs os).length = xs.length
  | [], xs => rfl
  | o :: os, xs => by
    have h := ledI_len os (stp xs o.toNat)
    rw [stp_len] at h
    exact h
theorem ledI_app (xs os ps : List Int) : ledI xs (os ++ ps) = ledI (ledI xs os) ps := by
  unfold ledI
  rw [List.foldl_append]
theorem ledI_snoc (xs os : List Int) (o : Int) : ledI xs (os ++ [o]) = stp (ledI xs os) o.toNat := by
  rw [ledI_app]
  rfl
/-- stops of n -/
def Stops (n : Nat) (os : List Int) : Prop := ∀ o ∈ os, 0 ≤ o ∧ o < (n : Int)
theorem stp_perm {xs : List Int} {i : Nat} (hi : i < xs.length) : (stp xs i).Perm xs := sw2_perm hi (by omega)
theorem ledI_perm {n : Nat} : ∀ {os xs : List Int}, Stops n os → n < xs.length → (ledI xs os).Perm xs
  | [], xs, _, _ => .refl _
  | o :: os, xs, h, hn => by
    have ho := h o (by simp)
    have h1 := ledI_perm (os := os) (xs := stp xs o.toNat) (fun p hp => h p (by simp [hp])) (by rw [stp_len]; exact hn)
    exact h1.trans (stp_perm (by omega))
theorem stp_map {α : Type} {f : Int → Int} {xs : List Int} {i : Nat} (hi : i < xs.length) : stp (xs.map f) i = (stp xs i).map f := by
  refine List.ext_getElem? fun k => ?_
  unfold stp
  rw [List.length_map, List.getElem?_map, sw2_get (by rw [List.length_map]; exact hi) (by rw [List.length_map]; omega), sw2_get hi (by omega)]
  by_cases h1 : k = xs.length - 1
  · rw [if_pos h1, if_pos h1, List.getElem?_map]
  · by_cases h2 : k = i
    · rw [if_neg h1, if_neg h1, if_pos h2, if_pos h2, List.getElem?_map]
    · rw [if_neg h1, if_neg h1, if_neg h2, if_neg h2, List.getElem?_map]
theorem ledI_map {n : Nat} {f : Int → Int} : ∀ {os xs : List Int}, Stops n os → n < xs.length → ledI (xs.map f) os = (ledI xs os).map f
  | [], xs, _, _ => rfl
  | o :: os, xs, h, hn => by
    have ho := h o (by simp)
    show ledI (stp (xs.map f) o.toNat) os = _
    rw [stp_map (α := Int) (by omega), ledI_map (os := os) (fun p hp => h p (by simp [hp])) (by rw [stp_len]; exact hn)]
    rfl
/-! ### ends -/
theorem idx_at {l : List Int} {x : Int} {i : Nat} (hn : l.Nodup) (h : l[i]? = some x) : l.idxOf x = i := by
  obtain ⟨hi, e⟩ := List.getElem?_eq_some_iff.mp h
  have hm : x ∈ l := List.mem_of_getElem? h
  have h2 := List.idxOf_lt_length_iff.mpr hm
  have e2 : l[l.idxOf x] = x := List.getElem_idxOf h2
  exact (List.getElem_inj hn).mp (e2.trans e.symm)
theorem idx_get {l : List Int} {x : Int} (h : x ∈ l) : l[l.idxOf x]? = some x := by
  have h2 := List.idxOf_lt_length_iff.mpr h
  rw [List.getElem?_eq_getElem h2, List.getElem_idxOf h2]
end Sw
namespace Sw
open PySem L2
/-! ### where things go; rings -/
theorem rgI_get {m i : Nat} (h : i < m) : (rgI m)[i]? = some (i : Int) := by
  unfold rgI
  rw [List.getElem?_map, List.getElem?_range h]
  rfl
theorem rgI_in {m : Nat} {x : Int} (h0 : 0 ≤ x) (h1 : x < m) : x ∈ rgI m := List.mem_map.mpr ⟨x.toNat, List.mem_range.mpr (by omega), by omega⟩
theorem rgI_nd (m : Nat) : (rgI m).Nodup := asc_nodup (rgI_asc m)
theorem pm_nd {m : Nat} {be : List Int} (pm : be.Perm (rgI m)) : be.Nodup := pm.nodup_iff.mpr (rgI_nd m)
theorem pm_len {m : Nat} {be : List Int} (pm : be.Perm (rgI m)) : be.length = m := by rw [pm.length_eq, rgI_len]
theorem pm_at {m i : Nat} {be : List Int} {x : Int} (pm : be.Perm (rgI m)) (h : be[i]? = some x) : 0 ≤ x ∧ x < m := rgI_mem (pm.mem_iff.mp (List.mem_of_getElem? h))
theorem pm_inj {m i j : Nat} {be : List Int} {x : Int} (pm : be.Perm (rgI m)) (h : be[i]? = some x) (h' : be[j]? = some x) : i = j := by
  have e1 := idx_at (pm_nd pm) h
  have e2 := idx_at (pm_nd pm) h'
  omega
def endsF (m : Nat) (be : List Int) : List Int := (rgI m).map fun p => ((be.idxOf p : Nat) : Int)
theorem endsF_len (m : Nat) (be : List Int) : (endsF m be).length = m := by rw [endsF, List.length_map, rgI_len]
theorem endsF_get {m i : Nat} (be : List Int) (h : i < m) : (endsF m be)[i]? = some ((be.idxOf (i : Int) : Nat) : Int) := by
  unfold endsF
  rw [List.getElem?_map, rgI_get h]
  rfl
theorem endsF_back {m j : Nat} {be : List Int} {x : Int} (pm : be.Perm (rgI m)) (h : be[j]? = some x) : (endsF m be)[x.toNat]? = some (j : Int) := by
  have b := pm_at pm h
  rw [endsF_get be (by omega), Int.toNat_of_nonneg b.1, idx_at (pm_nd pm) h]
theorem endsF_rgI (m : Nat) : endsF m (rgI m) = rgI m := by
  refine List.ext_getElem? fun i => ?_
  by_cases h : i < m
  · rw [endsF_get _ h, rgI_get h, idx_at (rgI_nd m) (rgI_get h)]
  · rw [List.getElem?_eq_none (by rw [endsF_len]; omega), List.getElem?_eq_none (by rw [rgI_len]; omega)]
theorem endsF_stp {m s : Nat} {be : List Int} {x y : Int} (pm : be.Perm (rgI m)) (hs : s + 1 < m) (hx : be[s]? = some x) (hy : be[m - 1]? = some y) : endsF m (stp be s) = sw2 (endsF m be) x.toNat y.toNat := by
  have bx := pm_at pm hx
  have bl := pm_len pm
  have by' := pm_at pm hy
  have pm2 : (stp be s).Perm (rgI m) := (stp_perm (by omega)).trans pm
  have sg : ∀ k, (stp be s)[k]? = if k = m - 1 then some x else if k = s then some y else be[k]? := fun k => by
    unfold stp
    rw [sw2_get (by omega) (by omega), bl, hx, hy]
  refine List.ext_getElem? fun i => ?_
  by_cases h : i < m
  · rw [sw2_get (by rw [endsF_len]; omega) (by rw [endsF_len]; omega), endsF_back pm hx, endsF_back pm hy]
    by_cases h1 : i = y.toNat
    · rw [if_pos h1]
      have := endsF_back pm2 (j := s) (x := y) (by rw [sg, if_neg (by omega), if_pos rfl])
      rw [h1]
      exact this
    · rw [if_neg h1]
      by_cases h2 : i = x.toNat
      · rw [if_pos h2]
        have := endsF_back pm2 (j := m - 1) (x := x) (by rw [sg, if_pos rfl])
        rw [h2]
        exact this
      · rw [if_neg h2]
        have hm : (i : Int) ∈ be := pm.mem_iff.mpr (rgI_in (by omega) (by omega))
        have g := idx_get hm
        have n1 : be.idxOf (i : Int) ≠ s := fun z => by
          rw [z, hx] at g
          have := Option.some.inj g
          omega
        have n2 : be.idxOf (i : Int) ≠ m - 1 := fun z => by
          rw [z, hy] at g
          have := Option.some.inj g
          omega
        have := endsF_back pm2 (j := be.idxOf (i : Int)) (x := (i : Int)) (by rw [sg, if_neg n2, if_neg n1]; exact g)
        rw [Int.toNat_natCast] at this
        rw [this, endsF_get _ h]
  · rw [List.getElem?_eq_none (by rw [endsF_len]; omega), List.getElem?_eq_none (by rw [sw2_len, endsF_len]; omega)]
theorem ends_run {m : Nat} : ∀ {os be : List Int}, Stops (m - 1) os → be.Perm (rgI m) → (endsF m be).Perm (rgI m) → (endsF m (ledI be os)).Perm (rgI m) ∧ (inv (endsF m (ledI be os)) + inv (endsF m be) + os.length) % 2 = 0
  | [], be, _, pm, pe => by
    refine ⟨pe, ?_⟩
    show (inv (endsF m be) + inv (endsF m be) + 0) % 2 = 0
    omega
  | o :: os, be, h, pm, pe => by
    have ho := h o (by simp)
    have bl := pm_len pm
    have hs : o.toNat + 1 < m := by omega
    obtain ⟨x, hx⟩ : ∃ x, be[o.toNat]? = some x := ⟨_, List.getElem?_eq_getElem (by omega)⟩
    obtain ⟨y, hy⟩ : ∃ y, be[m - 1]? = some y := ⟨_, List.getElem?_eq_getElem (by omega)⟩
    have bx := pm_at pm hx
    have by' := pm_at pm hy
    have ne : x.toNat ≠ y.toNat := fun z => by
      have : x = y := by omega
      rw [this] at hx
      have := pm_inj pm hx hy
      omega
    have e := endsF_stp pm hs hx hy
    have q := inv_sw2 (pm_nd pe) (i := x.toNat) (j := y.toNat) (by rw [endsF_len]; omega) (by rw [endsF_len]; omega) ne
    have p2 : (endsF m (stp be o.toNat)).Perm (rgI m) := by
      rw [e]
      exact (sw2_perm (by rw [endsF_len]; omega) (by rw [endsF_len]; omega)).trans pe
    obtain ⟨r1, r2⟩ := ends_run (os := os) (be := stp be o.toNat) (fun p hp => h p (by simp [hp])) ((stp_perm (by omega)).trans pm) p2
    refine ⟨r1, ?_⟩
    show (inv (endsF m (ledI (stp be o.toNat) os)) + inv (endsF m be) + (os.length + 1)) % 2 = 0
    rw [e] at r2
    rw [← e] at r2
    rw [← e] at q
    omega
/-- ahead of a ring -/
structure RingO (m : Nat) (ends left σ : List Int) (r : Nat) : Prop where
  pm : σ.Perm (rgI m)
  nd : left.Nodup
  sub : ∀ x ∈ left, 0 ≤ x ∧ x < (m : Int)
  on : ∀ x ∈ left, σ[x.toNat]? = ends[x.toNat]?
  off : ∀ i : Nat, i < m → (i : Int) ∉ left → σ[i]? = some (i : Int)
  le : left.length ≤ m
  par : (inv σ + inv ends + (m - left.length) + r) % 2 = 0
/-- amid a ring that begins at a0 -/
structure RingI (m : Nat) (ends left σ : List Int) (r : Nat) (a0 here : Int) : Prop where
  pm : σ.Perm (rgI m)
  nd : left.Nodup
  sub : ∀ x ∈ left, 0 ≤ x ∧ x < (m : Int)
  on : ∀ x ∈ left, σ[x.toNat]? = ends[x.toNat]?
  le : left.length ≤ m
  b0 : 0 ≤ a0 ∧ a0 < (m : Int)
  n0 : a0 ∉ left
  at0 : σ[a0.toNat]? = some here
  off : ∀ i : Nat, i < m → (i : Int) ∉ left → (i : Int) ≠ a0 → σ[i]? = some (i : Int)
  par : (inv σ + inv ends + (m - left.length) + (r + 1)) % 2 = 0
theorem RingO.start {m : Nat} {ends : List Int} (pe : ends.Perm (rgI m)) : RingO m ends (rgI m) ends 0 :=
  ⟨pe, rgI_nd m, fun x hx => rgI_mem hx, fun _ _ => rfl, fun i hi hn => absurd (rgI_in (by omega) (by omega)) hn, by rw [rgI_len]; exact Nat.le_refl _, by rw [rgI_len]; omega⟩
theorem mem_eraseIdx_nd {l : List Int} {j : Nat} {x y : Int} (nd : l.Nodup) (hj : l[j]? = some x) : y ∈ l.eraseIdx j ↔ y ∈ l ∧ y ≠ x := by
  rw [erase_at nd hj, List.Nodup.mem_erase_iff nd]
  exact And.comm
theorem len_eraseIdx {l : List Int} {j : Nat} {x : Int} (hj : l[j]? = some x) : (l.eraseIdx j).length + 1 = l.length := by
  have h := (List.getElem?_eq_some_iff.mp hj).1
  rw [List.length_eraseIdx_of_lt h]
  omega
theorem RingO.begin {m j r : Nat} {ends left σ : List Int} {here h' : Int} (R : RingO m ends left σ r) (hj : left[j]? = some here) (he : ends[here.toNat]? = some h') : RingI m ends (left.eraseIdx j) σ r here h' := by
  have hm := List.mem_of_getElem? hj
  have ll := len_eraseIdx hj
  have le := R.le
  have par := R.par
  refine ⟨R.pm, R.nd.sublist (List.eraseIdx_sublist _ _), fun x hx => R.sub x ((mem_eraseIdx_nd R.nd hj).mp hx).1, fun x hx => R.on x ((mem_eraseIdx_nd R.nd hj).mp hx).1, by omega, R.sub _ hm, fun z => ((mem_eraseIdx_nd R.nd hj).mp z).2 rfl, ?_, fun i hi hn ne => ?_, by omega⟩
  · rw [R.on _ hm]
    exact he
  · exact R.off i hi fun z => hn ((mem_eraseIdx_nd R.nd hj).mpr ⟨z, ne⟩)
theorem RingI.next {m j r : Nat} {ends left σ : List Int} {a0 here h' : Int} (R : RingI m ends left σ r a0 here) (hj : left[j]? = some here) (he : ends[here.toNat]? = some h') : ∃ σ', RingI m ends (left.eraseIdx j) σ' r a0 h' := by
  have hm := List.mem_of_getElem? hj
  have ll := len_eraseIdx hj
  have le := R.le
  have b0 := R.b0
  have bh := R.sub _ hm
  have sl := pm_len R.pm
  have ne : a0 ≠ here := fun z => R.n0 (z ▸ hm)
  have ne2 : a0.toNat ≠ here.toNat := by omega
  have q := inv_sw2 (pm_nd R.pm) (i := a0.toNat) (j := here.toNat) (by omega) (by omega) ne2
  have g := sw2_get (xs := σ) (i := a0.toNat) (j := here.toNat) (by omega) (by omega)
  have par := R.par
  refine ⟨sw2 σ a0.toNat here.toNat, (sw2_perm (by omega) (by omega)).trans R.pm, R.nd.sublist (List.eraseIdx_sublist _ _), fun x hx => R.sub x ((mem_eraseIdx_nd R.nd hj).mp hx).1, fun x hx => ?_, by omega, b0, fun z => R.n0 ((mem_eraseIdx_nd R.nd hj).mp z).1, ?_, fun i hi hn nea => ?_, by omega⟩
  · obtain ⟨x1, x2⟩ := (mem_eraseIdx_nd R.nd hj).mp hx
    have bx := R.sub x x1
    have n0 : x ≠ a0 := fun z => R.n0 (z ▸ x1)
    rw [g, if_neg (by omega), if_neg (by omega)]
    exact R.on x x1
  · rw [g, if_neg ne2, if_pos rfl, R.on _ hm]
    exact he
  · rw [g]
    by_cases z : i = here.toNat
    · rw [if_pos z, R.at0]
      congr 1
      omega
    · rw [if_neg z, if_neg (by omega)]
      refine R.off i hi (fun y => hn ((mem_eraseIdx_nd R.nd hj).mpr ⟨y, by omega⟩)) nea
theorem RingI.done {m r : Nat} {ends left σ : List Int} {a0 here : Int} (R : RingI m ends left σ r a0 here) (hn : here ∉ left) : RingO m ends left σ (r + 1) := by
  have b0 := R.b0
  have bh := pm_at R.pm R.at0
  have e : here = a0 := Classical.byContradiction fun z => by
    have h1 := R.off here.toNat (by omega) (by rw [Int.toNat_of_nonneg bh.1]; exact hn) (by rw [Int.toNat_of_nonneg bh.1]; exact z)
    rw [Int.toNat_of_nonneg bh.1] at h1
    have := pm_inj R.pm R.at0 h1
    omega
  refine ⟨R.pm, R.nd, R.sub, R.on, fun i hi hl => ?_, R.le, R.par⟩
  by_cases z : (i : Int) = a0
  · have h1 := R.at0
    rw [e] at h1
    have e2 : a0.toNat = i := by omega
    rw [e2] at h1
    rw [h1, z]
  · exact R.off i hi hl z
theorem RingO.fin {m r : Nat} {ends σ : List Int} (R : RingO m ends [] σ r) : (m + r + inv ends) % 2 = 0 := by
  have e : σ = rgI m := by
    refine List.ext_getElem? fun i => ?_
    by_cases h : i < m
    · rw [R.off i h (by simp), rgI_get h]
    · rw [List.getElem?_eq_none (by rw [pm_len R.pm]; omega), List.getElem?_eq_none (by rw [rgI_len]; omega)]
  have par := R.par
  rw [e, inv_asc (rgI_asc m)] at par
  simp only [List.length_nil] at par
  omega
end Sw
namespace Sw
open PySem L2
/-! ### going on and on by a rearrangement -/
theorem pigeonT : ∀ (m : Nat) (l : List Nat), l.Nodup → (∀ x ∈ l, x < m) → l.length ≤ m
  | 0, l, _, h => by
    cases l with
    | nil => exact Nat.le_refl _
    | cons a r => exact absurd (h a (by simp)) (Nat.not_lt_zero _)
  | m + 1, l, nd, h => by
    have h1 := pigeonT m (l.erase m) (nd.erase m) fun x hx => by
      have h2 := h x (List.mem_of_mem_erase hx)
      have : x ≠ m := fun z => by
        rw [z] at hx
        exact (List.Nodup.not_mem_erase nd) hx
      omega
    have h3 := List.length_erase_of_mem (a := m) (l := l)
    by_cases hm : m ∈ l
    · have := h3 hm
      omega
    · rw [List.erase_of_not_mem hm] at h1
      omega
theorem sub_le : ∀ (a b : List Int), a.Nodup → (∀ x ∈ a, x ∈ b) → a.length ≤ b.length := by
  intro a
  induction a with
  | nil => intro b _ _; exact Nat.zero_le _
  | cons x a ih =>
    intro b nd h
    obtain ⟨h1, h2⟩ := List.nodup_cons.mp nd
    have hx := h x (by simp)
    have := ih (b.erase x) h2 fun y hy => (List.mem_erase_of_ne (fun z : y = x => h1 (by rw [← z]; exact hy))).mpr (h y (by simp [hy]))
    have l := List.length_erase_of_mem hx
    have : 0 < b.length := List.length_pos_of_mem hx
    rw [List.length_cons]
    omega
theorem perm_of_sub {a b : List Int} (na : a.Nodup) (nb : b.Nodup) (h : ∀ x ∈ a, x ∈ b) (hl : a.length = b.length) : a.Perm b := by
  refine (List.perm_ext_iff_of_nodup na nb).mpr fun x => ⟨h x, fun hx => Classical.byContradiction fun no => ?_⟩
  have := sub_le a (b.erase x) na fun y hy => (List.mem_erase_of_ne (fun z : y = x => no (by rw [← z]; exact hy))).mpr (h y hy)
  have l := List.length_erase_of_mem hx
  have : 0 < b.length := List.length_pos_of_mem hx
  omega
def Rg (m : Nat) (x : Int) : Prop := 0 ≤ x ∧ x < (m : Int)
def ap (σ : List Int) (x : Int) : Int := σ.getD x.toNat 0
def itr (σ : List Int) : Nat → Int → Int
  | 0, x => x
  | k + 1, x => ap σ (itr σ k x)
section
variable {m : Nat} {σ : List Int}
theorem ap_get (pm : σ.Perm (rgI m)) {x : Int} (h : Rg m x) : σ[x.toNat]? = some (ap σ x) := by
  have := pm_len pm
  obtain ⟨h0, h1⟩ := h
  unfold ap
  rw [List.getD_eq_getElem?_getD, List.getElem?_eq_getElem (by omega)]
  rfl
theorem ap_in (pm : σ.Perm (rgI m)) {x : Int} (h : Rg m x) : Rg m (ap σ x) := pm_at pm (ap_get pm h)
theorem ap_inj (pm : σ.Perm (rgI m)) {x y : Int} (h : Rg m x) (h' : Rg m y) (e : ap σ x = ap σ y) : x = y := by
  have e1 := ap_get pm h
  have e2 := ap_get pm h'
  rw [e] at e1
  have := pm_inj pm e1 e2
  obtain ⟨a, b⟩ := h
  obtain ⟨c, d⟩ := h'
  omega
theorem itr_in (pm : σ.Perm (rgI m)) {x : Int} (h : Rg m x) : ∀ k, Rg m (itr σ k x)
  | 0 => h
  | k + 1 => ap_in pm (itr_in pm h k)
theorem itr_succ (k : Nat) (x : Int) : itr σ (k + 1) x = itr σ k (ap σ x) := by
  induction k with
  | zero => rfl
  | succ k ih =>
    show ap σ (itr σ (k + 1) x) = ap σ (itr σ k (ap σ x))
    rw [ih]
theorem itr_add (a b : Nat) (x : Int) : itr σ (a + b) x = itr σ a (itr σ b x) := by
  induction a with
  | zero => rw [Nat.zero_add]; rfl
  | succ a ih =>
    rw [Nat.succ_add]
    show ap σ (itr σ (a + b) x) = ap σ (itr σ a (itr σ b x))
    rw [ih]
theorem itr_comm (a b : Nat) (x : Int) : itr σ a (itr σ b x) = itr σ b (itr σ a x) := by
  rw [← itr_add, ← itr_add, Nat.add_comm]
theorem itr_inj (pm : σ.Perm (rgI m)) {x y : Int} (h : Rg m x) (h' : Rg m y) : ∀ k, itr σ k x = itr σ k y → x = y
  | 0, e => e
  | k + 1, e => itr_inj pm h h' k (ap_inj pm (itr_in pm h k) (itr_in pm h' k) e)
theorem itr_mul {k : Nat} {x : Int} (h : itr σ k x = x) : ∀ q, itr σ (k * q) x = x
  | 0 => rfl
  | q + 1 => by
    rw [Nat.mul_succ, itr_add, h]
    exact itr_mul h q
/-- the least number of goings that lead x back -/
structure IsPer (σ : List Int) (x : Int) (k : Nat) : Prop where
  pos : 1 ≤ k
  back : itr σ k x = x
  least : ∀ j, 1 ≤ j → j < k → itr σ j x ≠ x
theorem IsPer.dvd {x : Int} {k : Nat} (P : IsPer σ x k) (X : Nat) : itr σ X x = x ↔ k ∣ X := by
  constructor
  · intro h
    have e : X = X % k + k * (X / k) := by
      have := Nat.mod_add_div X k
      omega
    rw [e, itr_add, itr_mul P.back] at h
    have lt := Nat.mod_lt X P.pos
    by_cases z : X % k = 0
    · exact Nat.dvd_of_mod_eq_zero z
    · exact absurd h (P.least _ (by omega) lt)
  · rintro ⟨q, rfl⟩
    exact itr_mul P.back q
theorem IsPer.shift (pm : σ.Perm (rgI m)) {x : Int} {k : Nat} (h : Rg m x) (P : IsPer σ x k) (j : Nat) : IsPer σ (itr σ j x) k := by
  refine ⟨P.pos, ?_, fun i h1 h2 e => P.least i h1 h2 ?_⟩
  · rw [itr_comm, P.back]
  · rw [itr_comm] at e
    exact itr_inj pm (itr_in pm h i) h j e
/-- not back yet: all things on the way are unlike -/
theorem way_nd (pm : σ.Perm (rgI m)) {x : Int} (h : Rg m x) {k : Nat} (hn : ∀ j, 1 ≤ j → j < k → itr σ j x ≠ x) {i j : Nat} (hi : i < k) (hj : j < k) (e : itr σ i x = itr σ j x) : i = j := by
  have key : ∀ {a b : Nat}, a < b → b < k → itr σ a x = itr σ b x → False := fun {a b} hab hb e => by
    have e2 : itr σ b x = itr σ a (itr σ (b - a) x) := by rw [← itr_add]; congr 1; omega
    rw [e2] at e
    exact hn (b - a) (by omega) (by omega) (itr_inj pm h (itr_in pm h _) a e).symm
  rcases Nat.lt_trichotomy i j with z | z | z
  · exact (key z hj e).elim
  · exact z
  · exact (key z hi e.symm).elim
theorem way_le (pm : σ.Perm (rgI m)) {x : Int} (h : Rg m x) {k : Nat} (hn : ∀ j, 1 ≤ j → j < k → itr σ j x ≠ x) : k ≤ m := by
  have nd : ((List.range k).map fun j => (itr σ j x).toNat).Nodup := by
    refine List.pairwise_map.mpr (List.Pairwise.imp_of_mem ?_ List.nodup_range)
    intro a b ha hb ne e
    have b1 := itr_in pm h a
    have b2 := itr_in pm h b
    obtain ⟨c1, c2⟩ := b1
    obtain ⟨c3, c4⟩ := b2
    exact ne (way_nd pm h hn (List.mem_range.mp ha) (List.mem_range.mp hb) (by omega))
  have := pigeonT m _ nd fun y hy => by
    obtain ⟨j, _, rfl⟩ := List.mem_map.mp hy
    obtain ⟨c1, c2⟩ := itr_in pm h j
    omega
  rwa [List.length_map, List.length_range] at this
theorem IsPer.le (pm : σ.Perm (rgI m)) {x : Int} (h : Rg m x) {k : Nat} (P : IsPer σ x k) : k ≤ m := way_le pm h P.least
/-- so many goings, and just multiples of them, lead all back -/
structure IsTurn (m : Nat) (σ : List Int) (T : Nat) : Prop where
  pos : 1 ≤ T
  iff : ∀ X, T ∣ X ↔ ∀ x, Rg m x → itr σ X x = x
theorem IsTurn.uniq {T T' : Nat} (h : IsTurn m σ T) (h' : IsTurn m σ T') : T = T' :=
  Nat.dvd_antisymm ((h.iff T').mpr ((h'.iff T').mp (Nat.dvd_refl _))) ((h'.iff T).mpr ((h.iff T).mp (Nat.dvd_refl _)))
theorem IsTurn.mod {T : Nat} (h : IsTurn m σ T) {x : Int} (hx : Rg m x) (X : Nat) : itr σ (X % T) x = itr σ X x := by
  have e : X = X % T + T * (X / T) := by
    have := Nat.mod_add_div X T
    omega
  conv => rhs; rw [e, itr_add, (h.iff _).mp (Nat.dvd_mul_right T (X / T)) x hx]
/-! ### the way back -/
theorem ap_ends {be : List Int} (pm : be.Perm (rgI m)) {x : Int} (h : Rg m x) : ap (endsF m be) (ap be x) = x := by
  have e := endsF_back pm (ap_get pm h)
  unfold ap at e ⊢
  rw [List.getD_eq_getElem?_getD, e]
  exact Int.toNat_of_nonneg h.1
theorem ap_ends' {be : List Int} (pm : be.Perm (rgI m)) (pe : (endsF m be).Perm (rgI m)) {x : Int} (h : Rg m x) : ap be (ap (endsF m be) x) = x := by
  have h1 := ap_in pe h
  have h2 := ap_in pm h1
  exact ap_inj pe h2 h (ap_ends pm h1)
theorem itr_ends {be : List Int} (pm : be.Perm (rgI m)) (pe : (endsF m be).Perm (rgI m)) {x : Int} (h : Rg m x) : ∀ k, itr be k (itr (endsF m be) k x) = x
  | 0 => rfl
  | k + 1 => by
    rw [itr_succ]
    show itr be k (ap be (ap (endsF m be) (itr (endsF m be) k x))) = x
    rw [ap_ends' pm pe (itr_in pe h k)]
    exact itr_ends pm pe h k
theorem back_iff {be : List Int} (pm : be.Perm (rgI m)) (pe : (endsF m be).Perm (rgI m)) {x : Int} (h : Rg m x) (k : Nat) : itr (endsF m be) k x = x ↔ itr be k x = x := by
  have e := itr_ends pm pe h k
  constructor
  · intro z
    rw [z] at e
    exact e
  · intro z
    exact itr_inj pm (itr_in pe h k) h k (e.trans z.symm)
theorem IsTurn.ends {be : List Int} {T : Nat} (pm : be.Perm (rgI m)) (pe : (endsF m be).Perm (rgI m)) : IsTurn m (endsF m be) T ↔ IsTurn m be T :=
  ⟨fun h => ⟨h.pos, fun X => (h.iff X).trans ⟨fun q x hx => (back_iff pm pe hx X).mp (q x hx), fun q x hx => (back_iff pm pe hx X).mpr (q x hx)⟩⟩,
   fun h => ⟨h.pos, fun X => (h.iff X).trans ⟨fun q x hx => (back_iff pm pe hx X).mpr (q x hx), fun q x hx => (back_iff pm pe hx X).mp (q x hx)⟩⟩⟩
end
/-- the things so far lead back, all just by multiples -/
def PreTurn (σ : List Int) (i T : Nat) : Prop := 1 ≤ T ∧ T ∣ 6227020800 ∧ ∀ X, T ∣ X ↔ ∀ x : Int, Rg i x → itr σ X x = x
theorem small_dvd (k : Nat) (h1 : 1 ≤ k) (h2 : k ≤ 13) : k ∣ 6227020800 := (by decide : ∀ k, k < 14 → 1 ≤ k → k ∣ 6227020800) k (by omega) h1
theorem PreTurn.start {σ : List Int} : PreTurn σ 0 1 := ⟨Nat.le_refl _, ⟨_, (Nat.one_mul _).symm⟩, fun X => ⟨fun _ x h => by have := h.1; have := h.2; omega, fun _ => ⟨X, (Nat.one_mul _).symm⟩⟩⟩
theorem PreTurn.next {σ : List Int} {i T k : Nat} (h : PreTurn σ i T) (P : IsPer σ (i : Int) k) (hk : k ≤ 13) : PreTurn σ (i + 1) (Nat.lcm T k) := by
  obtain ⟨h1, h2, h3⟩ := h
  refine ⟨Nat.lcm_pos h1 P.pos, Nat.lcm_dvd h2 (small_dvd k P.pos hk), fun X => ?_⟩
  rw [Nat.lcm_dvd_iff, h3, ← P.dvd]
  constructor
  · rintro ⟨a, b⟩ x ⟨x0, x1⟩
    by_cases z : x = (i : Int)
    · rw [z]; exact b
    · exact a x ⟨x0, by omega⟩
  · intro a
    exact ⟨fun x hx => a x ⟨hx.1, by have := hx.2; omega⟩, a _ ⟨by omega, by omega⟩⟩
theorem PreTurn.done {σ : List Int} {m T : Nat} (h : PreTurn σ m T) : IsTurn m σ T := ⟨h.1, h.2.2⟩
theorem PreTurn.le {σ : List Int} {i T : Nat} (h : PreTurn σ i T) : T ≤ 6227020800 := Nat.le_of_dvd (by decide) h.2.1
end Sw
namespace Sw
open PySem L2
/-! ### what journeys do with rows -/
/-- row, when what lies at each place came from so many goings by be -/
def rowB (m : Nat) (row be : List Int) (t : Nat) : List Int := (rgI m).map fun p => row.getD (itr be t p).toNat 0
section
variable {m : Nat} {row be : List Int}
theorem rowB_len (t : Nat) : (rowB m row be t).length = m := by rw [rowB, List.length_map, rgI_len]
theorem rowB_get {i : Nat} (t : Nat) (h : i < m) : (rowB m row be t)[i]? = some (row.getD (itr be t (i : Int)).toNat 0) := by
  unfold rowB
  rw [List.getElem?_map, rgI_get h]
  rfl
theorem row_ext {xs ys : List Int} (h1 : xs.length = m) (h2 : ys.length = m) (h : ∀ i, i < m → xs[i]? = ys[i]?) : xs = ys := by
  refine List.ext_getElem? fun i => ?_
  by_cases hi : i < m
  · exact h i hi
  · rw [List.getElem?_eq_none (by omega), List.getElem?_eq_none (by omega)]
theorem getD_at {i : Nat} (h : i < row.length) : row[i]? = some (row.getD i 0) := by
  rw [List.getD_eq_getElem?_getD, List.getElem?_eq_getElem h]
  rfl
theorem rowB_zero (hl : row.length = m) : rowB m row be 0 = row := by
  refine row_ext (rowB_len 0) hl fun i hi => ?_
  rw [rowB_get 0 hi, getD_at (by omega)]
  show some (row.getD ((i : Int)).toNat 0) = _
  rw [Int.toNat_natCast]
/-- one going more -/
theorem rowB_succ (pm : be.Perm (rgI m)) (hl : row.length = m) (t : Nat) : rowB m (rowB m row be t) be 1 = rowB m row be (t + 1) := by
  refine row_ext (rowB_len _) (rowB_len _) fun i hi => ?_
  have r := ap_in pm (x := (i : Int)) ⟨by omega, by omega⟩
  have e : itr be 1 (i : Int) = ap be i := rfl
  rw [rowB_get _ hi, rowB_get _ hi, e, itr_succ]
  have := getD_at (row := rowB m row be t) (i := (ap be (i : Int)).toNat) (by rw [rowB_len]; obtain ⟨a, b⟩ := r; omega)
  rw [rowB_get _ (by obtain ⟨a, b⟩ := r; omega), Int.toNat_of_nonneg r.1] at this
  exact this.symm
theorem rowB_perm (pm : be.Perm (rgI m)) (pr : row.Perm (rgI m)) (t : Nat) : (rowB m row be t).Perm (rgI m) := by
  have nd : (rowB m row be t).Nodup := by
    refine List.pairwise_map.mpr (List.Pairwise.imp_of_mem ?_ (rgI_nd m))
    intro a b ha hb ne e
    have ra := itr_in pm (rgI_mem ha) t
    have rb := itr_in pm (rgI_mem hb) t
    have l := pm_len pr
    have e1 := getD_at (row := row) (i := (itr be t a).toNat) (by obtain ⟨x, y⟩ := ra; omega)
    have e2 := getD_at (row := row) (i := (itr be t b).toNat) (by obtain ⟨x, y⟩ := rb; omega)
    rw [e] at e1
    have := pm_inj pr e1 e2
    refine ne (itr_inj pm (rgI_mem ha) (rgI_mem hb) t ?_)
    obtain ⟨x, y⟩ := ra
    obtain ⟨z, u⟩ := rb
    omega
  have sub : ∀ x ∈ rowB m row be t, x ∈ rgI m := fun x hx => by
    obtain ⟨p, hp, rfl⟩ := List.mem_map.mp hx
    have rp := itr_in pm (rgI_mem hp) t
    have l := pm_len pr
    have e1 := getD_at (row := row) (i := (itr be t p).toNat) (by obtain ⟨x, y⟩ := rp; omega)
    exact pr.mem_iff.mp (List.mem_of_getElem? e1)
  exact perm_of_sub nd (rgI_nd m) sub (by rw [rowB_len, rgI_len])
theorem rowB_mod {T : Nat} (I : IsTurn m be T) (t : Nat) : rowB m row be (t % T) = rowB m row be t := by
  unfold rowB
  refine List.map_congr_left fun p hp => ?_
  rw [I.mod (rgI_mem hp)]
theorem rowB_add {T : Nat} (I : IsTurn m be T) (t : Nat) : rowB m row be (t + T) = rowB m row be t := by
  unfold rowB
  refine List.map_congr_left fun p hp => ?_
  rw [itr_add, (I.iff T).mp (Nat.dvd_refl T) p (rgI_mem hp)]
/-- led once more by the run -/
theorem led_rowB {n t : Nat} {vs : List Int} (hs : Stops n vs) (hl : row.length = n + 1) : ledI (rowB (n + 1) row (ledI (rgI (n + 1)) vs) t) vs = rowB (n + 1) row (ledI (rgI (n + 1)) vs) (t + 1) := by
  have pm : (ledI (rgI (n + 1)) vs).Perm (rgI (n + 1)) := ledI_perm hs (by rw [rgI_len]; omega)
  show ledI ((rgI (n + 1)).map fun p => row.getD (itr (ledI (rgI (n + 1)) vs) t p).toNat 0) vs = _
  rw [ledI_map hs (by rw [rgI_len]; omega)]
  refine row_ext (m := n + 1) (by rw [List.length_map, pm_len pm]) (rowB_len _) fun i hi => ?_
  have g := ap_get pm (x := (i : Int)) ⟨by omega, by omega⟩
  rw [Int.toNat_natCast] at g
  rw [List.getElem?_map, g, rowB_get _ hi, itr_succ]
  rfl
theorem led_once {n : Nat} {vs : List Int} (hs : Stops n vs) (hl : row.length = n + 1) : ledI row vs = rowB (n + 1) row (ledI (rgI (n + 1)) vs) 1 := by
  have := led_rowB (t := 0) hs hl
  rw [rowB_zero hl] at this
  exact this
end
/-- laid, so far: what lay at p lies where it goes -/
def LaidTo (m : Nat) (σ cur laid : List Int) (i : Nat) : Prop := laid.length = m ∧ ∀ p, p < i → ∀ q : Int, σ[p]? = some q → laid[q.toNat]? = cur[p]?
theorem LaidTo.next {m i : Nat} {σ cur laid : List Int} {q x : Int} (pm : σ.Perm (rgI m)) (L : LaidTo m σ cur laid i) (hq : σ[i]? = some q) (hx : cur[i]? = some x) : LaidTo m σ cur (laid.set q.toNat x) (i + 1) := by
  have bq := pm_at pm hq
  refine ⟨by rw [List.length_set]; exact L.1, fun p hp q' hq' => ?_⟩
  rw [List.getElem?_set]
  by_cases e : p = i
  · subst e
    rw [hq] at hq'
    cases hq'
    rw [if_pos rfl, if_pos (by rw [L.1]; omega), hx]
  · have bq' := pm_at pm hq'
    have ne : q.toNat ≠ q'.toNat := fun z => by
      have : q = q' := by omega
      subst this
      exact e (pm_inj pm hq' hq)
    rw [if_neg ne]
    exact L.2 p (by omega) q' hq'
theorem LaidTo.done {m : Nat} {be cur laid : List Int} (pm : be.Perm (rgI m)) (hl : cur.length = m) (L : LaidTo m (endsF m be) cur laid m) : laid = rowB m cur be 1 := by
  refine row_ext L.1 (rowB_len _) fun i hi => ?_
  have r := ap_in pm (x := (i : Int)) ⟨by omega, by omega⟩
  have g := ap_get pm (x := (i : Int)) ⟨by omega, by omega⟩
  have e := endsF_back pm g
  have := L.2 (ap be (i : Int)).toNat (by obtain ⟨a, b⟩ := r; omega) _ e
  simp only [Int.toNat_natCast] at this
  rw [this, rowB_get 1 hi, getD_at (by obtain ⟨a, b⟩ := r; omega)]
  rfl
end Sw
namespace Sw
open PySem PySem.Spec PyProof.Rows L2
/-! ### row[stop], row[-1] = row[-1], row[stop] -/
def tSwap (i j : Nat) : TS := fun D σ H => ∃ (l : Addr) (xs : List Int) (s : Int), σ[i]? = some (some (.ref l)) ∧ σ[j]? = some (some (.int s)) ∧ H l = some (.lst (xs.map V.int)) ∧ 0 ≤ s ∧ s < (xs.length : Int) ∧
  ∀ H', (∀ b o, H b = some o → b ≠ l → H' b = some o) → H' l = some (.lst ((stp xs s.toNat).map V.int)) → D.nx σ H'
theorem ixN_neg {n : Nat} (h : 0 < n) : ixN n (-1) = some (n - 1) := by
  unfold ixN
  rw [if_neg (by decide), if_pos (by omega)]
  congr 1
  omega
theorem ixN_pos {n : Nat} {s : Int} (h0 : 0 ≤ s) (h1 : s < (n : Int)) : ixN n s = some s.toNat := by
  unfold ixN
  rw [if_pos h0, if_pos h1]
theorem atI_neg {α : Type} {xs : List α} {v : α} (h : 0 < xs.length) (e : xs[xs.length - 1]? = some v) : atI xs (-1) = some v := by
  unfold atI
  rw [ixN_neg h]
  exact e
section
variable {X : Cx} {i j kt k2 n1 n2 : Nat} {x y : Str} {px1 px2 px3 px4 py1 py2 pn1 pn2 pu1 pu2 ps1 ps2 ps3 ps4 pt pt2 pos : Pos}
theorem ps_swap (hc : X.calm = true) (hx : ∀ p, PE X (.Name x p) (tVar i)) (hy : ∀ p, PE X (.Name y p) (tVar j)) :
    PS X (.Assign [.Tuple [.Subscript (.Name x px1) (.Name y py1) ps1, .Subscript (.Name x px2) (.UnaryOp .USub (.Constant (.int 1) n1 pn1) pu1) ps2] kt pt]
      (.Tuple [.Subscript (.Name x px3) (.UnaryOp .USub (.Constant (.int 1) n2 pn2) pu2) ps3, .Subscript (.Name x px4) (.Name y py2) ps4] k2 pt2) pos) (tSwap i j) := by
  have hw : swappedStores [.Tuple [.Subscript (.Name x px1) (.Name y py1) ps1, .Subscript (.Name x px2) (.UnaryOp .USub (.Constant (.int 1) n1 pn1) pu1) ps2] kt pt]
      (.Tuple [.Subscript (.Name x px3) (.UnaryOp .USub (.Constant (.int 1) n2 pn2) pu2) ps3, .Subscript (.Name x px4) (.Name y py2) ps4] k2 pt2) X.env = pure none := by
    unfold swappedStores
    cases h : X.env.blockKind != .function <;> simp [h] <;> rfl
  refine ⟨fun pins s σ H D I q => (ps_asg (hw := hw) (pe_tup (pa_cons (pe_ix ix_list (hx px3) (pe_un un_neg pe_int) (fun _ _ => rfl)) (pa_cons (pe_ix ix_list (hx px4) (hy py2) (fun _ _ => rfl)) pa_nil)))
    (pg_tup hc (pgs_cons (pg_sub (hx px1) (hy py1) set_list) (pgs_cons (pg_sub (hx px2) (pe_un un_neg pe_int) set_list) pgs_nil)))).run pins s σ H D I ?_⟩
  obtain ⟨l, xs, st, e1, e2, hl, s0, s1, nx⟩ := q
  have pos : 0 < (xs.map V.int).length := by rw [List.length_map]; omega
  have lx : (xs.map V.int).length = xs.length := List.length_map _
  have g1 : (xs.map V.int)[(xs.map V.int).length - 1]? = some (.int (xs.getD (xs.length - 1) 0)) := by
    rw [lx, List.getElem?_map, List.getD_eq_getElem?_getD, List.getElem?_eq_getElem (by omega)]
    rfl
  have g2 : (xs.map V.int)[st.toNat]? = some (.int (xs.getD st.toNat 0)) := by
    rw [List.getElem?_map, List.getD_eq_getElem?_getD, List.getElem?_eq_getElem (by omega)]
    rfl
  refine ⟨_, e1, 1, rfl, l, _, -1, _, rfl, rfl, SqL.of hl, atI_neg pos g1, _, e1, _, e2, l, _, st, _, rfl, rfl, SqL.of hl, at_of (j := st.toNat) (by omega) g2, by show 2 ≤ sizeLine; decide, fun T nT => ?_⟩
  have sT : Same H (upd H T (.tup [.int (xs.getD (xs.length - 1) 0), .int (xs.getD st.toNat 0)])) := fun b o e => by
    rw [upd_ne (ne_of_none e nT)]
    exact e
  have hl1 := sT _ _ hl
  refine ⟨T, _, rfl, SqT.of upd_same, rfl, _, _, rfl, _, e1, _, e2, l, _, st, st.toNat, rfl, rfl, hl1, ixN_pos s0 (by rw [lx]; exact s1), _, _, rfl, _, e1, 1, rfl, l, _, -1, xs.length - 1, rfl, rfl, upd_same, ?_, ?_⟩
  · rw [List.length_set, lx]
    exact ixN_neg (by omega)
  · refine ⟨rfl, nx _ (fun b o e n => ?_) ?_⟩
    · rw [upd_ne n, upd_ne n]
      exact sT _ _ e
    · rw [upd_same]
      unfold stp sw2
      rw [List.map_set, List.map_set]
end
end Sw
namespace Sw
open PySem PySem.Spec PyProof.Rows L2
/-- xs != [], xs a list of whatever -/
def rNeNil (K : PySem.W.Frag) : R2 := fun x y H Q => ∃ a b xs, x = .ref a ∧ y = .ref b ∧ SqL K H a xs ∧ SqL K H b [] ∧ Q (.bl (!xs.isEmpty)) H
theorem op_neNil {X : Cx} (hu : X.A.units < cLine) : OpR X (compareOp .NotEq) (rNeNil X.K) := by
  intro pins s σ H x y v u Q I rx ry h
  obtain ⟨a, b, xs, rfl, rfl, ha, hb, q⟩ := h
  cases rx
  cases ry
  obtain ⟨its, r1, p1, _⟩ := I.list ha
  obtain ⟨it2, r2, p2, _⟩ := I.list hb
  cases r2
  cases r1 with
  | nil => exact SeqAt.RcNeAt.lists (e := fun _ => true) p1.isList p2.isList rfl hu (fun j h1 _ => absurd h1 (by simp)) _ _ _ _ ⟨.bl false, H, I, rfl, q⟩
  | cons r t => exact SeqAt.RcNeAt.lists_lengths p1.isList p2.isList (by simp) hu _ _ _ _ ⟨.bl true, H, I, rfl, q⟩
theorem erase_permV {α : Type} {l : List α} {i : Nat} (h : i < l.length) : (l[i] :: l.eraseIdx i).Perm l := by
  induction l generalizing i with
  | nil => exact absurd h (Nat.not_lt_zero _)
  | cons a l ih =>
    cases i with
    | zero => exact .refl _
    | succ i =>
      have h2 : i < l.length := by simpa using h
      exact ((List.Perm.swap _ _ _).trans ((ih h2).cons a))
theorem scMixed3 : FnScope ["deck", "items", "left", "found"] ["deck", "items"] (defScope sMixed) := ⟨rfl, rfl, rfl, by decide +kernel, rfl, by decide +kernel, by decide +kernel⟩
section
variable {P : Program} {w : World} {K : PySem.W.Frag} {mg : Str → Option Value} {base : Heap}
/-- _law_draw of any number of which there are -/
def spDrawW : Sp := fun vs H Q _ => ∃ (p d : Addr) (m : Int), vs = [.ref p, .int m] ∧ Deck H p d 63 ∧ m < 1000000000000 ∧ ∀ (r : Int) (H' : Hp), 0 ≤ r → (1 ≤ m → r < m) → (m < 2 → r = 0) → Deck H' p d 63 → Kp p d H H' → Q (.int r) H'
theorem ok_drawW {f : Addr} {fd : FuncData} (F : Fun K "_law_draw" "_law_draw" sDraw f fd) (B : NoNames mg) : FnOk P w K mg base CX0 1 f fd ["deck", "many"] spDrawW := by
  refine F.ok scDraw (fun vs H Q E h => ?_) (fun cdv A outer s H vs Q E hr h => ?_)
  · obtain ⟨p, d, m, rfl, _⟩ := h
    rfl
  · obtain ⟨p, d, m, rfl, D, hm, k⟩ := h
    have hu := hu_of hr
    refine ⟨_, pss_cons (ps_if (pt_cmpR op_lt (pv 1) pe_int (nomark _)) (pss_one (ps_ret pe_int)) pss_nil)
      (pss_cons (ps_if (pt_cmpR (op_neD hr.units) (pe_dget hu (pv 0) pe_str (fun _ _ => rfl)) (pe_lst pa_nil) (nomark _))
        (pss_cons (ps_set (i := 2) scDraw.nd rfl (.inl rfl) (pe_bm0 PySem.F.plainAttrs_list PySem.F.slot_list_pop PySem.F.type_list_pop mt_pop (pe_dget hu (pv 0) pe_str (fun _ _ => rfl))))
        (pss_cons (ps_if (pt_cmpR op_ge (pv 2) (pv 1) (nomark _)) (pss_one (ps_expr (pe_bm PySem.F.plainAttrs_list PySem.F.slot_list_append PySem.F.type_list_append mt_append (pe_dget hu (pv 0) pe_str (fun _ _ => rfl)) (pa_cons (pe_op op_fdivW (pv 2) (pv 1)) pa_nil)))) pss_nil)
        (pss_one (ps_ret (pe_op op_mod (pe_callTy call_int1 (by rfl) B.int (by decide +kernel) (pa_cons (pv 2) pa_nil)) (pv 1)))))) pss_nil)
      (pss_cons (ps_set (i := 3) scDraw.nd rfl (.inl rfl) (pe_op op_mod (pe_callTy call_int1 (by rfl) B.int (by decide +kernel) (pa_cons (pe_op op_add (pe_op op_mul (pe_dget hu (pv 0) pe_str (fun _ _ => rfl)) pe_int) pe_int) pa_nil)) pe_int))
      (pss_cons (ps_dput hu (pv 0) pe_str (pv 3) rfl)
      (pss_cons (ps_set (i := 4) scDraw.nd rfl (.inl rfl) (pe_op op_mod (pe_callTy call_int1 (by rfl) B.int (by decide +kernel) (pa_cons (pe_op op_add (pe_op op_add (pe_op op_mul (pv 3) (pv 3)) (pe_op op_mul pe_int (pv 3))) pe_int) pa_nil)) pe_int))
      (pss_one (ps_ret (pe_op op_mod (pe_callTy call_int1 (by rfl) B.int (by decide +kernel) (pa_cons (pe_op op_fdiv (pv 4) pe_int) pa_nil)) (pv 1)))))))), ?_⟩
    obtain ⟨ns, st, hp, hd, hl, hn, hs1, hs2⟩ := id D.ex
    refine ⟨_, rfl, _, _, rfl, rfl, _, rfl, ?_⟩
    refine ite2 (fun z => ?_) (fun z => ?_)
    · have z : m < 2 := of_decide_eq_true z
      exact k 0 H (by decide) (fun _ => by omega) (fun _ => rfl) D .refl
    have z : ¬ m < 2 := fun q => z (decide_eq_true q)
    refine ⟨_, rfl, p, _, rfl, dget_deep hp, by show 0 ≤ sizeLine; exact Nat.zero_le _, fun e ne => ?_⟩
    have se : Same H (upd H e (.lst [])) := same_new ne
    refine ⟨.list (ns.map PyData.int), .list [], .lst (SqL.of (se _ _ hd)) (dpInts ns), .lst (SqL.of upd_same) .nil, PySem.W.ke_shaped_ints ns, rfl, _, rfl, ?_⟩
    rw [eqv_nil]
    refine ite2 (fun y => ?_) (fun y => ?_)
    · obtain ⟨n, ms, rfl, hlast, hdrop⟩ := last_ints (of_decide_eq_true y)
      have hn0 : 0 ≤ n := hn n (by simp)
      refine ⟨_, rfl, p, _, rfl, dget_deep (se _ _ hp), .inl ⟨rfl, _, SqL.of (se _ _ hd)⟩, d, _, _, rfl, rfl, se _ _ hd, hlast, ?_⟩
      rw [hdrop]
      have hpd := D.ne
      have h1 : (upd (upd H e (.lst [])) d (.lst (ms.map V.int))) p = some (.dK (deckL d st)) := by
        rw [upd_ne hpd]
        exact se _ _ hp
      have h2 : (upd (upd H e (.lst [])) d (.lst (ms.map V.int))) d = some (.lst (ms.map V.int)) := upd_same
      have h3 : Kp p d H (upd (upd H e (.lst [])) d (.lst (ms.map V.int))) := fun b o e n1 n2 => by
        rw [upd_ne n2]
        exact se _ _ e
      have hl' : ms.length + 1 ≤ 63 := by simpa using hl
      have hn' : ∀ x ∈ ms, 0 ≤ x := fun x hx => hn x (by simp [hx])
      generalize (upd (upd H e (.lst [])) d (.lst (ms.map V.int))) = H1 at h1 h2 h3 ⊢
      have D1 : Deck H1 p d 63 := ⟨ms, st, h1, h2, by omega, hn', hs1, hs2⟩
      refine ⟨_, rfl, _, rfl, _, _, rfl, rfl, _, rfl, ?_⟩
      refine ite2 (fun x => ?_) (fun x => ?_)
      · have x : m ≤ n := of_decide_eq_true x
        refine ⟨_, rfl, p, _, rfl, dget_deep h1, .inl ⟨rfl, _, SqL.of h2⟩, _, rfl, _, rfl, _, _, rfl, rfl, wide_div (b := 40) (by omega) (by omega) (by decide) (by decide), d, _, _, rfl, rfl, h2, ?_, ?_⟩
        · rw [List.length_map, sizeLine_eq]
          omega
        refine ⟨_, rfl, .inl ⟨_, rfl, _, rfl, _, _, rfl, rfl, by show 0 < m; omega, ?_⟩⟩
        refine k _ _ (Int.emod_nonneg _ (by omega)) (fun _ => Int.emod_lt_of_pos _ (by omega)) (fun y => absurd y (by omega)) ⟨ms ++ [n / m], st, ?_, ?_, ?_, ?_, hs1, hs2⟩ (h3.trans fun b o e n1 n2 => ?_)
        · rw [upd_ne hpd]
          exact h1
        · rw [upd_same, List.map_append]
          rfl
        · simp
          omega
        · intro x hx
          rcases List.mem_append.mp hx with q | q
          · exact hn' x q
          · rw [List.mem_singleton.mp q]
            exact Int.ediv_nonneg hn0 (by omega)
        · rw [upd_ne n2]
          exact e
      · refine ⟨_, rfl, .inl ⟨_, rfl, _, rfl, _, _, rfl, rfl, by show 0 < m; omega, ?_⟩⟩
        exact k _ _ (Int.emod_nonneg _ (by omega)) (fun _ => Int.emod_lt_of_pos _ (by omega)) (fun y => absurd y (by omega)) D1 h3
    · have D1 := D.same se
      generalize (upd H e (.lst [])) = H1 at se D1
      obtain ⟨ns, st, hp, hd, hl, hn, hs1, hs2⟩ := id D1.ex
      refine ⟨_, rfl, p, _, rfl, dget_state hp, _, _, rfl, rfl, .inl ⟨by omega, by omega⟩, _, _, rfl, rfl, ?_⟩
      refine .inl ⟨_, rfl, _, _, rfl, rfl, (by show (0 : Int) < 2305843009213693951; decide), ?_⟩
      dsimp only
      have o1 : 0 ≤ (st * 1181783497276652981 + 88172645463325) % 2305843009213693951 := Int.emod_nonneg _ (by decide)
      have o2 : (st * 1181783497276652981 + 88172645463325) % 2305843009213693951 < 2305843009213693951 := Int.emod_lt_of_pos _ (by decide)
      generalize (st * 1181783497276652981 + 88172645463325) % 2305843009213693951 = one at o1 o2 ⊢
      refine ⟨_, rfl, _, rfl, p, _, rfl, dput_state one hp, ?_⟩
      refine ⟨_, rfl, _, rfl, _, _, rfl, rfl, .inl ⟨by omega, by omega⟩, _, rfl, _, _, rfl, rfl, .inl ⟨by decide, by decide⟩, _, _, rfl, rfl, _, _, rfl, rfl, ?_⟩
      refine .inl ⟨_, rfl, _, _, rfl, rfl, (by show (0 : Int) < 2305843009213693921; decide), ?_⟩
      dsimp only
      generalize (one * one + 374761393 * one + 11) % 2305843009213693921 = two
      refine ⟨_, rfl, _, _, rfl, rfl, ⟨by decide, by decide⟩, ?_⟩
      refine .inl ⟨_, rfl, _, rfl, _, _, rfl, rfl, by show 0 < m; omega, ?_⟩
      refine k _ _ (Int.emod_nonneg _ (by omega)) (fun _ => Int.emod_lt_of_pos _ (by omega)) (fun y => absurd y (by omega)) ⟨ns, one, upd_same, ?_, hl, hn, o1, by omega⟩ (fun b o e n1 n2 => ?_)
      · rw [upd_ne (D1.ne).symm]
        exact hd
      · rw [upd_ne n1]
        exact se _ _ e
/-- _law_mixed of a list of whatever -/
def spMixedV : Sp := fun vs H Q _ => ∃ (p d a : Addr) (ns : List V), vs = [.ref p, .ref a] ∧ Deck H p d 63 ∧ H a = some (.lst ns) ∧ ns.length < 1000000 ∧ ∀ (r : Addr) (ms : List V) (H' : Hp), Deck H' p d 63 → Kp p d H H' → H r = none → H' r = some (.lst ms) → ms.Perm ns → Q (.ref r) H'
theorem ok_mixedV {f : Addr} {fd : FuncData} (F : Fun K "_law_mixed" "_law_mixed" sMixed f fd) (B : NoNames mg) (O : Own P w K mg base 1 "_law_draw" ["deck", "many"] spDraw) : FnOk P w K mg base CX0 2 f fd ["deck", "items"] (spMixedV) := by
  obtain ⟨fD, fdD, GD, mD, kD, bD⟩ := O.ex
  refine F.ok scMixed3 (fun vs H Q E h => ?_) (fun cdv A outer s H vs Q E hr h => ?_)
  · obtain ⟨p, d, a, ns, rfl, _⟩ := h
    rfl
  · obtain ⟨p, d, a, ns, rfl, D, ha, hl, k⟩ := h
    refine ⟨_, pss_cons (ps_par (i := 2) (j := 3) rfl scMixed3.nd rfl rfl (by decide) rfl rfl (pa_cons (pe_callTy call_list_of (by rfl) B.list (by decide +kernel) (pa_cons (pv 1) pa_nil)) (pa_cons (pe_lst pa_nil) pa_nil)) (by rfl))
      (pss_cons (ps_while PassesOwn.never (pt_cmpR (op_neNil hr.units0) (pv 2) (pe_lst pa_nil) (nomark _))
        (pss_one (ps_expr (pe_bm PySem.F.plainAttrs_list PySem.F.slot_list_append PySem.F.type_list_append mt_append (pv 3)
          (pa_cons (pe_bm PySem.F.plainAttrs_list PySem.F.slot_list_pop PySem.F.type_list_pop mt_popAt (pv 2)
            (pa_cons (pe_call GD hr rfl mD kD bD .nil pass0 (pa_cons (pv 0) (pa_cons (pe_callB call_len_seq (by rfl) B.len PySem.boot_len (pa_cons (pv 2) pa_nil)) pa_nil))) pa_nil)) pa_nil)))))
      (pss_one (ps_ret (pv 3)))), ?_⟩
    refine ⟨_, rfl, a, _, rfl, .inl (SqL.of ha), fun l nl => ⟨by show 0 ≤ sizeLine; exact Nat.zero_le _, fun g ng => ⟨_, _, rfl, ?_⟩⟩⟩
    have s1 : Same H (L2.upd H l (.lst ns)) := same_new nl
    have s2 := s1.trans (same_new (o := .lst []) ng)
    have ngl : g ≠ l := fun z => by
      rw [z, upd_same] at ng
      cases ng
    refine ⟨fun m σ H' => ∃ ls fs : List V, σ = [some (.ref p), some (.ref a), some (.ref l), some (.ref g)] ∧ Deck H' p d 63 ∧ Kp p d H H' ∧ H' l = some (.lst ls) ∧ H' g = some (.lst fs) ∧ l ≠ d ∧ g ≠ d ∧ ls.length = m ∧ (fs ++ ls).Perm ns,
      ⟨ns.length, ns, [], rfl, D.same s2, .of s2, by rw [upd_ne ngl.symm, upd_same], upd_same, (D.ne_none nl).2, (D.ne_none (s1.free ng)).2, rfl, .refl _⟩, ?_⟩
    rintro m σ H1 ⟨ls, fs, rfl, D1, k1, h1, h2, n1, n2, rfl, hpm⟩
    refine ⟨_, rfl, by show 0 ≤ sizeLine; exact Nat.zero_le _, fun e ne => ?_⟩
    have se : Same H1 (L2.upd H1 e (.lst [])) := same_new ne
    refine ⟨l, e, ls, rfl, rfl, SqL.of (se _ _ h1), SqL.of upd_same, _, rfl, ?_⟩
    have D2 := D1.same se
    have k2 := k1.trans (.of se)
    have h1' := se _ _ h1
    have h2' := se _ _ h2
    have hlen : fs.length + ls.length = ns.length := by
      rw [← hpm.length_eq, List.length_append]
    generalize (L2.upd H1 e (.lst [])) = H2 at D2 k2 h1' h2' ⊢
    refine ite2 (fun y => ?_) (fun y => ?_)
    · have y : ls ≠ [] := fun z => by rw [z] at y; cases y
      have hpos : 0 < ls.length := List.length_pos_iff.mpr y
      refine ⟨fun σ' H' => ∃ m', m' < ls.length ∧ ∃ ls fs : List V, σ' = [some (.ref p), some (.ref a), some (.ref l), some (.ref g)] ∧ Deck H' p d 63 ∧ Kp p d H H' ∧ H' l = some (.lst ls) ∧ H' g = some (.lst fs) ∧ l ≠ d ∧ g ≠ d ∧ ls.length = m' ∧ (fs ++ ls).Perm ns, fun _ _ h => h, ?_⟩
      refine ⟨_, rfl, .inl ⟨rfl, _, SqL.of h2'⟩, _, rfl, .inl ⟨rfl, _, SqL.of h1'⟩, _, rfl, _, rfl, l, ls, rfl, .inl (SqL.of h1'), p, d, (ls.length : Int), rfl, D2, ?_, fun r H3 r0 r1 r2 D3 k3 => ?_⟩
      · omega
      have h1 := k3 _ _ h1' (D2.kne h1') n1
      have h2 := k3 _ _ h2' (D2.kne h2') n2
      have np1 := D2.kne h1'
      have np2 := D2.kne h2'
      have hr : r < (ls.length : Int) := r1 (by omega)
      obtain ⟨i, rfl⟩ := Int.eq_ofNat_of_zero_le r0
      have hi : i < ls.length := by omega
      refine ⟨l, _, _, i, ls[i], rfl, rfl, h1, by omega, by omega, PySem.seqIndex_of r0 hr, ?_, ?_⟩
      · exact List.getElem?_eq_getElem hi
      refine ⟨g, fs, _, rfl, rfl, by rw [upd_ne ngl]; exact h2, ?_, ?_⟩
      · rw [sizeLine_eq]
        omega
      have le : (ls.eraseIdx i).length + 1 = ls.length := by
        rw [List.length_eraseIdx_of_lt hi]
        omega
      refine ⟨(ls.eraseIdx i).length, by omega, ls.eraseIdx i, fs ++ [ls[i]], rfl, (D3.upd np1 n1).upd np2 n2, ?_, ?_, ?_, n1, n2, rfl, ?_⟩
      · intro b o e q1 q2
        rw [upd_ne (ne_of_none e (s1.free ng)), upd_ne (ne_of_none e nl)]
        exact k3 _ _ (k2 _ _ e q1 q2) q1 q2
      · rw [upd_ne ngl.symm, upd_same]
      · exact upd_same
      · rw [List.append_assoc]
        exact ((erase_permV hi).append_left fs).trans hpm
    · have y : ls = [] := by
        cases ls with
        | nil => rfl
        | cons _ _ => exact absurd rfl y
      subst y
      rw [List.append_nil] at hpm
      exact ⟨_, rfl, k g fs H2 D2 k2 (s1.free ng) h2' hpm⟩
end
end Sw
namespace Sw
open PySem PySem.Spec PyProof.Rows L2
/-! ### t.index(x), t a tuple of whole numbers -/
def rIdxT (K : PySem.W.Frag) : V → List V → Hp → VK → Prop := fun x xs H Q => ∃ (p : Addr) (ns : List Int) (z : Int) (j : Nat), x = .ref p ∧ xs = [.int z] ∧ SqT K H p (ns.map V.int) ∧ ns[j]? = some z ∧ (∀ m, m < j → ns[m]? ≠ some z) ∧ Q (.int (j : Nat)) H
theorem mt_idxT {X : Cx} : MtR X "tuple.index" (rIdxT X.K) := by
  intro pins s σ H x xs v us Q I rx rs h
  obtain ⟨p, ys, z, j, rfl, rfl, hq, hy, hno, q⟩ := h
  cases rx
  obtain ⟨u, rfl, t, rfl⟩ := vals1 rs
  obtain ⟨its, r, pl, hz⟩ := I.tuple hq
  obtain ⟨⟨cls, dd, dt, sl⟩, ho, hc, n, hd⟩ := pl
  simp only at hc hd
  subst hc
  subst hd
  have hl : its.toArray.size = ys.length := by rw [List.size_toArray, ← r.length, List.length_map]
  have hj : j < its.toArray.size := by rw [hl]; exact (List.getElem?_eq_some_iff.mp hy).1
  have at' : ∀ (m : Nat) (hm : m < its.toArray.size), ∃ y t', ys[m]? = some y ∧ its.toArray[m] = Value.int y t' := fun m hm => by
    have hm' : m < ys.length := by rw [← hl]; exact hm
    obtain ⟨w, hw, t', hw'⟩ := r.get (i := m) (x := .int ys[m]) (by simp [hm'])
    refine ⟨ys[m], t', List.getElem?_eq_getElem hm', ?_⟩
    have e := (List.getElem?_eq_some_iff.mp hw).2
    rw [← hw', ← e]
    simp
  refine call_meets PySem.F.slot_tuple_index ⟨_, ho, rfl⟩ PySem.F.entry_tuple_index (PySem.F.args_tuple_index_2 _ _) (TI.tuple_indexAt p its.toArray n dd sl (.int z t) (eqU (.int z)) j hj ?_ ?_)
    ⟨ho, fun w hw => mem_eqAt (x := .int z) ⟨t, rfl⟩ rfl r (flat_ints ys) w (by simpa using hw), ⟨.int (j : Nat), H, I.tok _, ⟨_, rfl⟩, q⟩⟩
  · obtain ⟨y, t', h1, h2⟩ := at' j hj
    rw [hy] at h1
    cases h1
    rw [h2]
    show (z == z) = true
    exact beq_self_eq_true z
  · intro m hm hmj
    obtain ⟨y, t', h1, h2⟩ := at' m hm
    rw [h2]
    show (y == z) = false
    exact beq_eq_false_iff_ne.mpr fun e => hno m hmj (e ▸ h1)
/-! ### tuples whose own object is known -/
def TupOb (Z : Bool) (ys : List V) (ob : HO) : Prop := if Z = true then ∃ o : Obj, o.dict = none ∧ ob = .frz o (.tup ys) else ob = .tup ys
theorem TupOb.tt {ys : List V} : TupOb false ys (.tup ys) := rfl
theorem TupOb.f {ys : List V} {ob : HO} (h : TupOb false ys ob) : ob = .tup ys := h
theorem TupOb.sq {K : PySem.W.Frag} {Z : Bool} {ys : List V} {ob : HO} {H : Hp} {a : Addr} (h : TupOb Z ys ob) (e : H a = some ob) : SqT K H a ys := by
  cases Z with
  | false => exact SqT.of (by rw [e, h.f])
  | true =>
    obtain ⟨o, _, rfl⟩ := h
    exact .inl (.inr ⟨o, e⟩)
theorem TupOb.nl {Z : Bool} {ys zs : List V} {ob : HO} (h : TupOb Z ys ob) : ob ≠ .lst zs := by
  cases Z with
  | false => rw [h.f]; exact fun z => nomatch z
  | true =>
    obtain ⟨o, _, rfl⟩ := h
    exact fun z => nomatch z
/-- tuple(xs), xs a list: a new tuple, as told -/
theorem call_tupZ {X : Cx} (Z : Bool) : CallR X (.type "tuple") (fun xs H Q => ∃ p ys, xs = [.ref p] ∧ SqL X.K H p ys ∧ ∀ l ob, H l = none → TupOb Z ys ob → Q (.ref l) (upd H l ob)) := by
  intro pins s σ H xs us Q I r h
  obtain ⟨p, ys, rfl, hq, q⟩ := h
  obtain ⟨u, rfl, rx⟩ := vals1 r
  cases rx
  obtain ⟨its, r', pl, hz⟩ := I.list hq
  have hlen := r'.length
  refine call_tuple_list pl.isList (fun h' kp => ?_) (by simp only [List.size_toArray] <;> omega)
  have I1 : Inv X pins σ H { s with heap := h' } := I.kept (t' := s.toks) kp
  cases Z with
  | false =>
    have I2 : Inv X pins σ (upd H h'.objs.size (.tup ys)) { s with heap := h'.push { cls := .type "tuple", data := .seq its.toArray } } :=
      I1.laid (t' := s.toks) (fun b o e => Heap.get?_push_of_some _ e) (Nat.le_refl _) (show ObjOk X.prog X.w _ _ _ (.tup ys) from ⟨hz, its, r', IsTup.new _ _⟩)
    exact ⟨.ref h'.objs.size, _, I2, rfl, q _ _ (I1.hok.fresh (Nat.le_refl _)) rfl⟩
  | true =>
    have I2 : Inv X pins σ (upd H h'.objs.size (.frz { cls := .type "tuple", data := .seq its.toArray } (.tup ys))) { s with heap := h'.push { cls := .type "tuple", data := .seq its.toArray } } :=
      I1.laid (t' := s.toks) (fun b o e => Heap.get?_push_of_some _ e) (Nat.le_refl _) (show ObjOk X.prog X.w _ _ _ (.frz _ (.tup ys)) from ⟨Heap.get?_push_size _ rfl, hz, its, r', IsTup.new _ _⟩)
    exact ⟨.ref h'.objs.size, _, I2, rfl, q _ _ (I1.hok.fresh (Nat.le_refl _)) ⟨_, rfl, rfl⟩⟩
/-- t.index(x), t such a tuple -/
def tIdxZ (to : TE) (t : TA) : TE := fun σ H Q => to σ H fun x H1 => (∃ (p : Addr) (o : Obj) (ys : List V), x = .ref p ∧ H1 p = some (.frz o (.tup ys)) ∧ o.dict = none) ∧ t σ H1 fun xs H2 =>
  ∃ (p : Addr) (o : Obj) (ns : List Int) (z : Int) (j : Nat), x = .ref p ∧ xs = [.int z] ∧ H2 p = some (.frz o (.tup (ns.map V.int))) ∧ ns[j]? = some z ∧ (∀ m, m < j → ns[m]? ≠ some z) ∧ Q (.int (j : Nat)) H2
theorem pe_idxZ {X : Cx} {o e : Expr} {to : TE} {t : TA} {apos cpos : Pos} (ho : PE X o to) (ha : PA X [e] t)
    (hbase : attributeBase o "index" X.env (eval o X.env) = eval o X.env := by rfl)
    (hfew : ((backTo cpos (starEach [e] X.env)).all (fun x => !x.1) && (backToKw cpos (keywordEach [] X.env)).all (fun x => x.1.isSome)
      && decide ([e].length + ([] : List Keyword).length + (if ([] : List Keyword).isEmpty then 0 else 1) < 30)) = true := by rfl)
    (hline : (apos.endLine == cpos.line) = true := by rfl) (hs : starEach [e] X.env = (false, eval e X.env) :: starEach [] X.env := by rfl) (hplain : (backTo cpos (starEach [] X.env)).any (·.1) = false := by rfl) :
    PE X (.Call (.Attribute o "index" apos) [e] [] cpos) (tIdxZ to t) := by
  refine ⟨fun pins s σ H Q I h => ?_⟩
  refine wpAny_Call_method_late hbase hfew hline rfl (thn (ho.run pins s σ H _ I h) fun v s1 ⟨x, H1, I1, r1, ⟨p, ob, ys, e1, hp, hd⟩, q1⟩ => ?_)
  subst e1
  cases r1
  obtain ⟨h1, z, its, rv, ht⟩ := (show ObjOk X.prog X.w H1 s1.heap p (.frz ob (.tup ys)) from I1.hok p _ hp)
  refine ⟨"tuple", "tuple.index", PySem.F.plainAttrs_tuple, PySem.F.slot_tuple_index, PySem.F.type_tuple_index, ht.typeIs, fun a ea => ?_, ?_⟩
  · cases ea
    exact ⟨ob, h1, hd⟩
  have hA := ha.run cpos pins s1 σ H1 _ I1 q1
  rw [hs] at hA ⊢
  refine Calls.callWith_builtin (by show (false || (backTo cpos (starEach [] X.env)).any (·.1)) = false; rw [hplain] <;> rfl) (Calls.evalArgs_plain ?_)
  exact thn hA fun us s2 ⟨vs, H2, I2, r2, p', o', ns, zz, j, e1, e2, h2, h3, h4, q2⟩ => mt_idxT pins s2 σ H2 (.ref p) vs (.ref p) us Q I2 rfl r2 ⟨p', ns, zz, j, e1, e2, .inl (.inr ⟨_, h2⟩), h3, h4, q2⟩
/-! ### cuts -/
theorem cut_init {os : List Int} : cutV (os.map V.int) none (some (-1)) = os.dropLast.map V.int := by
  unfold cutV
  show ((os.map V.int).drop 0).take (((-1 : Int) + ((os.map V.int).length : Int)).toNat - 0) = _
  rw [List.drop_zero, List.length_map, List.dropLast_eq_take, List.map_take]
  congr 1
  omega
theorem not_whole {os : List Int} (h : os ≠ []) : ¬ (HT.sIx (os.map V.int).length 0 none = 0 ∧ HT.sIx (os.map V.int).length (os.map V.int).length (some (-1)) = (os.map V.int).length) := by
  rintro ⟨_, h2⟩
  have h2 : ((-1 : Int) + ((os.map V.int).length : Int)).toNat = (os.map V.int).length := h2
  rw [List.length_map] at h2
  have := List.length_pos_iff.mpr h
  omega
theorem last_at {os : List Int} {o : Int} (h : os.getLast? = some o) : atI (os.map V.int) (-1) = some (.int o) := by
  have ne : os ≠ [] := fun z => by
    rw [z] at h
    cases h
  have hl := List.length_pos_iff.mpr ne
  refine atI_neg (by rw [List.length_map]; exact hl) ?_
  rw [List.length_map, List.getElem?_map, ← List.getLast?_eq_getElem?, h]
  rfl
/-! ### done -/
abbrev sDone : Stmt := top 15
theorem scDone : FnScope ["standing", "run", "row", "stop"] ["standing", "run"] (defScope sDone) := ⟨rfl, rfl, rfl, by decide +kernel, rfl, by decide +kernel, by decide +kernel⟩
/-- a run as it lies -/
structure RunIn (H : Hp) (ru : Addr) (os : List Int) (last : Int) (m : Nat) : Prop where
  at' : H ru = some (.tup (os.map V.int))
  last : os.getLast? = some last
  stops : Stops m os
theorem RunIn.keep {H H' : Hp} {ru : Addr} {os : List Int} {last : Int} {m : Nat} (h : RunIn H ru os last m) (s : TupS H H') : RunIn H' ru os last m := ⟨s _ _ h.at', h.last, h.stops⟩
theorem RunIn.ne {H : Hp} {ru : Addr} {os : List Int} {last : Int} {m : Nat} (h : RunIn H ru os last m) : os ≠ [] := fun z => by
  have := h.last
  rw [z] at this
  cases this
theorem RunIn.init {H : Hp} {ru : Addr} {os : List Int} {last : Int} {m : Nat} (h : RunIn H ru os last m) : Stops m os.dropLast := fun o ho => h.stops o (List.dropLast_subset _ ho)
section
variable {P : Program} {w : World} {K : PySem.W.Frag} {mg : Str → Option Value} {base : Heap}
def spDone (Z : Bool) : Sp := fun vs H Q _ => ∃ (t rw ru : Addr) (x : V) (row os : List Int) (last : Int) (m : Nat), vs = [.ref t, .ref ru] ∧ H t = some (.tup [.ref rw, x]) ∧ H rw = some (.tup (row.map V.int)) ∧ RunIn H ru os last m ∧ row.length = m + 1 ∧ m ≤ 12 ∧
  ∀ q r H', Same H H' → H q = none → H r = none → H' q = some (.tup [.ref r, .int last]) → (∃ ob, H' r = some ob ∧ TupOb Z ((ledI row os.dropLast).map V.int) ob) → Q (.ref q) H'
theorem take_succ_led {row os : List Int} {i : Nat} {o : Int} (h : os[i]? = some o) : ledI row (os.take (i + 1)) = stp (ledI row (os.take i)) o.toNat := by
  rw [List.take_add_one, h]
  exact ledI_snoc row (os.take i) o
theorem ok_done (Z : Bool) {f : Addr} {fd : FuncData} (F : Fun K "done" "done" sDone f fd) (B : NoNames mg) : FnOk P w K mg base CX0 1 f fd ["standing", "run"] (spDone Z) := by
  refine F.ok scDone (fun vs H Q E h => ?_) (fun cdv A outer s H vs Q E hr h => ?_)
  · obtain ⟨t, rw_, ru, x, row, os, last, m, rfl, _⟩ := h
    rfl
  · obtain ⟨t, rw_, ru, x, row, os, last, m, rfl, ht, hrw, R, hl, hm, k⟩ := h
    refine ⟨_, pss_cons (ps_set (i := 2) scDone.nd rfl (.inl rfl) (pe_callTy call_list_of (by rfl) B.list (by decide +kernel) (pa_cons (pe_ix ix_tup (pv 0) pe_int (fun _ _ => rfl)) pa_nil))) <|
      pss_cons (ps_for PassesOwn.never rfl (pi_tup (pe_slice sl_tupA (pv 1) po_none (po_some (pe_un un_neg pe_int)))) (pg_name (i := 3) scDone.nd rfl (.inl rfl)) (pss_one (ps_swap rfl (fun _ => pv 2) (fun _ => pv 3)))) <|
      pss_one (ps_ret (pe_tup (pa_cons (pe_callTy (call_tupZ Z) (by rfl) B.tuple (by decide +kernel) (pa_cons (pv 2) pa_nil)) (pa_cons (pe_ix ix_tup (pv 1) (pe_un un_neg pe_int) (fun _ _ => rfl)) pa_nil)))), ?_⟩
    refine ⟨_, rfl, t, _, 0, .ref rw_, rfl, rfl, SqT.of ht, at_of (j := 0) rfl rfl, rw_, _, rfl, .inr (SqT.of hrw), fun l nl => ?_⟩
    have s1 : Same H (upd H l (.lst (row.map V.int))) := same_new nl
    refine ⟨_, rfl, 1, rfl, -1, rfl, ru, _, rfl, SqT.of (s1 _ _ R.at'), fun z => absurd z (not_whole R.ne), fun _ c nc => ?_⟩
    rw [cut_init]
    have s2 := s1.trans (same_new (o := .tup (os.dropLast.map V.int)) nc)
    have lc : l ≠ c := fun z => by
      rw [← z, upd_same] at nc
      cases nc
    refine ⟨c, rfl, ⟨_, SqT.of upd_same⟩, ?_⟩
    have hc : (upd (upd H l (.lst (row.map V.int))) c (.tup (os.dropLast.map V.int))) c = some (.tup (os.dropLast.map V.int)) := upd_same
    have hl2 : (upd (upd H l (.lst (row.map V.int))) c (.tup (os.dropLast.map V.int))) l = some (.lst (row.map V.int)) := by rw [upd_ne lc, upd_same]
    generalize (upd (upd H l (.lst (row.map V.int))) c (.tup (os.dropLast.map V.int))) = H2 at s2 hc hl2 ⊢
    refine for_it (walk_tup (xs := os.dropLast.map V.int)) (fun i σ H' => ∃ s3, σ = [some (.ref t), some (.ref ru), some (.ref l), s3] ∧ Same H H' ∧ H' c = some (.tup (os.dropLast.map V.int)) ∧ H' l = some (.lst ((ledI row (os.dropLast.take i)).map V.int)))
      ⟨none, rfl, s2, hc, hl2⟩ (fun i σ H' _ h => by obtain ⟨_, _, _, h, _⟩ := h; exact SqT.of h) ?_ ?_
    · rintro i y σ H3 H4 hi ⟨s3, rfl, sm, hc3, hl3⟩ ⟨rfl, ey⟩
      obtain ⟨o, eo, rfl⟩ := int_at ey
      have bo := R.init o (List.mem_of_getElem? eo)
      refine ⟨l, _, o, rfl, rfl, hl3, bo.1, by rw [ledI_len]; omega, fun H5 keep h5 => ⟨_, rfl, fun b o' e => keep b o' (sm _ _ e) (ne_of_none e nl), keep _ _ hc3 lc.symm, ?_⟩⟩
      rw [take_succ_led eo]
      exact h5
    · rintro σ H3 ⟨s3, rfl, sm, hc3, hl3⟩
      rw [List.length_map, List.take_length] at hl3
      refine ⟨_, rfl, l, _, rfl, SqL.of hl3, fun r ob nr hob => ?_⟩
      have s4 := sm.trans (same_new (o := ob) nr)
      refine ⟨_, rfl, 1, rfl, ru, _, -1, .int last, rfl, rfl, SqT.of (s4 _ _ R.at'), last_at R.last, by show 2 ≤ sizeLine; decide, fun q nq => ?_⟩
      have s5 := s4.trans (same_new (o := .tup [.ref r, .int last]) nq)
      exact k q r _ s5 (s4.free nq) (sm.free nr) upd_same ⟨ob, same_new nq _ _ upd_same, hob⟩
/-! ### goes -/
abbrev sGoes : Stmt := top 16
abbrev nGoes : List Str := ["n", "run", "row", "place"]
theorem scGoes : FnScope nGoes ["n", "run"] (defScope sGoes) := ⟨rfl, rfl, rfl, by decide +kernel, rfl, by decide +kernel, by decide +kernel⟩
def spGoes : Sp := fun vs H Q _ => ∃ (ru : Addr) (os : List Int) (last : Int) (m : Nat), vs = [.int m, .ref ru] ∧ RunIn H ru os last m ∧ m ≤ 12 ∧
  ∀ q H', Same H H' → H q = none → H' q = some (.tup ((endsF (m + 1) (ledI (rgI (m + 1)) os.dropLast)).map V.int)) → Q (.ref q) H'
theorem first_none {l : List Int} {z : Int} {m : Nat} (nd : l.Nodup) (hz : z ∈ l) (h : m < l.idxOf z) : l[m]? ≠ some z := fun e => by
  have := idx_at nd e
  omega
theorem ok_goes {f : Addr} {fd : FuncData} (F : Fun K "goes" "goes" sGoes f fd) (B : NoNames mg) (O : Own P w K mg base 1 "done" ["standing", "run"] (spDone true)) : FnOk P w K mg base CX0 2 f fd ["n", "run"] spGoes := by
  obtain ⟨fD, fdD, GD, mD, kD, bD⟩ := O.ex
  refine F.ok scGoes (fun vs H Q E h => ?_) (fun cdv A outer s H vs Q E hr h => ?_)
  · obtain ⟨ru, os, last, m, rfl, _⟩ := h
    rfl
  · obtain ⟨ru, os, last, m, rfl, R, hm, k⟩ := h
    refine ⟨_, pss_cons (ps_set (i := 2) scGoes.nd rfl (.inr rfl) (pe_ix ix_tup (pe_call GD hr rfl mD kD bD .nil pass0 (pa_cons (pe_tup (pa_cons (pe_tupRg rfl (by rfl) B.tuple (prg_1 (by rfl) B.range (pe_op op_add (pv 0) pe_int))) (pa_cons (pe_ix ix_tup (pv 1) pe_int (fun _ _ => rfl)) pa_nil))) (pa_cons (pv 1) pa_nil))) pe_int (fun _ _ => rfl))) <|
      pss_one (ps_ret (pe_callTy call_tuple_of (by rfl) B.tuple (by decide +kernel) (pa_cons (pe_lc (own := [("place", 3)]) (g := gName 3) (tt := tYes) (te := tIdxZ (tVar 2) (tCons (tVar 3) tNil)) rfl scGoes.nd (pi_range1 (by rfl) B.range (pa_cons (pe_op op_add (pv 0) pe_int) pa_nil)) (blkOk_by (own := [("place", 3)]) (N := nGoes) (sc := defScope sGoes) (by decide +kernel))
        (fun _ _ _ _ _ => pg_name (i := 3) scGoes.nd rfl (Or.inl rfl)) (fun _ _ _ _ _ => pts_nil) (fun _ _ _ _ _ => pe_idxZ (pv 2) (pa_cons (pv 3) pa_nil))) pa_nil))), ?_⟩
    have en : (m : Int) + 1 = ((m + 1 : Nat) : Int) := by omega
    obtain ⟨o0, h0⟩ : ∃ o0, os[0]? = some o0 := ⟨_, List.getElem?_eq_getElem (List.length_pos_iff.mpr R.ne)⟩
    refine ⟨_, rfl, _, _, rfl, rfl, (m : Int) + 1, rfl, RgOk.of_le (by decide) (by omega) (by decide) (by omega), fun a na => ?_⟩
    rw [en, rgV_rgI]
    have s1 : Same H (upd H a (.tup ((rgI (m + 1)).map V.int))) := same_new na
    refine ⟨_, rfl, ru, _, 0, .int o0, rfl, rfl, SqT.of (s1 _ _ R.at'), at_of (j := 0) rfl (by rw [List.getElem?_map, h0]; rfl), by show 2 ≤ sizeLine; decide, fun t nt => ?_⟩
    have s2 := s1.trans (same_new (o := .tup [.ref a, .int o0]) nt)
    refine ⟨_, rfl, t, a, ru, .int o0, rgI (m + 1), os, last, m, rfl, upd_same, same_new nt _ _ upd_same, R.keep (.of s2), rgI_len _, hm, fun q r H3 s3 nq nr hq ⟨ob, hr3, hob⟩ => ?_⟩
    obtain ⟨o, od, rfl⟩ := hob
    have pmB : (ledI (rgI (m + 1)) os.dropLast).Perm (rgI (m + 1)) := ledI_perm R.init (by rw [rgI_len]; omega)
    generalize (ledI (rgI (m + 1)) os.dropLast) = be at pmB hr3 k ⊢
    have s4 := s2.trans s3
    refine ⟨q, _, 0, .ref r, rfl, rfl, SqT.of hq, at_of (j := 0) rfl rfl, ?_⟩
    refine ⟨_, rfl, _, _, rfl, rfl, (m : Int) + 1, rfl, by omega, by omega, fun D nD => ?_⟩
    refine lc_it walk_range (fun i H' => H' D = some (.lst (((endsF (m + 1) be).take i).map V.int)) ∧ Same H H' ∧ H' r = some (.frz o (.tup (be.map V.int)))) ⟨by rw [upd_same]; rfl, s4.trans (same_new nD), same_new nD _ _ hr3⟩ (fun _ _ _ _ => trivial) ?_ ?_
    · rintro i x Hb Ha hj ⟨h1, h2, h3⟩ ⟨rfl, rfl⟩
      have hi : i < m + 1 := by omega
      have zin : (i : Int) ∈ be := pmB.mem_iff.mpr (rgI_in (by omega) (by omega))
      refine ⟨rfl, ?_⟩
      refine ⟨_, rfl, ⟨r, o, _, rfl, h3, od⟩, _, rfl, r, o, be, 0 + (i : Int), be.idxOf (i : Int), rfl, rfl, h3, by rw [Int.zero_add]; exact idx_get zin, fun j hj => by rw [Int.zero_add]; exact first_none (pm_nd pmB) zin hj, _, h1, ?_, ?_, ?_, ?_⟩
      · rw [List.length_map, List.length_take, endsF_len, sizeLine_eq]
        omega
      · rw [upd_same, List.take_add_one, endsF_get be hi, List.map_append]
        rfl
      · intro b o e
        rw [upd_ne (ne_of_none e (s4.free nD))]
        exact h2 _ _ e
      · rw [upd_ne (by intro z; rw [z, h1] at h3; cases h3)]
        exact h3
    · rintro Ha ⟨h1, h2, h3⟩
      have e1 : ((m : Int) + 1).toNat = m + 1 := by omega
      rw [e1, List.take_of_length_le (by rw [endsF_len]; exact Nat.le_refl _)] at h1
      refine ⟨D, _, rfl, .inl ⟨SqL.of h1, fun T nT => ?_⟩⟩
      exact k T _ (h2.trans (same_new nT)) (h2.free nT) upd_same
end
end Sw
namespace Sw
open PySem PySem.Spec PyProof.Rows L2
section
variable {X : Cx} {CX : CXT} {k : Nat} {f : Addr} {fd : FuncData} {ps ks : List Str} {sp : Sp} {E : XK} {x : Str} {p pos : Pos} {kws : List Keyword} {tk : TA} {g : List Value → List Value → List Value} {gV : List V → List V → List V}
/-- f(k = v): words alone -/
theorem pe_callW (F : FnOk X.prog X.w X.K X.mg X.base CX k f fd ps sp) (hr : Room k X.A) (hg : Gl X x) (hm : X.mg x = some (.ref f)) (hk : PySem.W.keepIn X.K (.ref f) = true) (hb : KBinds X.K fd ps ks g gV) (hx : Passes CX X E)
    (hkw : PK X kws tk) (hall : (backToKw pos (keywordEach kws X.env)).all (·.1.isSome) = true := by rfl) (hks : (backToKw pos (keywordEach kws X.env)).filterMap (·.1) = ks := by rfl)
    (hdb : (x == ("__debug__" : Str)) = false := by decide)
    (hpl : ((backTo pos (starEach [] X.env)).any (·.1) || (backToKw pos (keywordEach kws X.env)).any (·.1.isNone)) = false := by rfl) :
    PE X (.Call (.Name x p) [] kws pos) (fun σ H Q => tk σ H fun zs H2 => sp (gV [] zs) H2 Q E) := by
  refine ⟨fun pins s σ H Q I h => wpAny_Call_Name_kw (ld_glob I hg hm ?_ hdb)⟩
  refine PySem.W.callWith_KW0 (first := []) (h₀ := X.base) I.ok.mod.kin hk hall (thn (hkw.run pos pins s σ H _ I h) fun ws s2 ⟨zs, H2, I2, rz, q2⟩ => ⟨I2.kIn, ?_⟩) hpl
  rw [hks]
  exact run_fnk (us := []) F hr hb hx I2 .nil rz q2
end
/-- a new list of two things -/
theorem rep_pair {K : PySem.W.Frag} {H : Hp} {L : Addr} {r r' : D} {v v' : V} {bs bs' : List Addr} (h : Rep K H r v bs) (h' : Rep K H r' v' bs') (nL : H L = none) : ∃ as, Rep K (upd H L (.lst [v, v'])) (.lst [r, r']) (.ref L) as := by
  have ra : RepAll K H [r, r'] [v, v'] (bs ++ (bs' ++ [])) := by
    rw [RepAll]
    refine ⟨_, _, bs, bs' ++ [], rfl, h, ?_, rfl⟩
    rw [RepAll]
    exact ⟨_, _, bs', [], rfl, h', by simp [RepAll], rfl⟩
  refine ⟨L :: (bs ++ (bs' ++ [])), ?_⟩
  rw [Rep]
  exact ⟨L, _, _, rfl, upd_same, ra.same (same_new nL), nmem ra nL, rfl⟩
theorem same_str {x y : Str} (h : x = y) : (!decide (V.str x = V.str y)) = false := by
  rw [h, decide_eq_true rfl]
  rfl
def spLaw (K : PySem.W.Frag) : Sp := fun vs H Q _ => ∃ (a : Addr) (ns : List Int), vs = [.ref a] ∧ SqL K H a (ns.map V.int) ∧ ns.length ≤ 63 ∧ ∀ H', Q (.bl true) H'
section
variable {P : Program} {w : World} {K : PySem.W.Frag} {mg : Str → Option Value} {base : Heap}
/-- one call of a def of the text, what is around it given -/
theorem run_def {x qual : Str} {st : Stmt} {f : Addr} {fd : FuncData} {N ps : List Str} {k : Nat} {A : Around} {outer : List Env} {s : Shared} {H : Hp} {args : Args} {us : List Value} {vs : List V} {Q : VK} {E : XK} (F : Fun K x qual st f fd) (S : FnScope N ps (defScope st))
    (rm : Room (k + 1) A) (ev : Env0 P w K mg base A outer s H) (hb : BindsTo s fd args (ps.zip us)) (rv : Vals vs us) (hl : vs.length = ps.length)
    (body : ∀ cdv : Value, ∃ t, PSs (cxOf CX0 P w K mg base N qual (defScope st) f cdv A outer s H E).nox (defBody st) t ∧ t { nx := fun _ H' => Q .non H', rt := Q } (start N vs) H) :
    codeAny (model P w) A (.call (.ref f) args) (CR CX0 outer P w H s Q E) s := by
  obtain ⟨oc, od, kV, doc, pm, an, cdv, ct, osl, rfl, lk, hcd⟩ := F.ex
  have kin : K.In s.heap := ev.mod.kin.keeps fun b o z => (ev.bs b o z).1
  have nolim : s.heap.NoLimit := ev.mod.nolimit.keeps fun b o z => (ev.bs b o z).1
  have kinds : ∀ y ∈ ps.zip us, (defScope st).names.lookup y.1 = some .local ∨ ((defScope st).names.lookup y.1 = some .cell ∧ ((cellsFrom (s.heap.objs.size + 1) (defScope st).names []).lookup y.1).isSome = true) := by
    rintro ⟨n, v⟩ hy
    exact (S.par n (List.of_mem_zip hy).1).elim .inl fun q => .inr ⟨q, PySem.W.cellsFrom_some _ _ _ (.inl q)⟩
  refine codeAny_call_function rm.depth (kin _ _ lk) rfl S.co S.gen rfl (PySem.W.codeRec_of kin hcd) (hb _ _ _ _ (wpAny_newFunctionEnv_cells S.kind kinds fun env he s1 ic => ?_))
  subst he
  obtain ⟨t, ht, hq⟩ := body cdv
  have inv := inv_start S rm.hd ev hl rv ic (CX := CX0) (P := P) (w := w) (E := E)
  refine ⟨nolim.keeps ic.toInCall.keep, codeAny_func (wpAny_mono (ht.nox.run [] s1 (start N vs) H _ inv hq) (fun fl s' hs => ?_) fun _ _ hs => hs)⟩
  cases fl with
  | next =>
    obtain ⟨_, H', J, q⟩ := hs
    exact ⟨V.non, H', J.os, J.bare, J.base, J.hok, (rfl : RelV V.non Value.none), q⟩
  | ret u =>
    obtain ⟨v, _, H', J, ru, q⟩ := hs
    exact ⟨v, H', J.os, J.bare, J.base, J.hok, ru, q⟩
  | brk =>
    obtain ⟨_, _, _, q⟩ := hs
    cases q
  | cont =>
    obtain ⟨_, _, _, q⟩ := hs
    cases q
end
/-- the script alone is known -/
def scriptH (a : Addr) (o : Obj) (ns : List Int) : Hp := fun b => if b = a then some (.frz o (.lst (ns.map V.int))) else none
theorem scriptH_at {a : Addr} {o : Obj} {ns : List Int} : scriptH a o ns a = some (.frz o (.lst (ns.map V.int))) := if_pos rfl
theorem scriptH_ne {a b : Addr} {o : Obj} {ns : List Int} (h : b ≠ a) : scriptH a o ns b = none := if_neg h
/-- the law's call, at the heap behind the top -/
theorem call_law {P : Program} {w : World} {K : PySem.W.Frag} {mg mb : Str → Option Value} {fa a : Addr} {s₁ : Shared} {vs : List Value} {ns : List Int} (kin : K.In s₁.heap) (hmg : s₁.heap.Ns mainGlobals mg) (hmb : s₁.heap.Ns builtinsNs mb)
    (hboot : ∀ x : Str, x ≠ "__name__" → mb x = bootBuiltins x) (nolim : s₁.heap.NoLimit) (hgen : s₁.gens = #[])
    (ha : s₁.heap.get? a = some { cls := .type "list", data := .seq vs.toArray }) (hi : IntsAre vs ns) (hlen : ns.length ≤ 63)
    (run : ∀ (base : Heap) (H : Hp), K.In base → base.Ns mainGlobals mg → Env0 P w K mg base callerA [] s₁ H → SqL K H a (ns.map V.int) →
      codeAny (model P w) callerA (.call (.ref fa) ⟨[.ref a], []⟩) (CR CX0 [] P w H s₁ (fun v _ => v = .bl true) fun _ _ _ => False) s₁) :
    codeAny (model P w) callerA (.call (.ref fa) ⟨[.ref a], []⟩) (fun r s' => r = .ok (.ret (.bool true)) ∧ OldK s₁.heap s'.heap ∧ s'.os = s₁.os ∧ AllBare s'.gens) s₁ := by
  have rv := vals_ints hi
  have le63 : ns.length ≤ sizeLine := by
    rw [sizeLine_eq]
    omega
  have go : ∀ H : Hp, (∀ b, H b ≠ none → b = a ∧ K.lookup a = none ∧ H a = some (.frz { cls := .type "list", data := .seq vs.toArray } (.lst (ns.map V.int)))) → SqL K H a (ns.map V.int) →
      codeAny (model P w) callerA (.call (.ref fa) ⟨[.ref a], []⟩) (fun r s' => r = .ok (.ret (.bool true)) ∧ OldK s₁.heap s'.heap ∧ s'.os = s₁.os ∧ AllBare s'.gens) s₁ := by
    intro H only sq
    have plain : ∀ {b : Addr} {o : Obj} {es : Array DictEntry} {ep : Nat}, s₁.heap.get? b = some o → o.data = .dict es ep → H b = none := by
      intro b o es ep e dd
      refine Classical.byContradiction fun q => ?_
      obtain ⟨rfl, _⟩ := only b q
      rw [ha] at e
      cases e
      exact nomatch dd
    have spaces : ∀ {b : Addr} {m : Str → Option Value}, s₁.heap.Ns b m → (hidT s₁.heap H).Ns b m := by
      rintro b m ⟨o, es, ep, e, dd, r⟩
      exact ⟨o, es, ep, hidT_get e (plain e dd), dd, r⟩
    have kin' : K.In (hidT s₁.heap H) := by
      intro b o e
      refine hidT_get (kin b o e) (Classical.byContradiction fun q => ?_)
      obtain ⟨rfl, n, _⟩ := only b q
      rw [n] at e
      cases e
    have hok : HOk P w H s₁.heap := by
      intro b u e
      obtain ⟨rfl, _, q⟩ := only b (by rw [e]; exact fun z => nomatch z)
      rw [q] at e
      cases e
      exact ⟨ha, by rw [List.length_map]; exact le63, vs, _, rv, ha⟩
    obtain ⟨ml, l1, l2⟩ := nolim
    have ev : Env0 P w K mg (hidT s₁.heap H) callerA [] s₁ H :=
      ⟨rfl, ⟨kin', spaces hmg, ⟨mb, spaces hmb, hboot⟩, ⟨ml, spaces l1, l2⟩⟩, fun _ _ z => of_hidT z, Nat.le_of_eq (hidT_size _ _), trivial, fun b z => (by cases z), hok, .of_eq hgen⟩
    refine codeAny_mono (run _ H kin' (spaces hmg) ev sq) fun r s' hr => ?_
    rcases r with e | fl
    · exact False.elim hr
    rcases fl with _ | _ | _ | u
    all_goals first | exact False.elim hr | skip
    obtain ⟨v, H', os, bare, un, hok', ru, rfl⟩ := hr
    obtain rfl : u = Value.bool true := ru
    refine ⟨rfl, OldK.of_keep fun b o e => ?_, os, bare⟩
    cases q : H b with
    | none => exact un.keep b o e q (fun z => by cases z) (fun z => by simp at z)
    | some y =>
      obtain ⟨rfl, _, q2⟩ := only b (by rw [q]; exact fun z => nomatch z)
      have old := (hok _ _ q2).1
      have new := (hok' _ _ (un.frzs _ _ _ q2)).1
      rw [e] at old
      cases old
      exact new
  cases z : K.lookup a with
  | none =>
    refine go (scriptH a { cls := .type "list", data := .seq vs.toArray } ns) (fun b q => ?_) (.inl (.inr ⟨_, scriptH_at⟩))
    by_cases e : b = a
    · exact ⟨e, z, scriptH_at⟩
    · exact absurd (scriptH_ne e) q
  | some o =>
    have e := kin a o z
    rw [ha] at e
    cases e
    exact go (fun _ => none) (fun _ q => absurd rfl q) (.inr ⟨_, vs.toArray, _, z, rfl, rfl, rfl, by rw [List.size_toArray, hi.length]; exact le63, by simpa using rv⟩)
/-- a def of the text stands behind the top by its name -/
def Has (K : PySem.W.Frag) (mg : Str → Option Value) (x : Str) (st : Stmt) : Prop := ∃ f fd, Fun K x x st f fd ∧ mg x = some (.ref f)
section
variable {P : Program} {w : World} {K : PySem.W.Frag} {mg : Str → Option Value} {h : Heap}
theorem has_mk {x : Str} {st : Stmt} {f : Addr} {oc kV dc pm cd ct : Value} {od an : Option Addr} {sl : Array (Option Value)} (X : K.In h) (G : h.Ns mainGlobals mg) (a : PySem.W.nsIn K mainGlobals x = some (some (.ref f)))
    (l : K.lookup f = some ⟨oc, od, .func (PySem.W.fnOf x x (defArgs st) (defBody st) (defScope st) .none kV dc pm an cd ct), sl⟩) (c : PySem.W.codeIn K cd x = true) (k : PySem.W.keepIn K (.ref f) = true) : Has K mg x st :=
  ⟨f, _, fun_mk l c k, PySem.W.mg_of X G a⟩
/-- the def that it is: one promise, from the def's own theorem -/
theorem Has.own {base : Heap} {k : Nat} {x : Str} {st : Stmt} {ps : List Str} {sp : Sp} (hs : Has K mg x st) (ok : ∀ f fd, Fun K x x st f fd → FnOk P w K mg base CX0 k f fd ps sp)
    (b : ∀ (kV doc pm : Value) (an : Option Addr) (cdv ct : Value) (us : List Value), us.length = ps.length → bindArgs (PySem.W.fnOf x x (defArgs st) (defBody st) (defScope st) .none kV doc pm an cdv ct) ⟨us, []⟩ = pure (ps.zip us)) : Own P w K mg base k x ps sp := by
  obtain ⟨f, fd, F, m⟩ := hs
  exact ⟨f, fd, ok f fd F, m, F.kp, F.binds b⟩
/-- the end of the row, from what the top has written -/
theorem walk_law {l : PySem.W.OpenLaw} {q : Program} {loose : List Str} {XP : (Str → Option Value) → Heap → Prop} {YP : World → Heap → Prop} {d : DefRec} {K : Params → PySem.W.Frag} (hn : l.most = some 63) (hdf : d.params.defaults = [])
    (hY : ∀ (w : World) (h : Heap), YP w h → (K w.params).In h)
    (F : ∀ (w : World) (mg : Str → Option Value) (fa : Addr) (h : Heap), (K w.params).In h → h.Ns mainGlobals mg → mg d.name = some (.ref fa) →
      ∀ (base : Heap) (s₁ : Shared) (H : Hp) (a : Addr) (ns : List Int), Env0 l.prog w (K w.params) mg base callerA [] s₁ H → SqL (K w.params) H a (ns.map V.int) → ns.length ≤ 63 →
        codeAny (model l.prog w) callerA (.call (.ref fa) ⟨[.ref a], []⟩) (CR CX0 [] l.prog w H s₁ (fun v _ => v = .bl true) fun _ _ _ => False) s₁) :
    PySem.W.WalkO q loose XP YP l.row.toRowW d [] (fun f vs => PySem.call f vs) := by
  refine Att.attach_call hn hdf fun w s₀ s₁ mg mb fa o pm cd doc a vs ns G Y _ _ _ hmg hobj hints hlen hg => ?_
  exact call_law (hY w _ Y) G.T.g G.T.b G.T.builtins G.T.nolimit hg hobj hints hlen fun base H _ _ ev sq => F w mg fa _ (hY w _ Y) G.T.g hmg base s₁ H a ns ev sq hlen
end
end Sw
namespace Sw
open PySem PySem.Spec PyProof.Rows L2
/-! ### defs that call repr: what is around them guards nothing -/
structure FnG (P : Program) (w : World) (K : PySem.W.Frag) (mg : Str → Option Value) (base : Heap) (k : Nat) (f : Addr) (fd : FuncData) (ps : List Str) (sp : Sp) : Prop where
  len : ∀ vs H Q E, sp vs H Q E → vs.length = ps.length
  run : ∀ (A : Around) (outer : List Env) (s : Shared) (H : Hp) (args : Args) (us : List Value) (vs : List V) (Q : VK) (E : XK), Room k A → A.guards = some [] → Env0 P w K mg base A outer s H → BindsTo s fd args (ps.zip us) → Vals vs us → sp vs H Q E →
    codeAny (model P w) A (.call (.ref f) args) (CR CX0 outer P w H s Q E) s
section
variable {P : Program} {w : World} {K : PySem.W.Frag} {mg : Str → Option Value} {base : Heap}
theorem Fun.okG {x qual : Str} {st : Stmt} {f : Addr} {fd : FuncData} {N ps : List Str} {k : Nat} {sp : Sp} (F : Fun K x qual st f fd) (S : FnScope N ps (defScope st)) (len : ∀ vs H Q E, sp vs H Q E → vs.length = ps.length)
    (walk : ∀ (cdv : Value) (A : Around) (outer : List Env) (s : Shared) (H : Hp) (vs : List V) (Q : VK) (E : XK), Room k (A.deeper (envOfC qual (defScope st) s.heap.objs.size f cdv)) → (A.deeper (envOfC qual (defScope st) s.heap.objs.size f cdv)).guards = some [] → sp vs H Q E →
      ∃ t, PSs (cxOf CX0 P w K mg base N qual (defScope st) f cdv A outer s H E).nox (defBody st) t ∧ t { nx := fun _ H' => Q .non H', rt := Q } (start N vs) H) : FnG P w K mg base (k + 1) f fd ps sp :=
  ⟨len, fun A outer s H args us vs Q E hr hg ev hb rv h => run_def F S hr ev hb rv (len _ _ _ _ h) fun cdv => walk cdv A outer s H vs Q E (hr.deeper _) hg h⟩
/-- such a def of one's own, by its name -/
structure OwnG (P : Program) (w : World) (K : PySem.W.Frag) (mg : Str → Option Value) (base : Heap) (k : Nat) (x : Str) (ps : List Str) (sp : Sp) : Prop where
  ex : ∃ f fd, FnG P w K mg base k f fd ps sp ∧ mg x = some (.ref f) ∧ PySem.W.keepIn K (.ref f) = true ∧ Binds K fd ps []
theorem Has.ownG {x : Str} {st : Stmt} {k : Nat} {ps : List Str} {sp : Sp} (h : Has K mg x st) (ok : ∀ f fd, Fun K x x st f fd → FnG P w K mg base k f fd ps sp)
    (b : ∀ (kV doc pm : Value) (an : Option Addr) (cdv ct : Value) (us : List Value), us.length = ps.length → bindArgs (PySem.W.fnOf x x (defArgs st) (defBody st) (defScope st) .none kV doc pm an cdv ct) ⟨us, []⟩ = pure (ps.zip us)) : OwnG P w K mg base k x ps sp := by
  obtain ⟨f, fd, F, m⟩ := h
  exact ⟨f, fd, ok f fd F, m, F.kp, F.binds b⟩
end
section
variable {X : Cx} {k : Nat} {f : Addr} {fd : FuncData} {ps : List Str} {sp : Sp} {E : XK} {x : Str} {p pos : Pos} {e : Expr} {es : List Expr} {t : TA}
theorem pe_callG (F : FnG X.prog X.w X.K X.mg X.base k f fd ps sp) (hr : Room k X.A) (hgd : X.A.guards = some []) (hg : Gl X x) (hm : X.mg x = some (.ref f)) (hk : PySem.W.keepIn X.K (.ref f) = true) (hb : Binds X.K fd ps []) (hx : Passes CX0 X E)
    (ha : PA X (e :: es) t) (hdb : (x == ("__debug__" : Str)) = false := by decide) (he : starEach (e :: es) X.env = (false, eval e X.env) :: starEach es X.env := by rfl) (hpl : (backTo pos (starEach es X.env)).any (·.1) = false := by rfl) :
    PE X (.Call (.Name x p) (e :: es) [] pos) (tCall sp [] E t) := by
  refine ⟨fun pins s σ H Q I h => wpAny_Call_Name_kw (ld_glob I hg hm ?_ hdb)⟩
  refine PySem.W.callWith_K (h₀ := X.base) I.ok.mod.kin hk (thn (ha.run pos pins s σ H _ I h) fun us s1 ⟨vs, H1, I1, r, q⟩ => ⟨I1.kIn, ?_⟩) he hpl
  have q : sp (vs ++ []) H1 Q E := q
  rw [List.append_nil] at q
  have hl : us.length = ps.length := by
    rw [← r.length]
    exact F.len _ _ _ _ q
  have b := hb s1 us I1.kIn (by rw [List.append_nil]; exact hl)
  rw [List.append_nil] at b
  refine wpAny_call (codeAny_mono (F.run X.A X.stack s1 H1 ⟨us, []⟩ us vs Q E hr hgd I1.env0 b r q) fun r s' hq => ?_)
  rcases r with e | fl
  · exact hx pins σ H1 s1 e s' I1 hq
  rcases fl with _ | _ | _ | u
  all_goals first | exact hq.elim | skip
  exact I1.after hq
/-- repr(t), t a tuple of data -/
def rReprT (K : PySem.W.Frag) : List V → Hp → VK → Prop := fun xs H Q => ∃ x ds as, xs = [x] ∧ Rep K H (.tup ds) x as ∧ smallAll ds ∧ wtAll ds ≤ 10000000 ∧ depAll ds ≤ 30 ∧ Q (.str (shown (.tup ds))) H
theorem call_reprT {X : Cx} {k : Nat} (hr : Room k X.A) (hg : X.A.guards = some []) : CallR X (.builtin "repr") (rReprT X.K) := by
  intro pins s σ H xs us Q I r h
  obtain ⟨x, ds, as, rfl, hd, sm, z, dp, q⟩ := h
  obtain ⟨u, rfl, hu⟩ := vals1 r
  have un := hr.units
  have hz : wt (.tup ds) ≤ sizeLine := by
    rw [sizeLine_eq]
    simp only [wt]
    omega
  have hsh : (tupleText (shownAll ds)).length ≤ sizeLine := by
    have h1 := shown_wt (.tup ds)
    simp only [shown] at h1
    omega
  simp only [Rep] at hd
  obtain ⟨a, ys, bs, rfl, ha, ra, na, rfl⟩ := hd
  cases (show u = Value.ref a from hu)
  obtain ⟨_, its, rv, o, h1, h2, n, h3⟩ := (show ObjOk X.prog X.w H s.heap a (.tup ys) from I.hok a _ ha)
  have kr := RepAll.shows I.hok I.kIn ra rv sm (by simp only [wt] at hz; omega) (depAll ds) (Nat.le_refl _)
  have hT : s.TypeIs (.ref a) "tuple" := ⟨o, h1, h2⟩
  simp only [shown] at q
  refine call_repr_slot (by omega) hT PySem.F.slot_tuple_repr ?_
  exact call_tuple_reprK (h₀ := s.heap) (d := depAll ds) h1 h2 h3 na (by simpa using kr) (g := []) hg (fun b _ => Clear.nil b) (by show X.A.units + 1 + _ < cLine; omega) (fun _ _ e => e) (fun h' u tk hk => ⟨_, _, rfl, .str _, H, I.kept (t' := tk) hk, ⟨_, rfl⟩, q⟩) hsh
end
end Sw
namespace Sw
open PySem PySem.Spec PyProof.Rows L2 PySem.W
section
variable {K : Frag}
/-- a def of two parameters p1, p2 that may be called by the words p2, p1 -/
theorem kb_pair {x p1 p2 : Str} {st : Stmt} {f : Addr} {fd : FuncData} (F : Fun K x x st f fd)
    (b1 : ∀ (kV doc pm : Value) (an : Option Addr) (cdv ct u v : Value), bindArgs (fnOf x x (defArgs st) (defBody st) (defScope st) .none kV doc pm an cdv ct) ⟨[], ([p2, p1] : List Str).zip [u, v]⟩ = pure (([p1, p2] : List Str).zip [v, u]))
    (b2 : ∀ (kV doc pm : Value) (an : Option Addr) (cdv ct u v : Value), bindArgs (fnOf x x (defArgs st) (defBody st) (defScope st) .none kV doc pm an cdv ct) ⟨[u], ([p2, p1] : List Str).zip [v]⟩ = pure (([p1, p2] : List Str).zip [u, v]))
    (b3 : ∀ (kV doc pm : Value) (an : Option Addr) (cdv ct u v : Value), bindArgs (fnOf x x (defArgs st) (defBody st) (defScope st) .none kV doc pm an cdv ct) ⟨[u, v], ([p2, p1] : List Str).zip []⟩ = pure (([p1, p2] : List Str).zip [u, v])) :
    KBinds K fd [p1, p2] [p2, p1] (fun us ws => us ++ ws.reverse) (fun us ws => us ++ ws.reverse) := by
  obtain ⟨oc, od, kV, doc, pm, an, cdv, ct, osl, rfl, lk, hcd⟩ := F.ex
  refine ⟨fun s us ws _ hl => ?_, fun r q => r.append q.reverse⟩
  have hl2 : us.length + ws.length = 2 := by
    rw [List.length_append, List.length_reverse] at hl
    exact hl
  rcases us with _ | ⟨u, _ | ⟨v, _ | ⟨z, us⟩⟩⟩
  · rcases ws with _ | ⟨a, _ | ⟨b, _ | ⟨z, ws⟩⟩⟩
    · cases hl2
    · cases hl2
    · exact .of_eq (b1 kV doc pm an cdv ct a b)
    · simp only [List.length_cons, List.length_nil] at hl2
      omega
  · rcases ws with _ | ⟨a, _ | ⟨z, ws⟩⟩
    · cases hl2
    · exact .of_eq (b2 kV doc pm an cdv ct u a)
    · simp only [List.length_cons, List.length_nil] at hl2
      omega
  · rcases ws with _ | ⟨z, ws⟩
    · exact .of_eq (b3 kV doc pm an cdv ct u v)
    · simp only [List.length_cons, List.length_nil] at hl2
      omega
  · simp only [List.length_cons] at hl2
    omega
end
end Sw
namespace Sw
open PySem PySem.Spec PyProof.Rows L2
/-! ### rows as data -/
theorem led_at {m : Nat} {row os : List Int} {p : Nat} (hl : row.length = m + 1) (hs : Stops m os) (hp : p < m + 1) : (ledI row os)[(ledI (rgI (m + 1)) os).idxOf (p : Int)]? = row[p]? := by
  have e : row = (rgI (m + 1)).map fun x => row.getD x.toNat 0 := by
    refine List.ext_getElem? fun i => ?_
    rw [List.getElem?_map]
    by_cases h : i < m + 1
    · rw [rgI_get h]
      show _ = some (row.getD ((i : Int)).toNat 0)
      rw [Int.toNat_natCast, List.getD_eq_getElem?_getD, List.getElem?_eq_getElem (by omega)]
      rfl
    · rw [List.getElem?_eq_none (by omega), List.getElem?_eq_none (by rw [rgI_len]; omega)]
      rfl
  have pm : (ledI (rgI (m + 1)) os).Perm (rgI (m + 1)) := ledI_perm hs (by rw [rgI_len]; omega)
  have e2 : ledI row os = (ledI (rgI (m + 1)) os).map fun x => row.getD x.toNat 0 := by
    conv => lhs; rw [e]
    exact ledI_map hs (by rw [rgI_len]; omega)
  have hin : (p : Int) ∈ ledI (rgI (m + 1)) os := pm.mem_iff.mpr (rgI_in (by omega) (by omega))
  rw [e2, List.getElem?_map, idx_get hin]
  show some (row.getD ((p : Int)).toNat 0) = _
  rw [Int.toNat_natCast, List.getD_eq_getElem?_getD, List.getElem?_eq_getElem (by omega)]
  rfl
theorem odd_run {m : Nat} {os : List Int} (h : Stops m os.dropLast) (ne : os ≠ []) : (endsF (m + 1) (ledI (rgI (m + 1)) os.dropLast)).Perm (rgI (m + 1)) ∧ (inv (endsF (m + 1) (ledI (rgI (m + 1)) os.dropLast)) % 2 = 1 ↔ os.length % 2 = 0) := by
  obtain ⟨h1, h2⟩ := ends_run (m := m + 1) (os := os.dropLast) (be := rgI (m + 1)) h (.refl _) (by rw [endsF_rgI])
  rw [endsF_rgI, inv_asc (rgI_asc _), List.length_dropLast] at h2
  have := List.length_pos_iff.mpr ne
  exact ⟨h1, by omega⟩
/-- small whole numbers -/
def Sml (os : List Int) : Prop := ∀ o ∈ os, 0 ≤ o ∧ o < 14
theorem Sml.stops {m : Nat} {os : List Int} (h : Stops m os) (hm : m ≤ 12) : Sml os := fun o ho => by
  have := h o ho
  omega
theorem Sml.perm {m : Nat} {os : List Int} (h : os.Perm (rgI m)) (hm : m ≤ 13) : Sml os := fun o ho => by
  have := rgI_mem (h.mem_iff.mp ho)
  omega
theorem tupI {K : PySem.W.Frag} {H : Hp} {a : Addr} {os : List Int} (h : H a = some (.tup (os.map V.int))) (hs : Sml os) : Rep K H (.tup (os.map D.int)) (.ref a) [a] ∧ small (.tup (os.map D.int)) ∧ wt (.tup (os.map D.int)) ≤ os.length * 6 + 3 ∧ dep (.tup (os.map D.int)) ≤ 1 := by
  obtain ⟨r1, r2, r3, r4⟩ := ints_rep (K := K) (H := H) hs
  refine ⟨?_, by simp only [small]; exact r2, by simp only [wt]; omega, by simp only [dep]; omega⟩
  simp only [Rep]
  exact ⟨a, _, [], rfl, h, r1, by simp, rfl⟩
/-- a pair of a row and a stop -/
def pairD (os : List Int) (x : Int) : D := .tup [.tup (os.map D.int), .int x]
theorem pairR {K : PySem.W.Frag} {H : Hp} {q r : Addr} {os : List Int} {x : Int} (h : H q = some (.tup [.ref r, .int x])) (hr : H r = some (.tup (os.map V.int))) (hs : Sml os) (hx : 0 ≤ x ∧ x < 14) : Rep K H (pairD os x) (.ref q) [q, r] ∧ small (pairD os x) ∧ wt (pairD os x) ≤ os.length * 6 + 20 ∧ dep (pairD os x) ≤ 2 := by
  obtain ⟨r1, r2, r3, r4⟩ := tupI (K := K) hr hs
  obtain ⟨i1, i2, i3, i4⟩ := int_ok (K := K) (H := H) (i := x) (w := 3) (k := 0) (by omega) (by decide) (by decide)
  unfold pairD
  refine ⟨?_, ?_, ?_, ?_⟩
  · rw [Rep]
    refine ⟨q, [.ref r, .int x], [r], rfl, h, ?_, ?_, rfl⟩
    · rw [RepAll]
      refine ⟨_, _, [r], [], rfl, r1, ?_, rfl⟩
      rw [RepAll]
      exact ⟨_, _, [], [], rfl, i1, by simp [RepAll], rfl⟩
    · intro z
      have e := List.mem_singleton.mp z
      rw [← e, h] at hr
      have q := HO.tup.inj (Option.some.inj hr)
      cases os with
      | nil => cases q
      | cons o r =>
        have q := (List.cons.inj q).1
        cases q
  · simp only [small, smallAll] at r2 i2 ⊢
    exact ⟨r2, i2, trivial⟩
  · simp only [wt, wtAll] at r3 i3 ⊢
    omega
  · simp only [dep, depAll] at r4 ⊢
    omega
theorem two_all {d e : D} (h1 : small d) (h2 : small e) : smallAll [d, e] := by
  simp only [smallAll]
  exact ⟨h1, h2, trivial⟩
theorem two_wt {d e : D} {m n : Nat} (h1 : wt d ≤ m) (h2 : wt e ≤ n) : wtAll [d, e] ≤ m + n + 4 := by
  simp only [wtAll]
  omega
theorem two_dep {d e : D} {n : Nat} (h1 : dep d ≤ n) (h2 : dep e ≤ n) : depAll [d, e] ≤ n := by
  simp only [depAll]
  omega
/-- a def of two parameters: by place, and by the words, the last one ahead -/
structure Own2 (P : Program) (w : World) (K : PySem.W.Frag) (mg : Str → Option Value) (base : Heap) (k : Nat) (x p1 p2 : Str) (sp : Sp) : Prop where
  ex : ∃ f fd, FnOk P w K mg base CX0 k f fd [p1, p2] sp ∧ mg x = some (.ref f) ∧ PySem.W.keepIn K (.ref f) = true ∧ Binds K fd [p1, p2] [] ∧ KBinds K fd [p1, p2] [p2, p1] (fun us ws => us ++ ws.reverse) (fun us ws => us ++ ws.reverse)
section
variable {P : Program} {w : World} {K : PySem.W.Frag} {mg : Str → Option Value} {base : Heap}
theorem Has.own2 {k : Nat} {x p1 p2 : Str} {st : Stmt} {sp : Sp} (hs : Has K mg x st) (ok : ∀ f fd, Fun K x x st f fd → FnOk P w K mg base CX0 k f fd [p1, p2] sp)
    (b : ∀ (kV doc pm : Value) (an : Option Addr) (cdv ct : Value) (us : List Value), us.length = ([p1, p2] : List Str).length → bindArgs (PySem.W.fnOf x x (defArgs st) (defBody st) (defScope st) .none kV doc pm an cdv ct) ⟨us, []⟩ = pure (([p1, p2] : List Str).zip us))
    (b1 : ∀ (kV doc pm : Value) (an : Option Addr) (cdv ct u v : Value), bindArgs (PySem.W.fnOf x x (defArgs st) (defBody st) (defScope st) .none kV doc pm an cdv ct) ⟨[], ([p2, p1] : List Str).zip [u, v]⟩ = pure (([p1, p2] : List Str).zip [v, u]))
    (b2 : ∀ (kV doc pm : Value) (an : Option Addr) (cdv ct u v : Value), bindArgs (PySem.W.fnOf x x (defArgs st) (defBody st) (defScope st) .none kV doc pm an cdv ct) ⟨[u], ([p2, p1] : List Str).zip [v]⟩ = pure (([p1, p2] : List Str).zip [u, v]))
    (b3 : ∀ (kV doc pm : Value) (an : Option Addr) (cdv ct u v : Value), bindArgs (PySem.W.fnOf x x (defArgs st) (defBody st) (defScope st) .none kV doc pm an cdv ct) ⟨[u, v], ([p2, p1] : List Str).zip []⟩ = pure (([p1, p2] : List Str).zip [u, v])) : Own2 P w K mg base k x p1 p2 sp := by
  obtain ⟨f, fd, F, m⟩ := hs
  exact ⟨f, fd, ok f fd F, m, F.kp, F.binds b, kb_pair F b1 b2 b3⟩
end
end Sw
namespace Sw
open PySem PySem.Spec PyProof.Rows L2
/-! ### turns_at, turns_of, turns -/
def rLcm : List V → Hp → VK → Prop := fun vs H Q => ∃ a b : Nat, vs = [.int a, .int b] ∧ a ≤ 6227020800 ∧ b ≤ 6227020800 ∧ Q (.int (Nat.lcm a b : Nat)) H
theorem cr_lcm {X : Cx} : CallR X (.builtin "math.lcm") rLcm := by
  intro pins s σ H vs us Q I r h
  obtain ⟨a, b, rfl, ha, hb, q⟩ := h
  obtain ⟨t, u, rfl⟩ := Vals.int2 r
  refine PySem.W.mc_lcm ?_ ?_ fun _ => ?_
  · rw [Int.natAbs_natCast]
    omega
  · rw [Int.natAbs_natCast]
    omega
  · rw [Int.natAbs_natCast, Int.natAbs_natCast]
    exact ⟨.int _, H, I.tok _, ⟨_, rfl⟩, q⟩
abbrev sTurnsAt : Stmt := top 19
abbrev sTurnsOf : Stmt := top 18
abbrev sTurns : Stmt := top 17
theorem scTurnsAt : FnScope ["moves", "place", "many", "at"] ["moves", "place"] (defScope sTurnsAt) := ⟨rfl, rfl, rfl, by decide +kernel, rfl, by decide +kernel, by decide +kernel⟩
theorem scTurnsOf : FnScope ["moves", "many", "place"] ["moves"] (defScope sTurnsOf) := ⟨rfl, rfl, rfl, by decide +kernel, rfl, by decide +kernel, by decide +kernel⟩
theorem scTurns : FnScope ["n", "run"] ["n", "run"] (defScope sTurns) := ⟨rfl, rfl, rfl, by decide +kernel, rfl, by decide +kernel, by decide +kernel⟩
section
variable {P : Program} {w : World} {K : PySem.W.Frag} {mg : Str → Option Value} {base : Heap}
def spTurnsAt : Sp := fun vs H Q _ => ∃ (a : Addr) (σ : List Int) (m : Nat) (x : Int), vs = [.ref a, .int x] ∧ H a = some (.tup (σ.map V.int)) ∧ σ.Perm (rgI m) ∧ m ≤ 13 ∧ Rg m x ∧ ∀ k, IsPer σ x k → Q (.int k) H
theorem ok_turnsAt {f : Addr} {fd : FuncData} (F : Fun K "turns_at" "turns_at" sTurnsAt f fd) (B : NoNames mg) : FnOk P w K mg base CX0 1 f fd ["moves", "place"] spTurnsAt := by
  refine F.ok scTurnsAt (fun vs H Q E h => ?_) (fun cdv A outer s H vs Q E hr h => ?_)
  · obtain ⟨a, σ, m, x, rfl, _⟩ := h
    rfl
  · obtain ⟨a, σg, m, x, rfl, ha, pm, hm, hx, k⟩ := h
    refine ⟨_, pss_cons (ps_par (i := 2) (j := 3) rfl scTurnsAt.nd rfl rfl (by decide) rfl rfl (pa_cons pe_int (pa_cons (pe_ix ix_tup (pv 0) (pv 1) (fun _ _ => rfl)) pa_nil)) (by rfl)) <|
      pss_cons (ps_while PassesOwn.never (pt_cmpR op_ne (pv 3) (pv 1) (nomark _))
        (pss_one (ps_par (i := 2) (j := 3) rfl scTurnsAt.nd rfl rfl (by decide) rfl rfl (pa_cons (pe_op op_add (pv 2) pe_int) (pa_cons (pe_ix ix_tup (pv 0) (pv 3) (fun _ _ => rfl)) pa_nil)) (by rfl)))) <|
      pss_one (ps_ret (pv 2)), ?_⟩
    have at2 : ∀ y, Rg m y → atI (σg.map V.int) y = some (.int (ap σg y)) := fun y hy => at_of (j := y.toNat) (Int.toNat_of_nonneg hy.1).symm (by rw [List.getElem?_map, ap_get pm hy]; rfl)
    refine ⟨_, rfl, _, rfl, a, _, x, _, rfl, rfl, SqT.of ha, at2 x hx, _, _, rfl, ?_⟩
    refine ⟨fun q σ' H' => H = H' ∧ ∃ many : Nat, σ' = [some (.ref a), some (.int x), some (.int many), some (.int (itr σg many x))] ∧ 1 ≤ many ∧ (∀ j, 1 ≤ j → j < many → itr σg j x ≠ x) ∧ many ≤ m ∧ m - many = q, ⟨_, rfl, 1, rfl, Nat.le_refl _, fun j h1 h2 => by omega, way_le pm hx (k := 1) fun j h1 h2 => by omega, rfl⟩, ?_⟩
    rintro q σ' H' ⟨rfl, many, rfl, h1, hn, hle, rfl⟩
    refine ⟨_, rfl, _, rfl, rfl, _, rfl, ?_⟩
    refine ite2 (fun y => ?_) (fun y => ?_)
    · have ne : itr σg many x ≠ x := fun z => by
        rw [z, decide_eq_true rfl] at y
        cases y
      have hn2 : ∀ j, 1 ≤ j → j < many + 1 → itr σg j x ≠ x := fun j a b => by
        by_cases z : j = many
        · rw [z]; exact ne
        · exact hn j a (by omega)
      have le2 := way_le pm hx hn2
      refine ⟨fun σ' H' => ∃ m', m' < m - many ∧ H = H' ∧ ∃ many : Nat, σ' = [some (.ref a), some (.int x), some (.int many), some (.int (itr σg many x))] ∧ 1 ≤ many ∧ (∀ j, 1 ≤ j → j < many → itr σg j x ≠ x) ∧ many ≤ m ∧ m - many = m', fun _ _ h => h, ?_⟩
      refine ⟨_, rfl, _, _, rfl, rfl, _, rfl, _, rfl, a, _, _, _, rfl, rfl, SqT.of ha, at2 _ (itr_in pm hx many), _, _, rfl, ?_⟩
      exact ⟨m - (many + 1), by omega, rfl, many + 1, rfl, by omega, hn2, le2, rfl⟩
    · have e : itr σg many x = x := Classical.byContradiction fun z => y (by
        rw [decide_eq_false fun q => z (V.int.inj q)]
        rfl)
      exact ⟨_, rfl, k many ⟨h1, e, hn⟩⟩
def spTurnsOf : Sp := fun vs H Q _ => ∃ (a : Addr) (σ : List Int) (m : Nat), vs = [.ref a] ∧ H a = some (.tup (σ.map V.int)) ∧ σ.Perm (rgI m) ∧ m ≤ 13 ∧ ∀ T, IsTurn m σ T → T ≤ 6227020800 → Q (.int T) H
theorem ok_turnsOf {f : Addr} {fd : FuncData} (F : Fun K "turns_of" "turns_of" sTurnsOf f fd) (B : NoNames mg) (mL : mg "lcm" = some (.builtin "math.lcm")) (O : Own P w K mg base 1 "turns_at" ["moves", "place"] spTurnsAt) : FnOk P w K mg base CX0 2 f fd ["moves"] spTurnsOf := by
  obtain ⟨fA, fdA, GA, mA, kA, bA⟩ := O.ex
  refine F.ok scTurnsOf (fun vs H Q E h => ?_) (fun cdv A outer s H vs Q E hr h => ?_)
  · obtain ⟨a, σ, m, rfl, _⟩ := h
    rfl
  · obtain ⟨a, σg, m, rfl, ha, pm, hm, k⟩ := h
    refine ⟨_, pss_cons (ps_set (i := 1) scTurnsOf.nd rfl (.inl rfl) pe_int) <|
      pss_cons (ps_for PassesOwn.never rfl (pi_range1 (by rfl) B.range (pa_cons (pe_callB call_len_seq (by rfl) B.len PySem.boot_len (pa_cons (pv 0) pa_nil)) pa_nil)) (pg_name (i := 2) scTurnsOf.nd rfl (.inl rfl))
        (pss_one (ps_set (i := 1) scTurnsOf.nd rfl (.inl rfl) (pe_callBfun cr_lcm (by rfl) mL (pa_cons (pv 1) (pa_cons (pe_call GA hr rfl mA kA bA .nil pass0 (pa_cons (pv 0) (pa_cons (pv 2) pa_nil))) pa_nil)))))) <|
      pss_one (ps_ret (pv 1)), ?_⟩
    have lm := pm_len pm
    refine ⟨_, rfl, a, _, rfl, .inr (SqT.of ha), _, rfl, by rw [List.length_map]; omega, by rw [List.length_map]; omega, for_range (lo := 0) (n := (((σg.map V.int).length : Nat) : Int).toNat) (fun i σ' H' => H = H' ∧ ∃ (T : Nat) (s2 : Option V), σ' = [some (.ref a), some (.int T), s2] ∧ PreTurn σg i T) ⟨rfl, 1, none, rfl, .start⟩ ?_ ?_⟩
    · rintro i σ' H' hi ⟨rfl, T, s2, rfl, PT⟩
      rw [List.length_map, lm, Int.toNat_natCast] at hi
      refine ⟨_, rfl, _, rfl, _, rfl, a, σg, m, 0 + (i : Int), rfl, ha, pm, hm, ⟨by omega, by omega⟩, fun kk IP => ?_⟩
      rw [Int.zero_add] at IP
      have le := IP.le pm ⟨by omega, by omega⟩
      exact ⟨T, kk, rfl, PT.le, by omega, rfl, _, _, rfl, PT.next IP (by omega)⟩
    · rintro σ' H' ⟨rfl, T, s2, rfl, PT⟩
      rw [List.length_map, lm, Int.toNat_natCast] at PT
      exact ⟨_, rfl, k T PT.done PT.le⟩
/-- a run's turn -/
def spTurns : Sp := fun vs H Q _ => ∃ (ru : Addr) (os : List Int) (last : Int) (m : Nat), vs = [.int m, .ref ru] ∧ RunIn H ru os last m ∧ m ≤ 12 ∧
  ∀ T H', Same H H' → IsTurn (m + 1) (ledI (rgI (m + 1)) os.dropLast) T → T ≤ 6227020800 → Q (.int T) H'
theorem ok_turns {f : Addr} {fd : FuncData} (F : Fun K "turns" "turns" sTurns f fd) (OG : Own P w K mg base 2 "goes" ["n", "run"] spGoes) (O : Own P w K mg base 2 "turns_of" ["moves"] spTurnsOf) : FnOk P w K mg base CX0 3 f fd ["n", "run"] spTurns := by
  obtain ⟨fA, fdA, GA, mA, kA, bA⟩ := O.ex
  obtain ⟨fG, fdG, GG, mG, kG, bG⟩ := OG.ex
  refine F.ok scTurns (fun vs H Q E h => ?_) (fun cdv A outer s H vs Q E hr h => ?_)
  · obtain ⟨ru, os, last, m, rfl, _⟩ := h
    rfl
  · obtain ⟨ru, os, last, m, rfl, R, hm, k⟩ := h
    refine ⟨_, pss_one (ps_ret (pe_call GA hr rfl mA kA bA .nil pass0 (pa_cons (pe_call GG hr rfl mG kG bG .nil pass0 (pa_cons (pv 0) (pa_cons (pv 1) pa_nil))) pa_nil))), ?_⟩
    obtain ⟨pe, _⟩ := odd_run (m := m) R.init R.ne
    have pm : (ledI (rgI (m + 1)) os.dropLast).Perm (rgI (m + 1)) := ledI_perm R.init (by rw [rgI_len]; omega)
    refine ⟨_, rfl, _, rfl, ru, os, last, m, rfl, R, hm, fun q H1 s1 nq hq => ?_⟩
    exact ⟨q, _, m + 1, rfl, hq, pe, by omega, fun T IT le => k T H1 s1 ((IsTurn.ends pm pe).mp IT) le⟩
end
end Sw
namespace Sw
open PySem PySem.Spec PyProof.Rows L2
/-! ### led, leg_done, journey_done, steps_of -/
abbrev sPLed : Stmt := top 20
abbrev nPLed : List Str := ["row", "moves", "times", "_", "laid", "place", "thing"]
theorem scPLed : FnScope nPLed ["row", "moves", "times"] (defScope sPLed) := ⟨rfl, rfl, rfl, by decide +kernel, rfl, by decide +kernel, by decide +kernel⟩
abbrev sLegDone : Stmt := top 25
theorem scLegDone : FnScope ["standing", "run", "times", "row"] ["standing", "run", "times"] (defScope sLegDone) := ⟨rfl, rfl, rfl, by decide +kernel, rfl, by decide +kernel, by decide +kernel⟩
abbrev sJDone : Stmt := top 24
theorem scJDone : FnScope ["standing", "journey", "run", "times"] ["standing", "journey"] (defScope sJDone) := ⟨rfl, rfl, rfl, by decide +kernel, rfl, by decide +kernel, by decide +kernel⟩
abbrev sSteps : Stmt := top 26
abbrev nSteps : List Str := ["journey", "run", "times"]
theorem scSteps : FnScope nSteps ["journey"] (defScope sSteps) := ⟨rfl, rfl, rfl, by decide +kernel, rfl, by decide +kernel, by decide +kernel⟩
/-- what a run leaves, as it came -/
abbrev beOf (m : Nat) (os : List Int) : List Int := ledI (rgI (m + 1)) os.dropLast
def legDo (m : Nat) (s : List Int × Int) (l : List Int × Int) : List Int × Int := (rowB (m + 1) s.1 (beOf m l.1) l.2.toNat, l.1.getLast?.getD 0)
def jDo (m : Nat) (s : List Int × Int) (ls : List (List Int × Int)) : List Int × Int := ls.foldl (legDo m) s
theorem jDo_snoc {m : Nat} {s : List Int × Int} {ls : List (List Int × Int)} {i : Nat} {l : List Int × Int} (h : ls[i]? = some l) : jDo m s (ls.take (i + 1)) = legDo m (jDo m s (ls.take i)) l := by
  unfold jDo
  rw [List.take_add_one, h, List.foldl_append]
  rfl
theorem jDo_len {m : Nat} : ∀ {ls : List (List Int × Int)} {s : List Int × Int}, s.1.length = m + 1 → (jDo m s ls).1.length = m + 1
  | [], s, h => h
  | l :: ls, s, h => jDo_len (ls := ls) (s := legDo m s l) (rowB_len _)
def stepsF (ls : List (List Int × Int)) : Int := (ls.map fun l => ((l.1.length : Int) - 1) * l.2).sum
/-- a leg as it lies -/
def LegIn (m : Nat) (H : Hp) (x : V) (l : List Int × Int) : Prop := ∃ q ru last, x = V.ref q ∧ H q = some (.tup [.ref ru, .int l.2]) ∧ RunIn H ru l.1 last m ∧ 1 ≤ l.2 ∧ l.1.length ≤ 2000 ∧ l.2 ≤ 10 ^ 30
def LegsIn (m : Nat) (H : Hp) (xs : List V) (ls : List (List Int × Int)) : Prop := Paired (LegIn m H) xs ls
theorem LegIn.keep {m : Nat} {H H' : Hp} {x : V} {l : List Int × Int} (h : LegIn m H x l) (s : TupS H H') : LegIn m H' x l := by
  obtain ⟨q, ru, last, e, h1, h2, r⟩ := h
  exact ⟨q, ru, last, e, s _ _ h1, h2.keep s, r⟩
theorem LegsIn.keep {m : Nat} {H H' : Hp} : ∀ {xs : List V} {ls : List (List Int × Int)}, LegsIn m H xs ls → TupS H H' → LegsIn m H' xs ls
  | _, _, .nil, _ => .nil
  | _, _, .cons h t, s => .cons (h.keep s) (LegsIn.keep t s)
theorem LegsIn.len {m : Nat} {H : Hp} : ∀ {xs : List V} {ls : List (List Int × Int)}, LegsIn m H xs ls → xs.length = ls.length
  | _, _, .nil => rfl
  | _, _, .cons _ t => by rw [List.length_cons, List.length_cons, LegsIn.len t]
theorem LegsIn.at {m : Nat} {H : Hp} : ∀ {xs : List V} {ls : List (List Int × Int)} {i : Nat} {x : V}, LegsIn m H xs ls → xs[i]? = some x → ∃ l, ls[i]? = some l ∧ LegIn m H x l
  | _, _, i, x, .nil, h => by simp at h
  | _, _, 0, x, .cons (b := e) q t, h => by
    have h : some _ = some x := h
    cases h
    exact ⟨e, rfl, q⟩
  | _, _, i + 1, x, .cons q t, h => LegsIn.at (i := i) t h
theorem beOf_perm {m : Nat} {os : List Int} (h : Stops m os) : (beOf m os).Perm (rgI (m + 1)) := ledI_perm (fun o ho => h o (List.dropLast_subset _ ho)) (by rw [rgI_len]; omega)
section
variable {P : Program} {w : World} {K : PySem.W.Frag} {mg : Str → Option Value} {base : Heap}
def spPLed : Sp := fun vs H Q _ => ∃ (rw mv : Addr) (row be : List Int) (times : Int) (m : Nat), vs = [.ref rw, .ref mv, .int times] ∧ H rw = some (.tup (row.map V.int)) ∧ H mv = some (.tup ((endsF (m + 1) be).map V.int)) ∧ be.Perm (rgI (m + 1)) ∧ (endsF (m + 1) be).Perm (rgI (m + 1)) ∧ row.length = m + 1 ∧ m ≤ 12 ∧ 0 ≤ times ∧
  ∀ r H', Same H H' → H' r = some (.tup ((rowB (m + 1) row be times.toNat).map V.int)) → Q (.ref r) H'
theorem ok_pLed {f : Addr} {fd : FuncData} (F : Fun K "led" "led" sPLed f fd) (B : NoNames mg) (O : Own P w K mg base 2 "turns_of" ["moves"] spTurnsOf) : FnOk P w K mg base CX0 3 f fd ["row", "moves", "times"] spPLed := by
  obtain ⟨fT, fdT, GT, mT, kT, bT⟩ := O.ex
  refine F.ok scPLed (fun vs H Q E h => ?_) (fun cdv A outer s H vs Q E hr h => ?_)
  · obtain ⟨rw_, mv, row, be, times, m, rfl, _⟩ := h
    rfl
  · obtain ⟨rw_, mv, row, be, times, m, rfl, hrw, hmv, pm, pe, hl, hm, ht, k⟩ := h
    refine ⟨_, pss_cons (ps_for PassesOwn.never rfl (pi_range1 (by rfl) B.range (pa_cons (pe_op op_mod (pv 2) (pe_call GT hr rfl mT kT bT .nil pass0 (pa_cons (pv 1) pa_nil))) pa_nil)) (pg_name (i := 3) scPLed.nd rfl (.inl rfl))
        (pss_cons (ps_set (i := 4) scPLed.nd rfl (.inl rfl) (pe_callTy call_list_of (by rfl) B.list (by decide +kernel) (pa_cons (pv 0) pa_nil))) <|
        pss_cons (ps_for PassesOwn.never rfl (RZ.pi_zipA (by rfl) B.zip (pa_cons (pv 1) (pa_cons (pv 0) pa_nil))) (pg_tup rfl (pgs_cons (pg_name (i := 5) scPLed.nd rfl (.inl rfl)) (pgs_cons (pg_name (i := 6) scPLed.nd rfl (.inl rfl)) pgs_nil)))
          (pss_one (ps_asg (pv 6) (pg_sub (pv 4) (pv 5) set_list)))) <|
        pss_one (ps_set (i := 0) scPLed.nd rfl (.inl rfl) (pe_callTy call_tuple_of (by rfl) B.tuple (by decide +kernel) (pa_cons (pv 4) pa_nil))))) <|
      pss_one (ps_ret (pv 0)), ?_⟩
    refine ⟨_, rfl, _, rfl, mv, _, m + 1, rfl, hmv, pe, by omega, fun T IT le => ?_⟩
    have IB := (IsTurn.ends pm pe).mp IT
    have tp : (0 : Int) < (T : Int) := by have := IT.pos; omega
    have r0 := Int.emod_nonneg times (show (T : Int) ≠ 0 by omega)
    have r1 := Int.emod_lt_of_pos times tp
    refine ⟨_, _, rfl, rfl, tp, _, rfl, by omega, by omega, for_range (lo := 0) (n := (times % (T : Int)).toNat) (fun i σ H' => ∃ rw_ s3 s4 s5 s6, σ = [some (.ref rw_), some (.ref mv), some (.int times), s3, s4, s5, s6] ∧ Same H H' ∧ H' rw_ = some (.tup ((rowB (m + 1) row be i).map V.int)))
      ⟨rw_, none, none, none, none, rfl, Same.refl _, by rw [rowB_zero hl]; exact hrw⟩ ?_ ?_⟩
    · rintro i σ H1 hi ⟨rw1, s3, s4, s5, s6, rfl, sm, h1⟩
      have lc := rowB_len (m := m + 1) (row := row) (be := be) i
      have step := rowB_succ (row := row) pm hl i
      generalize rowB (m + 1) row be i = cur at h1 lc step
      refine ⟨_, rfl, rw1, _, rfl, .inr (SqT.of h1), fun l nl => ?_⟩
      have sl : Same H1 (upd H1 l (.lst (cur.map V.int))) := same_new nl
      have nlH := sm.free nl
      refine ⟨_, rfl, _, rfl, mv, rw1, _, _, rfl, .inr ⟨SqT.of (sl _ _ (sm _ _ hmv)), SqT.of (sl _ _ h1), RZ.for_zipT (xs := (endsF (m + 1) be).map V.int) (ys := cur.map V.int) (by rw [List.length_map, List.length_map, endsF_len, lc]) (fun j σ H' => ∃ (laid : List Int) (s5 s6 : Option V), σ = [some (.ref rw1), some (.ref mv), some (.int times), some (.int (0 + (i : Int))), some (.ref l), s5, s6] ∧ Same H1 H' ∧ H' l = some (.lst (laid.map V.int)) ∧ LaidTo (m + 1) (endsF (m + 1) be) cur laid j)
        ⟨cur, s5, s6, rfl, sl, upd_same, lc, fun p hp => absurd hp (Nat.not_lt_zero _)⟩ (fun j σ H' h => ?_) ?_ ?_⟩⟩
      · obtain ⟨laid, s5, s6, _, s, _⟩ := h
        exact ⟨SqT.of (s _ _ (sm _ _ hmv)), SqT.of (s _ _ h1)⟩
      · rintro j x y T2 σ H2 hx hy ⟨laid, s5, s6, rfl, s2, hl2, L⟩ nT2
        rw [List.getElem?_map] at hx hy
        obtain ⟨q, hq, rfl⟩ : ∃ q, (endsF (m + 1) be)[j]? = some q ∧ x = .int q := by
          cases z : (endsF (m + 1) be)[j]? with
          | none => rw [z] at hx; cases hx
          | some q => rw [z] at hx; exact ⟨q, rfl, (Option.some.inj hx).symm⟩
        obtain ⟨v, hv, rfl⟩ : ∃ v, cur[j]? = some v ∧ y = .int v := by
          cases z : cur[j]? with
          | none => rw [z] at hy; cases hy
          | some q => rw [z] at hy; exact ⟨q, rfl, (Option.some.inj hy).symm⟩
        have bq := pm_at pe hq
        have sT : Same H2 (upd H2 T2 (.tup [.int q, .int v])) := same_new nT2
        refine ⟨T2, _, rfl, SqT.of upd_same, rfl, _, _, rfl, _, _, rfl, rfl, ?_⟩
        refine ⟨_, rfl, _, rfl, _, rfl, l, _, q, q.toNat, rfl, rfl, sT _ _ hl2, ixN_pos bq.1 (by rw [List.length_map, L.1]; exact bq.2), ?_⟩
        refine ⟨laid.set q.toNat v, _, _, rfl, fun b o e => ?_, by rw [upd_same, List.map_set], L.next pe hq hv⟩
        rw [upd_ne (ne_of_none e nl)]
        exact sT _ _ (s2 _ _ e)
      · rintro σ H2 ⟨laid, s5, s6, rfl, s2, hl2, L⟩
        rw [List.length_map, endsF_len] at L
        have e := L.done pm lc
        rw [step] at e
        rw [e] at hl2
        refine ⟨_, rfl, l, _, rfl, .inl ⟨SqL.of hl2, fun r nr => ?_⟩⟩
        exact ⟨r, _, _, _, _, rfl, sm.trans (s2.trans (same_new nr)), upd_same⟩
    · rintro σ H1 ⟨rw1, s3, s4, s5, s6, rfl, sm, h1⟩
      have e : (times % (T : Int)).toNat = times.toNat % T := by
        obtain ⟨t, rfl⟩ := Int.eq_ofNat_of_zero_le ht
        rw [Int.toNat_natCast, ← Int.natCast_emod, Int.toNat_natCast]
      rw [e, rowB_mod IB] at h1
      exact ⟨_, rfl, k rw1 H1 sm h1⟩
def spLegDone : Sp := fun vs H Q _ => ∃ (st rw ru : Addr) (x : V) (row os : List Int) (last times : Int) (m : Nat), vs = [.ref st, .ref ru, .int times] ∧ H st = some (.tup [.ref rw, x]) ∧ H rw = some (.tup (row.map V.int)) ∧ RunIn H ru os last m ∧ row.length = m + 1 ∧ m ≤ 12 ∧ 0 ≤ times ∧
  ∀ q r H', Same H H' → H' q = some (.tup [.ref r, .int last]) → H' r = some (.tup ((rowB (m + 1) row (beOf m os) times.toNat).map V.int)) → Q (.ref q) H'
theorem ok_legDone {f : Addr} {fd : FuncData} (F : Fun K "leg_done" "leg_done" sLegDone f fd) (B : NoNames mg) (OL : Own P w K mg base 3 "led" ["row", "moves", "times"] spPLed) (OG : Own P w K mg base 2 "goes" ["n", "run"] spGoes) : FnOk P w K mg base CX0 4 f fd ["standing", "run", "times"] spLegDone := by
  obtain ⟨fL, fdL, GL, mL, kL, bL⟩ := OL.ex
  obtain ⟨fG, fdG, GG, mG, kG, bG⟩ := OG.ex
  refine F.ok scLegDone (fun vs H Q E h => ?_) (fun cdv A outer s H vs Q E hr h => ?_)
  · obtain ⟨st, rw_, ru, x, row, os, last, times, m, rfl, _⟩ := h
    rfl
  · obtain ⟨st, rw_, ru, x, row, os, last, times, m, rfl, hst, hrw, R, hl, hm, ht, k⟩ := h
    have hr2 : Room 2 _ := hr.mono (by decide)
    refine ⟨_, pss_cons (ps_set (i := 3) scLegDone.nd rfl (.inl rfl) (pe_ix ix_tup (pv 0) pe_int (fun _ _ => rfl))) <|
      pss_one (ps_ret (pe_tup (pa_cons (pe_call GL hr rfl mL kL bL .nil pass0 (pa_cons (pv 3) (pa_cons (pe_call GG hr2 rfl mG kG bG .nil pass0 (pa_cons (pe_op op_sub (pe_callB call_len_seq (by rfl) B.len PySem.boot_len (pa_cons (pv 3) pa_nil)) pe_int) (pa_cons (pv 1) pa_nil))) (pa_cons (pv 2) pa_nil))))
        (pa_cons (pe_ix ix_tup (pv 1) (pe_un un_neg pe_int) (fun _ _ => rfl)) pa_nil)))), ?_⟩
    have em : (((row.map V.int).length : Nat) : Int) - 1 = (m : Int) := by rw [List.length_map, hl]; omega
    refine ⟨_, rfl, st, _, 0, .ref rw_, rfl, rfl, SqT.of hst, at_of (j := 0) rfl rfl, ?_⟩
    refine ⟨_, rfl, _, rfl, rw_, _, rfl, .inr (SqT.of hrw), _, _, rfl, rfl, _, rfl, ru, os, last, m, congrArg (fun z => [V.int z, V.ref ru]) em, R, hm, fun g H1 s1 ng hg => ?_⟩
    refine ⟨_, rfl, rw_, g, row, beOf m os, times, m, rfl, s1 _ _ hrw, hg, beOf_perm R.stops, (odd_run R.init R.ne).1, hl, hm, ht, fun r H2 s2 hr2' => ?_⟩
    have s12 := s1.trans s2
    refine ⟨_, rfl, 1, rfl, ru, _, -1, .int last, rfl, rfl, SqT.of (s12 _ _ R.at'), last_at R.last, by show 2 ≤ sizeLine; decide, fun q nq => ?_⟩
    have sq := same_new (o := .tup [.ref r, .int last]) nq
    exact k q r _ (s12.trans sq) upd_same (sq _ _ hr2')
def spJDone : Sp := fun vs H Q _ => ∃ (st rw jr : Addr) (s0 : Int) (row : List Int) (xs : List V) (ls : List (List Int × Int)) (m : Nat), vs = [.ref st, .ref jr] ∧ H st = some (.tup [.ref rw, .int s0]) ∧ H rw = some (.tup (row.map V.int)) ∧ H jr = some (.tup xs) ∧ LegsIn m H xs ls ∧ row.length = m + 1 ∧ m ≤ 12 ∧
  ∀ q r H', Same H H' → H' q = some (.tup [.ref r, .int (jDo m (row, s0) ls).2]) → H' r = some (.tup ((jDo m (row, s0) ls).1.map V.int)) → Q (.ref q) H'
theorem ok_jDone {f : Addr} {fd : FuncData} (F : Fun K "journey_done" "journey_done" sJDone f fd) (O : Own P w K mg base 4 "leg_done" ["standing", "run", "times"] spLegDone) : FnOk P w K mg base CX0 5 f fd ["standing", "journey"] spJDone := by
  obtain ⟨fL, fdL, GL, mL, kL, bL⟩ := O.ex
  refine F.ok scJDone (fun vs H Q E h => ?_) (fun cdv A outer s H vs Q E hr h => ?_)
  · obtain ⟨st, rw_, jr, s0, row, xs, ls, m, rfl, _⟩ := h
    rfl
  · obtain ⟨st, rw_, jr, s0, row, xs, ls, m, rfl, hst, hrw, hjr, LS, hl, hm, k⟩ := h
    refine ⟨_, pss_cons (ps_for PassesOwn.never rfl (pi_tup (pv 1)) (pg_tup rfl (pgs_cons (pg_name (i := 2) scJDone.nd rfl (.inl rfl)) (pgs_cons (pg_name (i := 3) scJDone.nd rfl (.inl rfl)) pgs_nil)))
        (pss_one (ps_set (i := 0) scJDone.nd rfl (.inl rfl) (pe_call GL hr rfl mL kL bL .nil pass0 (pa_cons (pv 0) (pa_cons (pv 2) (pa_cons (pv 3) pa_nil))))))) <|
      pss_one (ps_ret (pv 0)), ?_⟩
    refine ⟨_, rfl, jr, rfl, ⟨_, SqT.of hjr⟩, for_it (walk_tup (xs := xs)) (fun i σ H' => ∃ st rw_ s2 s3, σ = [some (.ref st), some (.ref jr), s2, s3] ∧ Same H H' ∧ H' st = some (.tup [.ref rw_, .int (jDo m (row, s0) (ls.take i)).2]) ∧ H' rw_ = some (.tup ((jDo m (row, s0) (ls.take i)).1.map V.int)))
      ⟨st, rw_, none, none, rfl, Same.refl _, hst, hrw⟩ (fun i σ H' _ h => by obtain ⟨_, _, _, _, _, h, _⟩ := h; exact SqT.of (h _ _ hjr)) ?_ ?_⟩
    · rintro i x σ H1 H2 hi ⟨st1, rw1, s2, s3, rfl, sm, h1, h2⟩ ⟨rfl, ex⟩
      obtain ⟨l, el, q, ru, last, rfl, hq, R, ht, _⟩ := LS.at ex
      refine ⟨q, _, rfl, SqT.of (sm _ _ hq), rfl, _, _, rfl, _, _, rfl, rfl, ?_⟩
      refine ⟨_, rfl, _, rfl, _, rfl, st1, rw1, ru, _, _, l.1, last, l.2, m, rfl, h1, h2, R.keep (.of sm), jDo_len hl, hm, by omega, fun q' r' H3 s3' hq' hr' => ?_⟩
      refine ⟨q', r', _, _, rfl, sm.trans s3', ?_, ?_⟩
      · rw [jDo_snoc el]
        show H3 q' = some (.tup [.ref r', .int (l.1.getLast?.getD 0)])
        rw [R.last]
        exact hq'
      · rw [jDo_snoc el]
        exact hr'
    · rintro σ H1 ⟨st1, rw1, s2, s3, rfl, sm, h1, h2⟩
      rw [LS.len, List.take_length] at h1 h2
      exact ⟨_, rfl, k st1 rw1 H1 sm h1 h2⟩
def spSteps : Sp := fun vs H Q _ => ∃ (jr : Addr) (xs : List V) (ls : List (List Int × Int)) (m : Nat), vs = [.ref jr] ∧ H jr = some (.tup xs) ∧ LegsIn m H xs ls ∧ xs.length ≤ 1000 ∧ ∀ H', Same H H' → Q (.int (stepsF ls)) H'
theorem ok_steps {f : Addr} {fd : FuncData} (F : Fun K "steps_of" "steps_of" sSteps f fd) (B : NoNames mg) (bsum : mg "sum" = none) : FnOk P w K mg base CX0 1 f fd ["journey"] spSteps := by
  refine F.ok scSteps (fun vs H Q E h => ?_) (fun cdv A outer s H vs Q E hr h => ?_)
  · obtain ⟨jr, xs, ls, m, rfl, _⟩ := h
    rfl
  · obtain ⟨jr, xs, ls, m, rfl, hjr, LS, lx, k⟩ := h
    refine ⟨_, pss_one (ps_ret (pe_callB (cr_sum rfl) (by rfl) bsum (by decide +kernel) (pa_cons (pe_lc (own := [("run", 1), ("times", 2)]) (g := gTup K 2 (gCons (gName 1) (gCons (gName 2) gNil))) (tt := tYes) (te := tOp (rI CMul fun i j => .int (i * j)) (tOp (rI0 fun i j => .int (i - j)) (tCB (fun xs H Q => ∃ (p : Addr) (ys : List V), xs = [V.ref p] ∧ (SqL K H p ys ∨ SqT K H p ys) ∧ Q (.int (ys.length : Nat)) H) (tCons (tVar 1) tNil)) (tC (.int 1))) (tVar 2)) rfl scSteps.nd (pi_tup (pv 0)) (blkOk_by (own := [("run", 1), ("times", 2)]) (N := nSteps) (sc := defScope sSteps) (by decide +kernel))
        (fun _ _ _ _ _ => pg_tup rfl (pgs_cons (pg_name (i := 1) scSteps.nd rfl (Or.inl rfl)) (pgs_cons (pg_name (i := 2) scSteps.nd rfl (Or.inl rfl)) pgs_nil))) (fun _ _ _ _ _ => pts_nil)
        (fun _ _ _ _ _ => pe_op op_mul (pe_op op_sub (pe_callB call_len_seq (by rfl) B.len PySem.boot_len (pa_cons (pv 1) pa_nil)) pe_int) (pv 2))) pa_nil))), ?_⟩
    refine ⟨_, rfl, jr, rfl, ⟨_, SqT.of hjr⟩, fun D nD => ?_⟩
    have el : ∀ {i : Nat} {l : List Int × Int}, ls[i]? = some l → (ls.map fun l => ((l.1.length : Int) - 1) * l.2).take (i + 1) = (ls.map fun l => ((l.1.length : Int) - 1) * l.2).take i ++ [((l.1.length : Int) - 1) * l.2] := fun {i l} h => by
      rw [List.take_add_one, List.getElem?_map, h]
      rfl
    refine lc_it (walk_tup (xs := xs)) (fun i H' => H' D = some (.lst (((ls.map fun l => ((l.1.length : Int) - 1) * l.2).take i).map V.int)) ∧ Same H H') ⟨upd_same, same_new nD⟩ (fun i H' _ h => SqT.of (h.2 _ _ hjr)) ?_ ?_
    · rintro i x Hb Ha hi ⟨h1, h2⟩ ⟨rfl, ex⟩
      obtain ⟨l, e1, q, ru, last, rfl, hq, R, ht, lz, _⟩ := LS.at ex
      refine ⟨q, _, rfl, SqT.of (h2 _ _ hq), rfl, _, _, rfl, _, _, rfl, rfl, ?_⟩
      refine ⟨rfl, ?_⟩
      dsimp only [tYes]
      rw [if_pos rfl]
      refine ⟨_, rfl, ru, _, rfl, .inr (SqT.of (h2 _ _ R.at')), _, _, rfl, rfl, _, rfl, _, _, rfl, rfl, ?_⟩
      refine ⟨.inl ⟨by rw [List.length_map]; omega, by rw [List.length_map]; omega⟩, _, h1, ?_, ?_, fun b o e => ?_⟩
      · rw [List.length_map, List.length_take, List.length_map, sizeLine_eq]
        have := LS.len
        omega
      · rw [upd_same, el e1, List.map_append, List.length_map]
        rfl
      · rw [upd_ne (ne_of_none e nD)]
        exact h2 _ _ e
    · rintro Ha ⟨h1, h2⟩
      have eT : (ls.map fun l => ((l.1.length : Int) - 1) * l.2).take xs.length = ls.map fun l => ((l.1.length : Int) - 1) * l.2 := by
        rw [LS.len]
        conv => lhs; rw [← List.length_map (f := fun l : List Int × Int => ((l.1.length : Int) - 1) * l.2)]
        exact List.take_length
      rw [eT] at h1
      exact ⟨D, _, rfl, SqL.of h1, k Ha h2⟩
end
end Sw
namespace Sw
open PySem PySem.Spec PyProof.Rows L2
/-! ### len(set(t)), t a tuple of whole numbers -/
theorem set_size {ns ks : List Int} (nd : ks.Nodup) (h : ∀ k, k ∈ ns ↔ k ∈ ks) (e : ks.length = ns.length) : ns.Nodup := by
  have p1 : ∀ (a b : List Int), a.Nodup → (∀ x ∈ a, x ∈ b) → a.length ≤ b.length := by
    intro a
    induction a with
    | nil => intro b _ _; exact Nat.zero_le _
    | cons x a ih =>
      intro b nd h
      obtain ⟨h1, h2⟩ := List.nodup_cons.mp nd
      have hx := h x (by simp)
      have := ih (b.erase x) h2 fun y hy => (List.mem_erase_of_ne (fun z : y = x => h1 (by rw [← z]; exact hy))).mpr (h y (by simp [hy]))
      have l := List.length_erase_of_mem hx
      have : 0 < b.length := List.length_pos_of_mem hx
      rw [List.length_cons]
      omega
  refine Classical.byContradiction fun no => ?_
  have dup : ∀ (b : List Int), ¬ b.Nodup → ∃ c : List Int, c.length < b.length ∧ ∀ x ∈ b, x ∈ c := by
    intro b
    induction b with
    | nil => intro h; exact absurd List.nodup_nil h
    | cons x b ih =>
      intro h
      by_cases hx : x ∈ b
      · exact ⟨b, by simp, fun y hy => (List.mem_cons.mp hy).elim (fun z => z ▸ hx) id⟩
      · have : ¬ b.Nodup := fun z => h (List.nodup_cons.mpr ⟨hx, z⟩)
        obtain ⟨c, h1, h2⟩ := ih this
        refine ⟨x :: c, by rw [List.length_cons, List.length_cons]; omega, fun y hy => ?_⟩
        rcases List.mem_cons.mp hy with z | z
        · rw [z]; simp
        · simp [h2 y z]
  obtain ⟨c, h1, h2⟩ := dup ns no
  have := p1 ks c nd fun x hx => h2 x ((h x).mpr hx)
  omega
def tLenSetT (K : PySem.W.Frag) (ta : TE) : TE := fun σ H Q => ta σ H fun x H1 => ∃ (l : Addr) (ns : List Int), x = .ref l ∧ SqT K H1 l (ns.map V.int) ∧ ns.length ≤ 2000 ∧ ∀ d : Nat, (d = ns.length → ns.Nodup) → Q (.int (d : Nat)) H1
theorem pe_lenSetT {X : Cx} {a : Expr} {ta : TE} {p p2 q pos : Pos} (hg : Gl X "len") (hm : X.mg "len" = none) (hg2 : Gl X "set") (hm2 : X.mg "set" = none) (ha : PE X a ta) (hc : X.calm = true := by rfl)
    (na : starEach [a] X.env = (false, eval a X.env) :: starEach [] X.env := by rfl) : PE X (.Call (.Name "len" p) [.Call (.Name "set" p2) [a] [] q] [] pos) (tLenSetT X.K ta) := by
  refine ⟨fun pins s σ H Q I h => ?_⟩
  refine Call_ (ld_blt I hg hm PySem.boot_len ?_)
  refine PyProof.Rows.callWith_builtin1 (PyProof.Rows.args_cons ?_ rfl) rfl rfl
  refine Call_ (ld_blt I hg2 hm2 PyProof.Rows.boot_set ?_)
  refine PyProof.Rows.callWith_type1 (PyProof.Rows.args_cons (thn (ha.run pins s σ H _ I h) fun v s1 ⟨x, H1, I1, r1, q1⟩ => PyProof.Rows.args_nil ?_) na) na rfl
  obtain ⟨l, ns, rfl, hq, hl, q1⟩ := q1
  cases r1
  obtain ⟨its, r, pl, hz⟩ := I1.tuple hq
  refine call_set_tupI ns (I1.ok.hd hc) pl (by simpa using intsAre_of r) (by unfold scanBound; omega) fun h' tk c hS hk hkp => ?_
  refine PyProof.Rows.args_nil ?_
  obtain ⟨o, es, ep, t, ho, hex, hd, _, nd, mem, _, hf, hn, _⟩ := hS
  have I2 : Inv X pins σ H1 { s1 with heap := h', toks := tk } := I1.kept hkp
  refine call_len_set ho hex hd hf (by rw [hn]; omega) ⟨.int c, H1, I2.tok _, ⟨_, by rw [hn]⟩, q1 c fun e => ?_⟩
  have lk : (es.toList.map keyOf).length = c := by rw [List.length_map, Array.length_toList, hn]
  exact set_size nd (fun k => ⟨fun z => (mem k).mp (decide_eq_true z), fun z => of_decide_eq_true ((mem k).mpr z)⟩) (by rw [lk, e])
/-! ### t * k -/
theorem tuple_mulW1 (l : Addr) (items : Array Value) (n : Nat) (dd : Option Addr) (sl : Array (Option Value)) (x : Int) (u : Tok) (c0 : (decide (x < -(2 ^ 63)) || decide (x ≥ 2 ^ 63)) = false) (c1 : (items.isEmpty || x == 1) = true) :
    Meets (Builtin.«tuple.__mul__» ⟨[.ref l, .int x u], []⟩) (fun _ R s => s.heap.get? l = some { cls := .type "tuple", dict := dd, data := .seq items n, slots := sl } ∧ R (.ok (.ret (Value.ref l))) s) :=
  .of_wp fun prog w A R s h => by
    obtain ⟨hp, g, d, tk, os⟩ := s
    obtain ⟨hl, h⟩ := h
    have f1 := AutoSeq1.idx_int
    wp_walk using wpAny_loadPart' hl
    repeat (first
      | (refine wpAny_ite_false (decide_eq_false (by rw [c0]; exact Bool.false_ne_true)) ?_; wp_walk using wpAny_loadPart' hl)
      | (refine wpAny_ite_true (decide_eq_true c1) ?_; wp_walk using wpAny_loadPart' hl))
    exact ⟨_, rfl, h⟩
def rRepG (K : PySem.W.Frag) : R2 := fun x y H Q => ∃ l k xs, x = .ref l ∧ y = .int k ∧ SqT K H l xs ∧ 1 ≤ k ∧ k ≤ 1000 ∧ xs.length ≤ 1000 ∧ ((k = 1 ∨ xs = []) → Q (.ref l) H) ∧ (¬ (k = 1 ∨ xs = []) → ∀ p, H p = none → Q (.ref p) (upd H p (.tup (List.replicate k.toNat xs).flatten)))
theorem op_repG {X : Cx} : OpR X (binaryOp .Mult) (rRepG X.K) := by
  intro pins s σ H x y v u Q I rx ry h
  obtain ⟨l, k, xs, e1, e2, hT, h1, h2, hz, q1, q2⟩ := h
  by_cases c : k = 1 ∨ xs = []
  · subst e1 e2
    cases rx
    obtain ⟨t, rfl⟩ := ry
    obtain ⟨its, r, ⟨⟨cls, dd, data, sl⟩, ho, hc, n, hd⟩, hs⟩ := I.tuple hT
    simp only at hc hd
    subst hc hd
    have hle : its.length = xs.length := r.length.symm
    have c0 : (decide (k < -(2 ^ 63)) || decide (k ≥ 2 ^ 63)) = false := by
      rw [decide_eq_false (by omega), decide_eq_false (by omega)] <;> rfl
    have c1 : (its.toArray.isEmpty || k == 1) = true := by
      rcases c with rfl | rfl
      · simp
      · have : its = [] := List.eq_nil_of_length_eq_zero (by rw [hle]; rfl)
        subst this
        rfl
    refine wpAny_binaryOp_repeat_ref (T := "tuple") (U := "int") (by decide) ⟨_, ho, rfl⟩ (fun s' => typeIs_int s' k t) noFill_tuple_mul F.fills_int_mul F.slot_int_rmul repeat_tuple F.slot_int_index.lookup
      (call_meets F.slot_int_rmul (typeIs_int s k t) F.entry_int_rmul (F.args_int_rmul_2 _ _) (int_rmul_tuple k t l its.toArray n dd sl)
        ⟨ho, rfl, ⟨_, ho, rfl⟩, call_meets F.slot_tuple_mul ⟨_, ho, rfl⟩ F.entry_tuple_mul (F.args_tuple_mul_2 _ _) (tuple_mulW1 l its.toArray n dd sl k t c0 c1) ⟨ho, ?_⟩⟩)
    exact ⟨.ref l, H, I, rfl, q1 c⟩
  · exact op_repT pins s σ H x y v u Q I rx ry ⟨l, k, xs, e1, e2, hT, fun z => c (.inr z), by have : k ≠ 1 := fun z => c (.inl z); omega, h2, hz, q2 c⟩
/-! ### tuples by what they hold -/
section
variable {K : PySem.W.Frag} {H : Hp} {Q : VK} {a b : Addr} {xs ys : List V}
theorem rd_cut {lo hi : Option Int} (h : H a = some (.tup xs)) (q : ∀ c H', Same H H' → H' c = some (.tup (cutV xs lo hi)) → Q (.ref c) H') : rSlA K (.ref a) lo hi H Q := by
  refine ⟨a, xs, rfl, SqT.of h, fun w => q a H (Same.refl H) ?_, fun _ p np => q p _ (same_new np) upd_same⟩
  unfold cutV
  rw [w.1, w.2, List.drop_zero, Nat.sub_zero, List.take_length]
  exact h
theorem rd_cat (ha : H a = some (.tup xs)) (hb : H b = some (.tup ys)) (hl : xs.length + ys.length ≤ sizeLine) (q : ∀ c H', Same H H' → H' c = some (.tup (xs ++ ys)) → Q (.ref c) H') : rCatA K (.ref a) (.ref b) H Q := by
  refine ⟨a, b, xs, ys, rfl, rfl, SqT.of ha, SqT.of hb, hl, fun e => q b H (Same.refl H) ?_, fun _ e => q a H (Same.refl H) ?_, fun _ _ p np => q p _ (same_new np) upd_same⟩
  · rw [e, List.nil_append]
    exact hb
  · rw [e, List.append_nil]
    exact ha
theorem rd_c {v : V} {σ : L2.St} {H : Hp} {f : VK} (h : f v H) : tC v σ H f := h
theorem rd_n {σ : L2.St} {H : Hp} {f : Option Int → Hp → Prop} (h : f none H) : tNoPart σ H f := h
theorem rd_rep {k : Int} (ha : H a = some (.tup xs)) (h1 : 1 ≤ k) (h2 : k ≤ 1000) (hl : xs.length ≤ 1000) (q : ∀ c H', Same H H' → H' c = some (.tup (List.replicate k.toNat xs).flatten) → Q (.ref c) H') : rRepG K (.ref a) (.int k) H Q := by
  refine ⟨a, k, xs, rfl, rfl, SqT.of ha, h1, h2, hl, fun c => q a H (Same.refl H) ?_, fun _ p np => q p _ (same_new np) upd_same⟩
  rcases c with c | c
  · subst c
    simpa using ha
  · rw [c] at ha ⊢
    simpa using ha
end
end Sw
namespace Sw
open PySem PySem.Spec PyProof.Rows L2 PySem.W
theorem good_mk {K : Frag} {C : Addr} {nm q n : Str} {N : Addr} {bs bm : List Value} {hd : Bool} {sn : List Str} {sub : List Value} {ab : Bool} {col : Option Bool} {dd : Option Addr} {m0 m1 m2 m3 m5 : Option Value} {nw : String}
    (xL : K.lookup C = some (excClassObj nm q C N bs bm hd sn sub ab col dd m0 m1 m2 m3 m5 nw)) (e : exN nm = n) (len : n.length ≤ 60)
    (rp : findIn K (.ref C) "__repr__" = some (some (.builtin "BaseException.__repr__"))) (sb : subIn K (.ref C) (.type "BaseException") = some true) (ga : findIn K (.ref C) "__getattribute__" = some (some (.builtin "BaseException.__getattribute__")))
    (gt : findIn K (.ref C) "__getattr__" = some none) (ca : findIn K (.ref C) "__class__" = some (some (.builtin "object.__class__"))) (cn : specialIn K (.builtin "object.__class__") "__get__" = some (some (.builtin "getset_descriptor.__get__")))
    (ct : takesIn K (.builtin "object.__class__") = some true) (mo : mroIn K C (.type "object") = some true) (ni : subIn K (.ref C) (.type "int") = some false) (nb : subIn K (.ref C) (.type "bool") = some false) (nt : subIn K (.ref C) (.type "tuple") = some false)
    (ns : subIn K (.ref C) (.type "str") = some false) (nl : subIn K (.ref C) (.type "list") = some false) (nd : subIn K (.ref C) (.type "dict") = some false) : XGood K C n := by
  have h : ∃ cd, clsIn K C = some cd ∧ cd.name = nm := by
    unfold clsIn
    rw [xL]
    exact ⟨_, rfl, rfl⟩
  obtain ⟨cd, h1, h2⟩ := h
  rw [← h2] at e
  exact ⟨⟨cd, h1, e⟩, len, rp, sb, ga, gt, ca, cn, ct, mo, ni, nb, nt, ns, nl, nd⟩
theorem init_mk {K : Frag} {C fI : Addr} {msg fld prm file qual : Str} {j : Nat} {p0 p1 p2 p3 p4 p5 p6 p7 p8 p9 : Pos} {params : Arguments} {dV kV doc pm ct oc ccl cl : Value} {an od cdd cld : Option Addr} {osl ccs csl : Array (Option Value)} {cc cda : Addr} {vs : Array Value} {tf : Tok} {ar : Arg}
    (l : K.lookup fI = some ⟨oc, od, .func (ksFn "__init__" qual params (initBody msg fld prm j p0 p1 p2 p3 p4 p5 p6 p7 p8 p9) (initScope prm) dV kV doc pm an (.ref cda) ct cc), osl⟩)
    (c : codeIn K (.ref cda) qual = true) (lc : K.lookup cda = some ⟨ccl, cdd, .fields vs, ccs⟩) (hv : vs[2]? = some (.str file tf)) (lcc : K.lookup cc = some ⟨cl, cld, .cell (some (.ref C)), csl⟩) (hl : (p2.endLine == p4.line) = true)
    (ha : (params.posonlyargs ++ params.args).head? = some ar) (har : ar.arg = "self")
    (hb : ∀ a u : Value, bindArgs (ksFn "__init__" qual params (initBody msg fld prm j p0 p1 p2 p3 p4 p5 p6 p7 p8 p9) (initScope prm) dV kV doc pm an (.ref cda) ct cc) ⟨[a, u], []⟩ = pure [(("self" : Str), a), (prm, u)])
    (pn : ¬ prm = "self") (pc : ¬ prm = "__class__") (ps : ¬ prm = "super") (pd : (prm == ("__debug__" : Str)) = false) (su : ks_superIn K C C "__init__" = some (some (.builtin "ValueError.__init__"))) (sub : subIn K (.ref C) (.type "ValueError") = some true)
    (self : mroIn K C (.ref C) = some true) (nf : findIn K (.ref C) fld = some none) (ty : typeIn K (.ref fI) = some (.type "function")) (fi : findIn K (.ref C) "__init__" = some (some (.ref fI))) : XInit K C fI msg fld prm file :=
  ⟨⟨qual, j, p0, p1, p2, p3, p4, p5, p6, p7, p8, p9, params, dV, kV, doc, pm, ct, oc, ccl, cl, an, od, cdd, cld, osl, ccs, csl, cc, cda, vs, tf, ar, l, c, lc, hv, lcc, hl, ha, har, hb⟩, pn, pc, ps, pd, su, sub, self, nf, ty, fi⟩
end Sw
namespace Sw
open PySem PySem.Spec PyProof.Rows L2 PySem.W
theorem uerr_mk {K : Frag} {mg : Str → Option Value} {h : Heap} {x y : Str} {C S : Addr} (X : K.In h) (G : h.Ns mainGlobals mg) (aC : nsIn K mainGlobals x = some (some (.ref C))) (aS : nsIn K mainGlobals y = some (some (.ref S)))
    (made : excIn K C [.type "ValueError", .type "Exception", .type "BaseException", .type "object"] "ValueError.__new__" = true) (kC : keepIn K (.ref C) = true) (base : subIn K (.ref C) (.type "BaseException") = some true)
    (ty : typeIn K (.ref C) = some (.type "type")) (self : subIn K (.ref C) (.ref C) = some true)
    (e1 : findIn K (.ref C) "__getattribute__" = some (some (.builtin "BaseException.__getattribute__"))) (e2 : findIn K (.ref C) "__getattr__" = some none) (e4 : hasDictIn K C = true)
    (e5 : findIn K (.ref C) "__class__" = some (some (.builtin "object.__class__"))) (e6 : specialIn K (.builtin "object.__class__") "__get__" = some (some (.builtin "getset_descriptor.__get__"))) (e7 : takesIn K (.builtin "object.__class__") = some true)
    (e8 : mroIn K C (.type "object") = some true) (sub : kitOne K (.ref C) (.ref S) = some true) : ∃ C S, UErr K mg x y C S :=
  ⟨C, S, mg_of X G aC, mg_of X G aS, made, kC, base, ty, self, ⟨e1, e2, base, e4, e5, e6, e7, e8⟩, sub⟩
/-- a def of one parameter: by place, and by its word -/
structure Own1 (P : Program) (w : World) (K : PySem.W.Frag) (mg : Str → Option Value) (base : Heap) (k : Nat) (x p1 : Str) (sp : Sp) : Prop where
  ex : ∃ f fd, FnOk P w K mg base CX0 k f fd [p1] sp ∧ mg x = some (.ref f) ∧ PySem.W.keepIn K (.ref f) = true ∧ Binds K fd [p1] [] ∧ KBinds K fd [p1] [p1] (· ++ ·) (· ++ ·)
section
variable {P : Program} {w : World} {K : PySem.W.Frag} {mg : Str → Option Value} {base : Heap}
theorem Has.own1 {k : Nat} {x p1 : Str} {st : Stmt} {sp : Sp} (hs : Has K mg x st) (ok : ∀ f fd, Fun K x x st f fd → FnOk P w K mg base CX0 k f fd [p1] sp)
    (b : ∀ (kV doc pm : Value) (an : Option Addr) (cdv ct : Value) (us : List Value), us.length = ([p1] : List Str).length → bindArgs (PySem.W.fnOf x x (defArgs st) (defBody st) (defScope st) .none kV doc pm an cdv ct) ⟨us, []⟩ = pure (([p1] : List Str).zip us))
    (b1 : ∀ (kV doc pm : Value) (an : Option Addr) (cdv ct u : Value), bindArgs (PySem.W.fnOf x x (defArgs st) (defBody st) (defScope st) .none kV doc pm an cdv ct) ⟨[], ([p1] : List Str).zip [u]⟩ = pure (([p1] : List Str).zip [u]))
    (b2 : ∀ (kV doc pm : Value) (an : Option Addr) (cdv ct u : Value), bindArgs (PySem.W.fnOf x x (defArgs st) (defBody st) (defScope st) .none kV doc pm an cdv ct) ⟨[u], ([p1] : List Str).zip []⟩ = pure (([p1] : List Str).zip [u])) : Own1 P w K mg base k x p1 sp := by
  obtain ⟨f, fd, F, m⟩ := hs
  refine ⟨f, fd, ok f fd F, m, F.kp, F.binds b, ?_⟩
  obtain ⟨oc, od, kV, doc, pm, an, cdv, ct, osl, rfl, lk, hcd⟩ := F.ex
  refine ⟨fun s us ws _ hl => ?_, fun r q => r.append q⟩
  match us, ws, hl with
  | [], [u], _ => exact .of_eq (b1 kV doc pm an cdv ct u)
  | [u], [], _ => exact .of_eq (b2 kV doc pm an cdv ct u)
end
section
variable {P : Program} {w : World} {K : Frag} {mg : Str → Option Value} {h : Heap}
theorem xe_mk {C fI : Addr} {x msg fld file nm q : Str} {N : Addr} {bs bm : List Value} {sn : List Str} {sub : List Value} {ab : Bool} {col : Option Bool} {dd : Option Addr} {m0 m1 m2 m3 m5 : Option Value} (X : K.In h) (G : h.Ns mainGlobals mg)
    (F : XInit K C fI msg fld fld file) (aC : nsIn K mainGlobals x = some (some (.ref C))) (xL : K.lookup C = some (excClassObj nm q C N bs bm true sn sub ab col dd m0 m1 m2 m3 m5 "ValueError.__new__")) (hbm : PySem.HandSPX.refsVE bm = true)
    (sa : findIn K (.ref C) "__setattr__" = some (some (.builtin "object.__setattr__"))) (opq : nsIn K cStatics "thirdparty.any" = some none) (kp : keepIn K (.ref C) = true)
    (hf : ((P.main.file : Str) == file) = true) (ht : (P.main.scope.names.lookup ("super" : Str)).isSome = false) (g : XGood K C x) : XE P K mg x msg fld :=
  ⟨⟨C, fI, file, ⟨⟨nm, q, N, bs, bm, sn, sub, ab, col, dd, m0, m1, m2, m3, m5, xL, hbm⟩, sa, opq, kp⟩, F, mg_of X G aC, hf, ht, g⟩⟩
theorem xu_mk {C : Addr} {x : Str} (X : K.In h) (G : h.Ns mainGlobals mg) (a : nsIn K mainGlobals x = some (some (.ref C))) (e : excIn K C [.type "ValueError", .type "Exception", .type "BaseException", .type "object"] "ValueError.__new__" = true) (k : keepIn K (.ref C) = true) (g : XGood K C x) : XU K mg x :=
  ⟨⟨C, _, "ValueError", _, _, PySem.F.excBase_ValueError, e, k, mg_of X G a, g⟩⟩
end
/-- by its one word -/
theorem kb_one {K : Frag} {x p1 : Str} {st : Stmt} {f : Addr} {fd : FuncData} (F : Fun K x x st f fd)
    (b1 : ∀ (kV doc pm : Value) (an : Option Addr) (cdv ct u : Value), bindArgs (fnOf x x (defArgs st) (defBody st) (defScope st) .none kV doc pm an cdv ct) ⟨[], ([p1] : List Str).zip [u]⟩ = pure (([p1] : List Str).zip [u]))
    (b2 : ∀ (kV doc pm : Value) (an : Option Addr) (cdv ct u : Value), bindArgs (fnOf x x (defArgs st) (defBody st) (defScope st) .none kV doc pm an cdv ct) ⟨[u], ([p1] : List Str).zip []⟩ = pure (([p1] : List Str).zip [u])) : KBinds K fd [p1] [p1] (· ++ ·) (· ++ ·) := by
  obtain ⟨oc, od, kV, doc, pm, an, cdv, ct, osl, rfl, lk, hcd⟩ := F.ex
  refine ⟨fun s us ws _ hl => ?_, fun r q => r.append q⟩
  match us, ws, hl with
  | [], [u], _ => exact .of_eq (b1 kV doc pm an cdv ct u)
  | [u], [], _ => exact .of_eq (b2 kV doc pm an cdv ct u)
end Sw
namespace Sw
open PySem PySem.Spec PyProof.Rows L2 PySem.W
/-! ### legs as data -/
def lgD (l : List Int × Int) : D := .tup [.tup (l.1.map D.int), .int l.2]
def jD (ls : List (List Int × Int)) : D := .tup (ls.map lgD)
def lgP (l : List Int × Int) : PyData := .tuple [.tuple (l.1.map PyData.int), .int l.2]
def wJ : List (List Int × Int) → Nat
  | [] => 0
  | l :: r => l.1.length * 6 + 62 + wJ r
structure LegG (m : Nat) (l : List Int × Int) : Prop where
  st : Stops m l.1
  ne : l.1 ≠ []
  lo : 1 ≤ l.2
  hi : l.2 ≤ 10 ^ 30
  len : l.1.length ≤ 2000
abbrev LegsG (m : Nat) (ls : List (List Int × Int)) : Prop := ∀ l ∈ ls, LegG m l
theorem LegIn.good {m : Nat} {H : Hp} {x : V} {l : List Int × Int} (h : LegIn m H x l) : LegG m l := by
  obtain ⟨q, ru, last, rfl, hq, R, h1, h2, h3⟩ := h
  exact ⟨R.stops, R.ne, h1, h3, h2⟩
theorem LegsIn.good {m : Nat} {H : Hp} : ∀ {xs : List V} {ls : List (List Int × Int)}, LegsIn m H xs ls → LegsG m ls
  | _, _, .nil => fun _ h => absurd h (by simp)
  | _, _, .cons h t => fun l hl => by
    rcases List.mem_cons.mp hl with z | z
    · rw [z]
      exact h.good
    · exact LegsIn.good t l z
theorem legs_int {m : Nat} {H : Hp} {xs : List V} {ls : List (List Int × Int)} {i : Nat} {z : Int} (h : LegsIn m H xs ls) : xs[i]? ≠ some (.int z) := fun e => by
  obtain ⟨l, _, q, ru, last, e2, _⟩ := h.at e
  cases e2
section
variable {K : PySem.W.Frag} {H : Hp} {m : Nat}
theorem legR {x : V} {l : List Int × Int} (h : LegIn m H x l) (hm : m ≤ 12) : ∃ as, Rep K H (lgD l) x as ∧ small (lgD l) ∧ wt (lgD l) ≤ l.1.length * 6 + 60 ∧ dep (lgD l) ≤ 2 ∧
    ∀ a ∈ as, (∃ ru t, H a = some (.tup [.ref ru, .int t])) ∨ ∃ o r, H a = some (.tup (V.int o :: r)) := by
  obtain ⟨q, ru, last, rfl, hq, R, h1, h2, h3⟩ := h
  obtain ⟨r1, r2, r3, r4⟩ := tupI (K := K) R.at' (.stops R.stops hm)
  obtain ⟨i1, i2, i3, i4⟩ := int_ok (K := K) (H := H) (i := l.2) (w := 31) (k := 0) (by have : (10 : Nat) ^ 31 = 10000000000000000000000000000000 := (by decide +kernel); have : (10 : Int) ^ 30 = 1000000000000000000000000000000 := (by decide +kernel); omega) (by decide) (by decide)
  obtain ⟨o, r, eo⟩ : ∃ o r, l.1 = o :: r := by
    cases e : l.1 with
    | nil => exact absurd e R.ne
    | cons o r => exact ⟨o, r, rfl⟩
  unfold lgD
  refine ⟨[q, ru], ?_, ?_, ?_, ?_, fun a ha => ?_⟩
  · rw [Rep]
    refine ⟨q, [.ref ru, .int l.2], [ru], rfl, hq, ?_, ?_, rfl⟩
    · rw [RepAll]
      refine ⟨_, _, [ru], [], rfl, r1, ?_, rfl⟩
      rw [RepAll]
      exact ⟨_, _, [], [], rfl, i1, by simp [RepAll], rfl⟩
    · intro z
      have e := List.mem_singleton.mp z
      have hr := R.at'
      rw [← e, hq, eo] at hr
      have q := HO.tup.inj (Option.some.inj hr)
      cases (List.cons.inj q).1
  · simp only [small, smallAll] at r2 i2 ⊢
    exact ⟨r2, i2, trivial⟩
  · simp only [wt, wtAll] at r3 i3 ⊢
    omega
  · simp only [dep, depAll] at r4 ⊢
    omega
  · rcases List.mem_cons.mp ha with z | z
    · rw [z]
      exact .inl ⟨ru, l.2, hq⟩
    · rw [List.mem_singleton.mp z]
      refine .inr ⟨o, r.map V.int, ?_⟩
      rw [R.at', eo]
      rfl
theorem legsR (hm : m ≤ 12) : ∀ {xs : List V} {ls : List (List Int × Int)}, LegsIn m H xs ls → ∃ as, RepAll K H (ls.map lgD) xs as ∧ smallAll (ls.map lgD) ∧ wtAll (ls.map lgD) ≤ wJ ls ∧ depAll (ls.map lgD) ≤ 2 ∧
    ∀ a ∈ as, (∃ ru t, H a = some (.tup [.ref ru, .int t])) ∨ ∃ o r, H a = some (.tup (V.int o :: r))
  | _, _, .nil => ⟨[], by simp [RepAll], by simp [smallAll], by simp [wtAll], by simp [depAll], fun _ h => absurd h (by simp)⟩
  | _, _, .cons (b := l) (l₂ := ls) h t => by
    obtain ⟨as, r1, r2, r3, r4, r5⟩ := legR (K := K) h hm
    obtain ⟨bs, q1, q2, q3, q4, q5⟩ := legsR hm t
    refine ⟨as ++ bs, ?_, ?_, ?_, ?_, fun a ha => ?_⟩
    · rw [List.map_cons, RepAll]
      exact ⟨_, _, as, bs, rfl, r1, q1, rfl⟩
    · rw [List.map_cons, smallAll]
      exact ⟨r2, q2⟩
    · rw [List.map_cons, wtAll]
      show _ ≤ l.1.length * 6 + 62 + wJ ls
      omega
    · rw [List.map_cons, depAll]
      omega
    · rcases List.mem_append.mp ha with z | z
      · exact r5 a z
      · exact q5 a z
theorem jR {jr : Addr} {xs : List V} {ls : List (List Int × Int)} (hj : H jr = some (.tup xs)) (LS : LegsIn m H xs ls) (hm : m ≤ 12) : ∃ as, Rep K H (jD ls) (.ref jr) as ∧ small (jD ls) ∧ wt (jD ls) ≤ wJ ls + 3 ∧ dep (jD ls) ≤ 3 := by
  obtain ⟨as, r1, r2, r3, r4, r5⟩ := legsR (K := K) hm LS
  unfold jD
  refine ⟨jr :: as, ?_, by simp only [small]; exact r2, by simp only [wt]; omega, by simp only [dep]; omega⟩
  rw [Rep]
  refine ⟨jr, xs, as, rfl, hj, r1, fun z => ?_, rfl⟩
  rcases r5 jr z with ⟨ru, t, e⟩ | ⟨o, r, e⟩
  · rw [hj] at e
    have e := HO.tup.inj (Option.some.inj e)
    exact legs_int (i := 1) (z := t) LS (by rw [e]; rfl)
  · rw [hj] at e
    have e := HO.tup.inj (Option.some.inj e)
    exact legs_int (i := 0) (z := o) LS (by rw [e]; rfl)
theorem dpLegs : ∀ {xs : List V} {ls : List (List Int × Int)}, LegsIn m H xs ls → DpAll K H xs (ls.map lgP)
  | _, _, .nil => .nil
  | _, _, .cons h t => by
    obtain ⟨q, ru, last, rfl, hq, R, _⟩ := h
    exact .cons (.tup (SqT.of hq) (.cons (.tup (SqT.of R.at') (dpInts _)) (.cons (.int _) .nil))) (dpLegs t)
end
theorem lays_legs : ∀ ls : List (List Int × Int), PyData.canLayAll0 (ls.map lgP) = true ∧ PyData.depthAll (ls.map lgP) ≤ 2
  | [] => ⟨rfl, by simp [PyData.depthAll]⟩
  | l :: r => by
    obtain ⟨h1, h2⟩ := lays_legs r
    refine ⟨?_, ?_⟩
    · simp [lgP, PyData.canLayAll0, PyData.canLay0, ke_canLayAll0, h1]
    · rw [List.map_cons, PyData.depthAll]
      have : PyData.depth (lgP l) ≤ 2 := by simp [lgP, PyData.depth, PyData.depthAll, ke_depthAll]
      omega
theorem shp_legs (ls : List (List Int × Int)) : SeqAt.shaped (.tuple (ls.map lgP)) = true := by
  obtain ⟨h1, h2⟩ := lays_legs ls
  unfold SeqAt.shaped
  rw [PyData.canLay0, h1, PyData.depth]
  simp
  omega
theorem shp_nil : SeqAt.shaped (.tuple []) = true := by decide
theorem legs_nil (ls : List (List Int × Int)) : PyData.eqv (.tuple (ls.map lgP)) (.tuple []) = decide (ls = []) := by
  cases ls with
  | nil => rfl
  | cons l r =>
    rw [decide_eq_false (by simp)]
    rfl
/-! ### what journeys leave -/
theorem jDo_perm {m : Nat} : ∀ {ls : List (List Int × Int)} {s : List Int × Int}, LegsG m ls → s.1.Perm (rgI (m + 1)) → (jDo m s ls).1.Perm (rgI (m + 1))
  | [], s, _, h => h
  | l :: ls, s, g, h => jDo_perm (ls := ls) (s := legDo m s l) (fun l hl => g l (List.mem_cons_of_mem _ hl)) (rowB_perm (beOf_perm (g l List.mem_cons_self).st) h _)
theorem jDo_stop {m : Nat} : ∀ {ls : List (List Int × Int)} {s : List Int × Int}, LegsG m ls → (0 ≤ s.2 ∧ s.2 < (m : Int)) → 0 ≤ (jDo m s ls).2 ∧ (jDo m s ls).2 < (m : Int)
  | [], s, _, h => h
  | l :: ls, s, g, h => jDo_stop (ls := ls) (s := legDo m s l) (fun l hl => g l (List.mem_cons_of_mem _ hl)) (by
      have gl := g l List.mem_cons_self
      show 0 ≤ l.1.getLast?.getD 0 ∧ l.1.getLast?.getD 0 < (m : Int)
      rw [List.getLast?_eq_some_getLast gl.ne]
      exact gl.st _ (List.getLast_mem gl.ne))
theorem jDo_app {m : Nat} {s : List Int × Int} (a b : List (List Int × Int)) : jDo m s (a ++ b) = jDo m (jDo m s a) b := List.foldl_append
theorem steps_le {m : Nat} : ∀ {ls : List (List Int × Int)}, LegsG m ls → 0 ≤ stepsF ls ∧ stepsF ls ≤ (ls.length : Int) * 2000000000000000000000000000000000
  | [], _ => ⟨Int.le_refl _, by simp [stepsF]⟩
  | l :: r, g => by
    obtain ⟨h1, h2⟩ := steps_le (ls := r) fun l hl => g l (List.mem_cons_of_mem _ hl)
    have gl := g l List.mem_cons_self
    have pos := List.length_pos_iff.mpr gl.ne
    have e : stepsF (l :: r) = ((l.1.length : Int) - 1) * l.2 + stepsF r := by
      unfold stepsF
      rw [List.map_cons, List.sum_cons]
    have a : (0 : Int) ≤ (l.1.length : Int) - 1 := by omega
    have lo := gl.lo
    have hi := gl.hi
    have le := gl.len
    have b : (0 : Int) ≤ ((l.1.length : Int) - 1) * l.2 := Int.mul_nonneg a (by omega)
    have c : ((l.1.length : Int) - 1) * l.2 ≤ 2000 * 10 ^ 30 := Int.mul_le_mul (by omega) hi (by omega) (by decide)
    have d : (2000 : Int) * 10 ^ 30 = 2000000000000000000000000000000000 := by decide +kernel
    rw [List.length_cons, e]
    omega
end Sw
namespace Sw
open PySem L2
abbrev sOnward : Stmt := top 49
abbrev sWalk : Stmt := top 50
abbrev nOnward : List Str := ["net", "found", "v", "w", "stop"]
theorem scOnward : FnScope nOnward ["net"] (defScope sOnward) := ⟨rfl, rfl, rfl, by decide +kernel, rfl, by decide +kernel, by decide +kernel⟩
theorem scWalk : FnScope ["deck", "net", "first", "many", "onward", "found", "turn"] ["deck", "net", "first", "many"] (defScope sWalk) := ⟨rfl, rfl, rfl, by decide +kernel, rfl, by decide +kernel, by decide +kernel⟩
/-- a list of whole numbers below n, at most m -/
def IntsAt (n : Int) (m : Nat) (H : Hp) (l : Addr) : Prop := ∃ os : List Int, H l = some (.lst (os.map V.int)) ∧ (∀ o ∈ os, Inn n o) ∧ os.length ≤ m
theorem IntsAt.ne {n : Int} {m : Nat} {H : Hp} {l f : Addr} {ls : List Addr} (h : IntsAt n m H l) (hf : H f = some (.lst (ls.map V.ref))) (hl : l ∈ ls) : l ≠ f := fun z => by
  obtain ⟨os, e, _⟩ := h
  rw [z, hf] at e
  have e2 := Option.some.inj e
  injection e2 with e3
  match ls, os, hl, e3 with
  | _ :: _, [], _, e3 => cases e3
  | _ :: _, _ :: _, _, e3 => cases e3
/-- the stops to which v leads, in the arrows' order -/
def outs (ars : List (Int × Int)) (v : Nat) : List Int := (ars.filter fun e => e.1 == (v : Int)).map (·.2)
theorem outs_mem {ars : List (Int × Int)} {v : Nat} {w : Int} : w ∈ outs ars v ↔ ((v : Int), w) ∈ ars := by
  unfold outs
  constructor
  · intro h
    obtain ⟨e, he, rfl⟩ := List.mem_map.mp h
    obtain ⟨h1, h2⟩ := List.mem_filter.mp he
    have h3 : e.1 = (v : Int) := beq_iff_eq.mp h2
    rw [← h3]
    exact h1
  · intro h
    exact List.mem_map.mpr ⟨_, List.mem_filter.mpr ⟨h, beq_self_eq_true _⟩, rfl⟩
theorem outs_succ {ars : List (Int × Int)} {i : Nat} {e : Int × Int} (h : ars[i]? = some e) (v : Nat) : outs (ars.take (i + 1)) v = outs (ars.take i) v ++ (if e.1 = (v : Int) then [e.2] else []) := by
  unfold outs
  rw [List.take_add_one, h, List.filter_append, List.map_append]
  by_cases q : e.1 = (v : Int)
  · rw [if_pos q]
    simp [q]
  · rw [if_neg q]
    simp [q]
theorem outs_len {ars : List (Int × Int)} {v : Nat} : (outs ars v).length ≤ ars.length := by
  unfold outs
  rw [List.length_map]
  exact List.length_filter_le _ _
section
variable {P : Program} {w : World} {K : PySem.W.Frag} {mg : Str → Option Value} {base : Heap}
def spOnward : Sp := fun vs H Q _ => ∃ (a b : Addr) (n : Int) (ts : List V) (ars : List (Int × Int)), vs = [.ref a] ∧ NetAt n H a b ts ∧ ArsAt H ts ars ∧ ∀ (f : Addr) (ls : List Addr) (H' : Hp), Same H H' → H f = none → H' f = some (.lst (ls.map V.ref)) → (ls.length : Int) = n → (∀ (v : Nat) (l : Addr), ls[v]? = some l → H l = none ∧ H' l = some (.lst ((outs ars v).map V.int))) → Q (.ref f) H'
theorem ok_onward {f : Addr} {fd : FuncData} (F : Fun K "_law_onward" "_law_onward" sOnward f fd) (B : NoNames mg) : FnOk P w K mg base CX0 1 f fd ["net"] spOnward := by
  refine F.ok scOnward (fun vs H Q E h => ?_) (fun cdv A outer s H vs Q E hr h => ?_)
  · obtain ⟨a, b, n, ts, ars, rfl, _⟩ := h
    rfl
  · obtain ⟨a, b, n, ts, ars, rfl, N, AR, k⟩ := h
    refine ⟨_, pss_cons (ps_setLc (i := 1) (own := [("stop", 4)]) (g := gName 4) (tt := tYes) rfl scOnward.nd rfl rfl (sw_true rfl rfl rfl (by decide +kernel)) (pi_range1 (by rfl) B.range (pa_cons (pe_ix ix_tup (pv 0) pe_int (fun _ _ => rfl)) pa_nil)) (blkOk_by (own := [("stop", 4)]) (N := nOnward) (sc := defScope sOnward) (by decide +kernel))
        (fun _ _ _ _ _ => pg_name (i := 4) scOnward.nd rfl (Or.inl rfl)) (fun _ _ _ _ _ => pts_nil) (fun _ _ _ _ _ => pe_lst pa_nil)) <|
      pss_cons (ps_for PassesOwn.never rfl (pi_tup (pe_ix ix_tup (pv 0) pe_int (fun _ _ => rfl))) (pg_tup rfl (pgs_cons (pg_name (i := 2) scOnward.nd rfl (.inl rfl)) (pgs_cons (pg_name (i := 3) scOnward.nd rfl (.inl rfl)) pgs_nil)))
        (pss_one (ps_expr (pe_bm PySem.F.plainAttrs_list PySem.F.slot_list_append PySem.F.type_list_append mt_append (pe_ix ix_list (pv 1) (pv 2) (fun _ _ => rfl)) (pa_cons (pv 3) pa_nil))))) <|
      pss_one (ps_ret (pv 1)), ?_⟩
    have n1 := N.n1
    have n2 := N.n2
    refine ⟨_, rfl, a, _, 0, .int n, rfl, rfl, SqT.of N.a, at_of (j := 0) rfl rfl, n, rfl, by omega, by omega, fun g ng => ?_⟩
    refine lc_it walk_range (fun j H' => ∃ ls : List Addr, H' g = some (.lst (ls.map V.ref)) ∧ ls.length = j ∧ Same H H' ∧ ls.Nodup ∧ ∀ l ∈ ls, H l = none ∧ H' l = some (.lst [])) ⟨[], upd_same, rfl, same_new ng, List.nodup_nil, fun _ h => absurd h (by simp)⟩ (fun _ _ _ _ => trivial) ?_ ?_
    · rintro j x Hb Ha hj ⟨ls, h1, h2, h3, hn, h4⟩ ⟨rfl, rfl⟩
      refine ⟨rfl, ?_⟩
      refine ⟨by show 0 ≤ sizeLine; exact Nat.zero_le _, fun q nq => ?_⟩
      have sq : Same Ha (upd Ha q (.lst [])) := same_new nq
      have gq : g ≠ q := fun z => by
        rw [← z, h1] at nq
        cases nq
      refine ⟨_, sq _ _ h1, by rw [List.length_map, h2, sizeLine_eq]; omega, ls ++ [q], by rw [upd_same, List.map_append]; rfl, by rw [List.length_append, h2]; rfl, fun c o e => ?_, List.nodup_append.mpr ⟨hn, by simp, fun c hc c2 hc2 z => ?_⟩, fun l hl => ?_⟩
      · rw [upd_ne (ne_of_none e ng)]
        exact sq _ _ (h3 _ _ e)
      · rw [List.mem_singleton.mp hc2] at z
        rw [← z, (h4 c hc).2] at nq
        cases nq
      · rcases List.mem_append.mp hl with hl | hl
        · have lg : l ≠ g := IntsAt.ne (n := 0) (m := 0) ⟨[], (h4 l hl).2, fun _ h => absurd h (by simp), Nat.le_refl _⟩ h1 hl
          exact ⟨(h4 l hl).1, by rw [upd_ne lg]; exact sq _ _ (h4 l hl).2⟩
        · rw [List.mem_singleton.mp hl]
          exact ⟨h3.free nq, by rw [upd_ne gq.symm, upd_same]⟩
    · rintro Ha ⟨ls, h1, h2, h3, hn, h4⟩
      have N2 := N.keep (.of h3)
      refine ⟨_, rfl, a, _, 1, .ref b, rfl, rfl, SqT.of N2.a, at_of (j := 1) rfl rfl, b, rfl, ⟨_, SqT.of N2.b⟩, for_it (walk_tup (xs := ts)) (fun i σ H' => (∃ s2 s3, σ = [some (.ref a), some (.ref g), s2, s3, none]) ∧ Same H H' ∧ H' g = some (.lst (ls.map V.ref)) ∧ ∀ (v : Nat) (l : Addr), ls[v]? = some l → H l = none ∧ H' l = some (.lst ((outs (ars.take i) v).map V.int)))
        ⟨⟨_, _, rfl⟩, h3, h1, fun v l hv => h4 l (List.mem_of_getElem? hv)⟩ (fun i σ H' _ h => SqT.of ((N.keep (.of h.2.1)).b)) ?_ ?_⟩
      · rintro i x σ H2 H1 hi ⟨⟨s2, s3, rfl⟩, s1, g1, hl⟩ ⟨rfl, ex⟩
        obtain ⟨e, t, he, rfl, ht0⟩ := AR.at ex
        have ht := s1 _ _ ht0
        obtain ⟨t', v, w', et, ht', hv, hw⟩ := N.arr _ (List.mem_of_getElem? ex)
        cases et
        rw [ht0] at ht'
        have e1 : e.1 = v := by
          injection Option.some.inj ht' with q
          injection q with q1 _
          exact V.int.inj q1
        refine ⟨t, _, rfl, SqT.of ht, rfl, _, _, rfl, _, _, rfl, rfl, ?_⟩
        obtain ⟨jv, hjv0⟩ := Int.eq_ofNat_of_zero_le (show 0 ≤ e.1 by rw [e1]; exact hv.1)
        have hjv : jv < ls.length := by
          have := hv.2
          omega
        have hm : ls[jv]? = some ls[jv] := List.getElem?_eq_getElem hjv
        obtain ⟨l0, c0⟩ := hl _ _ hm
        have lg : ls[jv] ≠ g := fun z => by
          rw [z, g1] at c0
          injection Option.some.inj c0 with q
          have q2 := congrArg List.head? q
          cases hls : ls with
          | nil =>
            rw [hls] at hjv
            exact absurd hjv (Nat.not_lt_zero _)
          | cons u us =>
            rw [hls] at q2
            cases ho : outs (ars.take i) jv with
            | nil =>
              rw [ho] at q2
              cases q2
            | cons y ys =>
              rw [ho] at q2
              injection q2 with q3
              cases q3
        have tl := N.len
        have ol : (outs (ars.take i) jv).length ≤ 200 := Nat.le_trans outs_len (by rw [List.length_take]; have := AR.len; omega)
        refine ⟨_, rfl, _, rfl, g, _, _, .ref ls[jv], rfl, rfl, SqL.of g1, at_of (j := jv) hjv0 (by rw [List.getElem?_map, hm]; rfl), .inl ⟨rfl, _, SqL.of c0⟩, _, rfl, ls[jv], _, _, rfl, rfl, c0, by rw [List.length_map, sizeLine_eq]; omega, ?_⟩
        refine ⟨⟨_, _, rfl⟩, fun c o ec => ?_, by rw [upd_ne lg.symm]; exact g1, fun u l hu => ⟨(hl u l hu).1, ?_⟩⟩
        · rw [upd_ne (ne_of_none ec l0)]
          exact s1 _ _ ec
        · rw [outs_succ he]
          by_cases q : l = ls[jv]
          · have hu2 : u = jv := nd_ix hn hu (by rw [hm, q])
            subst hu2
            rw [q, upd_same, if_pos hjv0, List.map_append]
            rfl
          · have hu2 : ¬ e.1 = (u : Int) := fun z => q (by
              have : u = jv := by omega
              subst this
              rw [hm] at hu
              exact (Option.some.inj hu).symm)
            rw [upd_ne q, if_neg hu2, List.append_nil]
            exact (hl u l hu).2
      · rintro σ H1 ⟨⟨s2, s3, rfl⟩, s1, g1, hl⟩
        refine ⟨_, rfl, k g ls H1 s1 ng g1 (by omega) fun v l hv => ?_⟩
        have q := hl v l hv
        rw [AR.len, List.take_length] at q
        exact q
end
end Sw
namespace Sw
open PySem L2
section
variable {P : Program} {w : World} {K : PySem.W.Frag} {mg : Str → Option Value} {base : Heap}
/-- each thing leads to the next -/
def Chain (ars : List (Int × Int)) (os : List Int) : Prop := ∀ (i : Nat) (v w : Int), os[i]? = some v → os[i + 1]? = some w → (v, w) ∈ ars
theorem Chain.one {ars : List (Int × Int)} {o : Int} : Chain ars [o] := fun i v w _ h => by simp at h
theorem Chain.snoc {ars : List (Int × Int)} {os : List Int} {o z : Int} (h : Chain ars os) (hl : os.getLast? = some o) (hz : (o, z) ∈ ars) : Chain ars (os ++ [z]) := fun i v w h1 h2 => by
  have hlen : i + 1 < (os ++ [z]).length := (List.getElem?_eq_some_iff.mp h2).1
  rw [List.length_append, List.length_singleton] at hlen
  by_cases q : i + 1 < os.length
  · rw [List.getElem?_append_left (by omega)] at h1
    rw [List.getElem?_append_left q] at h2
    exact h i v w h1 h2
  · have q2 : i + 1 = os.length := by omega
    rw [List.getElem?_append_left (by omega)] at h1
    rw [q2, List.getElem?_append_right (Nat.le_refl _), Nat.sub_self] at h2
    rw [List.getLast?_eq_getElem?, show os.length - 1 = i by omega, h1] at hl
    cases hl
    cases h2
    exact hz
def spWalk : Sp := fun vs H Q _ => ∃ (p d a b : Addr) (n first many : Int) (ts : List V) (ars : List (Int × Int)), vs = [.ref p, .ref a, .int first, .int many] ∧ Deck H p d 63 ∧ NetAt n H a b ts ∧ ArsAt H ts ars ∧ Inn n first ∧ (0 ≤ many ∧ many ≤ 1000) ∧
  ∀ (r : Addr) (os : List Int) (H' : Hp), Deck H' p d 63 → Kp p d H H' → H r = none → H' r = some (.tup (os.map V.int)) → os ≠ [] → (os.length : Int) ≤ many + 1 → (∀ o ∈ os, Inn n o) → os[0]? = some first → Chain ars os → ((os.length : Int) = many + 1 ∨ ∃ v : Nat, os.getLast? = some (v : Int) ∧ outs ars v = []) → Q (.ref r) H'
theorem last_of {os : List Int} (h : os ≠ []) : ∃ o ∈ os, atI (os.map V.int) (-1) = some (.int o) ∧ os.getLast? = some o := by
  refine ⟨os.getLast h, List.getLast_mem h, ?_, List.getLast?_eq_some_getLast h⟩
  have e := (List.dropLast_concat_getLast h)
  have q := atI_last (os.dropLast.map V.int) (V.int (os.getLast h))
  have e2 := congrArg (List.map V.int) e
  rw [List.map_append] at e2
  rw [← e2]
  exact q
theorem eqv_nil2 (ns : List Int) : PyData.eqv (.list (ns.map PyData.int)) (.list []) = decide (ns = []) := by
  cases ns with
  | nil => simp [PyData.eqv, PyData.eqvAll]
  | cons a r => simp [PyData.eqv, PyData.eqvAll]
theorem ok_walk {f : Addr} {fd : FuncData} (F : Fun K "_law_walk" "_law_walk" sWalk f fd) (B : NoNames mg) (OP : Own P w K mg base 2 "_law_pick" ["deck", "items"] spPick) (OW : Own P w K mg base 1 "_law_onward" ["net"] spOnward) : FnOk P w K mg base CX0 3 f fd ["deck", "net", "first", "many"] spWalk := by
  obtain ⟨fP, fdP, GP, mP, kP, bP⟩ := OP.ex
  obtain ⟨fW, fdW, GW, mW, kW, bW⟩ := OW.ex
  refine F.ok scWalk (fun vs H Q E h => ?_) (fun cdv A outer s H vs Q E hr h => ?_)
  · obtain ⟨p, d, a, b, n, fi, ma, ts, ars, rfl, _⟩ := h
    rfl
  · obtain ⟨p, d, a, b, n, fi, ma, ts, ars, rfl, D, N, AR, hf, hm, k⟩ := h
    have hr1 : Room 1 _ := hr.mono (by decide)
    refine ⟨_, pss_cons (ps_par (i := 4) (j := 5) rfl scWalk.nd rfl rfl (by decide) rfl rfl (pa_cons (pe_call GW hr1 rfl mW kW bW .nil pass0 (pa_cons (pv 1) pa_nil)) (pa_cons (pe_lst (pa_cons (pv 2) pa_nil)) pa_nil)) (by rfl)) <|
      pss_cons (ps_for PassesOwn.never rfl (pi_range1 (by rfl) B.range (pa_cons (pv 3) pa_nil)) (pg_name (i := 6) scWalk.nd rfl (.inl rfl))
        (pss_cons (ps_if (pt_cmpR (op_eqD hr.units) (pe_ix ix_list (pv 4) (pe_ix ix_list (pv 5) (pe_un un_neg pe_int) (fun _ _ => rfl)) (fun _ _ => rfl)) (pe_lst pa_nil) (nomark _))
          (pss_one (ps_ret (pe_callTy call_tuple_of (by rfl) B.tuple (by decide +kernel) (pa_cons (pv 5) pa_nil)))) pss_nil) <|
        pss_one (ps_expr (pe_bm PySem.F.plainAttrs_list PySem.F.slot_list_append PySem.F.type_list_append mt_append (pv 5)
          (pa_cons (pe_call GP hr rfl mP kP bP .nil pass0 (pa_cons (pv 0) (pa_cons (pe_ix ix_list (pv 4) (pe_ix ix_list (pv 5) (pe_un un_neg pe_int) (fun _ _ => rfl)) (fun _ _ => rfl)) pa_nil))) pa_nil))))) <|
      pss_one (ps_ret (pe_callTy call_tuple_of (by rfl) B.tuple (by decide +kernel) (pa_cons (pv 5) pa_nil))), ?_⟩
    refine ⟨_, rfl, a, b, n, ts, ars, rfl, N, AR, fun g ls H1 s1 ng g1 ll hl => ⟨_, rfl, by show 1 ≤ sizeLine; decide, fun fo nfo => ⟨_, _, rfl, ?_⟩⟩⟩
    have sf : Same H1 (upd H1 fo (.lst [.int fi])) := same_new nfo
    have D1 := (D.same s1).same sf
    have og := D.ne_none ng
    have ofo := (D.same s1).ne_none nfo
    have nf0 : H fo = none := s1.free nfo
    have gf : g ≠ fo := fun z => by
      rw [← z, g1] at nfo
      cases nfo
    have lf : ∀ (v : Nat) (l : Addr), ls[v]? = some l → l ≠ fo := fun v l hl2 z => by
      have e := (hl v l hl2).2
      rw [z, nfo] at e
      cases e
    have lo : ∀ (v : Nat) (l : Addr), ls[v]? = some l → l ≠ p ∧ l ≠ d := fun v l hl2 => D.ne_none (hl v l hl2).1
    have done : ∀ {H' : Hp} {os : List Int}, Deck H' p d 63 → Kp p d H H' → H' fo = some (.lst (os.map V.int)) → os ≠ [] → (os.length : Int) ≤ ma + 1 → (∀ o ∈ os, Inn n o) → os[0]? = some fi → Chain ars os → ((os.length : Int) = ma + 1 ∨ ∃ v : Nat, os.getLast? = some (v : Int) ∧ outs ars v = []) →
        ∃ p' ys, [V.ref fo] = [.ref p'] ∧ ((SqL K H' p' ys ∧ ∀ l, H' l = none → Q (.ref l) (upd H' l (.tup ys))) ∨ (SqT K H' p' ys ∧ Q (.ref p') H')) := fun {H' os} D' k' h1 h2 h3 h4 h5 h6 h7 =>
      ⟨fo, _, rfl, .inl ⟨SqL.of h1, fun l nl => k l os _ (D'.same (same_new nl)) (k'.trans (Kp.new nl)) (k'.free D' nl) upd_same h2 h3 h4 h5 h6 h7⟩⟩
    refine ⟨_, rfl, ma, rfl, by omega, by omega, for_range (lo := 0) (n := ma.toNat) (fun i σ H' => (∃ t, σ = [some (.ref p), some (.ref a), some (.int fi), some (.int ma), some (.ref g), some (.ref fo), t]) ∧ Deck H' p d 63 ∧ Kp p d H H' ∧
      H' g = some (.lst (ls.map V.ref)) ∧ (∀ (v : Nat) (l : Addr), ls[v]? = some l → H' l = some (.lst ((outs ars v).map V.int))) ∧ ∃ os : List Int, H' fo = some (.lst (os.map V.int)) ∧ os ≠ [] ∧ os.length = i + 1 ∧ (∀ o ∈ os, Inn n o) ∧ os[0]? = some fi ∧ Chain ars os)
      ⟨⟨_, rfl⟩, D1, .of (s1.trans sf), sf _ _ g1, fun v l hl2 => sf _ _ (hl v l hl2).2, [fi], upd_same, by simp, rfl, fun o ho => by rw [List.mem_singleton.mp ho]; exact hf, rfl, Chain.one⟩ ?_ ?_⟩
    · rintro i σ H2 hi ⟨⟨t, rfl⟩, D2, k2, g2, l2, os, f2, fne, flen, fin, f0, fch⟩
      obtain ⟨o, ho, eo, elast⟩ := last_of fne
      have hoI := fin o ho
      obtain ⟨jo, rfl⟩ := Int.eq_ofNat_of_zero_le hoI.1
      have hj : jo < ls.length := by
        have := hoI.2
        omega
      have hmem : ls[jo]? = some ls[jo] := List.getElem?_eq_getElem hj
      have e1 := l2 _ _ hmem
      have e3 : (outs ars jo).length ≤ 200 := Nat.le_trans outs_len (by have := AR.len; have := N.len; omega)
      have e2 : ∀ z ∈ outs ars jo, Inn n z := fun z hz => by
        obtain ⟨i0, hi0, ez⟩ := List.getElem_of_mem (outs_mem.mp hz)
        have hlt : i0 < ts.length := by rw [AR.len]; exact hi0
        have hts : ts[i0]? = some ts[i0] := List.getElem?_eq_getElem hlt
        obtain ⟨e0, t0, h0, h00, h000⟩ := AR.at hts
        rw [List.getElem?_eq_getElem hi0, ez] at h0
        cases h0
        obtain ⟨t1, v1, w1, q0, q1, _, q3⟩ := N.arr _ (List.mem_of_getElem? hts)
        rw [h00] at q0
        cases q0
        rw [h000] at q1
        injection Option.some.inj q1 with q5
        injection q5 with _ q6
        injection q6 with q7 _
        have e9 : z = w1 := V.int.inj q7
        rw [e9]
        exact q3
      generalize hqs : outs ars jo = qs at e1 e2 e3
      have at4 : ∀ {H' : Hp}, H' g = some (.lst (ls.map V.ref)) → atI (ls.map V.ref) ((jo : Nat) : Int) = some (.ref ls[jo]) := fun _ => at_of (j := jo) rfl (by rw [List.getElem?_map, List.getElem?_eq_getElem hj]; rfl)
      refine ⟨_, rfl, _, rfl, 1, rfl, fo, _, -1, .int (jo : Int), rfl, rfl, SqL.of f2, eo, g, _, _, .ref ls[jo], rfl, rfl, SqL.of g2, at4 g2, by show 0 ≤ sizeLine; exact Nat.zero_le _, fun e ne => ?_⟩
      have se : Same H2 (upd H2 e (.lst [])) := same_new ne
      refine ⟨.list (qs.map PyData.int), .list [], .lst (SqL.of (se _ _ e1)) (dpInts qs), .lst (SqL.of upd_same) .nil, PySem.W.ke_shaped_ints qs, rfl, _, rfl, ?_⟩
      have D3 := D2.same se
      have k3 := k2.trans (.of se)
      have g3 := se _ _ g2
      have f3 := se _ _ f2
      have e13 := se _ _ e1
      have l3 : ∀ (v : Nat) (l : Addr), ls[v]? = some l → (upd H2 e (.lst [])) l = some (.lst ((outs ars v).map V.int)) := fun v l hl2 => se _ _ (l2 v l hl2)
      generalize (upd H2 e (.lst [])) = H3 at D3 k3 g3 f3 e13 l3 ⊢
      rw [eqv_nil2]
      refine ite2 (fun y => ?_) (fun y => ?_)
      · exact ⟨_, rfl, done D3 k3 f3 fne (by omega) fin f0 fch (.inr ⟨jo, elast, hqs.trans (of_decide_eq_true y)⟩)⟩
      have qne : qs ≠ [] := fun z => y (decide_eq_true z)
      refine ⟨_, rfl, .inl ⟨rfl, _, SqL.of f3⟩, _, rfl, _, rfl, _, rfl, 1, rfl, fo, _, -1, .int (jo : Int), rfl, rfl, SqL.of f3, eo, g, _, _, .ref ls[jo], rfl, rfl, SqL.of g3, at4 g3, ?_⟩
      refine ⟨p, d, ls[jo], _, rfl, D3, e13, (lo _ _ hmem).2, by simpa using qne, by rw [List.length_map]; omega, fun x H4 hx D4 k4 => ?_⟩
      obtain ⟨z, hz, rfl⟩ := List.mem_map.mp hx
      have f4 := k4 _ _ f3 ofo.1 ofo.2
      refine ⟨fo, _, _, rfl, rfl, f4, by rw [List.length_map, flen, sizeLine_eq]; omega, ?_⟩
      refine ⟨⟨_, rfl⟩, D4.upd ofo.1 ofo.2, fun c o e q1 q2 => ?_, by rw [upd_ne gf]; exact k4 _ _ g3 og.1 og.2, fun v l hl2 => ?_, os ++ [z], by rw [upd_same, List.map_append]; rfl, by simp, by rw [List.length_append, flen]; rfl, fun o ho => ?_, by rw [List.getElem?_append_left (by omega)]; exact f0, fch.snoc elast (outs_mem.mp (by rw [hqs]; exact hz))⟩
      · rw [upd_ne (ne_of_none e nf0)]
        exact k4 _ _ (k3 _ _ e q1 q2) q1 q2
      · rw [upd_ne (lf v l hl2)]
        exact k4 _ _ (l3 v l hl2) (lo v l hl2).1 (lo v l hl2).2
      · rcases List.mem_append.mp ho with ho | ho
        · exact fin o ho
        · rw [List.mem_singleton.mp ho]
          exact e2 z hz
    · rintro σ H2 ⟨⟨t, rfl⟩, D2, k2, g2, l2, os, f2, fne, flen, fin, f0, fch⟩
      exact ⟨_, rfl, done D2 k2 f2 fne (by omega) fin f0 fch (.inl (by omega))⟩
end
end Sw
namespace Sw
open PySem L2
/-! ### _law_back -/
theorem outs_inn {n : Int} {H : Hp} {a b : Addr} {ts : List V} {ars : List (Int × Int)} (N : NetAt n H a b ts) (AR : ArsAt H ts ars) {v : Nat} {z : Int} (hz : z ∈ outs ars v) : Inn n z := by
  obtain ⟨i0, hi0, ez⟩ := List.getElem_of_mem (outs_mem.mp hz)
  have hlt : i0 < ts.length := by rw [AR.len]; exact hi0
  have hts : ts[i0]? = some ts[i0] := List.getElem?_eq_getElem hlt
  obtain ⟨e0, t0, h0, h00, h000⟩ := AR.at hts
  rw [List.getElem?_eq_getElem hi0, ez] at h0
  cases h0
  obtain ⟨t1, v1, w1, q0, q1, _, q3⟩ := N.arr _ (List.mem_of_getElem? hts)
  rw [h00] at q0
  cases q0
  rw [h000] at q1
  injection Option.some.inj q1 with q5
  injection q5 with _ q6
  injection q6 with q7 _
  have e9 : z = w1 := V.int.inj q7
  rw [e9]
  exact q3
theorem pig : ∀ (n : Nat) (ks : List Int), ks.Nodup → (∀ k ∈ ks, 0 ≤ k ∧ k < n) → ks.length ≤ n
  | 0, ks, _, h => by
    cases ks with
    | nil => exact Nat.le_refl _
    | cons k r =>
      have := h k (List.mem_cons_self ..)
      omega
  | n + 1, ks, hn, h => by
    have q := pig n (ks.erase (n : Int)) (hn.erase _) fun k hk => by
      have h1 := h k (List.mem_of_mem_erase hk)
      have h2 : k ≠ (n : Int) := fun z => by
        rw [z] at hk
        exact (List.Nodup.mem_erase_iff hn).mp hk |>.1 rfl
      omega
    have e := List.length_erase (a := (n : Int)) (l := ks)
    split at e
    · omega
    · omega
/-- what is known: ways from the first stop -/
structure Ways (ars : List (Int × Int)) (n first : Int) (H : Hp) (kvs : List (Key × V)) : Prop where
  nd : (kvs.map (·.1)).Nodup
  each : ∀ kv ∈ kvs, ∃ (v : Int) (t : Addr) (os : List Int), kv = (.inl v, .ref t) ∧ Inn n v ∧ H t = some (.tup (os.map V.int)) ∧ Chain ars (first :: os) ∧ (first :: os).getLast? = some v ∧ os.length < kvs.length ∧ ∀ o ∈ os, Inn n o
theorem Ways.keep {ars : List (Int × Int)} {n first : Int} {H H' : Hp} {kvs : List (Key × V)} (W : Ways ars n first H kvs) (s : TupS H H') : Ways ars n first H' kvs :=
  ⟨W.nd, fun kv hk => by
    obtain ⟨v, t, os, e, i, h, r⟩ := W.each kv hk
    exact ⟨v, t, os, e, i, s _ _ h, r⟩⟩
theorem Ways.few {ars : List (Int × Int)} {n first : Int} {H : Hp} {kvs : List (Key × V)} (W : Ways ars n first H kvs) (n0 : 0 ≤ n) : kvs.length ≤ n.toNat := by
  have inj : ∀ l : List (Key × V), (∀ kv ∈ l, ∃ (v : Int) (x : V), kv = (.inl v, x) ∧ Inn n v) → (l.map (·.1)).Nodup → ∃ ks : List Int, l.map (·.1) = ks.map Sum.inl ∧ ks.Nodup ∧ ∀ k ∈ ks, 0 ≤ k ∧ k < n.toNat := by
    intro l
    induction l with
    | nil => exact fun _ _ => ⟨[], rfl, List.nodup_nil, fun _ h => absurd h (by simp)⟩
    | cons kv r ih =>
      intro h nd
      rw [List.map_cons] at nd
      obtain ⟨nn, nd⟩ := List.nodup_cons.mp nd
      obtain ⟨ks, e, d, b⟩ := ih (fun x hx => h x (List.mem_cons_of_mem _ hx)) nd
      obtain ⟨v, x, rfl, i⟩ := h kv (List.mem_cons_self ..)
      refine ⟨v :: ks, by rw [List.map_cons, List.map_cons, e], List.nodup_cons.mpr ⟨fun z => nn ?_, d⟩, fun k hk => ?_⟩
      · rw [e]
        exact List.mem_map.mpr ⟨v, z, rfl⟩
      · rcases List.mem_cons.mp hk with rfl | hk
        · exact ⟨i.1, by have := i.2; omega⟩
        · exact b k hk
  obtain ⟨ks, e, d, b⟩ := inj kvs (fun kv hk => by
    obtain ⟨v, t, os, e, i, _⟩ := W.each kv hk
    exact ⟨v, .ref t, e, i⟩) W.nd
  have q := pig n.toNat ks d b
  have l := congrArg List.length e
  rw [List.length_map, List.length_map] at l
  omega
theorem valV_mem {κ : Type} [DecidableEq κ] {kvs : List (κ × V)} {k : κ} {x : V} (h : valV kvs k = some x) : (k, x) ∈ kvs := by
  unfold valV at h
  cases q : kvs.find? fun kv => decide (kv.1 = k) with
  | none => rw [q] at h; cases h
  | some z =>
    rw [q] at h
    have h1 := List.find?_some q
    have h1 := of_decide_eq_true h1
    have h2 := Option.some.inj h
    have : z = (k, x) := by
      rw [← h1, ← h2]
    rw [← this]
    exact List.mem_of_find?_eq_some q
theorem Ways.at {ars : List (Int × Int)} {n first : Int} {H : Hp} {kvs : List (Key × V)} (W : Ways ars n first H kvs) {v : Int} {x : V} (h : valV kvs (.inl v) = some x) : ∃ (t : Addr) (os : List Int), x = .ref t ∧ H t = some (.tup (os.map V.int)) ∧ Chain ars (first :: os) ∧ (first :: os).getLast? = some v ∧ os.length < kvs.length ∧ ∀ o ∈ os, Inn n o := by
  obtain ⟨v', t, os, e, i, h1, h2, h3, h4, h5⟩ := W.each _ (valV_mem h)
  injection e with e1 e2
  have e1 := Sum.inl.inj e1
  subst e1
  exact ⟨t, os, e2, h1, h2, h3, h4, h5⟩
theorem Ways.add {ars : List (Int × Int)} {n first v z : Int} {H : Hp} {kvs : List (Key × V)} {t : Addr} {os : List Int} (W : Ways ars n first H kvs) (hn : valV kvs (.inl z) = none) (hz : Inn n z) (ht : H t = some (.tup ((os ++ [z]).map V.int)))
    (c : Chain ars (first :: os)) (l : (first :: os).getLast? = some v) (hv : (v, z) ∈ ars) (len : os.length < kvs.length) (ho : ∀ o ∈ os, Inn n o) : Ways ars n first H (kvs ++ [(.inl z, .ref t)]) := by
  refine ⟨?_, fun kv hk => ?_⟩
  · rw [List.map_append]
    refine List.nodup_append.mpr ⟨W.nd, by simp, fun a ha b hb e => ?_⟩
    have hb : b = .inl z := by simpa using hb
    rw [hb] at e
    rw [e] at ha
    exact valV_not hn ha
  · rcases List.mem_append.mp hk with hk | hk
    · obtain ⟨v', t', os', e, i, h1, h2, h3, h4, h5⟩ := W.each kv hk
      exact ⟨v', t', os', e, i, h1, h2, h3, by rw [List.length_append]; omega, h5⟩
    · refine ⟨z, t, os ++ [z], List.mem_singleton.mp hk, hz, ht, ?_, ?_, by rw [List.length_append, List.length_append]; simp only [List.length_cons, List.length_nil]; omega, fun o h => ?_⟩
      · have := c.snoc l hv
        rwa [List.cons_append] at this
      · rw [← List.cons_append, List.getLast?_append]
        rfl
      · rcases List.mem_append.mp h with h | h
        · exact ho o h
        · rw [List.mem_singleton.mp h]
          exact hz
theorem Ways.inn {ars : List (Int × Int)} {n first : Int} {H : Hp} {kvs : List (Key × V)} (W : Ways ars n first H kvs) {v : Int} {x : V} (h : valV kvs (.inl v) = some x) : Inn n v := by
  obtain ⟨v', t, os, e, i, _⟩ := W.each _ (valV_mem h)
  injection e with e1 e2
  have e1 := Sum.inl.inj e1
  subst e1
  exact i
theorem cut_tail (x : V) (r : List V) : cutV (x :: r) (some 1) none = r := by
  have e : cutV (x :: r) (some ((1 : Nat) : Int)) none = r := by
    unfold cutV
    rw [HT.sIx_nat, List.length_cons]
    show List.take _ (List.drop (min 1 (r.length + 1)) (x :: r)) = r
    rw [show min 1 (r.length + 1) = 1 by omega, List.drop_one]
    exact List.take_of_length_le (by rw [List.tail_cons]; show r.length ≤ (r.length + 1) - 1; omega)
  exact e
abbrev sBack : Stmt := top 51
abbrev nBack : List Str := ["net", "first", "last", "onward", "known", "waits", "stop", "w"]
theorem scBack : FnScope nBack ["net", "first", "last"] (defScope sBack) := ⟨rfl, rfl, rfl, by decide +kernel, rfl, by decide +kernel, by decide +kernel⟩
section
variable {P : Program} {w : World} {K : PySem.W.Frag} {mg : Str → Option Value} {base : Heap}
def spBack : Sp := fun vs H Q _ => ∃ (a b : Addr) (n first last : Int) (ts : List V) (ars : List (Int × Int)), vs = [.ref a, .int first, .int last] ∧ NetAt n H a b ts ∧ ArsAt H ts ars ∧ Inn n first ∧
  (∀ H', Same H H' → Q .non H') ∧ ∀ (r : Addr) (os : List Int) (H' : Hp), Same H H' → H' r = some (.tup (os.map V.int)) → Chain ars (first :: os) → (first :: os).getLast? = some last → os.length ≤ 12 → (∀ o ∈ os, Inn n o) → Q (.ref r) H'
theorem ok_back {f : Addr} {fd : FuncData} (F : Fun K "_law_back" "_law_back" sBack f fd) (B : NoNames mg) (O : Own P w K mg base 1 "_law_onward" ["net"] spOnward) : FnOk P w K mg base CX0 2 f fd ["net", "first", "last"] spBack := by
  obtain ⟨fO, fdO, GO, mO, kO, bO⟩ := O.ex
  refine F.ok scBack (fun vs H Q E h => ?_) (fun cdv A outer s H vs Q E hr h => ?_)
  · obtain ⟨a, b, n, fi, la, ts, ars, rfl, _⟩ := h
    rfl
  · obtain ⟨a, b, n, fi, la, ts, ars, rfl, N, AR, hfi, k0, k1⟩ := h
    have hu := hu_of hr
    refine ⟨_, pss_cons (ps_par3 (i := 3) (j := 4) (l := 5) rfl scBack.nd rfl rfl rfl (by decide) (by decide) (by decide) rfl rfl rfl (pa_cons (pe_call GO hr rfl mO kO bO .nil pass0 (pa_cons (pv 0) pa_nil))
        (pa_cons (pe_disp (pps_cons (pv 1) (pe_tup pa_nil) pps_nil) (by rfl) (by rfl) (by simp) (by decide)) (pa_cons (pe_lst (pa_cons (pv 1) pa_nil)) pa_nil))) (by rfl)) <|
      pss_cons (ps_while PassesOwn.never (pt_cmpR (op_neNil hr.units0) (pv 5) (pe_lst pa_nil) (nomark _))
        (pss_cons (ps_par (i := 6) (j := 5) rfl scBack.nd rfl rfl (by decide) rfl rfl (pa_cons (pe_ix ix_list (pv 5) pe_int (fun _ _ => rfl)) (pa_cons (pe_slice sl_list (pv 5) (po_some pe_int) po_none) pa_nil)) (by rfl)) <|
        pss_one (ps_for PassesOwn.never rfl (pi_list (pe_ix ix_list (pv 3) (pv 6) (fun _ _ => rfl))) (pg_name (i := 7) scBack.nd rfl (.inl rfl))
          (pss_one (ps_if (pt_cmp (pc_dnotin hu (pv 7) (pv 4)))
            (pss_cons (ps_dput hu (pv 4) (pv 7) (pe_op (r := rCatA K) op_catA (pe_dget hu (pv 4) (pv 6) (fun _ _ => rfl)) (pe_tup (pa_cons (pv 7) pa_nil))) rfl) <|
            pss_one (ps_set (i := 5) scBack.nd rfl (.inl rfl) (pe_op op_cat (pv 5) (pe_lst (pa_cons (pv 7) pa_nil))))) pss_nil))))) <|
      pss_one (ps_ret (pe_dget1 hu (pv 4) (pv 2) ⟨by rfl, by rfl, by rfl, by rfl⟩)), ?_⟩
    have n1 := N.n1
    have n2 := N.n2
    refine ⟨_, rfl, a, b, n, ts, ars, rfl, N, AR, fun g ls H1 s1 ng g1 ll hl => fun kd nkd => ⟨_, rfl, Nat.zero_le _, fun t0 nt0 => ?_⟩⟩
    have kdt : kd ≠ t0 := fun z => by
      rw [z, upd_same] at nt0
      cases nt0
    refine ⟨by rw [upd_ne kdt, upd_same], [(.inl fi, .ref t0)], rfl, by show 1 ≤ 15; decide, _, rfl, by show 1 ≤ sizeLine; decide, fun W0 nW0 => ⟨_, _, _, rfl, ?_⟩⟩
    have w1 : W0 ≠ kd := fun z => by
      rw [z, upd_same] at nW0
      cases nW0
    have w2 : W0 ≠ t0 := fun z => by
      rw [z, upd_ne kdt.symm, upd_same] at nW0
      cases nW0
    have hk : (upd (upd (upd (upd H1 kd (.dK [])) t0 (.tup [])) kd (.dK (mergeK [] [(.inl fi, .ref t0)]))) W0 (.lst [.int fi])) kd = some (.dK [(.inl fi, .ref t0)]) := by
      rw [upd_ne w1.symm, upd_same]
      rfl
    have ht : (upd (upd (upd (upd H1 kd (.dK [])) t0 (.tup [])) kd (.dK (mergeK [] [(.inl fi, .ref t0)]))) W0 (.lst [.int fi])) t0 = some (.tup (([] : List Int).map V.int)) := by
      rw [upd_ne w2.symm, upd_ne kdt.symm, upd_same]
      rfl
    have hW : (upd (upd (upd (upd H1 kd (.dK [])) t0 (.tup [])) kd (.dK (mergeK [] [(.inl fi, .ref t0)]))) W0 (.lst [.int fi])) W0 = some (.lst ([fi].map V.int)) := upd_same
    have kp : Same H1 (upd (upd (upd (upd H1 kd (.dK [])) t0 (.tup [])) kd (.dK (mergeK [] [(.inl fi, .ref t0)]))) W0 (.lst [.int fi])) := fun b o e => by
      have e1 := same_new (o := .tup []) nt0 b o (same_new (o := .dK []) nkd b o e)
      have e2 : (upd (upd (upd H1 kd (.dK [])) t0 (.tup [])) kd (.dK (mergeK [] [(.inl fi, .ref t0)]))) b = some o := by
        rw [upd_ne (ne_of_none e nkd)]
        exact e1
      exact same_new nW0 b o e2
    generalize (upd (upd (upd (upd H1 kd (.dK [])) t0 (.tup [])) kd (.dK (mergeK [] [(.inl fi, .ref t0)]))) W0 (.lst [.int fi])) = H3 at hk ht hW kp ⊢
    have ways : Ways ars n fi H3 [(.inl fi, .ref t0)] := ⟨by simp, fun kv h => ⟨fi, t0, [], List.mem_singleton.mp h, hfi, ht, Chain.one, rfl, by show 0 < 1; decide, fun _ h => absurd h (by simp)⟩⟩
    refine ⟨fun m σ H' => ∃ (kvs : List (Key × V)) (W : List Int) (wa : Addr) (s6 s7 : Option V), σ = [some (.ref a), some (.int fi), some (.int la), some (.ref g), some (.ref kd), some (.ref wa), s6, s7] ∧ Same H1 H' ∧ H' kd = some (.dK kvs) ∧ H' wa = some (.lst (W.map V.int)) ∧ Ways ars n fi H' kvs ∧ (∀ x ∈ W, (valV kvs (.inl x)).isSome = true) ∧ (n.toNat - kvs.length) + W.length = m ∧ m ≤ n.toNat,
      ⟨n.toNat, _, [fi], W0, none, none, rfl, kp, hk, hW, ways, fun x hx => by rw [List.mem_singleton.mp hx]; simp [valV], by show n.toNat - 1 + 1 = n.toNat; omega, Nat.le_refl _⟩, ?_⟩
    rintro m σ H4 ⟨kvs, W, wa, s6, s7, rfl, kp4, hk4, hW4, ways4, kn4, hm, hmn⟩
    refine ⟨_, rfl, Nat.zero_le _, fun e ne => ?_⟩
    have se : Same H4 (upd H4 e (.lst [])) := same_new ne
    refine ⟨wa, e, _, rfl, rfl, SqL.of (se _ _ hW4), SqL.of upd_same, _, rfl, ?_⟩
    have kp5 := kp4.trans se
    have hk5 := se _ _ hk4
    have hW5 := se _ _ hW4
    have ways5 := ways4.keep (.of se)
    generalize (upd H4 e (.lst [])) = H5 at kp5 hk5 hW5 ways5 ⊢
    clear hk4 hW4 ways4 se ne
    refine ite2 (fun y => ?_) (fun y => ?_)
    · cases W with
      | nil => cases y
      | cons x0 W1 =>
      refine ⟨fun σ' H' => ∃ m', m' < m ∧ ∃ (kvs : List (Key × V)) (W : List Int) (wa : Addr) (s6 s7 : Option V), σ' = [some (.ref a), some (.int fi), some (.int la), some (.ref g), some (.ref kd), some (.ref wa), s6, s7] ∧ Same H1 H' ∧ H' kd = some (.dK kvs) ∧ H' wa = some (.lst (W.map V.int)) ∧ Ways ars n fi H' kvs ∧ (∀ x ∈ W, (valV kvs (.inl x)).isSome = true) ∧ (n.toNat - kvs.length) + W.length = m' ∧ m' ≤ n.toNat, fun _ _ h => h, ?_⟩
      have kx := kn4 x0 (List.mem_cons_self ..)
      obtain ⟨xv, hxv⟩ := Option.isSome_iff_exists.mp kx
      have ix := ways5.inn hxv
      obtain ⟨jo, rfl⟩ := Int.eq_ofNat_of_zero_le ix.1
      have hj : jo < ls.length := by
        have := ix.2
        omega
      have hmem : ls[jo]? = some ls[jo] := List.getElem?_eq_getElem hj
      have hlj := (hl _ _ hmem).2
      refine ⟨_, rfl, wa, _, 0, .int (jo : Int), rfl, rfl, SqL.of hW5, at_of (j := 0) rfl rfl, _, rfl, 1, rfl, wa, _, rfl, SqL.of hW5, fun wb nwb => ⟨_, _, rfl, ?_⟩⟩
      rw [List.map_cons, cut_tail]
      have sb : Same H5 (upd H5 wb (.lst (W1.map V.int))) := same_new nwb
      have kp6 := kp5.trans sb
      refine ⟨_, rfl, _, rfl, g, _, _, .ref ls[jo], rfl, rfl, SqL.of (kp6 _ _ g1), at_of (j := jo) rfl (by rw [List.getElem?_map, hmem]; rfl), ls[jo], rfl, ⟨_, SqL.of (kp6 _ _ hlj)⟩, ?_⟩
      have hk6 := sb _ _ hk5
      have hW6 : (upd H5 wb (.lst (W1.map V.int))) wb = some (.lst (W1.map V.int)) := upd_same
      have ways6 := ways5.keep (.of sb)
      generalize (upd H5 wb (.lst (W1.map V.int))) = H6 at kp6 hk6 hW6 ways6 ⊢
      rw [List.length_cons] at hm
      refine for_it (walk_list (xs := (outs ars jo).map V.int)) (fun i σ H' => ∃ (kvs : List (Key × V)) (W : List Int) (wa : Addr) (s7 : Option V), σ = [some (.ref a), some (.int fi), some (.int la), some (.ref g), some (.ref kd), some (.ref wa), some (.int (jo : Int)), s7] ∧ Same H1 H' ∧ H' kd = some (.dK kvs) ∧ H' wa = some (.lst (W.map V.int)) ∧ Ways ars n fi H' kvs ∧ (∀ x ∈ W, (valV kvs (.inl x)).isSome = true) ∧ (valV kvs (.inl (jo : Int))).isSome = true ∧ (n.toNat - kvs.length) + W.length + 1 = m)
        ⟨kvs, W1, wb, s7, rfl, kp6, hk6, hW6, ways6, fun x hx => kn4 x (List.mem_cons_of_mem _ hx), kx, by omega⟩ (fun i σ H' _ h => by obtain ⟨_, _, _, _, _, h, _⟩ := h; exact SqL.of (h _ _ hlj)) ?_ ?_
      · rintro i x σ H8 H7 hi ⟨kvs7, W7, wa7, s7', rfl, kp7, hk7, hW7, ways7, kn7, kx7, hm7⟩ ⟨rfl, ex⟩
        obtain ⟨z, ez, rfl⟩ := int_at ex
        have hz := outs_inn N AR (List.mem_of_getElem? ez)
        have harr := outs_mem.mp (List.mem_of_getElem? ez)
        refine ⟨_, rfl, _, rfl, kd, _, rfl, DGet.k (k := .inl z) hk7, ?_⟩
        cases em : (valV kvs7 (.inl z : Key)).isSome with
        | true => exact ⟨_, rfl, iteF ⟨kvs7, W7, wa7, _, rfl, kp7, hk7, hW7, ways7, kn7, kx7, hm7⟩⟩
        | false =>
          have hnone : valV kvs7 (.inl z : Key) = none := by
            cases q : valV kvs7 (.inl z : Key) with
            | none => rfl
            | some _ => rw [q] at em; cases em
          obtain ⟨xo, hxo⟩ := Option.isSome_iff_exists.mp kx7
          obtain ⟨t, os, rfl, ht7, hc, hlast, hlen, hos⟩ := ways7.at hxo
          have few := ways7.few (by omega)
          refine ⟨_, rfl, iteT ?_⟩
          refine ⟨_, rfl, _, rfl, kd, .ref t, rfl, by rw [← hxo]; exact DGet.k (k := .inl (jo : Int)) hk7, _, rfl, by show 1 ≤ sizeLine; decide, fun T nT => ?_⟩
          have sT : Same H7 (upd H7 T (.tup [.int z])) := same_new nT
          refine ⟨t, T, os.map V.int, [.int z], rfl, rfl, SqT.of (sT _ _ ht7), SqT.of upd_same, by rw [List.length_map, sizeLine_eq]; simp only [List.length_cons, List.length_nil]; omega, ?c1, fun _ q => (nomatch q), ?c2⟩
          case' c1 =>
            intro q
            have eo : os = [] := by simpa using q
            have hR : (upd H7 T (.tup [.int z])) T = some (.tup ((os ++ [z]).map V.int)) := by
              rw [eo]
              exact upd_same
            have sR := sT
            generalize (upd H7 T (.tup [.int z])) = H9 at hR sR ⊢
            generalize T = R at hR ⊢
          case' c2 =>
            intro q _ R nR
            have hR : (upd (upd H7 T (.tup [.int z])) R (.tup (os.map V.int ++ [.int z]))) R = some (.tup ((os ++ [z]).map V.int)) := by
              rw [upd_same, List.map_append]
              rfl
            have sR := sT.trans (same_new (o := .tup (os.map V.int ++ [.int z])) nR)
            generalize (upd (upd H7 T (.tup [.int z])) R (.tup (os.map V.int ++ [.int z]))) = H9 at hR sR ⊢
          all_goals
            have hk9 := sR _ _ hk7
            have wk : wa7 ≠ kd := fun q => by
              rw [q, hk7] at hW7
              cases hW7
            refine ⟨_, rfl, _, rfl, kd, _, rfl, DPut.k (k := .inl z) hk9 (by rw [sizeLine_eq]; omega), ?_⟩
            rw [putK_new _ hnone]
            have hk10 : (upd H9 kd (.dK (kvs7 ++ [(.inl z, .ref R)]))) kd = some (.dK (kvs7 ++ [(.inl z, .ref R)])) := upd_same
            have hW10 : (upd H9 kd (.dK (kvs7 ++ [(.inl z, .ref R)]))) wa7 = some (.lst (W7.map V.int)) := by
              rw [upd_ne wk]
              exact sR _ _ hW7
            have tu : TupS H9 (upd H9 kd (.dK (kvs7 ++ [(.inl z, .ref R)]))) := TupS.upd fun ys q => by
              rw [hk9] at q
              cases q
            have ways10 := ((ways7.keep (.of sR)).add hnone hz hR hc hlast harr hlen hos).keep tu
            have kp10 : Same H1 (upd H9 kd (.dK (kvs7 ++ [(.inl z, .ref R)]))) := fun b o e => by
              rw [upd_ne (ne_of_none e nkd)]
              exact sR _ _ (kp7 _ _ e)
            generalize (upd H9 kd (.dK (kvs7 ++ [(.inl z, .ref R)]))) = HA at hk10 hW10 ways10 kp10 ⊢
            have few10 := ways10.few (by omega)
            rw [List.length_append, List.length_singleton] at few10
            refine ⟨_, rfl, _, rfl, by show 1 ≤ sizeLine; decide, fun q nq => ?_⟩
            have sq : Same HA (upd HA q (.lst [.int z])) := same_new nq
            refine ⟨wa7, q, _, _, rfl, rfl, sq _ _ hW10, upd_same, by rw [List.length_map, sizeLine_eq]; simp only [List.length_cons, List.length_nil]; omega, fun p np => ?_⟩
            have sp := sq.trans (same_new (o := .lst (W7.map V.int ++ [.int z])) np)
            refine ⟨_, W7 ++ [z], p, _, rfl, kp10.trans sp, sp _ _ hk10, by rw [upd_same, List.map_append]; rfl, ways10.keep (.of sp), fun x hx => ?_, ?_, ?_⟩
            · rw [valV_snoc _ _ _ _ hnone]
              split
              · rfl
              · rename_i ne2
                rcases List.mem_append.mp hx with h | h
                · exact kn7 x h
                · exact absurd (by rw [List.mem_singleton.mp h]) ne2
            · rw [valV_snoc _ _ _ _ hnone]
              split
              · rfl
              · exact kx7
            · rw [List.length_append, List.length_append]
              simp only [List.length_cons, List.length_nil]
              omega
      · rintro σ H7 ⟨kvs7, W7, wa7, s7', rfl, kp7, hk7, hW7, ways7, kn7, kx7, hm7⟩
        exact ⟨m - 1, by omega, kvs7, W7, wa7, _, _, rfl, kp7, hk7, hW7, ways7, kn7, by omega, by omega⟩
    · refine ⟨_, rfl, kd, rfl, .inl ⟨_, .inl hk5⟩, _, rfl, _, DGet.k (k := .inl la) hk5, ?_⟩
      have sH := s1.trans kp5
      cases q : valV kvs (.inl la : Key) with
      | none => exact k0 _ sH
      | some x =>
        obtain ⟨t, os, rfl, ht5, hc, hlast, hlen, hos⟩ := ways5.at q
        have few := ways5.few (by omega)
        exact k1 t os _ sH ht5 hc hlast (by omega) hos
end
end Sw
namespace Sw
open PySem L2
/-! ### standings as data: what is wrong first -/
def rowOf (n : Int) : D → Option (List D × D)
  | .tup [.tup ds, s] => if (ds.length : Int) = n + 1 then some (ds, s) else none
  | _ => none
def Twice (ds : List D) (i : Nat) : Prop := ∃ (v : Int) (j : Nat), ds[i]? = some (.int v) ∧ j < i ∧ ds[j]? = some (.int v)
inductive IsErrS (n : Int) : D → D → Prop
  | form {d : D} (h : rowOf n d = none) : IsErrS n d (.str "form")
  | thing {d s x : D} {ds : List D} {i : Nat} (h : rowOf n d = some (ds, s)) (hx : ds[i]? = some x) (hb : isWhole 0 n x = false) (ha : ∀ (j : Nat) (y : D), j < i → ds[j]? = some y → isWhole 0 n y = true) : IsErrS n d (.tup [.str "thing", .int i])
  | twice {d s : D} {ds : List D} {i : Nat} (h : rowOf n d = some (ds, s)) (ha : ∀ (j : Nat) (y : D), ds[j]? = some y → isWhole 0 n y = true) (hb : Twice ds i) (hl : ∀ j, j < i → ¬ Twice ds j) : IsErrS n d (.tup [.str "twice", .int i])
  | stop {d s : D} {ds : List D} (h : rowOf n d = some (ds, s)) (ha : ∀ (j : Nat) (y : D), ds[j]? = some y → isWhole 0 n y = true) (hl : ∀ j, ¬ Twice ds j) (hs : isWhole 0 (n - 1) s = false) : IsErrS n d (.str "stop")
  | fine {d s : D} {ds : List D} (h : rowOf n d = some (ds, s)) (ha : ∀ (j : Nat) (y : D), ds[j]? = some y → isWhole 0 n y = true) (hl : ∀ j, ¬ Twice ds j) (hs : isWhole 0 (n - 1) s = true) : IsErrS n d .non
theorem IsErrS.det {n : Int} {d r r' : D} (h : IsErrS n d r) (h' : IsErrS n d r') : r = r' := by
  cases h with
  | form h =>
    cases h' with
    | form => rfl
    | thing e => rw [h] at e; cases e
    | twice e => rw [h] at e; cases e
    | stop e => rw [h] at e; cases e
    | fine e => rw [h] at e; cases e
  | @thing s x ds i h hx hb ha =>
    cases h' with
    | form e => rw [h] at e; cases e
    | @thing s' x' ds' i' e hx' hb' ha' =>
      rw [h] at e
      cases e
      rcases Nat.lt_trichotomy i i' with l | l | l
      · exact absurd (ha' i x l hx) (by rw [hb]; decide)
      · rw [l]
      · exact absurd (ha i' x' l hx') (by rw [hb']; decide)
    | twice e ha' => rw [h] at e; cases e; exact absurd (ha' i x hx) (by rw [hb]; decide)
    | stop e ha' => rw [h] at e; cases e; exact absurd (ha' i x hx) (by rw [hb]; decide)
    | fine e ha' => rw [h] at e; cases e; exact absurd (ha' i x hx) (by rw [hb]; decide)
  | @twice s ds i h ha hb hl =>
    cases h' with
    | form e => rw [h] at e; cases e
    | @thing s' x' ds' i' e hx' hb' ha' => rw [h] at e; cases e; exact absurd (ha i' x' hx') (by rw [hb']; decide)
    | @twice s' ds' i' e ha' hb' hl' =>
      rw [h] at e
      cases e
      rcases Nat.lt_trichotomy i i' with l | l | l
      · exact absurd hb (hl' i l)
      · rw [l]
      · exact absurd hb' (hl i' l)
    | stop e ha' hl' => rw [h] at e; cases e; exact absurd hb (hl' i)
    | fine e ha' hl' => rw [h] at e; cases e; exact absurd hb (hl' i)
  | @stop s ds h ha hl hs =>
    cases h' with
    | form e => rw [h] at e; cases e
    | @thing s' x' ds' i' e hx' hb' ha' => rw [h] at e; cases e; exact absurd (ha i' x' hx') (by rw [hb']; decide)
    | @twice s' ds' i' e ha' hb' hl' => rw [h] at e; cases e; exact absurd hb' (hl i')
    | stop => rfl
    | fine e ha' hl' hs' => rw [h] at e; cases e; rw [hs] at hs'; cases hs'
  | @fine s ds h ha hl hs =>
    cases h' with
    | form e => rw [h] at e; cases e
    | @thing s' x' ds' i' e hx' hb' ha' => rw [h] at e; cases e; exact absurd (ha i' x' hx') (by rw [hb']; decide)
    | @twice s' ds' i' e ha' hb' hl' => rw [h] at e; cases e; exact absurd hb' (hl i')
    | stop e ha' hl' hs' => rw [h] at e; cases e; rw [hs] at hs'; cases hs'
    | fine => rfl
theorem row_tup {n : Int} {d : D} (h : isT "tuple" d = false) : rowOf n d = none := by
  cases d <;> simp_all [isT, rowOf]
theorem row_pair {n : Int} {d : D} (h : isPair d = false) : rowOf n d = none := by
  cases d with
  | tup ds =>
    match ds, h with
    | [], _ => rfl
    | [_], _ => simp [rowOf]
    | [_, _], h => cases h
    | _ :: _ :: _ :: _, _ => simp [rowOf]
  | _ => rfl
theorem row_no {n : Int} {a b : D} (h : isT "tuple" a = false) : rowOf n (.tup [a, b]) = none := by
  cases a <;> simp_all [isT, rowOf]
theorem row_len {n : Int} {ds : List D} {b : D} : rowOf n (.tup [.tup ds, b]) = if (ds.length : Int) = n + 1 then some (ds, b) else none := rfl
theorem whole_int {lo hi : Int} {d : D} (h : isWhole lo hi d = true) : ∃ i, d = .int i := by
  cases d <;> first | exact ⟨_, rfl⟩ | (cases h)
/-- the first things of a row of whole numbers: a thing that stands among them -/
theorem in_cut {K : PySem.W.Frag} {H : Hp} {ds : List D} {ys : List V} {cs : List Addr} {n : Int} (hds : RepAll K H ds ys cs) (hw : ∀ (j : Nat) (y : D), ds[j]? = some y → isWhole 0 n y = true) {i : Nat} {v : Int} (hi : ds[i]? = some (.int v)) :
    (cutV ys none (some (i : Int))).all flatV = true ∧ (inV (.int v) (cutV ys none (some (i : Int))) = true ↔ Twice ds i) := by
  have hlt : i < ys.length := by
    rw [hds.len]
    exact (List.getElem?_eq_some_iff.mp hi).1
  have ec : cutV ys none (some (i : Int)) = ys.take i := by
    unfold cutV
    rw [HT.sIx_none, HT.sIx_nat, Nat.min_eq_left (Nat.le_of_lt hlt), List.drop_zero, Nat.sub_zero]
  have each : ∀ (j : Nat) (x : V), ys[j]? = some x → ∃ u, ds[j]? = some (.int u) ∧ x = .int u := fun j x hx => by
    obtain ⟨d, bs, h1, h2, _⟩ := hds.at2 hx
    obtain ⟨u, rfl⟩ := whole_int (hw j d h1)
    simp only [Rep] at h2
    exact ⟨u, h1, h2.1⟩
  have mem : ∀ x ∈ ys.take i, ∃ j u, j < i ∧ ds[j]? = some (.int u) ∧ x = .int u := fun x hx => by
    obtain ⟨j, hj, e⟩ := List.getElem_of_mem hx
    rw [List.length_take] at hj
    have hx2 : ys[j]? = some x := by
      rw [List.getElem?_eq_getElem (by omega)]
      rw [List.getElem_take] at e
      rw [e]
    obtain ⟨u, h1, h2⟩ := each j x hx2
    exact ⟨j, u, by omega, h1, h2⟩
  rw [ec]
  refine ⟨List.all_eq_true.mpr fun x hx => ?_, ?_, ?_⟩
  · obtain ⟨j, u, _, _, rfl⟩ := mem x hx
    rfl
  · intro h
    obtain ⟨x, hx, e⟩ := List.any_eq_true.mp h
    obtain ⟨j, u, hj, hu, rfl⟩ := mem x hx
    have e : (u == v) = true := e
    rw [beq_iff_eq.mp e] at hu
    exact ⟨v, j, hi, hj, hu⟩
  · rintro ⟨v', j, h1, hj, h2⟩
    rw [hi] at h1
    cases h1
    obtain ⟨x, bs, h3, h4, _⟩ := hds.at h2
    simp only [Rep] at h4
    obtain ⟨rfl, _⟩ := h4
    refine List.any_eq_true.mpr ⟨.int v, ?_, beq_self_eq_true v⟩
    refine List.mem_of_getElem? (i := j) ?_
    rw [List.getElem?_take_of_lt hj]
    exact h3
def spSt (K : PySem.W.Frag) : Sp := fun vs H Q _ => ∃ (n : Int) (x : V) (d : D) (as : List Addr), vs = [.int n, x] ∧ Rep K H d x as ∧ wt d ≤ 10000000 ∧ 1 ≤ n ∧ n ≤ 12 ∧
  ∀ (r : D) (v : V) (bs : List Addr) (H' : Hp), IsErrS n d r → Same H H' → Rep K H' r v bs → small r → wt r ≤ 100 → dep r ≤ 1 → Q v H'
/-- the answers, each with what it asks -/
theorem err_str {K : PySem.W.Frag} {H : Hp} {z : Str} (h : (reprText z).length ≤ 100) : Rep K H (.str z) (.str z) [] ∧ small (.str z) ∧ wt (.str z) ≤ 100 ∧ dep (.str z) ≤ 1 :=
  ⟨by simp [Rep], by simp only [small], by simp only [wt]; exact h, by simp only [dep]; decide⟩
theorem err_pair {K : PySem.W.Frag} {H : Hp} {p : Addr} {z : Str} {i : Nat} (hz : (reprText z).length ≤ 20) (hi : i ≤ sizeLine) (np : H p = none) : Rep K (upd H p (.tup [.str z, .int i])) (.tup [.str z, .int i]) (.ref p) [p] ∧ small (.tup [.str z, .int i]) ∧ wt (.tup [.str z, .int i]) ≤ 100 ∧ dep (.tup [.str z, .int i]) ≤ 1 := by
  have hw := int_wt hi
  refine ⟨rep_err np, ?_, ?_, ?_⟩
  · simp only [small, smallAll]
    exact ⟨trivial, hw.2, trivial⟩
  · simp only [wt, wtAll]
    omega
  · simp only [dep, depAll]
    decide
end Sw
namespace Sw
open PySem L2
/-! ### runs as data: what is wrong first -/
def runOf : D → Option (List D)
  | .tup ds => if 1 ≤ ds.length ∧ ds.length ≤ 1000 then some ds else none
  | _ => none
def BadStep (ars : List (Int × Int)) (ds : List D) (i : Nat) : Prop := ∃ v w : Int, 0 < i ∧ ds[i - 1]? = some (.int v) ∧ ds[i]? = some (.int w) ∧ (v, w) ∉ ars
inductive IsErrR (n : Int) (ars : List (Int × Int)) : D → D → Prop
  | form {d : D} (h : runOf d = none) : IsErrR n ars d (.str "form")
  | stop {d x : D} {ds : List D} {i : Nat} (h : runOf d = some ds) (hx : ds[i]? = some x) (hb : isWhole 0 (n - 1) x = false) (ha : ∀ (j : Nat) (y : D), j < i → ds[j]? = some y → isWhole 0 (n - 1) y = true) : IsErrR n ars d (.tup [.str "stop", .int i])
  | arrow {d : D} {ds : List D} {i : Nat} (h : runOf d = some ds) (ha : ∀ (j : Nat) (y : D), ds[j]? = some y → isWhole 0 (n - 1) y = true) (hb : BadStep ars ds i) (hl : ∀ j, j < i → ¬ BadStep ars ds j) : IsErrR n ars d (.tup [.str "arrow", .int i])
  | fine {d : D} {ds : List D} (h : runOf d = some ds) (ha : ∀ (j : Nat) (y : D), ds[j]? = some y → isWhole 0 (n - 1) y = true) (hl : ∀ j, ¬ BadStep ars ds j) : IsErrR n ars d .non
theorem IsErrR.det {n : Int} {ars : List (Int × Int)} {d r r' : D} (h : IsErrR n ars d r) (h' : IsErrR n ars d r') : r = r' := by
  cases h with
  | form h =>
    cases h' with
    | form => rfl
    | stop e => rw [h] at e; cases e
    | arrow e => rw [h] at e; cases e
    | fine e => rw [h] at e; cases e
  | @stop x ds i h hx hb ha =>
    cases h' with
    | form e => rw [h] at e; cases e
    | @stop x' ds' i' e hx' hb' ha' =>
      rw [h] at e
      cases e
      rcases Nat.lt_trichotomy i i' with l | l | l
      · exact absurd (ha' i x l hx) (by rw [hb]; decide)
      · rw [l]
      · exact absurd (ha i' x' l hx') (by rw [hb']; decide)
    | arrow e ha' => rw [h] at e; cases e; exact absurd (ha' i x hx) (by rw [hb]; decide)
    | fine e ha' => rw [h] at e; cases e; exact absurd (ha' i x hx) (by rw [hb]; decide)
  | @arrow ds i h ha hb hl =>
    cases h' with
    | form e => rw [h] at e; cases e
    | @stop x' ds' i' e hx' hb' ha' => rw [h] at e; cases e; exact absurd (ha i' x' hx') (by rw [hb']; decide)
    | @arrow ds' i' e ha' hb' hl' =>
      rw [h] at e
      cases e
      rcases Nat.lt_trichotomy i i' with l | l | l
      · exact absurd hb (hl' i l)
      · rw [l]
      · exact absurd hb' (hl i' l)
    | fine e ha' hl' => rw [h] at e; cases e; exact absurd hb (hl' i)
  | @fine ds h ha hl =>
    cases h' with
    | form e => rw [h] at e; cases e
    | @stop x' ds' i' e hx' hb' ha' => rw [h] at e; cases e; exact absurd (ha i' x' hx') (by rw [hb']; decide)
    | @arrow ds' i' e ha' hb' hl' => rw [h] at e; cases e; exact absurd hb' (hl i')
    | fine => rfl
theorem run_tup {d : D} (h : isT "tuple" d = false) : runOf d = none := by
  cases d <;> simp_all [isT, runOf]
theorem run_len {ds : List D} : runOf (.tup ds) = if 1 ≤ ds.length ∧ ds.length ≤ 1000 then some ds else none := rfl
def spRun (K : PySem.W.Frag) : Sp := fun vs H Q _ => ∃ (a b : Addr) (n : Int) (ts : List V) (ars : List (Int × Int)) (x : V) (d : D) (as : List Addr), vs = [.ref a, x] ∧ NetAt n H a b ts ∧ ArsAt H ts ars ∧ Rep K H d x as ∧ wt d ≤ 10000000 ∧
  ∀ (r : D) (v : V) (bs : List Addr) (H' : Hp), IsErrR n ars d r → Same H H' → Rep K H' r v bs → small r → wt r ≤ 100 → dep r ≤ 1 → Q v H'
/-- the pairs made so far, just those of the first i arrows -/
def PX (D : Addr) (H1 : Hp) (ars : List (Int × Int)) (i : Nat) (H : Hp) : Prop := ∃ ps qs, H D = some (.lst (ps.map V.ref)) ∧ Paired (PairH H) ps qs ∧ qs.map (·.1) = (ars.take i).map (fun e => ([.inl e.1, .inl e.2] : List Key)) ∧ H1 D = none ∧ Same H1 H
theorem PX.add {L : Addr} {H1 Ha H2 : Hp} {ars : List (Int × Int)} {i : Nat} {e : Int × Int} {t T : Addr} (h : PX L H1 ars i Ha) (s : Same Ha H2) (hi : i < 1000) (he : ars[i]? = some e) (ht : H2 t = some (.tup [.int e.1, .int e.2])) (hT : H2 T = some (.tup [.ref t, .bl true])) :
    ∃ acc, H2 L = some (.lst acc) ∧ acc.length < sizeLine ∧ PX L H1 ars (i + 1) (upd H2 L (.lst (acc ++ [.ref T]))) := by
  obtain ⟨ps, qs, h1, h2, h3, h4, h5⟩ := h
  have hL := s _ _ h1
  have tsu : TupS H2 (upd H2 L (.lst (ps.map V.ref ++ [.ref T]))) := TupS.upd fun xs z => by
    rw [hL] at z
    cases z
  have hlen : ps.length ≤ i := by
    have e1 := h2.length
    have e2 := congrArg List.length h3
    rw [List.length_map, List.length_map, List.length_take] at e2
    omega
  refine ⟨_, hL, by rw [List.length_map, sizeLine_eq]; omega, ps ++ [T], qs ++ [([.inl e.1, .inl e.2], t, .bl true)], by rw [upd_same, List.map_append]; rfl, (paired_mono (fun _ _ x => x.keep ((TupS.of s).trans tsu)) h2).snoc (b := (([.inl e.1, .inl e.2] : List Key), t, V.bl true)) ⟨tsu _ _ hT, tsu t [.int e.1, .int e.2] ht⟩, ?_, h4, fun c o q => ?_⟩
  · rw [List.map_append, h3, List.take_add_one, he, List.map_append]
    rfl
  · rw [upd_ne (ne_of_none q h4)]
    exact s _ _ (h5 _ _ q)
theorem keys_ars {ars : List (Int × Int)} {kvs : List (List Key × V)} {qs : List PT} (h : qs.map (·.1) = ars.map fun e => ([.inl e.1, .inl e.2] : List Key)) (l2 : ∀ kv ∈ kvs, ∃ q ∈ qs, q.1 = kv.1) (l3 : ∀ q ∈ qs, ∃ kv ∈ kvs, kv.1 = q.1) (v w : Int) :
    (valV kvs ([.inl v, .inl w] : List Key)).isSome = true ↔ (v, w) ∈ ars := by
  rw [← valV_any, List.any_eq_true]
  constructor
  · rintro ⟨kv, hk, e⟩
    have e := of_decide_eq_true e
    obtain ⟨q, hq, e2⟩ := l2 kv hk
    have hm : ([.inl v, .inl w] : List Key) ∈ qs.map (·.1) := List.mem_map.mpr ⟨q, hq, e2.trans e⟩
    rw [h] at hm
    obtain ⟨z, hz, e3⟩ := List.mem_map.mp hm
    injection e3 with a1 a2
    injection a2 with a3 _
    have b1 := Sum.inl.inj a1
    have b2 := Sum.inl.inj a3
    rw [← b1, ← b2]
    exact hz
  · intro hm
    have hm2 : ([.inl v, .inl w] : List Key) ∈ qs.map (·.1) := by
      rw [h]
      exact List.mem_map.mpr ⟨(v, w), hm, rfl⟩
    obtain ⟨q, hq, e⟩ := List.mem_map.mp hm2
    obtain ⟨kv, hk, e2⟩ := l3 q hq
    exact ⟨kv, hk, decide_eq_true (e2.trans e)⟩
end Sw
namespace Sw
open PySem PySem.Spec PyProof.Rows L2
/-! ### tables of sets, of eight places to 512 -/
def orb (m : Nat) : Nat → Nat → List Nat
  | 0, _ => []
  | f + 1, x => x :: orb m f ((x * 5 + 1) % (m + 1))
theorem orb_mem {m : Nat} : ∀ (f b : Nat) {j : Nat}, j ∈ orb m f (lcgN m b) → ∃ c, c < b + f ∧ lcgN m c = j
  | 0, b, j, h => absurd h (by simp [orb])
  | f + 1, b, j, h => by
    rcases List.mem_cons.mp h with z | z
    · exact ⟨b, by omega, z.symm⟩
    · obtain ⟨c, hc, e⟩ := orb_mem f (b + 1) (j := j) z
      exact ⟨c, by omega, e⟩
theorem orb_511 : ((List.range 512).all fun j => (orb 511 512 0).contains j) = true := by decide +kernel
theorem lcg_511 : lcgN 511 512 = 0 := by decide +kernel
structure GoodM (m : Nat) : Prop where
  one : MaskOk m ∨ m = 511
  odd : m % 2 = 1
  le : m ≤ 511
  all : ∀ j, j ≤ m → ∃ b, b ≤ m ∧ lcgN m b = j
  back : lcgN m (m + 1) = 0
theorem good_of {m : Nat} (h : MaskOk m) : GoodM m := ⟨.inl h, mask_odd h, by rcases h with z | z | z <;> omega, fun _ hj => lcg_all h hj, lcg_round h⟩
theorem good_511 : GoodM 511 := by
  refine ⟨.inr rfl, rfl, Nat.le_refl _, fun j hj => ?_, lcg_511⟩
  have h := List.all_eq_true.mp orb_511 j (List.mem_range.mpr (by omega))
  obtain ⟨c, hc, e⟩ := orb_mem 512 0 (List.contains_iff_mem.mp h)
  exact ⟨c, by omega, e⟩
theorem GoodM.again {m : Nat} (g : GoodM m) : ∀ k, lcgN m (m + 1 + k) = lcgN m k
  | 0 => g.back
  | k + 1 => congrArg (fun z => (z * 5 + 1) % (m + 1)) (g.again k)
/-- each place begins a stretch of the way -/
theorem GoodM.starts {m : Nat} (g : GoodM m) (x : Int) {j : Nat} (hj : j ≤ m) : ∃ n, n ≤ m + 12 ∧ runI m (SetTable.bits x) n = j := by
  obtain ⟨a, la, ea⟩ := g.all _ (runI_le m (SetTable.bits x) 12)
  obtain ⟨b, lb, eb⟩ := g.all j hj
  have to : ∀ k, lcgN m (a + k) = j → runI m (SetTable.bits x) (12 + k) = j := fun k z => by
    rw [runI_tail (bits_lt x) k, ← ea, lcgN_add m a k, z]
  by_cases c : a ≤ b
  · exact ⟨12 + (b - a), by omega, to _ (by rw [Nat.add_sub_cancel' c, eb])⟩
  · exact ⟨12 + (m + 1 + b - a), by omega, to _ (by rw [show a + (m + 1 + b - a) = m + 1 + b by omega, g.again b, eb])⟩
theorem GoodM.meets {m : Nat} (g : GoodM m) (x : Int) {j : Nat} (hj : j ≤ m) : ∃ k, k < 10 * SetTable.turns m ∧ way m x k = j := by
  obtain ⟨n, ln, en⟩ := g.starts x hj
  obtain ⟨k, lk, ek⟩ := run_nth m (SetTable.bits x) n
  have lt : SetTable.turns m = m + 15 := rfl
  exact ⟨k, by omega, by show (nth _ _ k).j = j; rw [ek]; exact en⟩
/-- the first place of the way that none has -/
def FirstFree (m : Nat) (l : List Nat) (x : Int) (K : Nat) : Prop := way m x K ∉ l ∧ ∀ k, k < K → way m x k ∈ l
theorem first_of {m : Nat} {l : List Nat} {x : Int} {k : Nat} (h : way m x k ∉ l) : ∃ K, K ≤ k ∧ FirstFree m l x K := by
  obtain ⟨K, a, b, c⟩ := st_least (p := fun z => way m x z ∉ l) k h
  exact ⟨K, a, b, fun k' lk => Classical.byContradiction (c k' lk)⟩
structure TabG (t : SetTable) (hs : List Int) : Prop where
  asc : Ris t.place.toList
  clean : t.dummies = #[]
  size : t.place.size = hs.length
  good : GoodM t.mask
  within : ∀ p ∈ t.place.toList, p ≤ t.mask
  met : ∀ (i : Nat) (x : Int) (j : Nat), hs[i]? = some x → t.place.toList[i]? = some j → ∃ k, way t.mask x k = j ∧ ∀ c, c < k → way t.mask x c ∈ t.place.toList
theorem TabG.free {t : SetTable} {hs : List Int} (T : TabG t hs) (hl : hs.length ≤ t.mask) (x : Int) : ∃ K, K < 10 * SetTable.turns t.mask ∧ FirstFree t.mask t.place.toList x K := by
  have few : t.place.toList.length < t.mask + 1 := by
    have := T.size
    rw [Array.length_toList]
    omega
  obtain ⟨j, lj, nj⟩ := st_missing _ _ few
  obtain ⟨k, lk, ek⟩ := T.good.meets x (Nat.le_of_lt_succ lj)
  obtain ⟨K, lK, F⟩ := first_of (m := t.mask) (l := t.place.toList) (x := x) (k := k) (by rw [ek]; exact nj)
  exact ⟨K, by omega, F⟩
theorem TabG.ahead {t : SetTable} {hs : List Int} (T : TabG t hs) {x : Int} {K i j : Nat} (F : FirstFree t.mask t.place.toList x K) (hi : hs[i]? = some x) (hj : t.place.toList[i]? = some j) : ∃ k, k < K ∧ way t.mask x k = j := by
  obtain ⟨k, e, h⟩ := T.met i x j hi hj
  refine ⟨k, Nat.lt_of_not_le fun c => ?_, e⟩
  rcases Nat.lt_or_eq_of_le c with z | z
  · exact F.1 (h K z)
  · exact F.1 (by rw [z, e]; exact List.mem_of_getElem? hj)
/-- what a table keeps when a place is taken -/
structure TakenG (t t' : SetTable) (n : Nat) : Prop where
  mask : t'.mask = t.mask
  led : t'.led = t.led
  plain : t'.plain = t.plain
  fill : t'.fill = n + 1
theorem TabG.put {t : SetTable} {hs : List Int} (T : TabG t hs) {x : Int} {K : Nat} (F : FirstFree t.mask t.place.toList x K) :
    ∃ p t', t.put (way t.mask x K) = (t', p) ∧ p ≤ hs.length ∧ TabG t' (hs.take p ++ x :: hs.drop p) ∧ TakenG t t' hs.length := by
  obtain ⟨j, ej⟩ : ∃ j, way t.mask x K = j := ⟨_, rfl⟩
  have jm : j ≤ t.mask := by
    rw [← ej]
    have q := nth_in K (runAt t.mask (SetTable.bits x % (t.mask + 1)) (SetTable.bits x)) (m := t.mask) (by
      have h1 : SetTable.bits x % (t.mask + 1) ≤ t.mask := Nat.le_of_lt_succ (Nat.mod_lt _ (Nat.succ_pos _))
      have h2 := runEnd_bd h1
      show SetTable.bits x % (t.mask + 1) + (SetTable.runEnd t.mask (SetTable.bits x % (t.mask + 1)) - SetTable.bits x % (t.mask + 1)) ≤ t.mask
      omega)
    exact Nat.le_trans (Nat.le_add_right _ _) q
  have nj : j ∉ t.place.toList := ej ▸ F.1
  rw [ej]
  have lp : SetTable.below t.place j ≤ hs.length := by
    rw [← T.size]
    exact (below_cut T.asc j).1
  have lq : SetTable.below t.place j ≤ t.place.toList.length := by
    rw [Array.length_toList, T.size]
    exact lp
  have pl := put_place t j
  have sz : (t.put j).1.place.size = hs.length + 1 := by
    rw [← Array.length_toList, pl, len_ins _ lq, Array.length_toList, T.size]
  have keep : ∀ {z : Nat}, z ∈ t.place.toList → z ∈ (t.put j).1.place.toList := fun h => by
    rw [pl]
    exact mem_ins.mpr (.inr h)
  refine ⟨SetTable.below t.place j, (t.put j).1, rfl, lp, ⟨?asc, put_dm T.clean j, ?size, T.good, fun z hz => ?within, fun i y c hi hc => ?met⟩, rfl, rfl, rfl, ?fill⟩
  case asc => exact ris_insert T.asc fun e => nj (List.mem_of_getElem? ((Array.getElem?_toList ..).trans e))
  case size => rw [len_ins _ lp, sz]
  case within =>
    rw [pl, mem_ins] at hz
    rcases hz with rfl | hz
    · exact jm
    · exact T.within _ hz
  case fill =>
    have d := put_dm T.clean j
    show (t.put j).1.place.size + (t.put j).1.dummies.size = _
    rw [sz, d]
    rfl
  case met =>
    show ∃ k, way t.mask y k = c ∧ ∀ c', c' < k → way t.mask y c' ∈ (t.put j).1.place.toList
    have old : ∀ i', hs[i']? = some y → t.place.toList[i']? = some c → ∃ k, way t.mask y k = c ∧ ∀ c', c' < k → way t.mask y c' ∈ (t.put j).1.place.toList := fun i' a b => by
      obtain ⟨k, e, h⟩ := T.met i' y c a b
      exact ⟨k, e, fun c' l => keep (h c' l)⟩
    rw [tins_get hs lp] at hi
    rw [pl, tins_get _ lq] at hc
    by_cases c1 : i < SetTable.below t.place j
    · rw [if_pos c1] at hi hc
      exact old i hi hc
    · rw [if_neg c1] at hi hc
      by_cases c2 : i = SetTable.below t.place j
      · rw [if_pos c2] at hi hc
        cases hi
        cases hc
        exact ⟨K, ej, fun c' l => keep (F.2 c' l)⟩
      · rw [if_neg c2] at hi hc
        exact old _ hi hc
/-! ### all laid anew -/
theorem seat {m : Nat} (g : GoodM m) (owner : Array (Option Nat)) (x : Int) {j : Nat} (hj : j ≤ m) (hf : oAt owner j = none) :
    ∃ K, SetTable.layClean.free m owner (SetTable.turns m) (SetTable.bits x % (m + 1)) (SetTable.bits x) = some (way m x K) ∧ oAt owner (way m x K) = none ∧ ∀ k, k < K → oAt owner (way m x k) ≠ none := by
  obtain ⟨n, ln, en⟩ := g.starts x hj
  have atN : way m x (off m (SetTable.bits x % (m + 1)) (SetTable.bits x) n) = j := by
    have q := nth_off m n (SetTable.bits x % (m + 1)) (SetTable.bits x)
    rw [itL_run] at q
    exact (congrArg SetTable.Probe.j q).trans en
  obtain ⟨K, lK, fK, bK⟩ := st_least (p := fun z => oAt owner (way m x z) = none) _ (by show oAt owner (way m x _) = none; rw [atN]; exact hf)
  have lt : SetTable.turns m = m + 15 := rfl
  refine ⟨K, free_spec m owner _ n _ _ K (by omega) lK (fun k hk => ?_) (by show (oAt owner (way m x K)).isNone = true; rw [fK]; rfl), fK, bK⟩
  have q := bK k hk
  show (oAt owner (way m x k)).isNone = false
  cases z : oAt owner (way m x k) with
  | none => exact absurd z q
  | some _ => rfl
theorem way_in {m : Nat} {x : Int} (K : Nat) : way m x K ≤ m := by
  have h1 : SetTable.bits x % (m + 1) ≤ m := Nat.le_of_lt_succ (Nat.mod_lt _ (Nat.succ_pos _))
  have h2 := runEnd_bd h1
  refine Nat.le_trans (Nat.le_add_right _ _) (nth_in K (runAt m (SetTable.bits x % (m + 1)) (SetTable.bits x)) ?_)
  show SetTable.bits x % (m + 1) + (SetTable.runEnd m (SetTable.bits x % (m + 1)) - SetTable.bits x % (m + 1)) ≤ m
  omega
theorem seat_one {m : Nat} (g : GoodM m) {done : List Int} {owner : Array (Option Nat)} (W : L2.Own m done owner) (hl : done.length ≤ m) (x : Int) :
    ∃ owner', stepF m (some (owner, done.length)) x = some (owner', done.length + 1) ∧ L2.Own m (done ++ [x]) owner' := by
  obtain ⟨ps, lps, hps⟩ := W.ps
  obtain ⟨j, lj, nj⟩ := st_missing ps (m + 1) (by omega)
  have fj : oAt owner j = none := Classical.byContradiction fun z => nj (hps j (by omega) z)
  obtain ⟨K, e, fK, bK⟩ := seat g owner x (Nat.le_of_lt_succ lj) fj
  generalize ew : way m x K = p at e fK
  have lp : p ≤ m := ew ▸ way_in K
  have sp : p < owner.size := by
    rw [W.sz]
    omega
  have here : oAt (owner.setIfInBounds p (some done.length)) p = some done.length := oAt_set_self _ sp
  have else_ : ∀ i, i ≠ p → oAt (owner.setIfInBounds p (some done.length)) i = oAt owner i := fun i h => oAt_set_ne _ h
  have grow : ∀ i, oAt owner i ≠ none → oAt (owner.setIfInBounds p (some done.length)) i ≠ none := fun i h => by
    by_cases c : i = p
    · subst c; rw [here]; exact nofun
    · rw [else_ i c]; exact h
  refine ⟨_, stepF_some e, ?_⟩
  have sw : (owner.setIfInBounds p (some done.length)).size = m + 1 := by
    rw [Array.size_setIfInBounds, W.sz]
  generalize owner.setIfInBounds p (some done.length) = ow at here else_ grow sw
  refine ⟨sw, fun i k hi hk => ?_, fun k hk => ?_, p :: ps, by simp [lps], fun i hi hn => ?_⟩
  · by_cases c : i = p
    · subst c
      rw [here] at hk
      cases hk
      exact ⟨x, K, List.getElem?_concat_length, ew, fun c hc => grow _ (bK c hc)⟩
    · rw [else_ i c] at hk
      obtain ⟨y, k', h1, h2, h3⟩ := W.at_ i k hi hk
      refine ⟨y, k', ?_, h2, fun c hc => grow _ (h3 c hc)⟩
      rw [List.getElem?_append_left (List.getElem?_eq_some_iff.mp h1).1, h1]
  · by_cases c : k = done.length
    · subst c
      exact ⟨p, lp, here⟩
    · obtain ⟨i, hi, e'⟩ := W.all k (by rw [List.length_append, List.length_singleton] at hk; omega)
      refine ⟨i, hi, ?_⟩
      rw [else_ i fun z => ?_]
      · exact e'
      · rw [z, fK] at e'
        cases e'
  · by_cases c : i = p
    · exact c ▸ List.mem_cons_self ..
    · rw [else_ i c] at hn
      exact List.mem_cons_of_mem _ (hps i hi hn)
theorem seat_all {m : Nat} (g : GoodM m) : ∀ (xs done : List Int) (owner : Array (Option Nat)), L2.Own m done owner → done.length + xs.length ≤ m →
    ∃ ow, xs.foldl (stepF m) (some (owner, done.length)) = some (ow, done.length + xs.length) ∧ L2.Own m (done ++ xs) ow
  | [], done, owner, W, _ => ⟨owner, rfl, by rw [List.append_nil]; exact W⟩
  | x :: xs, done, owner, W, hl => by
    rw [List.length_cons] at hl
    obtain ⟨o1, e1, W1⟩ := seat_one g W (by omega) x
    have l1 : (done ++ [x]).length = done.length + 1 := List.length_append
    obtain ⟨o2, e2, W2⟩ := seat_all g xs (done ++ [x]) o1 W1 (by omega)
    refine ⟨o2, ?_, by simpa using W2⟩
    rw [l1] at e2
    rw [List.foldl_cons, e1, e2, List.length_cons]
    congr 2
    omega
/-- the table laid anew for a mask M -/
theorem lay_anew (t : SetTable) {hs : Array Int} {wanted M : Nat} (hw : SetTable.sizeAbove wanted - 1 = M) (g : GoodM M) (hn : hs.size ≤ M) :
    ∃ t' order, t.relaid hs wanted = some (t', order) ∧ order.toList.Perm (List.range hs.size) ∧ TabG t' (order.toList.map fun i => hs.getD i 0) ∧ t'.mask = M ∧ t'.led = t.led ∧ t'.plain = t.plain := by
  obtain ⟨ow, e, W⟩ := seat_all g hs.toList [] (Array.replicate (M + 1) none) (.init M) (by rw [Array.length_toList]; simpa using hn)
  have eo : SetTable.layClean M hs = some ow := by
    rw [layClean_eq]
    exact congrArg (Option.map Prod.fst) e
  rw [List.nil_append] at W
  have er : t.relaid hs wanted = some (tabOf t M ow, ((liveOf M ow).map (·.2)).toArray) := by
    rw [relaid_eq, hw, eo]
    rfl
  obtain ⟨up, sub⟩ := ris_live (fun j => ow.getD j none) (List.range (M + 1)) List.pairwise_lt_range
  change Ris ((liveOf M ow).map (·.1)) at up
  change ∀ x ∈ (liveOf M ow).map (·.1), _ at sub
  have live : ∀ {j k : Nat}, (j, k) ∈ liveOf M ow ↔ j ≤ M ∧ oAt ow j = some k := mem_live W.sz
  have every : ∀ k, k < hs.size → k ∈ (liveOf M ow).map (·.2) := fun k hk => by
    obtain ⟨j, a, b⟩ := W.all k (by simpa using hk)
    exact List.mem_map.mpr ⟨_, live.mpr ⟨a, b⟩, rfl⟩
  have many : (liveOf M ow).length = hs.size := by
    obtain ⟨ps, p1, p2⟩ := W.ps
    have a := nat_nodup_len _ ps (up.imp fun {_ _} z => Nat.ne_of_lt z) fun y hy => by
      obtain ⟨⟨j, k⟩, hq, rfl⟩ := List.mem_map.mp hy
      obtain ⟨b1, b2⟩ := live.mp hq
      exact p2 j b1 (by rw [b2]; exact nofun)
    have b := nat_nodup_len (List.range hs.size) _ List.nodup_range fun k hk => every k (List.mem_range.mp hk)
    rw [List.length_map] at a b
    rw [List.length_range] at b
    have q1 : ps.length = hs.size := by simpa using p1
    have q2 : ps.length ≥ (liveOf M ow).length := a
    exact Nat.le_antisymm (q1 ▸ q2) b
  refine ⟨_, _, er, perm_range _ _ (by rw [← many]; exact List.length_map ..) every, ⟨up, rfl, ?_, g, fun y hy => Nat.le_of_lt_succ (List.mem_range.mp (sub y hy)), fun i x j hi hj => ?_⟩, rfl, rfl, rfl⟩
  · show ((liveOf M ow).map (·.1)).toArray.size = (((liveOf M ow).map (·.2)).map _).length
    simp
  · change (((liveOf M ow).map (·.2)).map fun i => hs.getD i 0)[i]? = some x at hi
    change ((liveOf M ow).map (·.1))[i]? = some j at hj
    rw [List.map_map, List.getElem?_map, Option.map_eq_some_iff] at hi
    obtain ⟨⟨j', k⟩, hq, ex⟩ := hi
    rw [List.getElem?_map, hq] at hj
    obtain rfl : j' = j := Option.some.inj hj
    obtain ⟨b1, b2⟩ := live.mp (List.mem_of_getElem? hq)
    obtain ⟨y, K, c1, c2, c3⟩ := W.at_ _ _ b1 b2
    have exy : y = x := by
      rw [← ex]
      show y = hs.getD k 0
      rw [Array.getD_eq_getD_getElem?, ← Array.getElem?_toList, c1]
      rfl
    subst exy
    refine ⟨K, c2, fun c lc => ?_⟩
    show way M y c ∈ (liveOf M ow).map (·.1)
    cases z : oAt ow (way M y c) with
    | none => exact absurd z (c3 c lc)
    | some k' => exact List.mem_map.mpr ⟨_, live.mpr ⟨way_in c, z⟩, rfl⟩
end Sw
namespace Sw
open PySem PySem.Spec PyProof.Rows L2
section
variable {P : Program} {w : World} {A : Around} {E : Value → Shared → Prop} {s : Shared}
/-! ### sets of tuples of ints, up to 306 -/
structure SetG (P : Program) (w : World) (h : Heap) (a : Addr) (L : List (Addr × List Int)) (es : Array (Int × Value)) (ep : Nat) (t : SetTable) : Prop where
  there : ∃ o, h.get? a = some o ∧ o.ExactSet ∧ o.data = .set es ep t
  rows : es.toList = rowsOf P w L
  tab : TabG t (L.map fun p => thash P w p.2)
  nd : (L.map (·.2)).Nodup
  tup : ∀ p ∈ L, IsT P w h p.2 p.1
  plain : t.plain = true
  led : w.params.followText "set-order" = true ∨ t.led = true
  room : L.length * 5 < t.mask * 3
variable {a : Addr} {L : List (Addr × List Int)} {es : Array (Int × Value)} {ep : Nat} {t : SetTable}
theorem rows_len (h : es.toList = rowsOf P w L) : es.size = L.length := by
  rw [← Array.length_toList, h]
  exact List.length_map ..
theorem SetG.few (R : SetG P w s.heap a L es ep t) : L.length ≤ 306 := by
  have := R.room
  have := R.tab.good.le
  omega
theorem SetG.fits (R : SetG P w s.heap a L es ep t) : t.fits es.size = true := by
  have a1 : t.place.size = L.length := R.tab.size.trans (List.length_map ..)
  have a2 := rows_len R.rows
  have a3 := R.room
  simp only [SetTable.fits, SetTable.fill, R.tab.clean, Bool.and_eq_true, beq_iff_eq, decide_eq_true_eq]
  exact ⟨a1.trans a2.symm, by simp; omega⟩
theorem SetG.row (R : SetG P w s.heap a L es ep t) {i : Nat} {p : Addr × List Int} (h : L[i]? = some p) : es[i]? = some (thash P w p.2, Value.ref p.1) := by
  have z : es.toList[i]? = some (thash P w p.2, Value.ref p.1) := by
    rw [R.rows]
    simp only [rowsOf, List.getElem?_map, h, Option.map_some]
  simpa using z
theorem SetG.stays (R : SetG P w s.heap a L es ep t) : (t.gaveWay = true) = False := by
  have h := R.tab.good.odd
  simp [SetTable.gaveWay, h]
/-- the c-th look at a table for a hash -/
def lookAt (m : Nat) (q : Int) (c : Nat) : SetTable.Probe := nth m (runAt m (SetTable.bits q % (m + 1)) (SetTable.bits q)) c
theorem lookAt_add (m : Nat) (q : Int) (c d : Nat) : nth m (lookAt m q c) d = lookAt m q (c + d) := (nth_add m c _ d).symm
theorem lookAt_dummy (m : Nat) (q : Int) (c : Nat) : (lookAt m q c).dummy = none := by
  induction c with
  | zero => rfl
  | succ c ih =>
    rw [← lookAt_add m q c 1]
    show (adv m (lookAt m q c)).dummy = none
    unfold adv
    split <;> exact ih
theorem look_on (R : SetG P w s.heap a L es ep t) {x : Addr} {k : List Int} (hx : IsT P w s.heap k x) (hu : A.units < cLine) {ad : Bool} {K : Nat} (lK : K < 10 * SetTable.turns t.mask) (F : FirstFree t.mask t.place.toList (thash P w k) K)
    {Q : SetFound → Shared → Prop} (yes : k ∈ L.map (·.2) → ∀ r : Option Nat, (ad = false → r.isSome = true) → Q (.there r) s) (no : k ∉ L.map (·.2) → Q (.free (way t.mask (thash P w k) K) false) s) :
    ∀ (f c : Nat) (stand : Option SetTable.Probe), stand.getD (t.probeStart (thash P w k)) = lookAt t.mask (thash P w k) c → c ≤ K → K < f + c →
      (∀ (i : Nat) (p : Addr × List Int), L[i]? = some p → p.2 = k → ∃ d, c ≤ d ∧ d < K ∧ t.place.toList[i]? = some (way t.mask (thash P w k) d)) →
      wpAny (model P w) A (setSearchFrom a (.ref x) (thash P w k) ad f stand) Q E s
  | 0, c, _, _, lc, lf, _ => absurd lf (by omega)
  | f + 1, c, stand, est, lc, lf, still => by
    generalize eq : thash P w k = q at *
    obtain ⟨ob, obAt, obEx, obDat⟩ := R.there
    rw [setSearchFrom_succ]
    refine wpAny_bind (wpAny_setState_of obAt obDat R.fits ?_)
    dsimp only
    refine wp_if_neg (by rw [R.stays]; exact id) ?_
    try refine wpAny_bind (wpAny_pure ?_)
    have place : ∀ d, (nth t.mask (lookAt t.mask q c) d).j = way t.mask q (c + d) := fun d => congrArg SetTable.Probe.j (lookAt_add t.mask q c d)
    have hash : ∀ (i : Nat) (p : Addr × List Int), L[i]? = some p → (es[i]?.map (·.1)).getD 0 = thash P w p.2 := fun i p hp => by
      rw [R.row hp]
      rfl
    have answer := go_spec t R.tab.asc R.tab.clean (fun i => (es[i]?.map (·.1)).getD 0) q (10 * SetTable.turns t.mask) (K - c) _ (lookAt_dummy t.mask q c) (by omega)
      (fun d hd => by rw [place d]; exact F.2 _ (by omega)) (by rw [place, Nat.add_sub_cancel' lc]; exact F.1)
    rw [← est] at answer
    rcases answer with ⟨d, i, ld, hi, hh, before, pr⟩ | ⟨before, pr⟩
    case inr =>
      rw [est, place, Nat.add_sub_cancel' lc, ← est] at pr
      have pr' : t.probe (fun i => (es[i]?.map (·.1)).getD 0) q (stand.getD (t.probeStart q)) = some (.empty (way t.mask q K) none) := pr
      rw [pr']
      dsimp only
      refine wpAny_pure (no fun mem => ?_)
      obtain ⟨p, hp, ek⟩ := List.mem_map.mp mem
      obtain ⟨i, hi⟩ := List.mem_iff_getElem?.mp hp
      obtain ⟨d, cd, dK, hd⟩ := still i p hi ek
      refine before (d - c) i (by omega) ?_ ?_
      · rw [est, place, Nat.add_sub_cancel' cd]
        exact hd
      · show (es[i]?.map (·.1)).getD 0 = q
        rw [hash i p hi, ek, eq]
    case inl =>
      have en : nth t.mask (stand.getD (t.probeStart q)) (d + 1) = lookAt t.mask q (c + (d + 1)) := by rw [est]; exact lookAt_add ..
      have ej : (nth t.mask (stand.getD (t.probeStart q)) d).j = way t.mask q (c + d) := by rw [est]; exact place d
      rw [en, ej] at pr
      rw [ej] at hi
      have pr' : t.probe (fun i => (es[i]?.map (·.1)).getD 0) q (stand.getD (t.probeStart q)) = some (.candidate (way t.mask q (c + d)) i (lookAt t.mask q (c + (d + 1)))) := pr
      rw [pr']
      dsimp only
      have il : i < L.length := by
        have a1 := (List.getElem?_eq_some_iff.mp hi).1
        have a2 : t.place.size = L.length := R.tab.size.trans (List.length_map ..)
        rw [Array.length_toList, a2] at a1
        exact a1
      obtain ⟨p, hp⟩ : ∃ p, L[i]? = some p := ⟨_, List.getElem?_eq_getElem il⟩
      have mp := List.mem_of_getElem? hp
      have live : t.slot (way t.mask q (c + d)) = .live i := slot_live R.tab.asc hi
      have go : wpAny (model P w) A (searchRest a (.ref x) q ad f es t (way t.mask q (c + d)) i (lookAt t.mask q (c + (d + 1)))) Q E s := by
        unfold searchRest
        rw [R.row hp]
        dsimp only
        refine wpAny_bind (wpAny_holding (wpAny_eqBool_tuple hu (R.tup p mp) hx ?_))
        refine wpAny_bind (wpAny_setState_of obAt obDat R.fits ?_)
        dsimp only
        by_cases same : p.2 = k
        · have inL : k ∈ L.map (·.2) := List.mem_map.mpr ⟨p, mp, same⟩
          cases ad with
          | true =>
            refine wp_if_pos (by simp [same]) ?_
            exact wpAny_pure (yes inL none nofun)
          | false =>
            refine wp_if_neg (by simp) ?_
            try refine wpAny_bind (wpAny_pure ?_)
            rw [sameMem]
            dsimp only
            simp only [if_true, live, R.row hp]
            refine wpAny_bind (wpAny_isSame_ref_self (wpAny_bind (wpAny_pure ?_)))
            simp only [if_true]
            refine wp_if_pos (by simp [same]) ?_
            exact wpAny_pure (yes inL _ fun _ => rfl)
        · refine wp_if_neg (by simp [same]) ?_
          try refine wpAny_bind (wpAny_pure ?_)
          rw [sameMem]
          dsimp only
          simp only [if_true, live, R.row hp]
          refine wpAny_bind (wpAny_isSame_ref_self (wpAny_bind (wpAny_pure ?_)))
          simp only [if_true]
          refine wp_if_neg (by simp [same]) ?_
          subst eq
          refine look_on R hx hu lK F yes no f (c + (d + 1)) _ rfl (by omega) (by omega) fun i' p' hi' ek => ?_
          obtain ⟨d', cd, dK, hd⟩ := still i' p' hi' ek
          refine ⟨d', Nat.lt_of_not_le fun z => ?_, dK, hd⟩
          have z : d' ≤ c + d := z
          rcases Nat.lt_or_eq_of_le z with z | z
          · refine before (d' - c) i' (by omega) ?_ ?_
            · rw [est, place, Nat.add_sub_cancel' cd]
              exact hd
            · show (es[i']?.map (·.1)).getD 0 = thash P w k
              rw [hash i' p' hi', ek]
          · rw [z] at hd
            have l2 := slot_live R.tab.asc hd
            rw [live] at l2
            injection l2 with l2
            rw [← l2, hp] at hi'
            cases hi'
            exact same ek
      by_cases led : t.led = true
      · refine wp_if_neg (by simp [led]) ?_
        try refine wpAny_bind (wpAny_pure ?_)
        exact go
      · refine wp_if_pos (by simp [led]) ?_
        refine wpAny_bind (seen_tup hx (fun y hy => ?_) ?_)
        · obtain ⟨e, he, rfl⟩ := List.mem_map.mp hy
          have he2 : e ∈ es.toList := by
            have z : e ∈ es ∧ e.1 = q := by simpa using he
            simpa using z.1
          rw [R.rows] at he2
          obtain ⟨p2, hp2, rfl⟩ := List.mem_map.mp he2
          exact ⟨_, _, rfl, R.tup p2 hp2⟩
        · refine wp_if_neg (by decide) ?_
          try refine wpAny_bind (wpAny_pure ?_)
          exact go
/-- a look for a tuple, to add it or to ask for it -/
theorem look_for (R : SetG P w s.heap a L es ep t) {x : Addr} {k : List Int} (hx : IsT P w s.heap k x) (hu : A.units < cLine) {ad : Bool}
    {Q : SetFound → Shared → Prop} (yes : k ∈ L.map (·.2) → ∀ r : Option Nat, (ad = false → r.isSome = true) → Q (.there r) s)
    (no : ∀ K, k ∉ L.map (·.2) → FirstFree t.mask t.place.toList (thash P w k) K → Q (.free (way t.mask (thash P w k) K) false) s) :
    wpAny (model P w) A (setSearch a (.ref x) (thash P w k) ad) Q E s := by
  have a1 := R.room
  have a2 := R.tab.good.le
  obtain ⟨K, lK, F⟩ := R.tab.free (by rw [List.length_map]; omega) (thash P w k)
  have a3 : SetTable.turns t.mask = t.mask + 15 := rfl
  refine look_on R hx hu lK F yes (fun n => no K n F) 100000 0 none rfl (Nat.zero_le _) (by omega) fun i p hp ek => ?_
  have h1 : (L.map fun p => thash P w p.2)[i]? = some (thash P w k) := by rw [List.getElem?_map, hp, ← ek]; rfl
  have il : i < t.place.toList.length := by
    rw [Array.length_toList, R.tab.size]
    exact (List.getElem?_eq_some_iff.mp h1).1
  obtain ⟨d, ld, ed⟩ := R.tab.ahead F h1 (List.getElem?_eq_getElem il)
  exact ⟨d, Nat.zero_le _, ld, by rw [ed]; exact List.getElem?_eq_getElem il⟩
end
end Sw
namespace Sw
open PySem PySem.Spec PyProof.Rows L2
section
variable {P : Program} {w : World} {A : Around} {E : Value → Shared → Prop} {s : Shared}
variable {a : Addr} {L : List (Addr × List Int)} {es : Array (Int × Value)} {ep : Nat} {t : SetTable}
theorem grow_512 : SetTable.sizeAbove (SetTable.grown 77) = 512 := by decide +kernel
/-- a set is laid anew in a greater table -/
theorem set_greater {o : Obj} (oAt : s.heap.get? a = some o) (oEx : o.ExactSet) (oDat : o.data = .set es ep t) (rows : es.toList = rowsOf P w L) (fit : t.fits es.size = true)
    (nd : (L.map (·.2)).Nodup) (tup : ∀ p ∈ L, IsT P w s.heap p.2 p.1) (pl : t.plain = true) (ld : w.params.followText "set-order" = true ∨ t.led = true) {wanted M : Nat}
    (hw : SetTable.sizeAbove wanted - 1 = M) (g : GoodM M) (room : L.length * 5 < M * 3) {Q : Unit → Shared → Prop}
    (then_ : ∀ h' L' es' ep' t', Heap.SameBut a s.heap h' → SetG P w h' a L' es' ep' t' → L'.Perm L → Q () { s with heap := h' }) : wpAny (model P w) A (setRelay a wanted) Q E s := by
  have size := rows_len rows
  have top := g.le
  obtain ⟨t', order, er, pm, T, eM, eL, eP⟩ := lay_anew t (hs := es.map (·.1)) hw g (by rw [Array.size_map, size]; omega)
  rw [Array.size_map, size] at pm
  obtain ⟨L', r1, r2, r3⟩ := order_rows L es order rows pm
  rw [← r3] at T
  have size' : (order.filterMap (es[·]?)).size = es.size := by rw [rows_len r1, r2.length_eq, size]
  rw [setRelay_eq]
  refine wpAny_bind (wpAny_setState_of oAt oDat fit ?_)
  dsimp only
  refine wp_if_neg (by have := sizeLine_eq; omega) ?_
  try refine wpAny_bind (wpAny_pure ?_)
  rw [er]
  dsimp only
  refine wpAny_bind (wp_if_neg (by simp [size']) ?_)
  try refine wpAny_bind (wpAny_pure ?_)
  refine wpAny_pure ?_
  dsimp only
  have keep : Heap.SameBut a s.heap (s.heap.update a (Obj.putSet (order.filterMap (es[·]?)) t')) := .update ..
  refine wpAny_storeSet_of oAt oDat (then_ _ L' _ (ep + 1) t' keep ⟨⟨_, store_at oAt oDat, ⟨oEx.1, oEx.2.1, oEx.2.2⟩, rfl⟩, r1, T, ?_, fun p hp => ?_, eP.trans pl, eL ▸ ld, ?_⟩ r2) ?_
  · exact (r2.map _).nodup_iff.mpr nd
  · exact isT_same (tup p (r2.mem_iff.mp hp)) oAt oDat keep
  · rw [r2.length_eq, eM]
    exact room
  · have := sizeLine_eq
    omega
/-- a tuple comes to a set -/
theorem set_adds (R : SetG P w s.heap a L es ep t) {x : Addr} {k : List Int} (hx : IsT P w s.heap k x) (hu : A.units < cLine) (few : L.length + 1 ≤ 306) {Q : Bool → Shared → Prop}
    (then_ : ∀ b h' L' es' ep' t', Heap.SameBut a s.heap h' → SetG P w h' a L' es' ep' t' → (k ∈ L.map (·.2) → L' = L) → (k ∉ L.map (·.2) → L'.Perm ((x, k) :: L)) → Q b { s with heap := h' }) :
    wpAny (model P w) A (setAddHashed a (.ref x) (thash P w k)) Q E s := by
  obtain ⟨ob, obAt, obEx, obDat⟩ := R.there
  have size := rows_len R.rows
  have room := R.room
  unfold setAddHashed
  refine wpAny_holding ?_
  show wpAny _ _ (setAddHashedIn a (.ref x) (thash P w k) (99999 + 1)) _ _ _
  rw [setAddHashedIn_succ]
  refine wpAny_bind (wpAny_setState_of obAt obDat R.fits ?_)
  dsimp only
  refine wp_if_neg (by unfold byScan Value.scannable; simp) ?_
  try refine wpAny_bind (wpAny_pure ?_)
  refine wpAny_bind (look_for R hx hu (fun inL r _ => ?_) fun K outL F => ?_)
  · dsimp only
    exact wpAny_pure (then_ false s.heap L es ep t (.refl a s.heap) R (fun _ => rfl) fun z => absurd inL z)
  dsimp only
  refine wpAny_bind (wpAny_setState_of obAt obDat R.fits ?_)
  dsimp only
  obtain ⟨p, t1, ep1, lp, T1, G1⟩ := R.tab.put F
  rw [ep1]
  dsimp only
  have pl1 : t1.plain = true := G1.plain.trans R.plain
  first
    | (refine wpAny_bind ?_; refine wp_if_pos pl1 ?_; refine hashBy_tup hx ?_)
    | refine wp_if_pos pl1 (wpAny_bind (hashBy_tup hx ?_))
  simp only [if_true]
  have rows1 : (SetTable.insertAt es p (thash P w k, Value.ref x)).toList = rowsOf P w (L.take p ++ (x, k) :: L.drop p) := by
    rw [rows_put, SetTable.toList_insertAt, R.rows]
  have pm := put_perm L p (x, k)
  have hs1 : (L.take p ++ (x, k) :: L.drop p).map (fun q => thash P w q.2) = (L.map fun q => thash P w q.2).take p ++ thash P w k :: (L.map fun q => thash P w q.2).drop p := by simp
  rw [← hs1] at T1
  have size1 := rows_len rows1
  rw [pm.length_eq, List.length_cons] at size1
  generalize SetTable.insertAt es p (thash P w k, Value.ref x) = es1 at rows1 size1 ⊢
  generalize L.take p ++ (x, k) :: L.drop p = L1 at pm rows1 T1
  have nd1 : (L1.map (·.2)).Nodup := (pm.map _).nodup_iff.mpr (List.nodup_cons.mpr ⟨outL, R.nd⟩)
  refine wpAny_bind (wpAny_storeSet_of obAt obDat ?_ (by have := sizeLine_eq; omega))
  have keep : Heap.SameBut a s.heap (s.heap.update a (Obj.putSet es1 t1)) := .update ..
  have at1 := store_at (es' := es1) (t' := t1) obAt obDat
  generalize s.heap.update a (Obj.putSet es1 t1) = h1 at keep at1 ⊢
  have tup1 : ∀ q ∈ L1, IsT P w h1 q.2 q.1 := fun q hq => by
    rcases List.mem_cons.mp (pm.mem_iff.mp hq) with rfl | hq
    · exact isT_same hx obAt obDat keep
    · exact isT_same (R.tup q hq) obAt obDat keep
  have ld1 : w.params.followText "set-order" = true ∨ t1.led = true := G1.led ▸ R.led
  have len1 : L1.length = L.length + 1 := pm.length_eq
  have ts : t1.place.size = L1.length := T1.size.trans (List.length_map ..)
  have full : t1.tooFull = decide ((L.length + 1) * 5 ≥ t.mask * 3) := by
    unfold SetTable.tooFull
    rw [G1.fill, G1.mask, List.length_map]
  by_cases hf : t1.tooFull = true
  · first
      | (refine wpAny_bind ?_; refine wp_if_pos (by simp [hf]) ?_)
      | (refine wp_if_pos (by simp [hf]) ?_; refine wpAny_bind ?_)
    have hf' : (L.length + 1) * 5 ≥ t.mask * 3 := by
      rw [full] at hf
      exact of_decide_eq_true hf
    rw [size]
    have fit1 : t1.fits es1.size = true := by
      simp only [SetTable.fits, G1.fill, Bool.and_eq_true, beq_iff_eq, decide_eq_true_eq, List.length_map, G1.mask]
      have := R.tab.good.odd
      exact ⟨by omega, by omega⟩
    have next : ∀ M, SetTable.sizeAbove (SetTable.grown (L.length + 1)) = M + 1 → GoodM M → (L.length + 1) * 5 < M * 3 →
        wpAny (model P w) A (setRelay a (SetTable.grown (L.length + 1))) (fun _ s' => wpAny (model P w) A (pure true) Q E s') E { s with heap := h1 } := fun M e g r => by
      refine set_greater (s := { s with heap := h1 }) at1 ⟨obEx.1, obEx.2.1, obEx.2.2⟩ rfl rows1 fit1 nd1 tup1 pl1 ld1 (M := M) (by omega) g (by omega) fun h2 L2 es2 ep2 t2 k2 R2 pm2 => ?_
      exact wpAny_pure (then_ true h2 L2 es2 ep2 t2 (keep.trans k2) R2 (fun z => absurd z outL) fun _ => pm2.trans pm)
    rcases R.tab.good.one with (e | e | e) | e
    · have l4 : L.length = 4 := by rw [e] at hf' room; omega
      exact next 31 (by rw [l4]; exact size_20) (good_of (.inr (.inl rfl))) (by omega)
    · have l18 : L.length = 18 := by rw [e] at hf' room; omega
      exact next 127 (by rw [l18]; exact size_76) (good_of (.inr (.inr rfl))) (by omega)
    · have l76 : L.length = 76 := by rw [e] at hf' room; omega
      exact next 511 (by rw [l76]; exact grow_512) good_511 (by omega)
    · rw [e] at hf'
      omega
  · first
      | refine wp_if_neg (by simp [hf]) ?_
      | (refine wpAny_bind ?_; refine wp_if_neg (by simp [hf]) ?_; refine wpAny_pure ?_)
    refine wpAny_pure (then_ true h1 L1 es1 (ep + 1) t1 keep ⟨⟨_, at1, ⟨obEx.1, obEx.2.1, obEx.2.2⟩, rfl⟩, rows1, T1, nd1, tup1, pl1, ld1, ?_⟩ (fun z => absurd z outL) fun _ => pm)
    rw [full, decide_eq_true_eq] at hf
    rw [G1.mask]
    omega
theorem SetG.keep {h h' : Heap} (R : SetG P w h a L es ep t) (ha : ∀ o, h.get? a = some o → h'.get? a = some o) (ht : ∀ p ∈ L, IsT P w h' p.2 p.1) : SetG P w h' a L es ep t := by
  obtain ⟨o, h1, h2⟩ := R.there
  exact ⟨⟨o, ha o h1, h2⟩, R.rows, R.tab, R.nd, ht, R.plain, R.led, R.room⟩
/-- the object of a set just made -/
abbrev newSetO (w : World) : Obj := { cls := .type "set", dict := none, data := .set #[] 0 (.fresh 0 0 (!w.params.followText "set-order")) }
theorem setG_new {h : Heap} (ho : h.get? a = some (newSetO w)) : SetG P w h a [] #[] 0 (.fresh 0 0 (!w.params.followText "set-order")) where
  there := ⟨_, ho, ⟨rfl, rfl, rfl⟩, rfl⟩
  rows := rfl
  tab := ⟨.nil, rfl, rfl, good_of (.inl rfl), nofun, fun i x j hi => by simp at hi⟩
  nd := .nil
  tup := nofun
  plain := rfl
  led := by
    cases e : w.params.followText "set-order"
    · exact .inr rfl
    · exact .inl rfl
  room := by
    show 0 * 5 < 7 * 3
    omega
/-- set.update, item by item -/
theorem set_takes {I : Addr} {fp wr : List Addr} {G : Array GenState → Array GenState → Prop} {n : Nat} {Pv : Nat → Value → Prop} {St : Nat → Shared → Prop} {R : Result → Shared → Prop}
    (W : WalksS P w A.in1 I fp wr G n Pv St) (S : Addr) (hSf : S ∉ fp) (ks : List (Addr × List Int)) (hn : n = ks.length) (few : ks.length ≤ 306) (each : ∀ i v, Pv i v → ∃ p, ks[i]? = some p ∧ v = .ref p.1)
    (h0 : Heap) (hk : ∀ p ∈ ks, IsT P w h0 p.2 p.1) (hS0 : h0.get? S = none) (hw0 : ∀ b ∈ wr, h0.get? b = none) (hu : A.in1.units < cLine) :
    ∀ (k i : Nat) (s : Shared), i + k = n → St i s → (∀ b o, h0.get? b = some o → s.heap.get? b = some o) → (∃ L es ep t, SetG P w s.heap S L es ep t ∧ Got ks i L) →
      (∀ s' L es ep t, Moved (S :: wr) G s s' → SetG P w s'.heap S L es ep t → Got ks n L → (∀ b o, h0.get? b = some o → s'.heap.get? b = some o) → R (.ok (.ret .none)) s') →
      codeAny (model P w) A (.builtin "set.update.loop" ⟨[.ref S, .ref I], []⟩) R s := by
  have outW : S ∉ wr := fun z => hSf (W.sub S z)
  have more : ∀ b ∈ wr, b ∈ S :: wr := fun _ z => .tail _ z
  have old : ∀ {s1 s2 : Shared}, Moved wr G s1 s2 → (∀ b o, h0.get? b = some o → s1.heap.get? b = some o) → ∀ b o, h0.get? b = some o → s2.heap.get? b = some o := fun mv k1 b o e =>
    mv.heap b o (fun z => by rw [hw0 b z] at e; cases e) (k1 b o e)
  intro k
  induction k with
  | zero =>
    rintro i s rfl st k0 ⟨L, es, ep, t, R1, g⟩ out
    refine codeAny_builtin F.entry_set_update_loop ?_
    rw [Around.under_plainId F.plain_set_update_loop _]
    show wpAny _ A.in1 (pyNext (.ref I) >>= _) _ _ s
    refine wpAny_bind (W.done s _ _ st fun s' mv => ?_)
    show wpAny _ A.in1 (ret Value.none) _ _ s'
    have k1 := old mv k0
    exact wpAny_pure (out s' L es ep t (mv.mono more) (R1.keep (fun o e => mv.heap S o outW e) fun p hp => isT_keep (hk p (List.mem_of_mem_take (g.sub p hp))) k1) g k1)
  | succ k ih =>
    rintro i s ei st k0 ⟨L, es, ep, t, R1, g⟩ out
    refine codeAny_builtin F.entry_set_update_loop ?_
    rw [Around.under_plainId F.plain_set_update_loop _]
    show wpAny _ A.in1 (pyNext (.ref I) >>= _) _ _ s
    refine wpAny_bind (W.item i s _ _ (by omega) st fun v s1 pv st1 mv => ?_)
    obtain ⟨p, hp, rfl⟩ := each i v pv
    have k1 := old mv k0
    have R2 : SetG P w s1.heap S L es ep t := R1.keep (fun o e => mv.heap S o outW e) fun q hq => isT_keep (hk q (List.mem_of_mem_take (g.sub q hq))) k1
    have hx : IsT P w s1.heap p.2 p.1 := isT_keep (hk p (List.mem_of_getElem? hp)) k1
    show wpAny _ A.in1 (holding [Value.ref p.1] (setAdd S (.ref p.1)) >>= _) _ _ s1
    refine wpAny_bind (wpAny_holding ?_)
    unfold setAdd
    refine wpAny_holding (wpAny_bind (wpAny_pyHash_tuple hu hx ?_))
    refine set_adds (s := { s1 with toks := s1.toks + (p.2.length + 1) }) R2 hx hu (by have := g.len; have := (List.getElem?_eq_some_iff.mp hp).1; omega) fun b h2 L2 es2 ep2 t2 sb R3 c1 c2 => ?_
    have g2 : Got ks (i + 1) L2 := by
      by_cases c : p.2 ∈ L.map (·.2)
      · exact (c1 c) ▸ g.same hp c
      · exact g.more hp (c2 c)
    have k2 : ∀ b o, h0.get? b = some o → h2.get? b = some o := fun b o e => by
      rw [sb.2 b fun z => by rw [z, hS0] at e; cases e]
      exact k1 b o e
    refine wpAny_pure ⟨plainId_quiet F.plain_set_update_loop _, ih (i + 1) _ (by omega) (W.frame _ s1 _ _ st1 (Nat.le_add_right _ _) fun b hb o e => ?_) k2 ⟨L2, es2, ep2, t2, R3, g2⟩ fun s3 L3 es3 ep3 t3 m3 R4 g3 k3 => ?_⟩
    · rw [sb.2 b fun z => hSf (z ▸ hb)]
      exact e
    · refine out s3 L3 es3 ep3 t3 (.trans W.gtrans ((mv.mono more).then_heap (Nat.le_add_right _ _) fun b o hb e => ?_) m3) R4 g3 k3
      rw [sb.2 b fun z => hb (z ▸ .head _)]
      exact e
end
end Sw
namespace Sw
open PySem PySem.Spec PyProof.Rows L2
section
variable {P : Program} {w : World} {A : Around} {E : Value → Shared → Prop} {s : Shared}
set_option maxRecDepth 100000 in
set_option maxHeartbeats 3200000 in
/-- set(xs), xs a list of tuples of ints -/
theorem made_list {l : Addr} {items : Array Value} (ks : List (Addr × List Int)) {Q : Value → Shared → Prop} (calm : A.handled = none) (src : s.heap.IsList l items) (refs : items.toList = ks.map fun p => Value.ref p.1)
    (tups : ∀ p ∈ ks, IsT P w s.heap p.2 p.1) (few : ks.length ≤ 306) (hu : A.units + 3 < cLine)
    (then_ : ∀ (h' : Heap) (tk : Nat) L es ep t, SetG P w h' s.heap.objs.size L es ep t → Got ks ks.length L → (∀ b o, s.heap.get? b = some o → h'.get? b = some o) → Q (.ref s.heap.objs.size) { s with heap := h', toks := tk }) :
    wpAny (model P w) A (call (.type "set") [.ref l]) Q E s := by
  have size : items.size = ks.length := by
    rw [← Array.length_toList, refs, List.length_map]
  obtain ⟨mc, mt, mro_⟩ := F.called_set.mro
  have made_ := F.called_set.made
  have sub_ := F.called_set.sub
  refine wpAny_call (codeAny_of_tree ?_)
  show wpAny _ _ (callAny (.type "set") _) _ _ _
  refine wpAny_pure ⟨Code.quiet_builtin _ (by decide +kernel), ?_⟩
  refine codeAny_builtin F.entry_type_call ?_
  rw [Around.under_plain (weight_type_call_type "set" [.ref l] []) rfl]
  have nt := F.called_set.notType
  have cc := F.called_set.canCreate
  have tc := F.typeCall_set_1 (.ref l)
  repeat (any_goals (first | assumption | wp_step))
  refine codeAny_mono (code_set_led1 (.ref l) (E := E) (Q₁ := fun v s1 => v = .ref s.heap.objs.size ∧ s1 = { s with heap := s.heap.push (newSetO w) }) ⟨rfl, rfl⟩) fun r s1 hr => ?_
  rcases r with e | fl
  · exact hr
  rcases fl with _ | _ | _ | v
  all_goals first | exact hr.elim | skip
  obtain ⟨rfl, rfl⟩ := hr
  have here : (s.heap.push (newSetO w)).get? s.heap.objs.size = some (newSetO w) := Heap.get?_push_size _ rfl
  have ty : Shared.TypeIs { s with heap := s.heap.push (newSetO w) } (.ref s.heap.objs.size) "set" := ⟨_, here, rfl⟩
  have il := F.called_set.init.lookup
  have ib := F.called_set.init.bind (.ref s.heap.objs.size)
  repeat (any_goals (first | assumption | wp_step))
  refine codeAny_mono (codeAny_call_builtin (R := wants (fun v s2 => v = .none ∧ ∃ h' tk L es ep t, s2 = { s with heap := h', toks := tk } ∧ SetG P w h' s.heap.objs.size L es ep t ∧ Got ks ks.length L ∧
      (∀ b o, s.heap.get? b = some o → h'.get? b = some o)) E) F.called_set.init.plain F.entry_set_init (check_set_init_1 ty ?_)) fun r2 s2 hr2 => ?_
  · obtain ⟨⟨oc, od, odt, osl⟩, src1, src2, nl, src3⟩ := src
    simp only at src2 src3
    subst src2; subst src3
    have src4 : (s.heap.push (newSetO w)).get? l = some { cls := .type "list", dict := od, data := .seq items nl, slots := osl } := Heap.get?_push_of_some _ src1
    have u1 := F.sub_list_set
    have u2 := F.sub_list_frozenset
    have u3 : (Value.type "list" == Value.type "dict") = false := by decide
    have src5 : (s.heap.push (newSetO w)).IsList l items := ⟨_, src4, rfl, nl, rfl⟩
    unfold Builtin.«set.__init__» noKeywords Builtin.Frozenset.updateFrom
    generalize ePI : pyIter = PI
    wp_walk
    subst ePI
    refine wpAny_pyIter_list src5 ?_
    refine wpAny_bind (wpAny_runValue ?_)
    have ll : l < s.heap.objs.size := Heap.lt_size src1
    have calm3 : A.in1.in1.in1.handled = none := by simp [calm]
    have sz1 : (s.heap.push (newSetO w)).objs.size = s.heap.objs.size + 1 := Heap.size_push ..
    have ne1 : l ≠ (s.heap.push (newSetO w)).objs.size := by
      rw [sz1]
      exact Nat.ne_of_lt (Nat.lt_succ_of_lt ll)
    have ne2 : s.heap.objs.size ∉ [(s.heap.push (newSetO w)).objs.size, l] := by
      rw [sz1]
      simp only [List.mem_cons, List.not_mem_nil, or_false, not_or]
      exact ⟨Nat.ne_of_lt (Nat.lt_succ_self _), Nat.ne_of_gt ll⟩
    have each : ∀ (i : Nat) (v : Value), items[i]? = some v → ∃ p, ks[i]? = some p ∧ v = .ref p.1 := fun i v hv => by
      have q : (ks.map fun p => Value.ref p.1)[i]? = some v := by
        rw [← refs]
        simpa using hv
      rw [List.getElem?_map, Option.map_eq_some_iff] at q
      obtain ⟨p, h1, h2⟩ := q
      exact ⟨p, h1, h2.symm⟩
    have none_of : ∀ b, s.heap.objs.size ≤ b → s.heap.get? b = none := fun b hb => by
      cases q : s.heap.get? b with
      | none => rfl
      | some o => exact absurd (Heap.lt_size q) (Nat.not_lt_of_le hb)
    refine set_takes (Walks.list calm3 _ l ne1 items).toS s.heap.objs.size ne2 ks size few each s.heap tups (none_of _ (Nat.le_refl _)) (fun b hb => none_of b ?_) hu (items.size - 0) 0 _ (by omega)
      ⟨⟨_, Heap.get?_push_size _ rfl, rfl, rfl⟩, src5.push _⟩ (fun b o e => Heap.get?_push_of_some _ (Heap.get?_push_of_some _ e)) ⟨[], #[], 0, _, setG_new (Heap.get?_push_of_some _ here), .zero ks⟩ ?_
    · rw [List.mem_singleton.mp hb, sz1]
      exact Nat.le_succ _
    · rintro ⟨h', g2, d2, tk2, os2⟩ L es ep t mv R g k
      obtain rfl : g2 = s.gens := mv.gens
      obtain rfl : d2 = s.drawn := mv.drawn
      obtain rfl : os2 = s.os := mv.os
      show wpAny _ _ _ _ _ _
      refine wpAny_pure ?_
      show wpAny _ _ (ret Value.none) _ _ _
      rw [size] at g
      exact wpAny_pure ⟨rfl, h', tk2, L, es, ep, t, rfl, R, g, k⟩
  · rcases r2 with e | fl
    · exact hr2
    rcases fl with _ | _ | _ | v
    all_goals first | exact hr2.elim | skip
    obtain ⟨rfl, h', tk, L, es, ep, t, rfl, R, g, k⟩ := hr2
    repeat (any_goals (first | assumption | wp_step))
    exact then_ _ _ _ _ _ _ R g k
set_option maxRecDepth 100000 in
set_option maxHeartbeats 3200000 in
/-- set(xs), xs a tuple of tuples of ints -/
theorem made_tuple {l : Addr} {items : Array Value} (ks : List (Addr × List Int)) {Q : Value → Shared → Prop} (calm : A.handled = none) (src : s.heap.IsTuple l items) (refs : items.toList = ks.map fun p => Value.ref p.1)
    (tups : ∀ p ∈ ks, IsT P w s.heap p.2 p.1) (few : ks.length ≤ 306) (hu : A.units + 3 < cLine)
    (then_ : ∀ (h' : Heap) (tk : Nat) L es ep t, SetG P w h' s.heap.objs.size L es ep t → Got ks ks.length L → (∀ b o, s.heap.get? b = some o → h'.get? b = some o) → Q (.ref s.heap.objs.size) { s with heap := h', toks := tk }) :
    wpAny (model P w) A (call (.type "set") [.ref l]) Q E s := by
  have size : items.size = ks.length := by
    rw [← Array.length_toList, refs, List.length_map]
  obtain ⟨mc, mt, mro_⟩ := F.called_set.mro
  have made_ := F.called_set.made
  have sub_ := F.called_set.sub
  refine wpAny_call (codeAny_of_tree ?_)
  show wpAny _ _ (callAny (.type "set") _) _ _ _
  refine wpAny_pure ⟨Code.quiet_builtin _ (by decide +kernel), ?_⟩
  refine codeAny_builtin F.entry_type_call ?_
  rw [Around.under_plain (weight_type_call_type "set" [.ref l] []) rfl]
  have nt := F.called_set.notType
  have cc := F.called_set.canCreate
  have tc := F.typeCall_set_1 (.ref l)
  repeat (any_goals (first | assumption | wp_step))
  refine codeAny_mono (code_set_led1 (.ref l) (E := E) (Q₁ := fun v s1 => v = .ref s.heap.objs.size ∧ s1 = { s with heap := s.heap.push (newSetO w) }) ⟨rfl, rfl⟩) fun r s1 hr => ?_
  rcases r with e | fl
  · exact hr
  rcases fl with _ | _ | _ | v
  all_goals first | exact hr.elim | skip
  obtain ⟨rfl, rfl⟩ := hr
  have here : (s.heap.push (newSetO w)).get? s.heap.objs.size = some (newSetO w) := Heap.get?_push_size _ rfl
  have ty : Shared.TypeIs { s with heap := s.heap.push (newSetO w) } (.ref s.heap.objs.size) "set" := ⟨_, here, rfl⟩
  have il := F.called_set.init.lookup
  have ib := F.called_set.init.bind (.ref s.heap.objs.size)
  repeat (any_goals (first | assumption | wp_step))
  refine codeAny_mono (codeAny_call_builtin (R := wants (fun v s2 => v = .none ∧ ∃ h' tk L es ep t, s2 = { s with heap := h', toks := tk } ∧ SetG P w h' s.heap.objs.size L es ep t ∧ Got ks ks.length L ∧
      (∀ b o, s.heap.get? b = some o → h'.get? b = some o)) E) F.called_set.init.plain F.entry_set_init (check_set_init_1 ty ?_)) fun r2 s2 hr2 => ?_
  · obtain ⟨⟨oc, od, odt, osl⟩, src1, src2, nl, src3⟩ := src
    simp only at src2 src3
    subst src2; subst src3
    have src4 : (s.heap.push (newSetO w)).get? l = some { cls := .type "tuple", dict := od, data := .seq items nl, slots := osl } := Heap.get?_push_of_some _ src1
    have u1 := F.sub_tuple_set
    have u2 := F.sub_tuple_frozenset
    have u3 : (Value.type "tuple" == Value.type "dict") = false := by decide
    have src5 : (s.heap.push (newSetO w)).IsTuple l items := ⟨_, src4, rfl, nl, rfl⟩
    unfold Builtin.«set.__init__» noKeywords Builtin.Frozenset.updateFrom
    generalize ePI : pyIter = PI
    wp_walk
    subst ePI
    refine wpAny_pyIter_tuple src5 ?_
    refine wpAny_bind (wpAny_runValue ?_)
    have ll : l < s.heap.objs.size := Heap.lt_size src1
    have calm3 : A.in1.in1.in1.handled = none := by simp [calm]
    have sz1 : (s.heap.push (newSetO w)).objs.size = s.heap.objs.size + 1 := Heap.size_push ..
    have ne1 : l ≠ (s.heap.push (newSetO w)).objs.size := by
      rw [sz1]
      exact Nat.ne_of_lt (Nat.lt_succ_of_lt ll)
    have ne2 : s.heap.objs.size ∉ [(s.heap.push (newSetO w)).objs.size, l] := by
      rw [sz1]
      simp only [List.mem_cons, List.not_mem_nil, or_false, not_or]
      exact ⟨Nat.ne_of_lt (Nat.lt_succ_self _), Nat.ne_of_gt ll⟩
    have each : ∀ (i : Nat) (v : Value), items[i]? = some v → ∃ p, ks[i]? = some p ∧ v = .ref p.1 := fun i v hv => by
      have q : (ks.map fun p => Value.ref p.1)[i]? = some v := by
        rw [← refs]
        simpa using hv
      rw [List.getElem?_map, Option.map_eq_some_iff] at q
      obtain ⟨p, h1, h2⟩ := q
      exact ⟨p, h1, h2.symm⟩
    have none_of : ∀ b, s.heap.objs.size ≤ b → s.heap.get? b = none := fun b hb => by
      cases q : s.heap.get? b with
      | none => rfl
      | some o => exact absurd (Heap.lt_size q) (Nat.not_lt_of_le hb)
    refine set_takes (Walks.tuple calm3 _ l ne1 items).toS s.heap.objs.size ne2 ks size few each s.heap tups (none_of _ (Nat.le_refl _)) (fun b hb => none_of b ?_) hu (items.size - 0) 0 _ (by omega)
      ⟨⟨_, Heap.get?_push_size _ rfl, rfl, rfl⟩, src5.push _⟩ (fun b o e => Heap.get?_push_of_some _ (Heap.get?_push_of_some _ e)) ⟨[], #[], 0, _, setG_new (Heap.get?_push_of_some _ here), .zero ks⟩ ?_
    · rw [List.mem_singleton.mp hb, sz1]
      exact Nat.le_succ _
    · rintro ⟨h', g2, d2, tk2, os2⟩ L es ep t mv R g k
      obtain rfl : g2 = s.gens := mv.gens
      obtain rfl : d2 = s.drawn := mv.drawn
      obtain rfl : os2 = s.os := mv.os
      show wpAny _ _ _ _ _ _
      refine wpAny_pure ?_
      show wpAny _ _ (ret Value.none) _ _ _
      rw [size] at g
      exact wpAny_pure ⟨rfl, h', tk2, L, es, ep, t, rfl, R, g, k⟩
  · rcases r2 with e | fl
    · exact hr2
    rcases fl with _ | _ | _ | v
    all_goals first | exact hr2.elim | skip
    obtain ⟨rfl, h', tk, L, es, ep, t, rfl, R, g, k⟩ := hr2
    repeat (any_goals (first | assumption | wp_step))
    exact then_ _ _ _ _ _ _ R g k
end
end Sw
namespace Sw
open PySem PySem.Spec PyProof.Rows L2
section
variable {P : Program} {w : World} {A : Around} {E : Value → Shared → Prop} {s : Shared}
variable {a : Addr} {L : List (Addr × List Int)} {es : Array (Int × Value)} {ep : Nat} {t : SetTable}
/-- is a tuple in a set? -/
theorem asked_in (R : SetG P w s.heap a L es ep t) {x : Addr} {k : List Int} (hx : IsT P w s.heap k x) (hu : A.units + 3 < cLine) {Q : Bool → Shared → Prop}
    (then_ : ∀ tk, Q (decide (k ∈ L.map (·.2))) { s with toks := tk }) : wpAny (model P w) A (contains (.ref a) (.ref x)) Q E s := by
  obtain ⟨ob, obAt, obEx, obDat⟩ := R.there
  have ty : s.TypeIs (.ref a) "set" := ⟨ob, obAt, obEx.1⟩
  unfold contains
  try with_reducible refine wpAny_holding ?_
  refine wpAny_bind (wpAny_specialOf ty F.slot_set_contains.lookup ?_)
  show wpAny _ _ (if (some (Value.builtin "set.__contains__") == some Value.none) = true then _ else _) Q E s
  rw [if_neg (by simp [beq_builtin_none])]
  refine wpAny_bind (wpAny_callSpecialUnlessNone?_slot (name := Str.ofString "__contains__") ty F.slot_set_contains ?_)
  refine wpAny_call_entry F.slot_set_contains ty entry_set_contains ?_ (F.args_set_contains_2 _ _)
  unfold Builtin.«frozenset.__contains__» Builtin.Frozenset.oneOther
  simp only [List.isEmpty_nil, bind_assoc]
  unfold Builtin.Frozenset.addrOf Builtin.Frozenset.withSetAsKey setContains
  refine wpAny_bind (wpAny_pure ?_)
  try dsimp only
  refine wpAny_bind (wpAny_pure ?_)
  try dsimp only
  refine wpAny_bind (wpAny_tryCatch (wpAny_holding ?_))
  refine wpAny_bind (wpAny_pyHash_tuple (by show A.units + 1 < cLine; omega) hx ?_)
  unfold setFind
  show wpAny _ _ (setFindIn a (.ref x) _ (99999 + 1) >>= _) _ _ _
  unfold setFindIn
  have R1 : SetG P w ({ s with toks := s.toks + (k.length + 1) } : Shared).heap a L es ep t := R
  refine wpAny_bind (wpAny_bind (wpAny_setState_of (s := { s with toks := s.toks + (k.length + 1) }) obAt obDat R1.fits ?_))
  dsimp only
  refine wp_if_neg (by unfold byScan Value.scannable; simp) ?_
  try refine wpAny_bind (wpAny_pure ?_)
  refine wpAny_bind (look_for R1 hx (by show A.units + 1 < cLine; omega) (fun inL r hr => ?_) fun K outL F => ?_)
  · have hr := hr rfl
    dsimp only
    refine wpAny_pure (wpAny_pure ?_)
    show wpAny _ _ (ret (Value.bool r.isSome)) _ _ _
    rw [hr]
    refine wpAny_pure ⟨_, rfl, wpAny_truthy_bool ?_⟩
    have := then_ (s.toks + (k.length + 1))
    rw [decide_eq_true inL] at this
    exact this
  · dsimp only
    refine wpAny_pure (wpAny_pure ?_)
    show wpAny _ _ (ret (Value.bool (Option.isSome (none : Option Nat)))) _ _ _
    refine wpAny_pure ⟨_, rfl, wpAny_truthy_bool ?_⟩
    have := then_ (s.toks + (k.length + 1))
    rw [decide_eq_false outL] at this
    exact this
end
/-! ### over the layer -/
/-- the set at a, without the tuples themselves -/
structure SetG0 (P : Program) (w : World) (h : Heap) (a : Addr) (L : List (Addr × List Int)) : Prop where
  ex : ∃ (es : Array (Int × Value)) (ep : Nat) (t : SetTable), (∃ o, h.get? a = some o ∧ o.ExactSet ∧ o.data = .set es ep t) ∧ es.toList = rowsOf P w L ∧ TabG t (L.map fun p => thash P w p.2) ∧ (L.map (·.2)).Nodup ∧ t.plain = true ∧
    (w.params.followText "set-order" = true ∨ t.led = true) ∧ L.length * 5 < t.mask * 3
def SetGO (P : Program) (w : World) (a : Addr) (L : List (Addr × List Int)) : HO := .ext fun h => SetG0 P w h a L
section
variable {P : Program} {w : World} {h : Heap} {a : Addr} {L : List (Addr × List Int)} {es : Array (Int × Value)} {ep : Nat} {t : SetTable}
theorem SetG.bare (R : SetG P w h a L es ep t) : SetG0 P w h a L := ⟨es, ep, t, R.there, R.rows, R.tab, R.nd, R.plain, R.led, R.room⟩
theorem SetG0.full (R : SetG0 P w h a L) (ht : ∀ p ∈ L, IsT P w h p.2 p.1) : ∃ es ep t, SetG P w h a L es ep t := by
  obtain ⟨es, ep, t, h1, h2, h3, h4, h5, h6, h7⟩ := R.ex
  exact ⟨es, ep, t, h1, h2, h3, h4, ht, h5, h6, h7⟩
theorem setGO_new {H : Hp} (R : SetG0 P w h a L) : ObjOk P w H h a (SetGO P w a L) := by
  have ⟨es, ep, t, ⟨o, ho, r⟩, q⟩ := R.ex
  refine ⟨R, ⟨o, ho⟩, fun h1 h2 p k => ?_⟩
  have ⟨es', ep', t', ⟨o', ho', r'⟩, q'⟩ := SetG0.ex p
  exact ⟨es', ep', t', ⟨o', k o' ho', r'⟩, q'⟩
end
section
variable {X : Cx}
/-- set(xs), xs a list or a tuple of tuples of ints -/
def rSetG (K : PySem.W.Frag) (P : Program) (w : World) : List V → Hp → VK → Prop := fun xs H Q => ∃ (l : Addr) (ks : List (Addr × List Int)), xs = [V.ref l] ∧ (SqL K H l (ks.map fun p => V.ref p.1) ∨ SqT K H l (ks.map fun p => V.ref p.1)) ∧
  (∀ p ∈ ks, SqT K H p.1 (p.2.map V.int)) ∧ ks.length ≤ 306 ∧ ∀ a L, H a = none → (∀ p ∈ L, p ∈ ks) → (∀ p ∈ ks, p.2 ∈ L.map (·.2)) → Q (.ref a) (upd H a (SetGO P w a L))
theorem cr_setG (hc : X.calm = true) (hu : X.A.units + 64 < cLine) : CallR X (.type "set") (rSetG X.K X.prog X.w) := by
  intro pins s σ H xs us Q I r h
  obtain ⟨l, ks, rfl, hl, hk, few, q⟩ := h
  rw [Vals.ref1 r]
  have hn : H s.heap.objs.size = none := I.hok.fresh (Nat.le_refl _)
  have fin : ∀ (h' : Heap) (tk : Nat) L es ep t, SetG X.prog X.w h' s.heap.objs.size L es ep t → Got ks ks.length L → (∀ b o, s.heap.get? b = some o → h'.get? b = some o) → EP X pins σ Q (.ref s.heap.objs.size) { s with heap := h', toks := tk } := fun h' tk L es ep t R g k =>
    ⟨.ref s.heap.objs.size, upd H s.heap.objs.size (SetGO X.prog X.w s.heap.objs.size L), I.laid (t' := tk) k (Nat.le_refl _) (setGO_new R.bare), rfl, q _ L hn (fun p hp => List.mem_of_mem_take (g.sub p hp)) fun p hp => g.all p (by rw [List.take_length]; exact hp)⟩
  rcases hl with hl | hl
  · obtain ⟨its, rv, pl, _⟩ := I.list hl
    exact made_list ks (I.ok.hd hc) pl.isList (by simpa using refs_of_vals rv) (fun p hp => I.isT (hk p hp)) few (by omega) fin
  · obtain ⟨its, rv, pl, _⟩ := I.tuple hl
    exact made_tuple ks (I.ok.hd hc) pl (by simpa using refs_of_vals rv) (fun p hp => I.isT (hk p hp)) few (by omega) fin
/-- k in found, k not in found -/
def rInG (K : PySem.W.Frag) (P : Program) (w : World) (neg : Bool) : V → V → Hp → VK → Prop := fun x y H Q => ∃ (b a : Addr) (k : List Int) (L : List (Addr × List Int)), x = V.ref b ∧ y = V.ref a ∧ SqT K H b (k.map V.int) ∧ H a = some (SetGO P w a L) ∧
  (∀ p ∈ L, SqT K H p.1 (p.2.map V.int)) ∧ Q (.bl (if neg then !decide (k ∈ L.map (·.2)) else decide (k ∈ L.map (·.2)))) H
theorem or_inG (hu : X.A.units + 64 < cLine) : OpR X (compareOp .In) (rInG X.K X.prog X.w false) := by
  intro pins s σ H x y v u Q I rx ry h
  obtain ⟨b, a, k, L, rfl, rfl, hb, ha, ht, q⟩ := h
  cases rx
  cases ry
  obtain ⟨es, ep, t, R⟩ := (show SetG0 X.prog X.w s.heap a L from (I.hok a _ ha).1).full fun p hp => I.isT (ht p hp)
  show wpAny _ _ (do return Value.bool (← contains (.ref a) (.ref b)) : Sem Value) _ _ s
  exact wpAny_bind (asked_in R (I.isT hb) (by omega) fun tk => wpAny_pure (show EP X pins σ Q (Value.bool (decide (k ∈ L.map (fun p : Addr × List Int => p.2)))) _ from ⟨.bl (decide (k ∈ L.map (fun p : Addr × List Int => p.2))), H, I.tok tk, rfl, q⟩))
theorem or_notInG (hu : X.A.units + 64 < cLine) : OpR X (compareOp .NotIn) (rInG X.K X.prog X.w true) := by
  intro pins s σ H x y v u Q I rx ry h
  obtain ⟨b, a, k, L, rfl, rfl, hb, ha, ht, q⟩ := h
  cases rx
  cases ry
  obtain ⟨es, ep, t, R⟩ := (show SetG0 X.prog X.w s.heap a L from (I.hok a _ ha).1).full fun p hp => I.isT (ht p hp)
  show wpAny _ _ (do return Value.bool (!(← contains (.ref a) (.ref b))) : Sem Value) _ _ s
  exact wpAny_bind (asked_in R (I.isT hb) (by omega) fun tk => wpAny_pure (show EP X pins σ Q (Value.bool (!decide (k ∈ L.map (fun p : Addr × List Int => p.2)))) _ from ⟨.bl (!decide (k ∈ L.map (fun p : Addr × List Int => p.2))), H, I.tok tk, rfl, q⟩))
end
end Sw
namespace Sw
open PySem L2
/-- arrows as a set takes them -/
theorem ArsAt.ks {H : Hp} : ∀ {ts : List V} {ars : List (Int × Int)}, ArsAt H ts ars → ∃ ks : List (Addr × List Int), ts = ks.map (fun p => V.ref p.1) ∧ (∀ p ∈ ks, H p.1 = some (.tup (p.2.map V.int))) ∧ ks.map (·.2) = ars.map fun e => [e.1, e.2]
  | _, _, .nil => ⟨[], rfl, nofun, rfl⟩
  | _, _, .cons (b := e) h r => by
    obtain ⟨t, rfl, ht⟩ := h
    obtain ⟨ks, e1, e2, e3⟩ := ArsAt.ks r
    refine ⟨(t, [e.1, e.2]) :: ks, by rw [List.map_cons, e1], fun p hp => ?_, by rw [List.map_cons, List.map_cons, e3]⟩
    rcases List.mem_cons.mp hp with rfl | hp
    · exact ht
    · exact e2 p hp
theorem set_arrows {ks L : List (Addr × List Int)} {ars : List (Int × Int)} (ek : ks.map (·.2) = ars.map fun e => [e.1, e.2]) (sub : ∀ p ∈ L, p ∈ ks) (all : ∀ p ∈ ks, p.2 ∈ L.map (·.2)) (v w : Int) : [v, w] ∈ L.map (·.2) ↔ (v, w) ∈ ars := by
  have e1 : [v, w] ∈ L.map (·.2) ↔ [v, w] ∈ ks.map (·.2) := by
    constructor
    · intro h
      obtain ⟨p, hp, e⟩ := List.mem_map.mp h
      exact List.mem_map.mpr ⟨p, sub p hp, e⟩
    · intro h
      obtain ⟨p, hp, e⟩ := List.mem_map.mp h
      exact e ▸ all p hp
  rw [e1, ek]
  constructor
  · intro h
    obtain ⟨⟨v', w'⟩, hp, e⟩ := List.mem_map.mp h
    simp only [List.cons.injEq, and_true] at e
    obtain ⟨rfl, rfl⟩ := e
    exact hp
  · exact fun h => List.mem_map.mpr ⟨_, h, rfl⟩
abbrev sRun : Stmt := top 14
abbrev nRun : List Str := ["net", "value", "n", "arrows", "spot", "stop", "known"]
theorem scRun : FnScope nRun ["net", "value"] (defScope sRun) := ⟨rfl, rfl, rfl, by decide +kernel, rfl, by decide +kernel, by decide +kernel⟩
section
variable {P : Program} {w : World} {K : PySem.W.Frag} {mg : Str → Option Value} {base : Heap}
theorem ok_run {f : Addr} {fd : FuncData} (F : Fun K "run_error" "run_error" sRun f fd) (B : NoNames mg) (bs : mg "set" = none) (t : Tok) (mM : mg "MAX_RUN" = some (.int 1000 t)) (O : Own P w K mg base 2 "is_stop" ["n", "value"] (spStop K)) :
    FnOk P w K mg base CX0 3 f fd ["net", "value"] (spRun K) := by
  obtain ⟨fT, fdT, GT, mT, kT, bT⟩ := O.ex
  refine F.ok scRun (fun vs H Q E h => ?_) (fun cdv A outer s H vs Q E hr h => ?_)
  · obtain ⟨a, b, n, ts, ars, x, d, as, rfl, _⟩ := h
    rfl
  · obtain ⟨a, b, n, ts, ars, x, d, as, rfl, N, AR, hd, hw, k⟩ := h
    refine ⟨_, pss_cons (ps_asg (pv 0) (pg_tup (by rfl) (pgs_cons (pg_name (i := 2) scRun.nd rfl (.inl rfl)) (pgs_cons (pg_name (i := 3) scRun.nd rfl (.inl rfl)) pgs_nil)))) <|
      pss_cons (ps_if (PW.pt (pw_or (pt_not (pt_val (pe_isi (i := 1) (TN := "tuple") rfl (Or.inl rfl) (by decide) (by decide) B.isi B.tuple rfl rfl (by decide +kernel) (by decide) (by decide))))
        (pw_or1 (pt_not (pt_chain op_le op_le pe_int (pe_callB call_len_seq (by rfl) B.len PySem.boot_len (pa_cons (pv 1) pa_nil)) (pe_glob (v := .int 1000) rfl mM ⟨_, rfl⟩)))))) (pss_one (ps_ret pe_str)) pss_nil) <|
      pss_cons (ps_for PassesOwn.never rfl (pi_enumT (by rfl) B.enumerate (pa_cons (pv 1) pa_nil)) (pg_tup rfl (pgs_cons (pg_name (i := 4) scRun.nd rfl (.inl rfl)) (pgs_cons (pg_name (i := 5) scRun.nd rfl (.inl rfl)) pgs_nil)))
        (pss_one (ps_if (pt_not (pt_val (pe_call GT hr rfl mT kT bT .nil pass0 (pa_cons (pv 2) (pa_cons (pv 5) pa_nil))))) (pss_one (ps_ret (pe_tup (pa_cons pe_str (pa_cons (pv 4) pa_nil))))) pss_nil))) <|
      pss_cons (ps_set (i := 6) scRun.nd rfl (.inl rfl) (pe_callTy (cr_setG rfl hr.units) (by rfl) bs (by decide +kernel) (pa_cons (pv 3) pa_nil))) <|
      pss_cons (ps_for PassesOwn.never rfl (pi_range2 (by rfl) B.range (pa_cons pe_int (pa_cons (pe_callB call_len_seq (by rfl) B.len PySem.boot_len (pa_cons (pv 1) pa_nil)) pa_nil))) (pg_name (i := 4) scRun.nd rfl (.inl rfl))
        (pss_one (ps_if (pt_cmpR (or_notInG hr.units) (pe_tup (pa_cons (pe_ix ix_tup (pv 1) (pe_op op_sub (pv 4) pe_int) (fun _ _ => rfl)) (pa_cons (pe_ix ix_tup (pv 1) (pv 4) (fun _ _ => rfl)) pa_nil))) (pv 6) (by with_unfolding_all rfl))
          (pss_one (ps_ret (pe_tup (pa_cons pe_str (pa_cons (pv 4) pa_nil))))) pss_nil))) <|
      pss_one (ps_ret pe_non), ?_⟩
    have kform : runOf d = none → Q (.str "form") H := fun hf => by
      obtain ⟨q1, q2, q3, q4⟩ := err_str (K := K) (H := H) (z := "form") (by decide +kernel)
      exact k _ _ _ H (.form hf) (Same.refl H) q1 q2 q3 q4
    refine ⟨_, rfl, a, _, rfl, SqT.of N.a, rfl, _, _, rfl, _, [], rfl, rfl, ?_⟩
    refine ⟨_, rfl, x, d, as, "tuple", rfl, by decide, hd, _, rfl, ?_⟩
    cases e : isT "tuple" d with
    | false =>
      refine iteT (iteT ?_)
      exact kform (run_tup e)
    | true =>
      refine iteF ?_
      obtain ⟨ds, rfl⟩ := tup_of e
      simp only [Rep] at hd
      obtain ⟨p, ys, cs, rfl, hp, ra, nap, rfl⟩ := hd
      have hl := ra.len
      have hsz : ys.length ≤ sizeLine := by
        simp only [wt] at hw
        have h2 := wt_len ds
        rw [hl, sizeLine_eq]
        omega
      refine ⟨_, rfl, p, ys, rfl, .inr (SqT.of hp), _, _, rfl, rfl, _, rfl, ?_⟩
      by_cases c1 : (1 : Int) ≤ (ys.length : Int)
      case neg =>
        rw [decide_eq_false c1]
        refine iteF ⟨_, rfl, ?_⟩
        refine iteT ?_
        refine kform ?_
        rw [run_len, if_neg (by rw [← hl]; omega)]
      case pos =>
      rw [decide_eq_true c1]
      refine iteT ⟨_, _, rfl, rfl, _, rfl, ?_⟩
      by_cases c2 : (ys.length : Int) ≤ 1000
      case neg =>
        rw [decide_eq_false c2]
        refine iteT ?_
        refine kform ?_
        rw [run_len, if_neg (by rw [← hl]; omega)]
      case pos =>
      rw [decide_eq_true c2]
      refine iteF ?_
      have hf : runOf (.tup ds) = some ds := by
        rw [run_len, if_pos (by rw [← hl]; omega)]
      refine ⟨_, rfl, p, ys, rfl, SqT.of hp, for_it walk_te (fun i σ H' => (∃ s4 s5, σ = [some (.ref a), some (.ref p), some (.int n), some (.ref b), s4, s5, none]) ∧ Same H H' ∧ ∀ (j : Nat) (y : D), j < i → ds[j]? = some y → isWhole 0 (n - 1) y = true)
        ⟨⟨_, _, rfl⟩, Same.refl H, fun j y h => absurd h (Nat.not_lt_zero _)⟩ (fun i σ H' _ h => SqT.of (h.2.1 _ _ hp)) ?_ ?_⟩
      · rintro i x σ1 H1 H2 hi ⟨⟨s4, s5, rfl⟩, s1, q⟩ ⟨T, x1, x2, rfl, nT, rfl, e1, e2⟩
        obtain rfl : V.int (i : Nat) = x1 := Option.some.inj e1
        refine ⟨T, [.int (i : Nat), x2], rfl, .inl (.inl upd_same), rfl, _, [x2], rfl, x2, [], rfl, rfl, ?_⟩
        have s2 : Same H (upd H1 T (.tup [.int (i : Nat), x2])) := s1.trans (same_new nT)
        obtain ⟨d2, b2, hd2, hr2, _⟩ := ra.at2 e2
        refine ⟨_, rfl, _, rfl, x2, d2, b2, n, rfl, hr2.same s2, _, rfl, ?_⟩
        cases ea : isStop n d2 with
        | true =>
          refine iteF ⟨⟨_, _, rfl⟩, s2, fun j y hj hy => ?_⟩
          rcases Nat.lt_succ_iff_lt_or_eq.mp hj with z | z
          · exact q j y z hy
          · subst z
            rw [hd2] at hy
            cases hy
            exact ea
        | false =>
          refine iteT ⟨_, rfl, by show 2 ≤ sizeLine; decide, fun p2 np2 => ?_⟩
          obtain ⟨q1, q2, q3, q4⟩ := err_pair (K := K) (z := "stop") (i := i) (by decide +kernel) (Nat.le_trans (Nat.le_of_lt hi) hsz) np2
          exact k _ _ _ _ (.stop hf hd2 ea q) (s2.trans (same_new np2)) q1 q2 q3 q4
      · rintro σ H1 ⟨⟨s4, s5, rfl⟩, s1, q⟩
        have qa : ∀ (j : Nat) (y : D), ds[j]? = some y → isWhole 0 (n - 1) y = true := fun j y hy => q j y (by rw [hl]; exact (List.getElem?_eq_some_iff.mp hy).1) hy
        have N1 := N.keep (.of s1)
        have AR1 := AR.keep (.of s1)
        obtain ⟨ks, ek1, ek2, ek3⟩ := AR1.ks
        have lk : ks.length ≤ 306 := by
          have := N.len
          rw [ek1, List.length_map] at this
          omega
        refine ⟨_, rfl, b, ks, rfl, .inr (by rw [← ek1]; exact SqT.of N1.b), fun p hp => SqT.of (ek2 p hp), lk, fun g L ng sub all => ?_⟩
        have mem := set_arrows ek3 sub all
        have sg : Same H (upd H1 g (SetGO P w g L)) := s1.trans (same_new ng)
        have tups : ∀ p ∈ L, (upd H1 g (SetGO P w g L)) p.1 = some (.tup (p.2.map V.int)) := fun p hp => same_new ng _ _ (ek2 p (sub p hp))
        have small62 : (ys.length : Int) < 2 ^ 62 := by
          rw [sizeLine_eq] at hsz
          omega
        refine ⟨_, rfl, p, ys, rfl, .inr (SqT.of (sg _ _ hp)), 1, (ys.length : Int), rfl, ⟨by decide, by decide, by omega, small62⟩, for_range (lo := 1) (n := ((ys.length : Int) - 1).toNat)
          (fun i σ H' => (∃ s4 s5, σ = [some (.ref a), some (.ref p), some (.int n), some (.ref b), s4, s5, some (.ref g)]) ∧ Same (upd H1 g (SetGO P w g L)) H' ∧ ∀ j, j < i + 1 → ¬ BadStep ars ds j) ⟨⟨_, _, rfl⟩, Same.refl _, fun j hj hb => ?_⟩ ?_ ?_⟩
        · obtain ⟨_, _, h0, _⟩ := hb
          omega
        · rintro i σ H2 hi ⟨⟨s4, s5, rfl⟩, s2', ql⟩
          have hi1 : i + 1 < ys.length := by omega
          have hi0 : i < ys.length := by omega
          have y1 : ys[i + 1]? = some ys[i + 1] := List.getElem?_eq_getElem hi1
          have y0 : ys[i]? = some ys[i] := List.getElem?_eq_getElem hi0
          obtain ⟨dd1, b1, hd1, r1, _⟩ := ra.at2 y1
          obtain ⟨dd0, b0, hd0, r0, _⟩ := ra.at2 y0
          obtain ⟨v1, rfl⟩ := whole_int (qa _ _ hd1)
          obtain ⟨v0, rfl⟩ := whole_int (qa _ _ hd0)
          simp only [Rep] at r1 r0
          have hp2 := SqT.of (K := K) (s2' _ _ (sg _ _ hp))
          refine ⟨_, rfl, _, rfl, _, _, rfl, rfl, p, ys, _, _, rfl, rfl, hp2, at_of (j := i) (by omega) y0, _, rfl, _, rfl, p, ys, _, _, rfl, rfl, hp2, at_of (j := i + 1) (by omega) y1, by show 2 ≤ sizeLine; decide, fun c nc => ?_⟩
          rw [r0.1, r1.1]
          have s3' : Same H2 (upd H2 c (.tup [.int v0, .int v1])) := same_new nc
          refine ⟨_, rfl, c, g, [v0, v1], L, rfl, rfl, SqT.of upd_same, s3' _ _ (s2' _ _ upd_same), fun p hp => SqT.of (s3' _ _ (s2' _ _ (tups p hp))), _, rfl, ?_⟩
          refine ite2 (fun z => ?_) (fun z => ?_)
          · refine ⟨_, rfl, by show 2 ≤ sizeLine; decide, fun p2 np2 => ?_⟩
            have no : (v0, v1) ∉ ars := fun y => by
              have y := (mem v0 v1).mpr y
              simp [y] at z
            have ei : (1 : Int) + (i : Int) = ((i + 1 : Nat) : Int) := by omega
            rw [ei]
            obtain ⟨q1, q2, q3, q4⟩ := err_pair (K := K) (z := "arrow") (i := i + 1) (by decide +kernel) (by omega) np2
            exact k _ _ _ _ (.arrow hf qa ⟨v0, v1, Nat.succ_pos i, hd0, hd1, no⟩ ql) (((sg.trans s2').trans s3').trans (same_new np2)) q1 q2 q3 q4
          · refine ⟨⟨_, _, rfl⟩, s2'.trans s3', fun j hj hb => ?_⟩
            rcases Nat.lt_succ_iff_lt_or_eq.mp hj with y | y
            · exact ql j y hb
            · subst y
              obtain ⟨v, w', _, h1, h2, h3⟩ := hb
              rw [show i + 1 - 1 = i from rfl, hd0] at h1
              rw [hd1] at h2
              cases h1
              cases h2
              have no : ¬ [v0, v1] ∈ L.map (·.2) := fun y => h3 ((mem v0 v1).mp y)
              simp [no] at z
        · rintro σ H2 ⟨⟨s4, s5, rfl⟩, s2', ql⟩
          refine k .non .non [] H2 (.fine hf qa fun j hb => ?_) (sg.trans s2') (by simp [Rep]) (by simp only [small]) (by simp only [wt]; decide) (by simp only [dep]; decide)
          obtain ⟨v, w', h0, _, h2, _⟩ := id hb
          have hj : j < ds.length := (List.getElem?_eq_some_iff.mp h2).1
          exact ql j (by omega) hb
end
end Sw
namespace Sw
open PySem L2
/-! ### runs, as whole numbers -/
/-- a run, as whole numbers -/
structure RunOk (n : Int) (ars : List (Int × Int)) (os : List Int) : Prop where
  ne : 1 ≤ os.length
  len : os.length ≤ 1000
  each : ∀ o ∈ os, Inn n o
  ch : Chain ars os
theorem wholes {n : Int} : ∀ {ds : List D}, (∀ y ∈ ds, isWhole 0 (n - 1) y = true) → ∃ os : List Int, ds = os.map D.int ∧ ∀ o ∈ os, Inn n o
  | [], _ => ⟨[], rfl, fun _ h => absurd h (by simp)⟩
  | d :: ds, h => by
    obtain ⟨os, rfl, q⟩ := wholes (ds := ds) fun y hy => h y (List.mem_cons_of_mem _ hy)
    have h1 := h d (List.mem_cons_self ..)
    cases d with
    | int i =>
      simp only [isWhole, Bool.and_eq_true, decide_eq_true_eq] at h1
      refine ⟨i :: os, rfl, fun o ho => ?_⟩
      rcases List.mem_cons.mp ho with rfl | ho
      · exact ⟨h1.1, by omega⟩
      · exact q o ho
    | _ => simp [isWhole] at h1
theorem map_at {os : List Int} {i : Nat} {v : Int} : (os.map D.int)[i]? = some (.int v) ↔ os[i]? = some v := by
  rw [List.getElem?_map]
  cases os[i]? with
  | none => simp
  | some z => simp
theorem fine_iff {n : Int} {ars : List (Int × Int)} {d : D} : IsErrR n ars d .non ↔ ∃ os : List Int, d = .tup (os.map D.int) ∧ RunOk n ars os := by
  constructor
  · intro h
    cases h with
    | @fine ds h ha hl =>
      cases d with
      | tup es =>
        rw [run_len] at h
        by_cases c : 1 ≤ es.length ∧ es.length ≤ 1000
        · rw [if_pos c] at h
          cases h
          obtain ⟨os, rfl, q⟩ := wholes (ds := ds) fun y hy => by
            obtain ⟨j, hj⟩ := List.getElem?_of_mem hy
            exact ha j y hj
          rw [List.length_map] at c
          refine ⟨os, rfl, c.1, c.2, q, fun i v w h1 h2 => Classical.byContradiction fun no => hl (i + 1) ⟨v, w, Nat.succ_pos i, ?_, map_at.mpr h2, no⟩⟩
          exact map_at.mpr h1
        · rw [if_neg c] at h
          cases h
      | _ => simp [runOf] at h
  · rintro ⟨os, rfl, R⟩
    refine .fine (ds := os.map D.int) (by rw [run_len, if_pos (by rw [List.length_map]; exact ⟨R.ne, R.len⟩)]) (fun j y hy => ?_) fun j ⟨v, w, h0, h1, h2, no⟩ => ?_
    · rw [List.getElem?_map] at hy
      cases q : os[j]? with
      | none => rw [q] at hy; cases hy
      | some z =>
        rw [q] at hy
        cases hy
        have := R.each z (List.mem_of_getElem? q)
        obtain ⟨a, b⟩ := this
        simp only [isWhole, Bool.and_eq_true, decide_eq_true_eq]
        exact ⟨a, by omega⟩
    · have h1 := map_at.mp h1
      have h2 := map_at.mp h2
      have e : j - 1 + 1 = j := by omega
      exact no (R.ch (j - 1) v w h1 (by rw [e]; exact h2))
end Sw
namespace Sw
open PySem L2
/-! ### journeys as data: what is wrong first -/
def BigT : Int := 10 ^ 30
/-- a leg -/
def LegIs (n : Int) (ars : List (Int × Int)) (d : D) (os : List Int) (t : Int) : Prop := d = .tup [.tup (os.map D.int), .int t] ∧ RunOk n ars os ∧ 1 ≤ t ∧ t ≤ BigT ∧ (t = 1 ∨ os[0]? = os.getLast?)
def LegOk (n : Int) (ars : List (Int × Int)) (d : D) : Prop := ∃ os t, LegIs n ars d os t
def legsOf : D → Option (List D)
  | .tup ds => if ds.length ≤ 500 then some ds else none
  | _ => none
theorem legs_tup {d : D} (h : isT "tuple" d = false) : legsOf d = none := by
  cases d <;> simp_all [isT, legsOf]
theorem legs_len {ds : List D} : legsOf (.tup ds) = if ds.length ≤ 500 then some ds else none := rfl
def ApartAt (ds : List D) (i : Nat) : Prop := 0 < i ∧ ∃ (os os' : List Int) (t t' v w : Int), ds[i - 1]? = some (.tup [.tup (os.map D.int), .int t]) ∧ ds[i]? = some (.tup [.tup (os'.map D.int), .int t']) ∧ os.getLast? = some v ∧ os'[0]? = some w ∧ v ≠ w
inductive IsErrJ (n : Int) (ars : List (Int × Int)) : D → D → Prop
  | form {d : D} (h : legsOf d = none) : IsErrJ n ars d (.str "form")
  | leg {d x : D} {ds : List D} {i : Nat} (h : legsOf d = some ds) (hx : ds[i]? = some x) (hb : ¬ LegOk n ars x) (ha : ∀ (j : Nat) (y : D), j < i → ds[j]? = some y → LegOk n ars y) : IsErrJ n ars d (.tup [.str "leg", .int i])
  | apart {d : D} {ds : List D} {i : Nat} (h : legsOf d = some ds) (ha : ∀ (j : Nat) (y : D), ds[j]? = some y → LegOk n ars y) (hb : ApartAt ds i) (hl : ∀ j, j < i → ¬ ApartAt ds j) : IsErrJ n ars d (.tup [.str "apart", .int i])
  | fine {d : D} {ds : List D} (h : legsOf d = some ds) (ha : ∀ (j : Nat) (y : D), ds[j]? = some y → LegOk n ars y) (hl : ∀ j, ¬ ApartAt ds j) : IsErrJ n ars d .non
theorem IsErrJ.det {n : Int} {ars : List (Int × Int)} {d r r' : D} (h : IsErrJ n ars d r) (h' : IsErrJ n ars d r') : r = r' := by
  cases h with
  | form h =>
    cases h' with
    | form => rfl
    | leg e => rw [h] at e; cases e
    | apart e => rw [h] at e; cases e
    | fine e => rw [h] at e; cases e
  | @leg x ds i h hx hb ha =>
    cases h' with
    | form e => rw [h] at e; cases e
    | @leg x' ds' i' e hx' hb' ha' =>
      rw [h] at e
      cases e
      rcases Nat.lt_trichotomy i i' with l | l | l
      · exact absurd (ha' i x l hx) hb
      · rw [l]
      · exact absurd (ha i' x' l hx') hb'
    | apart e ha' => rw [h] at e; cases e; exact absurd (ha' i x hx) hb
    | fine e ha' => rw [h] at e; cases e; exact absurd (ha' i x hx) hb
  | @apart ds i h ha hb hl =>
    cases h' with
    | form e => rw [h] at e; cases e
    | @leg x' ds' i' e hx' hb' ha' => rw [h] at e; cases e; exact absurd (ha i' x' hx') hb'
    | @apart ds' i' e ha' hb' hl' =>
      rw [h] at e
      cases e
      rcases Nat.lt_trichotomy i i' with l | l | l
      · exact absurd hb (hl' i l)
      · rw [l]
      · exact absurd hb' (hl i' l)
    | fine e ha' hl' => rw [h] at e; cases e; exact absurd hb (hl' i)
  | @fine ds h ha hl =>
    cases h' with
    | form e => rw [h] at e; cases e
    | @leg x' ds' i' e hx' hb' ha' => rw [h] at e; cases e; exact absurd (ha i' x' hx') hb'
    | @apart ds' i' e ha' hb' hl' => rw [h] at e; cases e; exact absurd hb' (hl i')
    | fine => rfl
theorem repAll_ints {K : PySem.W.Frag} {H : Hp} : ∀ {os : List Int} {ys : List V} {cs : List Addr}, RepAll K H (os.map D.int) ys cs → ys = os.map V.int
  | [], ys, cs, h => by
    simp only [List.map_nil, RepAll] at h
    exact h.1
  | o :: os, ys, cs, h => by
    simp only [List.map_cons, RepAll] at h
    obtain ⟨x, r, b1, c1, rfl, h1, h2, rfl⟩ := h
    simp only [Rep] at h1
    rw [h1.1, repAll_ints h2]
    rfl
theorem pair_of {d : D} (h : isPair d = true) : ∃ x y, d = .tup [x, y] := two_of h
abbrev sIsLeg : Stmt := top 23
abbrev nIsLeg : List Str := ["net", "value", "run", "times", "most"]
theorem scIsLeg : FnScope nIsLeg ["net", "value"] (defScope sIsLeg) := ⟨rfl, rfl, rfl, by decide +kernel, rfl, by decide +kernel, by decide +kernel⟩
section
variable {P : Program} {w : World} {K : PySem.W.Frag} {mg : Str → Option Value} {base : Heap}
def spLeg (K : PySem.W.Frag) : Sp := fun vs H Q _ => ∃ (a b : Addr) (n : Int) (ts : List V) (ars : List (Int × Int)) (x : V) (d : D) (as : List Addr), vs = [.ref a, x] ∧ NetAt n H a b ts ∧ ArsAt H ts ars ∧ Rep K H d x as ∧ wt d ≤ 10000000 ∧
  ∀ (c : Bool) (H' : Hp), (c = true ↔ LegOk n ars d) → Same H H' → Q (.bl c) H'
theorem ok_isLeg {f : Addr} {fd : FuncData} (F : Fun K "is_leg" "is_leg" sIsLeg f fd) (B : NoNames mg) (t : Tok) (mT : mg "MAX_TIMES" = some (.int (10 ^ 30) t)) (O1 : Own P w K mg base 1 "is_pair" ["value"] (spPair K))
    (O2 : Own P w K mg base 3 "run_error" ["net", "value"] (spRun K)) (O3 : Own P w K mg base 1 "is_integer_between" ["value", "least", "most"] (spBetween K)) : FnOk P w K mg base CX0 4 f fd ["net", "value"] (spLeg K) := by
  obtain ⟨fP, fdP, GP, mP, kP, bP⟩ := O1.ex
  obtain ⟨fR, fdR, GR, mR, kR, bR⟩ := O2.ex
  obtain ⟨fB, fdB, GB, mB, kB, bB⟩ := O3.ex
  refine F.ok scIsLeg (fun vs H Q E h => ?_) (fun cdv A outer s H vs Q E hr h => ?_)
  · obtain ⟨a, b, n, ts, ars, x, d, as, rfl, _⟩ := h
    rfl
  · obtain ⟨a, b, n, ts, ars, x, d, as, rfl, N, AR, hd, hw, k⟩ := h
    have hr1 : Room 1 _ := hr.mono (by decide)
    refine ⟨_, pss_cons (ps_if (pt_not (pt_val (pe_call GP hr1 rfl mP kP bP .nil pass0 (pa_cons (pv 1) pa_nil)))) (pss_one (ps_ret pe_bl)) pss_nil) <|
      pss_cons (ps_asg (pv 1) (pg_tup (by rfl) (pgs_cons (pg_name (i := 2) scIsLeg.nd rfl (.inl rfl)) (pgs_cons (pg_name (i := 3) scIsLeg.nd rfl (.inl rfl)) pgs_nil)))) <|
      pss_cons (ps_if (pt_cmpR op_notN (pe_call GR hr rfl mR kR bR .nil pass0 (pa_cons (pv 0) (pa_cons (pv 2) pa_nil))) pe_non (nomark _)) (pss_one (ps_ret pe_bl)) pss_nil) <|
      pss_cons (ps_set (i := 4) scIsLeg.nd rfl (.inl rfl) (pe_ifExp (pt_cmpR op_eq (pe_ix ix_tup (pv 2) pe_int (fun _ _ => rfl)) (pe_ix ix_tup (pv 2) (pe_un un_neg pe_int) (fun _ _ => rfl)) (nomark _)) (pe_glob (v := .int (10 ^ 30)) rfl mT ⟨_, rfl⟩) pe_int)) <|
      pss_one (ps_ret (pe_call GB hr1 rfl mB kB bB .nil pass0 (pa_cons (pv 3) (pa_cons pe_int (pa_cons (pv 4) pa_nil))))), ?_⟩
    have no : ¬ LegOk n ars d → Q (.bl false) H := fun hn => k false H ⟨fun z => (nomatch z), fun z => absurd z hn⟩ (Same.refl H)
    refine ⟨_, rfl, x, d, as, rfl, hd, _, rfl, ?_⟩
    cases e : isPair d with
    | false =>
      refine iteT (no fun ⟨os, t, hl, _⟩ => ?_)
      rw [hl] at e
      cases e
    | true =>
      refine iteF ?_
      obtain ⟨d1, d2, rfl⟩ := pair_of e
      simp only [Rep, RepAll] at hd
      obtain ⟨p, xs, bs, rfl, hp, ⟨y, r, c1, c2, rfl, h1, ⟨z, r2, e1, e2, rfl, h2, ⟨rfl, rfl⟩, rfl⟩, rfl⟩, nap, rfl⟩ := hd
      have w1 : wt d1 ≤ 10000000 := by
        simp only [wt, wtAll] at hw
        omega
      refine ⟨_, rfl, p, _, rfl, SqT.of hp, rfl, _, _, rfl, _, [], rfl, rfl, ?_⟩
      refine ⟨_, rfl, _, rfl, a, b, n, ts, ars, y, d1, c1, rfl, N, AR, h1, w1, fun r v bs H1 ir s1 rr _ _ _ => ?_⟩
      refine ⟨rfl, _, rfl, ?_⟩
      by_cases er : r = .non
      · subst er
        simp only [Rep] at rr
        rw [rr.1]
        refine iteF ?_
        obtain ⟨os, rfl, RO⟩ := fine_iff.mp ir
        simp only [Rep] at h1
        obtain ⟨q, ys, cs, rfl, hq, ra, naq, rfl⟩ := h1
        have ey := repAll_ints ra
        subst ey
        have hq1 := s1 _ _ hq
        have ne : os ≠ [] := fun z => by
          have := RO.ne
          rw [z] at this
          cases this
        obtain ⟨lo, lm, la, le⟩ := last_of ne
        obtain ⟨fo, hfo⟩ : ∃ fo, os[0]? = some fo := ⟨os[0]'(List.length_pos_iff.mpr ne), List.getElem?_eq_getElem _⟩
        have hfo2 : (os.map V.int)[0]? = some (.int fo) := by
          rw [List.getElem?_map, hfo]
          rfl
        refine ⟨_, rfl, q, _, 0, .int fo, rfl, rfl, SqT.of hq1, at_of (j := 0) rfl hfo2, _, rfl, 1, rfl, q, _, -1, .int lo, rfl, rfl, SqT.of hq1, la, rfl, _, rfl, ?_⟩
        have ends : os[0]? = os.getLast? ↔ fo = lo := by
          rw [hfo, le]
          simp
        refine ite2 (fun z => ?_) (fun z => ?_)
        · have z : fo = lo := by simpa using z
          refine ⟨_, rfl, _, rfl, _, _, _, 1, 10 ^ 30, rfl, h2.same s1, k _ _ ?_ s1⟩
          constructor
          · intro hw2
            cases d2 with
            | int t2 =>
              simp only [isWhole, Bool.and_eq_true, decide_eq_true_eq] at hw2
              exact ⟨os, t2, rfl, RO, hw2.1, hw2.2, .inr (ends.mpr z)⟩
            | _ => simp [isWhole] at hw2
          · rintro ⟨os', t2, hl, R', h1', h2', _⟩
            have ht : d2 = .int t2 := by
              injection hl with hl
              injection hl with _ hl
              injection hl
            rw [ht]
            simp only [isWhole, Bool.and_eq_true, decide_eq_true_eq]
            exact ⟨h1', h2'⟩
        · have z : ¬ fo = lo := by simpa using z
          refine ⟨_, rfl, _, rfl, _, _, _, 1, 1, rfl, h2.same s1, k _ _ ?_ s1⟩
          constructor
          · intro hw2
            cases d2 with
            | int t2 =>
              simp only [isWhole, Bool.and_eq_true, decide_eq_true_eq] at hw2
              exact ⟨os, t2, rfl, RO, hw2.1, Int.le_trans hw2.2 (by decide), .inl (by omega)⟩
            | _ => simp [isWhole] at hw2
          · rintro ⟨os', t2, hl, R', h1', h2', h3'⟩
            injection hl with hl
            injection hl with hl0 hl
            injection hl with hl _
            subst hl
            injection hl0 with hl0
            have eo : os = os' := by
              have := congrArg (List.map fun x => match x with | .int i => i | _ => 0) hl0
              simpa [List.map_map, Function.comp_def] using this
            subst eo
            rcases h3' with h3' | h3'
            · simp only [isWhole, Bool.and_eq_true, decide_eq_true_eq]
              exact ⟨h1', by omega⟩
            · exact absurd (ends.mp h3') z
      · have vn : v ≠ .non := fun z => by
          rw [z] at rr
          cases r with
          | non => exact er rfl
          | bl => simp [Rep] at rr
          | int => simp [Rep] at rr
          | str => simp [Rep] at rr
          | tup => simp only [Rep] at rr; obtain ⟨_, _, _, rr, _⟩ := rr; cases rr
          | lst => simp only [Rep] at rr; obtain ⟨_, _, _, rr, _⟩ := rr; cases rr
          | dx => simp only [Rep] at rr; obtain ⟨_, _, rr, _⟩ := rr; cases rr
          | dct => simp only [Rep] at rr; obtain ⟨_, rr, _⟩ := rr; cases rr
          | exc => simp only [Rep] at rr; obtain ⟨_, _, _, rr, _⟩ := rr; cases rr
        rw [decide_eq_false vn]
        refine iteT (k false _ ⟨fun z => (nomatch z), fun ⟨os, t2, hl, R', _⟩ => ?_⟩ s1)
        injection hl with hl
        injection hl with hl _
        exact absurd (ir.det (fine_iff.mpr ⟨os, hl, R'⟩)) er
end
end Sw
namespace Sw
open PySem L2
theorem leg_rep {K : PySem.W.Frag} {H : Hp} {os : List Int} {t : Int} {v : V} {bs : List Addr} (h : Rep K H (.tup [.tup (os.map D.int), .int t]) v bs) : ∃ q r, v = .ref q ∧ H q = some (.tup [.ref r, .int t]) ∧ H r = some (.tup (os.map V.int)) := by
  simp only [Rep, RepAll] at h
  obtain ⟨p, xs, bs, rfl, hp, ⟨y, r, c1, c2, rfl, ⟨q, ys, cs, rfl, hq, ra, _, rfl⟩, ⟨z, r2, e1, e2, rfl, ⟨rfl, rfl⟩, ⟨rfl, rfl⟩, rfl⟩, rfl⟩, nap, rfl⟩ := h
  exact ⟨p, q, rfl, hp, by rw [hq, repAll_ints ra]⟩
theorem ints_inj {os os' : List Int} (h : os.map D.int = os'.map D.int) : os = os' := by
  have := congrArg (List.map fun x => match x with | .int i => i | _ => 0) h
  simpa [List.map_map, Function.comp_def] using this
theorem leg_inj {os os' : List Int} {t t' : Int} (h : (D.tup [.tup (os.map D.int), .int t]) = .tup [.tup (os'.map D.int), .int t']) : os = os' := by
  injection h with h
  injection h with h _
  injection h with h
  exact ints_inj h
theorem apart_of {ds : List D} {i : Nat} {os os' : List Int} {t t' fo lo : Int} (h0 : ds[i]? = some (.tup [.tup (os.map D.int), .int t])) (h1 : ds[i + 1]? = some (.tup [.tup (os'.map D.int), .int t'])) (l : os.getLast? = some lo) (f : os'[0]? = some fo) : ApartAt ds (i + 1) ↔ fo ≠ lo := by
  constructor
  · rintro ⟨_, os1, os2, t1, t2, v, w, e1, e2, e3, e4, ne⟩ z
    rw [show i + 1 - 1 = i from rfl, h0] at e1
    rw [h1] at e2
    have e1 := leg_inj (Option.some.inj e1)
    have e2 := leg_inj (Option.some.inj e2)
    subst e1 e2
    rw [l] at e3
    rw [f] at e4
    cases e3
    cases e4
    exact ne z.symm
  · intro z
    exact ⟨Nat.succ_pos i, os, os', t, t', lo, fo, h0, h1, l, f, fun q => z q.symm⟩
theorem RunOk.first {n : Int} {ars : List (Int × Int)} {os : List Int} (R : RunOk n ars os) : ∃ fo, os[0]? = some fo ∧ (os.map V.int)[0]? = some (.int fo) := by
  have h : 0 < os.length := R.ne
  refine ⟨os[0], List.getElem?_eq_getElem h, ?_⟩
  rw [List.getElem?_map, List.getElem?_eq_getElem h]
  rfl
theorem RunOk.nil {n : Int} {ars : List (Int × Int)} {os : List Int} (R : RunOk n ars os) : os ≠ [] := fun z => by
  have := R.ne
  rw [z] at this
  cases this
abbrev sJourney : Stmt := top 22
abbrev nJourney : List Str := ["net", "value", "spot", "leg", "ahead", "run"]
theorem scJourney : FnScope nJourney ["net", "value"] (defScope sJourney) := ⟨rfl, rfl, rfl, by decide +kernel, rfl, by decide +kernel, by decide +kernel⟩
section
variable {P : Program} {w : World} {K : PySem.W.Frag} {mg : Str → Option Value} {base : Heap}
def spJn (K : PySem.W.Frag) : Sp := fun vs H Q _ => ∃ (a b : Addr) (n : Int) (ts : List V) (ars : List (Int × Int)) (x : V) (d : D) (as : List Addr), vs = [.ref a, x] ∧ NetAt n H a b ts ∧ ArsAt H ts ars ∧ Rep K H d x as ∧ wt d ≤ 10000000 ∧
  ∀ (r : D) (v : V) (bs : List Addr) (H' : Hp), IsErrJ n ars d r → Same H H' → Rep K H' r v bs → small r → wt r ≤ 100 → dep r ≤ 1 → Q v H'
theorem ok_journey {f : Addr} {fd : FuncData} (F : Fun K "journey_error" "journey_error" sJourney f fd) (B : NoNames mg) (t : Tok) (mM : mg "MAX_LEGS" = some (.int 500 t)) (O : Own P w K mg base 4 "is_leg" ["net", "value"] (spLeg K)) :
    FnOk P w K mg base CX0 5 f fd ["net", "value"] (spJn K) := by
  obtain ⟨fT, fdT, GT, mT, kT, bT⟩ := O.ex
  refine F.ok scJourney (fun vs H Q E h => ?_) (fun cdv A outer s H vs Q E hr h => ?_)
  · obtain ⟨a, b, n, ts, ars, x, d, as, rfl, _⟩ := h
    rfl
  · obtain ⟨a, b, n, ts, ars, x, d, as, rfl, N, AR, hd, hw, k⟩ := h
    refine ⟨_, pss_cons (ps_if (PW.pt (pw_or (pt_not (pt_val (pe_isi (i := 1) (TN := "tuple") rfl (Or.inl rfl) (by decide) (by decide) B.isi B.tuple rfl rfl (by decide +kernel) (by decide) (by decide))))
        (pw_or1 (pt_cmpR op_gt (pe_callB call_len_seq (by rfl) B.len PySem.boot_len (pa_cons (pv 1) pa_nil)) (pe_glob (v := .int 500) rfl mM ⟨_, rfl⟩) (nomark _))))) (pss_one (ps_ret pe_str)) pss_nil) <|
      pss_cons (ps_for PassesOwn.never rfl (pi_enumT (by rfl) B.enumerate (pa_cons (pv 1) pa_nil)) (pg_tup rfl (pgs_cons (pg_name (i := 2) scJourney.nd rfl (.inl rfl)) (pgs_cons (pg_name (i := 3) scJourney.nd rfl (.inl rfl)) pgs_nil)))
        (pss_one (ps_if (pt_not (pt_val (pe_call GT hr rfl mT kT bT .nil pass0 (pa_cons (pv 0) (pa_cons (pv 3) pa_nil))))) (pss_one (ps_ret (pe_tup (pa_cons pe_str (pa_cons (pv 2) pa_nil))))) pss_nil))) <|
      pss_cons (ps_for PassesOwn.never rfl (pi_range2 (by rfl) B.range (pa_cons pe_int (pa_cons (pe_callB call_len_seq (by rfl) B.len PySem.boot_len (pa_cons (pv 1) pa_nil)) pa_nil))) (pg_name (i := 2) scJourney.nd rfl (.inl rfl))
        (pss_cons (ps_par (i := 4) (j := 5) rfl scJourney.nd rfl rfl (by decide) rfl rfl (pa_cons (pe_ix ix_tup (pe_ix ix_tup (pv 1) (pe_op op_sub (pv 2) pe_int) (fun _ _ => rfl)) pe_int (fun _ _ => rfl)) (pa_cons (pe_ix ix_tup (pe_ix ix_tup (pv 1) (pv 2) (fun _ _ => rfl)) pe_int (fun _ _ => rfl)) pa_nil)) (by rfl)) <|
        pss_one (ps_if (pt_cmpR op_ne (pe_ix ix_tup (pv 5) pe_int (fun _ _ => rfl)) (pe_ix ix_tup (pv 4) (pe_un un_neg pe_int) (fun _ _ => rfl)) (nomark _))
          (pss_one (ps_ret (pe_tup (pa_cons pe_str (pa_cons (pv 2) pa_nil))))) pss_nil))) <|
      pss_one (ps_ret pe_non), ?_⟩
    have kform : legsOf d = none → Q (.str "form") H := fun hf => by
      obtain ⟨q1, q2, q3, q4⟩ := err_str (K := K) (H := H) (z := "form") (by decide +kernel)
      exact k _ _ _ H (.form hf) (Same.refl H) q1 q2 q3 q4
    refine ⟨_, rfl, x, d, as, "tuple", rfl, by decide, hd, _, rfl, ?_⟩
    cases e : isT "tuple" d with
    | false =>
      refine iteT (iteT ?_)
      exact kform (legs_tup e)
    | true =>
      refine iteF ?_
      obtain ⟨ds, rfl⟩ := tup_of e
      simp only [Rep] at hd
      obtain ⟨p, ys, cs, rfl, hp, ra, nap, rfl⟩ := hd
      have hl := ra.len
      have hwds : ∀ y ∈ ds, wt y ≤ 10000000 := fun y hy => by
        have := wt_mem hy
        simp only [wt] at hw
        omega
      have hsz : ys.length ≤ sizeLine := by
        simp only [wt] at hw
        have h2 := wt_len ds
        rw [hl, sizeLine_eq]
        omega
      refine ⟨_, rfl, p, ys, rfl, .inr (SqT.of hp), _, _, rfl, rfl, _, rfl, ?_⟩
      by_cases c2 : (500 : Int) < (ys.length : Int)
      case pos =>
        rw [decide_eq_true c2]
        refine iteT ?_
        refine kform ?_
        rw [legs_len, if_neg (by rw [← hl]; omega)]
      case neg =>
      rw [decide_eq_false c2]
      refine iteF ?_
      have hf : legsOf (.tup ds) = some ds := by
        rw [legs_len, if_pos (by rw [← hl]; omega)]
      refine ⟨_, rfl, p, ys, rfl, SqT.of hp, for_it walk_te (fun i σ H' => (∃ s4 s5, σ = [some (.ref a), some (.ref p), s4, s5, none, none]) ∧ Same H H' ∧ ∀ (j : Nat) (y : D), j < i → ds[j]? = some y → LegOk n ars y)
        ⟨⟨_, _, rfl⟩, Same.refl H, fun j y h => absurd h (Nat.not_lt_zero _)⟩ (fun i σ H' _ h => SqT.of (h.2.1 _ _ hp)) ?_ ?_⟩
      · rintro i x σ1 H1 H2 hi ⟨⟨s4, s5, rfl⟩, s1, q⟩ ⟨T, x1, x2, rfl, nT, rfl, e1, e2⟩
        obtain rfl : V.int (i : Nat) = x1 := Option.some.inj e1
        refine ⟨T, [.int (i : Nat), x2], rfl, .inl (.inl upd_same), rfl, _, [x2], rfl, x2, [], rfl, rfl, ?_⟩
        have s2 : Same H (upd H1 T (.tup [.int (i : Nat), x2])) := s1.trans (same_new nT)
        obtain ⟨d2, b2, hd2, hr2, _⟩ := ra.at2 e2
        refine ⟨_, rfl, _, rfl, a, b, n, ts, ars, x2, d2, b2, rfl, N.keep (.of s2), AR.keep (.of s2), hr2.same s2, hwds d2 (List.mem_of_getElem? hd2), fun c H3 ic s23 => ⟨_, rfl, ?_⟩⟩
        have s3 := s2.trans s23
        cases c with
        | true =>
          refine iteF ⟨⟨_, _, rfl⟩, s3, fun j y hj hy => ?_⟩
          rcases Nat.lt_succ_iff_lt_or_eq.mp hj with z | z
          · exact q j y z hy
          · subst z
            rw [hd2] at hy
            cases hy
            exact ic.mp rfl
        | false =>
          refine iteT ⟨_, rfl, by show 2 ≤ sizeLine; decide, fun p2 np2 => ?_⟩
          obtain ⟨q1, q2, q3, q4⟩ := err_pair (K := K) (z := "leg") (i := i) (by decide +kernel) (Nat.le_trans (Nat.le_of_lt hi) hsz) np2
          exact k _ _ _ _ (.leg hf hd2 (fun z => by have := ic.mpr z; cases this) q) (s3.trans (same_new np2)) q1 q2 q3 q4
      · rintro σ H1 ⟨⟨s4, s5, rfl⟩, s1, q⟩
        have qa : ∀ (j : Nat) (y : D), ds[j]? = some y → LegOk n ars y := fun j y hy => q j y (by rw [hl]; exact (List.getElem?_eq_some_iff.mp hy).1) hy
        have small62 : (ys.length : Int) < 2 ^ 62 := by
          rw [sizeLine_eq] at hsz
          omega
        refine ⟨_, rfl, p, ys, rfl, .inr (SqT.of (s1 _ _ hp)), 1, (ys.length : Int), rfl, ⟨by decide, by decide, by omega, small62⟩, for_range (lo := 1) (n := ((ys.length : Int) - 1).toNat)
          (fun i σ H' => (∃ s4 s5 s6 s7, σ = [some (.ref a), some (.ref p), s4, s5, s6, s7]) ∧ Same H H' ∧ ∀ j, j < i + 1 → ¬ ApartAt ds j) ⟨⟨_, _, _, _, rfl⟩, s1, fun j hj hb => ?_⟩ ?_ ?_⟩
        · obtain ⟨h0, _⟩ := hb
          omega
        · rintro i σ H2 hi ⟨⟨s4, s5, s6, s7, rfl⟩, s2', ql⟩
          have hi1 : i + 1 < ys.length := by omega
          have hi0 : i < ys.length := by omega
          have y1 : ys[i + 1]? = some ys[i + 1] := List.getElem?_eq_getElem hi1
          have y0 : ys[i]? = some ys[i] := List.getElem?_eq_getElem hi0
          obtain ⟨dd1, b1, hd1, r1, _⟩ := ra.at2 y1
          obtain ⟨dd0, b0, hd0, r0, _⟩ := ra.at2 y0
          obtain ⟨os1, t1, rfl, R1, _⟩ := qa _ _ hd1
          obtain ⟨os0, t0, rfl, R0, _⟩ := qa _ _ hd0
          obtain ⟨q1, z1, v1, l1, m1⟩ := leg_rep (r1.same s2')
          obtain ⟨q0, z0, v0, l0, m0⟩ := leg_rep (r0.same s2')
          rw [v1] at y1
          rw [v0] at y0
          obtain ⟨fo, f1, f2⟩ := R1.first
          obtain ⟨lo, _, la, le⟩ := last_of R0.nil
          have hp2 := SqT.of (K := K) (s2' _ _ hp)
          refine ⟨_, rfl, _, rfl, _, _, rfl, rfl, p, ys, _, _, rfl, rfl, hp2, at_of (j := i) (by omega) y0, q0, _, 0, .ref z0, rfl, rfl, SqT.of l0, at_of (j := 0) rfl rfl, _, rfl, _, rfl, p, ys, _, _, rfl, rfl, hp2, at_of (j := i + 1) (by omega) y1, q1, _, 0, .ref z1, rfl, rfl, SqT.of l1, at_of (j := 0) rfl rfl, _, _, rfl, ?_⟩
          refine ⟨_, rfl, z1, _, 0, .int fo, rfl, rfl, SqT.of m1, at_of (j := 0) rfl f2, _, rfl, 1, rfl, z0, _, -1, .int lo, rfl, rfl, SqT.of m0, la, rfl, _, rfl, ?_⟩
          have ap := apart_of hd0 hd1 le f1
          refine ite2 (fun z => ?_) (fun z => ?_)
          · have z : fo ≠ lo := by simpa using z
            refine ⟨_, rfl, by show 2 ≤ sizeLine; decide, fun p2 np2 => ?_⟩
            have ei : (1 : Int) + (i : Int) = ((i + 1 : Nat) : Int) := by omega
            rw [ei]
            obtain ⟨g1, g2, g3, g4⟩ := err_pair (K := K) (z := "apart") (i := i + 1) (by decide +kernel) (by omega) np2
            exact k _ _ _ _ (.apart hf qa (ap.mpr z) ql) (s2'.trans (same_new np2)) g1 g2 g3 g4
          · have z : fo = lo := by simpa using z
            refine ⟨⟨_, _, _, _, rfl⟩, s2', fun j hj hb => ?_⟩
            rcases Nat.lt_succ_iff_lt_or_eq.mp hj with y | y
            · exact ql j y hb
            · subst y
              exact ap.mp hb z
        · rintro σ H2 ⟨⟨s4, s5, s6, s7, rfl⟩, s2', ql⟩
          refine k .non .non [] H2 (.fine hf qa fun j hb => ?_) s2' (by simp [Rep]) (by simp only [small]) (by simp only [wt]; decide) (by simp only [dep]; decide)
          obtain ⟨h0, _, _, _, _, _, _, _, h2, _⟩ := id hb
          have hj : j < ds.length := (List.getElem?_eq_some_iff.mp h2).1
          exact ql j (by omega) hb
end
end Sw
namespace Sw
open PySem L2
section
variable {P : Program} {w : World} {K : PySem.W.Frag} {mg : Str → Option Value} {base : Heap}
/-- _law_draw of any number up to 10 ** 30 -/
def spDrawX : Sp := fun vs H Q _ => ∃ (p d : Addr) (m : Int), vs = [.ref p, .int m] ∧ Deck H p d 63 ∧ m ≤ BigT ∧ ∀ (r : Int) (H' : Hp), 0 ≤ r → (1 ≤ m → r < m) → (m < 2 → r = 0) → Deck H' p d 63 → Kp p d H H' → Q (.int r) H'
theorem ok_drawX {f : Addr} {fd : FuncData} (F : Fun K "_law_draw" "_law_draw" sDraw f fd) (B : NoNames mg) : FnOk P w K mg base CX0 1 f fd ["deck", "many"] spDrawX := by
  refine F.ok scDraw (fun vs H Q E h => ?_) (fun cdv A outer s H vs Q E hr h => ?_)
  · obtain ⟨p, d, m, rfl, _⟩ := h
    rfl
  · obtain ⟨p, d, m, rfl, D, hm, k⟩ := h
    have hu := hu_of hr
    refine ⟨_, pss_cons (ps_if (pt_cmpR op_lt (pv 1) pe_int (nomark _)) (pss_one (ps_ret pe_int)) pss_nil)
      (pss_cons (ps_if (pt_cmpR (op_neD hr.units) (pe_dget hu (pv 0) pe_str (fun _ _ => rfl)) (pe_lst pa_nil) (nomark _))
        (pss_cons (ps_set (i := 2) scDraw.nd rfl (.inl rfl) (pe_bm0 PySem.F.plainAttrs_list PySem.F.slot_list_pop PySem.F.type_list_pop mt_pop (pe_dget hu (pv 0) pe_str (fun _ _ => rfl))))
        (pss_cons (ps_if (pt_cmpR op_ge (pv 2) (pv 1) (nomark _)) (pss_one (ps_expr (pe_bm PySem.F.plainAttrs_list PySem.F.slot_list_append PySem.F.type_list_append mt_append (pe_dget hu (pv 0) pe_str (fun _ _ => rfl)) (pa_cons (pe_op op_fdivW (pv 2) (pv 1)) pa_nil)))) pss_nil)
        (pss_one (ps_ret (pe_op op_mod (pe_callTy call_int1 (by rfl) B.int (by decide +kernel) (pa_cons (pv 2) pa_nil)) (pv 1)))))) pss_nil)
      (pss_cons (ps_set (i := 3) scDraw.nd rfl (.inl rfl) (pe_op op_mod (pe_callTy call_int1 (by rfl) B.int (by decide +kernel) (pa_cons (pe_op op_add (pe_op op_mul (pe_dget hu (pv 0) pe_str (fun _ _ => rfl)) pe_int) pe_int) pa_nil)) pe_int))
      (pss_cons (ps_dput hu (pv 0) pe_str (pv 3) rfl)
      (pss_cons (ps_set (i := 4) scDraw.nd rfl (.inl rfl) (pe_op op_mod (pe_callTy call_int1 (by rfl) B.int (by decide +kernel) (pa_cons (pe_op op_add (pe_op op_add (pe_op op_mul (pv 3) (pv 3)) (pe_op op_mul pe_int (pv 3))) pe_int) pa_nil)) pe_int))
      (pss_one (ps_ret (pe_op op_mod (pe_callTy call_int1 (by rfl) B.int (by decide +kernel) (pa_cons (pe_op op_fdiv (pv 4) pe_int) pa_nil)) (pv 1)))))))), ?_⟩
    obtain ⟨ns, st, hp, hd, hl, hn, hs1, hs2⟩ := id D.ex
    refine ⟨_, rfl, _, _, rfl, rfl, _, rfl, ?_⟩
    refine ite2 (fun z => ?_) (fun z => ?_)
    · have z : m < 2 := of_decide_eq_true z
      exact k 0 H (by decide) (fun _ => by omega) (fun _ => rfl) D .refl
    have z : ¬ m < 2 := fun q => z (decide_eq_true q)
    refine ⟨_, rfl, p, _, rfl, dget_deep hp, by show 0 ≤ sizeLine; exact Nat.zero_le _, fun e ne => ?_⟩
    have se : Same H (upd H e (.lst [])) := same_new ne
    refine ⟨.list (ns.map PyData.int), .list [], .lst (SqL.of (se _ _ hd)) (dpInts ns), .lst (SqL.of upd_same) .nil, PySem.W.ke_shaped_ints ns, rfl, _, rfl, ?_⟩
    rw [eqv_nil]
    refine ite2 (fun y => ?_) (fun y => ?_)
    · obtain ⟨n, ms, rfl, hlast, hdrop⟩ := last_ints (of_decide_eq_true y)
      have hn0 : 0 ≤ n := hn n (by simp)
      refine ⟨_, rfl, p, _, rfl, dget_deep (se _ _ hp), .inl ⟨rfl, _, SqL.of (se _ _ hd)⟩, d, _, _, rfl, rfl, se _ _ hd, hlast, ?_⟩
      rw [hdrop]
      have hpd := D.ne
      have h1 : (upd (upd H e (.lst [])) d (.lst (ms.map V.int))) p = some (.dK (deckL d st)) := by
        rw [upd_ne hpd]
        exact se _ _ hp
      have h2 : (upd (upd H e (.lst [])) d (.lst (ms.map V.int))) d = some (.lst (ms.map V.int)) := upd_same
      have h3 : Kp p d H (upd (upd H e (.lst [])) d (.lst (ms.map V.int))) := fun b o e n1 n2 => by
        rw [upd_ne n2]
        exact se _ _ e
      have hl' : ms.length + 1 ≤ 63 := by simpa using hl
      have hn' : ∀ x ∈ ms, 0 ≤ x := fun x hx => hn x (by simp [hx])
      generalize (upd (upd H e (.lst [])) d (.lst (ms.map V.int))) = H1 at h1 h2 h3 ⊢
      have D1 : Deck H1 p d 63 := ⟨ms, st, h1, h2, by omega, hn', hs1, hs2⟩
      refine ⟨_, rfl, _, rfl, _, _, rfl, rfl, _, rfl, ?_⟩
      refine ite2 (fun x => ?_) (fun x => ?_)
      · have x : m ≤ n := of_decide_eq_true x
        refine ⟨_, rfl, p, _, rfl, dget_deep h1, .inl ⟨rfl, _, SqL.of h2⟩, _, rfl, _, rfl, _, _, rfl, rfl, wide_div (b := 110) (by omega) (by unfold BigT at hm; omega) (by decide) (by decide), d, _, _, rfl, rfl, h2, ?_, ?_⟩
        · rw [List.length_map, sizeLine_eq]
          omega
        refine ⟨_, rfl, .inl ⟨_, rfl, _, rfl, _, _, rfl, rfl, by show 0 < m; omega, ?_⟩⟩
        refine k _ _ (Int.emod_nonneg _ (by omega)) (fun _ => Int.emod_lt_of_pos _ (by omega)) (fun y => absurd y (by omega)) ⟨ms ++ [n / m], st, ?_, ?_, ?_, ?_, hs1, hs2⟩ (h3.trans fun b o e n1 n2 => ?_)
        · rw [upd_ne hpd]
          exact h1
        · rw [upd_same, List.map_append]
          rfl
        · simp
          omega
        · intro x hx
          rcases List.mem_append.mp hx with q | q
          · exact hn' x q
          · rw [List.mem_singleton.mp q]
            exact Int.ediv_nonneg hn0 (by omega)
        · rw [upd_ne n2]
          exact e
      · refine ⟨_, rfl, .inl ⟨_, rfl, _, rfl, _, _, rfl, rfl, by show 0 < m; omega, ?_⟩⟩
        exact k _ _ (Int.emod_nonneg _ (by omega)) (fun _ => Int.emod_lt_of_pos _ (by omega)) (fun y => absurd y (by omega)) D1 h3
    · have D1 := D.same se
      generalize (upd H e (.lst [])) = H1 at se D1
      obtain ⟨ns, st, hp, hd, hl, hn, hs1, hs2⟩ := id D1.ex
      refine ⟨_, rfl, p, _, rfl, dget_state hp, _, _, rfl, rfl, .inl ⟨by omega, by omega⟩, _, _, rfl, rfl, ?_⟩
      refine .inl ⟨_, rfl, _, _, rfl, rfl, (by show (0 : Int) < 2305843009213693951; decide), ?_⟩
      dsimp only
      have o1 : 0 ≤ (st * 1181783497276652981 + 88172645463325) % 2305843009213693951 := Int.emod_nonneg _ (by decide)
      have o2 : (st * 1181783497276652981 + 88172645463325) % 2305843009213693951 < 2305843009213693951 := Int.emod_lt_of_pos _ (by decide)
      generalize (st * 1181783497276652981 + 88172645463325) % 2305843009213693951 = one at o1 o2 ⊢
      refine ⟨_, rfl, _, rfl, p, _, rfl, dput_state one hp, ?_⟩
      refine ⟨_, rfl, _, rfl, _, _, rfl, rfl, .inl ⟨by omega, by omega⟩, _, rfl, _, _, rfl, rfl, .inl ⟨by decide, by decide⟩, _, _, rfl, rfl, _, _, rfl, rfl, ?_⟩
      refine .inl ⟨_, rfl, _, _, rfl, rfl, (by show (0 : Int) < 2305843009213693921; decide), ?_⟩
      dsimp only
      generalize (one * one + 374761393 * one + 11) % 2305843009213693921 = two
      refine ⟨_, rfl, _, _, rfl, rfl, ⟨by decide, by decide⟩, ?_⟩
      refine .inl ⟨_, rfl, _, rfl, _, _, rfl, rfl, by show 0 < m; omega, ?_⟩
      refine k _ _ (Int.emod_nonneg _ (by omega)) (fun _ => Int.emod_lt_of_pos _ (by omega)) (fun y => absurd y (by omega)) ⟨ns, one, upd_same, ?_, hl, hn, o1, by omega⟩ (fun b o e n1 n2 => ?_)
      · rw [upd_ne (D1.ne).symm]
        exact hd
      · rw [upd_ne n1]
        exact se _ _ e
end
end Sw
namespace Sw
open PySem L2
/-! ### _law_journey -/
theorem Chain.app {ars : List (Int × Int)} {os bs : List Int} {v : Int} (h : Chain ars os) (hl : os.getLast? = some v) (h2 : Chain ars (v :: bs)) : Chain ars (os ++ bs) := fun i x y e1 e2 => by
  by_cases q : i + 1 < os.length
  · rw [List.getElem?_append_left (by omega)] at e1
    rw [List.getElem?_append_left q] at e2
    exact h i x y e1 e2
  · have ne : os.length ≠ 0 := fun z => by
      have : os = [] := List.length_eq_zero_iff.mp z
      rw [this] at hl
      cases hl
    rw [List.getElem?_append_right (by omega)] at e2
    rw [List.getLast?_eq_getElem?] at hl
    by_cases q2 : i + 1 = os.length
    · rw [List.getElem?_append_left (by omega)] at e1
      rw [show os.length - 1 = i by omega, e1] at hl
      cases hl
      rw [q2, Nat.sub_self] at e2
      exact h2 0 _ y rfl (by simpa using e2)
    · rw [List.getElem?_append_right (by omega)] at e1
      refine h2 (i - os.length + 1) x y ?_ ?_
      · simpa using e1
      · rw [List.getElem?_cons_succ, show i - os.length + 1 = i + 1 - os.length by omega]
        exact e2
/-- a leg, as it lies -/
def LegAt (n : Int) (ars : List (Int × Int)) (H : Hp) (x : V) (l : List Int × Int) : Prop := ∃ q ru, x = .ref q ∧ H q = some (.tup [.ref ru, .int l.2]) ∧ H ru = some (.tup (l.1.map V.int)) ∧ RunOk n ars l.1 ∧ l.1.length ≤ 16 ∧ 1 ≤ l.2 ∧ l.2 ≤ BigT ∧ (l.2 = 1 ∨ l.1[0]? = l.1.getLast?)
def LegsAt (n : Int) (ars : List (Int × Int)) (H : Hp) (xs : List V) (ls : List (List Int × Int)) : Prop := Paired (LegAt n ars H) xs ls
theorem LegAt.keep {n : Int} {ars : List (Int × Int)} {H H' : Hp} {x : V} {l : List Int × Int} (h : LegAt n ars H x l) (s : TupS H H') : LegAt n ars H' x l := by
  obtain ⟨q, ru, e, h1, h2, r⟩ := h
  exact ⟨q, ru, e, s _ _ h1, s _ _ h2, r⟩
theorem LegsAt.keep {n : Int} {ars : List (Int × Int)} {H H' : Hp} {xs : List V} {ls : List (List Int × Int)} (h : LegsAt n ars H xs ls) (s : TupS H H') : LegsAt n ars H' xs ls := paired_mono (fun _ _ x => x.keep s) h
def Meets (ls : List (List Int × Int)) : Prop := ∀ i l l', ls[i]? = some l → ls[i + 1]? = some l' → l'.1[0]? = l.1.getLast?
def EndsAt (ls : List (List Int × Int)) (here : Int) : Prop := ∀ l, ls.getLast? = some l → l.1.getLast? = some here
theorem Meets.snoc {ls : List (List Int × Int)} {here : Int} {l : List Int × Int} (m : Meets ls) (e : EndsAt ls here) (h : l.1[0]? = some here) : Meets (ls ++ [l]) := fun i x y e1 e2 => by
  have hlen : i + 1 < (ls ++ [l]).length := (List.getElem?_eq_some_iff.mp e2).1
  rw [List.length_append, List.length_singleton] at hlen
  by_cases q : i + 1 < ls.length
  · rw [List.getElem?_append_left (by omega)] at e1
    rw [List.getElem?_append_left q] at e2
    exact m i x y e1 e2
  · have q2 : i + 1 = ls.length := by omega
    rw [List.getElem?_append_left (by omega)] at e1
    rw [q2, List.getElem?_append_right (Nat.le_refl _), Nat.sub_self] at e2
    cases e2
    have el : ls.getLast? = some x := by
      rw [List.getLast?_eq_getElem?, show ls.length - 1 = i by omega]
      exact e1
    rw [e x el]
    exact h
section
variable (p d a b : Addr) (n many : Int) (ts : List V) (ars : List (Int × Int)) (H0 : Hp)
/-- the states of a turn -/
structure JCore (i : Nat) (fo : Addr) (here : Int) (H : Hp) (xs : List V) (ls : List (List Int × Int)) : Prop where
  D : Deck H p d 63
  kp : Kp p d H0 H
  nf : H0 fo = none
  f : H fo = some (.lst xs)
  fd : fo ≠ d
  legs : LegsAt n ars H xs ls
  meets : Meets ls
  ends : EndsAt ls here
  here : Inn n here
  len : xs.length = i
def JN (i : Nat) (σ : L2.St) (H : Hp) : Prop := ∃ fo here xs ls s5 s6 s7 s8, σ = [some (.ref p), some (.ref a), some (.int many), some (.ref fo), some (.int here), s5, s6, s7, s8] ∧ JCore p d n ars H0 i fo here H xs ls
def JRun (m : Nat) (i : Nat) (σ : L2.St) (H : Hp) : Prop := ∃ fo here xs ls s5 ru os s7 s8, σ = [some (.ref p), some (.ref a), some (.int many), some (.ref fo), some (.int here), s5, some (.ref ru), s7, s8] ∧ JCore p d n ars H0 i fo here H xs ls ∧ H ru = some (.tup (os.map V.int)) ∧ RunOk n ars os ∧ os.length ≤ m ∧ os[0]? = some here
def JTim (q : Bool) (i : Nat) (σ : L2.St) (H : Hp) : Prop := ∃ fo here xs ls s5 ru os s7 t, σ = [some (.ref p), some (.ref a), some (.int many), some (.ref fo), some (.int here), s5, some (.ref ru), s7, some (.int t)] ∧ JCore p d n ars H0 i fo here H xs ls ∧ H ru = some (.tup (os.map V.int)) ∧ RunOk n ars os ∧ os.length ≤ 16 ∧ os[0]? = some here ∧ 1 ≤ t ∧ t ≤ BigT ∧ (q = true → t = 1 ∨ os[0]? = os.getLast?)
end
theorem JCore.keep {p d : Addr} {n : Int} {ars : List (Int × Int)} {H0 : Hp} {i : Nat} {fo : Addr} {here : Int} {H H' : Hp} {xs : List V} {ls : List (List Int × Int)} (J : JCore p d n ars H0 i fo here H xs ls) (D' : Deck H' p d 63) (k : Kp p d H H') : JCore p d n ars H0 i fo here H' xs ls :=
  ⟨D', J.kp.trans k, J.nf, k _ _ J.f (J.D.kne J.f) J.fd, J.fd, J.legs.keep (.kp J.D k), J.meets, J.ends, J.here, J.len⟩
theorem JCore.same {p d : Addr} {n : Int} {ars : List (Int × Int)} {H0 : Hp} {i : Nat} {fo : Addr} {here : Int} {H H' : Hp} {xs : List V} {ls : List (List Int × Int)} (J : JCore p d n ars H0 i fo here H xs ls) (s : Same H H') : JCore p d n ars H0 i fo here H' xs ls := J.keep (J.D.same s) (.of s)
abbrev sLJourney : Stmt := top 53
abbrev nLJourney : List Str := ["deck", "net", "many", "found", "here", "turn", "run", "back", "times"]
theorem scLJourney : FnScope nLJourney ["deck", "net", "many"] (defScope sLJourney) := ⟨rfl, rfl, rfl, by decide +kernel, rfl, by decide +kernel, by decide +kernel⟩
section
variable {P : Program} {w : World} {K : PySem.W.Frag} {mg : Str → Option Value} {base : Heap}
def spLJourney : Sp := fun vs H Q _ => ∃ (p d a b : Addr) (n many : Int) (ts : List V) (ars : List (Int × Int)), vs = [.ref p, .ref a, .int many] ∧ Deck H p d 63 ∧ NetAt n H a b ts ∧ ArsAt H ts ars ∧ (0 ≤ many ∧ many ≤ 1000) ∧
  ∀ (r : Addr) (xs : List V) (ls : List (List Int × Int)) (H' : Hp), Deck H' p d 63 → Kp p d H H' → H' r = some (.tup xs) → LegsAt n ars H' xs ls → Meets ls → (xs.length : Int) = many → Q (.ref r) H'
theorem ok_lJourney {f : Addr} {fd : FuncData} (F : Fun K "_law_journey" "_law_journey" sLJourney f fd) (B : NoNames mg) (OD : Own P w K mg base 1 "_law_draw" ["deck", "many"] spDrawX) (OP : Own P w K mg base 2 "_law_pick" ["deck", "items"] spPick)
    (OW : Own P w K mg base 3 "_law_walk" ["deck", "net", "first", "many"] spWalk) (OB : Own P w K mg base 2 "_law_back" ["net", "first", "last"] spBack) : FnOk P w K mg base CX0 4 f fd ["deck", "net", "many"] spLJourney := by
  obtain ⟨fD, fdD, GD, mD, kD, bD⟩ := OD.ex
  obtain ⟨fP, fdP, GP, mP, kP, bP⟩ := OP.ex
  obtain ⟨fW, fdW, GW, mW, kW, bW⟩ := OW.ex
  obtain ⟨fB, fdB, GB, mB, kB, bB⟩ := OB.ex
  refine F.ok scLJourney (fun vs H Q E h => ?_) (fun cdv A outer s H vs Q E hr h => ?_)
  · obtain ⟨p, d, a, b, n, many, ts, ars, rfl, _⟩ := h
    rfl
  · obtain ⟨p, d, a, b, n, many, ts, ars, rfl, D0, N, AR, hm, k⟩ := h
    have hr1 : Room 1 _ := hr.mono (by decide)
    have hr2 : Room 2 _ := hr.mono (by decide)
    have b4 : (4 : Int) ≤ BigT := by decide
    have n1 := N.n1
    have n2 := N.n2
    have p30 : ((10 : Int) ^ ((30 : Int)).toNat) = BigT := rfl
    have b12 : (12 : Int) ≤ BigT := by decide
    refine ⟨_, pss_cons (ps_par (i := 3) (j := 4) rfl scLJourney.nd rfl rfl (by decide) rfl rfl (pa_cons (pe_lst pa_nil) (pa_cons (pe_call GD hr1 rfl mD kD bD .nil pass0 (pa_cons (pv 0) (pa_cons (pe_ix ix_tup (pv 1) pe_int (fun _ _ => rfl)) pa_nil))) pa_nil)) (by rfl)) <|
      pss_cons (ps_for PassesOwn.never rfl (pi_range1 (by rfl) B.range (pa_cons (pv 2) pa_nil)) (pg_name (i := 5) scLJourney.nd rfl (.inl rfl))
        (pss_cons (ps_cutI (JN p d a n many ars H) (JRun p d a n many ars H 4) (ps_set (i := 6) scLJourney.nd rfl (.inl rfl) (pe_call GW hr rfl mW kW bW .nil pass0 (pa_cons (pv 0) (pa_cons (pv 1) (pa_cons (pv 4) (pa_cons (pe_call GD hr1 rfl mD kD bD .nil pass0 (pa_cons (pv 0) (pa_cons pe_int pa_nil))) pa_nil)))))) ?c0) <|
        pss_cons (ps_cutI (JRun p d a n many ars H 4) (JRun p d a n many ars H 16) (ps_if (pt_cmpR op_gt (pe_call GD hr1 rfl mD kD bD .nil pass0 (pa_cons (pv 0) (pa_cons pe_int pa_nil))) pe_int (nomark _))
          (pss_cons (ps_set (i := 7) scLJourney.nd rfl (.inl rfl) (pe_call GB hr2 rfl mB kB bB .nil pass0 (pa_cons (pv 1) (pa_cons (pe_ix ix_tup (pv 6) (pe_un un_neg pe_int) (fun _ _ => rfl)) (pa_cons (pe_ix ix_tup (pv 6) pe_int (fun _ _ => rfl)) pa_nil))))) <|
          pss_one (ps_set (i := 6) scLJourney.nd rfl (.inl rfl) (pe_ifExp (pt_cmpR op_notN (pv 7) pe_non (nomark _)) (pe_op (r := rCatA K) op_catA (pv 6) (pv 7)) (pe_slice sl_tupA (pv 6) po_none (po_some pe_int))))) pss_nil) ?c1) <|
        pss_cons (ps_cutI (JRun p d a n many ars H 16) (JTim p d a n many ars H false) (ps_set (i := 8) scLJourney.nd rfl (.inl rfl) (pe_call GP hr2 rfl mP kP bP .nil pass0 (pa_cons (pv 0) (pa_cons (pe_lst (pa_cons pe_int (pa_cons pe_int (pa_cons pe_int (pa_cons (pe_op op_pow pe_int pe_int)
          (pa_cons (pe_op op_add (pe_call GD hr1 rfl mD kD bD .nil pass0 (pa_cons (pv 0) (pa_cons (pe_op op_pow pe_int pe_int) pa_nil))) pe_int) (pa_cons (pe_op op_sub (pe_op op_pow pe_int pe_int) pe_int) pa_nil))))))) pa_nil)))) ?c2) <|
        pss_cons (ps_cutI (JTim p d a n many ars H false) (JTim p d a n many ars H true) (ps_set (i := 8) scLJourney.nd rfl (.inl rfl) (pe_ifExp (pt_cmpR op_eq (pe_ix ix_tup (pv 6) pe_int (fun _ _ => rfl)) (pe_ix ix_tup (pv 6) (pe_un un_neg pe_int) (fun _ _ => rfl)) (nomark _)) (pv 8) pe_int)) ?c3) <|
        pss_cons (ps_expr (pe_bm PySem.F.plainAttrs_list PySem.F.slot_list_append PySem.F.type_list_append mt_append (pv 3) (pa_cons (pe_tup (pa_cons (pv 6) (pa_cons (pv 8) pa_nil))) pa_nil))) <|
        pss_one (ps_set (i := 4) scLJourney.nd rfl (.inl rfl) (pe_ix ix_tup (pv 6) (pe_un un_neg pe_int) (fun _ _ => rfl))))) <|
      pss_one (ps_ret (pe_callTy call_tuple_of (by rfl) B.tuple (by decide +kernel) (pa_cons (pv 3) pa_nil))), ?_⟩
    case c0 =>
      rintro i D σ H1 ⟨fo, here, xs, ls, s5, s6, s7, s8, rfl, J⟩ nx
      refine ⟨_, rfl, _, rfl, _, rfl, _, rfl, p, d, 4, rfl, J.D, b4, fun r H2 r0 r1 r2 D2 k2 => ?_⟩
      have J2 := J.keep D2 k2
      have t2 := TupS.kp D0 J2.kp
      have r1 := r1 (by decide)
      refine ⟨p, d, a, b, n, here, r, ts, ars, rfl, D2, N.keep t2, AR.keep t2, J.here, ⟨r0, by omega⟩, fun ru os H3 D3 k3 nru hru ne len each h0 ch _ => nx _ _ ?_⟩
      exact ⟨fo, here, xs, ls, _, ru, os, _, _, rfl, J2.keep D3 k3, hru, ⟨List.length_pos_iff.mpr ne, by omega, each, ch⟩, by omega, h0⟩
    case c1 =>
      rintro i D σ H1 ⟨fo, here, xs, ls, s5, ru, os, s7, s8, rfl, J, hru, RO, len, h0⟩ nx
      refine ⟨_, rfl, p, d, 3, rfl, J.D, by decide, fun r H2 r0 r1 r2 D2 k2 => ⟨_, _, rfl, rfl, _, rfl, ?_⟩⟩
      have J2 := J.keep D2 k2
      have hru2 := TupS.kp J.D k2 _ _ hru
      have t2 := TupS.kp D0 J2.kp
      obtain ⟨lo, lm, la, le⟩ := last_of RO.nil
      have h0' : (os.map V.int)[0]? = some (.int here) := by
        rw [List.getElem?_map, h0]
        rfl
      refine ite2 (fun _ => ?_) (fun _ => nx _ _ ⟨fo, here, xs, ls, _, ru, os, _, _, rfl, J2, hru2, RO, by omega, h0⟩)
      refine ⟨_, rfl, _, rfl, 1, rfl, ru, _, -1, .int lo, rfl, rfl, SqT.of hru2, la, _, rfl, ru, _, 0, .int here, rfl, rfl, SqT.of hru2, at_of (j := 0) rfl h0', a, b, n, lo, here, ts, ars, rfl, N.keep t2, AR.keep t2, RO.each lo lm, fun H3 s3 => ?_, fun r bs H3 s3 hr3 ch lst lb each => ?_⟩
      · have J3 := J2.same s3
        have hru3 := s3 _ _ hru2
        refine ⟨_, rfl, rfl, _, rfl, ?_⟩
        refine iteF ⟨_, rfl, 1, rfl, ru, _, rfl, SqT.of hru3, fun wh => ?_, fun nwh q nq => ?_⟩
        · have wh2 := wh.2
          rw [show (some (1 : Int)) = some ((1 : Nat) : Int) from rfl, HT.sIx_nat, List.length_map] at wh2
          refine nx _ _ ⟨fo, here, xs, ls, _, ru, os, _, _, rfl, J3, hru3, RO, by omega, h0⟩
        · have sq : Same H3 (upd H3 q (.tup (cutV (os.map V.int) none (some 1)))) := same_new nq
          have ec : cutV (os.map V.int) none (some 1) = [here].map V.int := by
            unfold cutV
            rw [show (some (1 : Int)) = some ((1 : Nat) : Int) from rfl, HT.sIx_nat, HT.sIx_none, List.drop_zero, Nat.sub_zero]
            cases os with
            | nil => cases h0
            | cons o r =>
              have e := Option.some.inj h0
              subst e
              rw [List.map_cons, List.length_cons, show min 1 ((r.map V.int).length + 1) = 1 by omega]
              rfl
          refine nx _ _ ⟨fo, here, xs, ls, _, q, [here], _, _, rfl, J3.same sq, by rw [upd_same, ec], ⟨Nat.le_refl 1, by show 1 ≤ 1000; decide, fun o ho => by rw [List.mem_singleton.mp ho]; exact J.here, Chain.one⟩, by show 1 ≤ 16; decide, rfl⟩
      · have J3 := J2.same s3
        have hru3 := s3 _ _ hru2
        refine ⟨_, rfl, rfl, _, rfl, ?_⟩
        have lb2 : (os ++ bs).length ≤ 16 := by
          rw [List.length_append]
          omega
        have RO2 : RunOk n ars (os ++ bs) := ⟨by rw [List.length_append]; have := RO.ne; omega, by omega, fun o ho => (List.mem_append.mp ho).elim (RO.each o) (each o), RO.ch.app le ch⟩
        have h02 : (os ++ bs)[0]? = some here := by
          rw [List.getElem?_append_left (by have := RO.ne; omega)]
          exact h0
        refine iteT ⟨_, rfl, _, rfl, ru, r, os.map V.int, bs.map V.int, rfl, rfl, SqT.of hru3, SqT.of hr3, by rw [List.length_map, List.length_map, sizeLine_eq]; omega, fun z => ?_, fun _ z => ?_, fun _ _ q nq => ?_⟩
        · have := RO.nil
          exact absurd (by simpa using z) this
        · have eb : bs = [] := by simpa using z
          exact nx _ _ ⟨fo, here, xs, ls, _, ru, os, _, _, rfl, J3, hru3, RO, by omega, h0⟩
        · refine nx _ _ ⟨fo, here, xs, ls, _, q, os ++ bs, _, _, rfl, J3.same (same_new nq), by rw [upd_same, List.map_append], RO2, lb2, h02⟩
    case c2 =>
      rintro i D σ H1 ⟨fo, here, xs, ls, s5, ru, os, s7, s8, rfl, J, hru, RO, len, h0⟩ nx
      refine ⟨_, rfl, 10, 30, rfl, rfl, ⟨by decide, by decide, by decide⟩, _, rfl, 10, 30, rfl, rfl, ⟨by decide, by decide, by decide⟩, p, d, BigT, rfl, J.D, Int.le_refl _, fun r H2 r0 r1 r2 D2 k2 => ?_⟩
      have r1 := r1 (by decide)
      have J2 := J.keep D2 k2
      have hru2 := TupS.kp J.D k2 _ _ hru
      refine ⟨_, _, rfl, rfl, 10, 30, rfl, rfl, ⟨by decide, by decide, by decide⟩, _, _, rfl, rfl, by show 6 ≤ sizeLine; decide, fun L nL => ?_⟩
      have sL : Same H2 (upd H2 L (.lst [.int 1, .int 2, .int 5, .int BigT, .int (r + 1), .int (BigT - 1)])) := same_new nL
      refine ⟨p, d, L, _, rfl, D2.same sL, upd_same, (D2.ne_none nL).2, fun z => (nomatch z), by show 6 < 1000000; decide, fun x H3 hx D3 k3 => nx _ _ ?_⟩
      have J3 := (J2.same sL).keep D3 k3
      have hru3 := TupS.kp (D2.same sL) k3 _ _ (sL _ _ hru2)
      obtain ⟨t, rfl, q1, q2⟩ : ∃ t : Int, x = .int t ∧ 1 ≤ t ∧ t ≤ BigT := by
        simp only [List.mem_cons, List.not_mem_nil, or_false] at hx
        rcases hx with rfl | rfl | rfl | rfl | rfl | rfl
        · exact ⟨_, rfl, by decide, by decide⟩
        · exact ⟨_, rfl, by decide, by decide⟩
        · exact ⟨_, rfl, by decide, by decide⟩
        · exact ⟨BigT, rfl, by decide, Int.le_refl _⟩
        · exact ⟨_, rfl, by omega, by omega⟩
        · exact ⟨BigT - 1, rfl, by decide, by decide⟩
      exact ⟨fo, here, xs, ls, _, ru, os, _, t, rfl, J3, hru3, RO, len, h0, q1, q2, fun z => (nomatch z)⟩
    case c3 =>
      rintro i D σ H1 ⟨fo, here, xs, ls, s5, ru, os, s7, t, rfl, J, hru, RO, len, h0, q1, q2, _⟩ nx
      obtain ⟨lo, lm, la, le⟩ := last_of RO.nil
      have h0' : (os.map V.int)[0]? = some (.int here) := by
        rw [List.getElem?_map, h0]
        rfl
      refine ⟨_, rfl, ru, _, 0, .int here, rfl, rfl, SqT.of hru, at_of (j := 0) rfl h0', _, rfl, 1, rfl, ru, _, -1, .int lo, rfl, rfl, SqT.of hru, la, rfl, _, rfl, ?_⟩
      refine ite2 (fun z => ?_) (fun z => ?_)
      · have z : here = lo := by simpa using z
        exact ⟨_, rfl, nx _ _ ⟨fo, here, xs, ls, _, ru, os, _, t, rfl, J, hru, RO, len, h0, q1, q2, fun _ => .inr (by rw [h0, le, z])⟩⟩
      · exact nx _ _ ⟨fo, here, xs, ls, _, ru, os, _, 1, rfl, J, hru, RO, len, h0, by decide, by decide, fun _ => .inl rfl⟩
    refine ⟨Nat.zero_le _, fun fo nfo => ?_⟩
    have sf : Same H (upd H fo (.lst [])) := same_new nfo
    have D1 := D0.same sf
    refine ⟨_, rfl, _, rfl, a, _, 0, .int n, rfl, rfl, SqT.of (sf _ _ N.a), at_of (j := 0) rfl rfl, p, d, n, rfl, D1, by omega, fun r H1 r0 r1 r2 D2 k2 => ⟨_, _, rfl, ?_⟩⟩
    have r1 := r1 (by omega)
    have ofo := D0.ne_none nfo
    have hf1 := k2 _ _ upd_same ofo.1 ofo.2
    refine ⟨_, rfl, many, rfl, by omega, by omega, for_range (lo := 0) (n := many.toNat) (fun i σ H' => JN p d a n many ars H i σ H')
      ⟨fo, r, [], [], none, none, none, none, rfl, ⟨D2, (Kp.of sf).trans k2, nfo, hf1, ofo.2, .nil, fun _ _ _ z => (nomatch z), fun _ z => (nomatch z), ⟨r0, r1⟩, rfl⟩⟩ ?_ ?_⟩
    · rintro i σ H2 hi ⟨fo, here, xs, ls, s5, s6, s7, s8, rfl, J⟩
      refine ⟨i, ⟨fo, here, xs, ls, _, _, _, _, rfl, J⟩, fun σ1 H3 h1 => ⟨i, h1, fun σ2 H4 h2 => ⟨i, h2, fun σ3 H5 h3 => ⟨i, h3, fun σ4 H6 h4 => ?_⟩⟩⟩⟩
      obtain ⟨fo, here, xs, ls, s5, ru, os, s7, t, rfl, J, hru, RO, len, h0, q1, q2, q3⟩ := h4
      obtain ⟨lo, lm, la, le⟩ := last_of RO.nil
      refine ⟨_, rfl, .inl ⟨rfl, _, SqL.of J.f⟩, _, rfl, _, rfl, by show 2 ≤ sizeLine; decide, fun T nT => ?_⟩
      have sT : Same H6 (upd H6 T (.tup [.ref ru, .int t])) := same_new nT
      have JT := J.same sT
      have hruT := sT _ _ hru
      have hT : (upd H6 T (.tup [.ref ru, .int t])) T = some (.tup [.ref ru, .int t]) := upd_same
      generalize (upd H6 T (.tup [.ref ru, .int t])) = H7 at JT hruT hT ⊢
      refine ⟨fo, xs, _, rfl, rfl, JT.f, by rw [JT.len, sizeLine_eq]; omega, ?_⟩
      have tu : TupS H7 (upd H7 fo (.lst (xs ++ [.ref T]))) := TupS.upd fun zs z => by
        rw [JT.f] at z
        cases z
      have hru8 := tu _ _ hruT
      refine ⟨_, rfl, 1, rfl, ru, _, -1, .int lo, rfl, rfl, SqT.of hru8, la, ?_⟩
      refine ⟨fo, lo, xs ++ [.ref T], ls ++ [(os, t)], _, _, _, _, rfl, ⟨JT.D.upd (JT.D.kne JT.f) JT.fd, fun c o e z1 z2 => ?_, JT.nf, upd_same, JT.fd, (JT.legs.keep tu).snoc (b := (os, t)) ⟨T, ru, rfl, tu _ _ hT, hru8, RO, len, q1, q2, q3 rfl⟩, JT.meets.snoc JT.ends h0, fun l hl => ?_, RO.each lo lm, by rw [List.length_append, JT.len]; rfl⟩⟩
      · rw [upd_ne (ne_of_none e JT.nf)]
        exact JT.kp _ _ e z1 z2
      · rw [List.getLast?_append] at hl
        have hl : some (os, t) = some l := hl
        cases hl
        exact le
    · rintro σ H2 ⟨fo, here, xs, ls, s5, s6, s7, s8, rfl, J⟩
      refine ⟨_, rfl, fo, _, rfl, .inl ⟨SqL.of J.f, fun l nl => ?_⟩⟩
      have sl : Same H2 (upd H2 l (.tup xs)) := same_new nl
      exact k l xs ls _ (J.D.same sl) (J.kp.trans (.of sl)) upd_same (J.legs.keep (.of sl)) J.meets (by rw [J.len]; omega)
end
end Sw
namespace Sw
open PySem PySem.Spec PyProof.Rows L2
/-! ### drawn journeys are such -/
theorem bigT : BigT = 10 ^ 30 := rfl
theorem LegAt.isIn {m : Nat} {ars : List (Int × Int)} {H : Hp} {x : V} {l : List Int × Int} (h : LegAt (m : Int) ars H x l) : LegIn m H x l := by
  obtain ⟨q, ru, rfl, hq, hr, R, h1, h2, h3, _⟩ := h
  have ne : l.1 ≠ [] := fun z => by
    have := R.ne
    rw [z] at this
    exact absurd this (by simp)
  refine ⟨q, ru, l.1.getLast ne, rfl, hq, ⟨hr, List.getLast?_eq_some_getLast ne, fun o ho => ?_⟩, h2, by omega, h3⟩
  obtain ⟨a, b⟩ := R.each o ho
  exact ⟨a, b⟩
theorem LegsAt.isIn {m : Nat} {ars : List (Int × Int)} {H : Hp} {xs : List V} {ls : List (List Int × Int)} (h : LegsAt (m : Int) ars H xs ls) : LegsIn m H xs ls := paired_mono (fun _ _ x => x.isIn) h
theorem LegsAt.leg {n : Int} {ars : List (Int × Int)} {H : Hp} : ∀ {xs : List V} {ls : List (List Int × Int)}, LegsAt n ars H xs ls → ∀ l ∈ ls, LegIs n ars (lgD l) l.1 l.2 ∧ l.1.length ≤ 16
  | _, _, .nil => fun _ h => absurd h (by simp)
  | _, _, .cons h t => fun l hl => by
    rcases List.mem_cons.mp hl with z | z
    · rw [z]
      obtain ⟨q, ru, rfl, hq, hr, R, h1, h2, h3, h4⟩ := h
      exact ⟨⟨rfl, R, h2, h3, h4⟩, h1⟩
    · exact LegsAt.leg t l z
theorem wJ_le : ∀ {ls : List (List Int × Int)}, (∀ l ∈ ls, l.1.length ≤ 16) → wJ ls ≤ ls.length * 158
  | [], _ => Nat.le_refl _
  | l :: r, h => by
    have h1 := wJ_le (ls := r) fun x hx => h x (List.mem_cons_of_mem _ hx)
    have h2 := h l List.mem_cons_self
    show l.1.length * 6 + 62 + wJ r ≤ _
    rw [List.length_cons]
    omega
theorem journey_fine {n : Int} {ars : List (Int × Int)} {H : Hp} {xs : List V} {ls : List (List Int × Int)} (h : LegsAt n ars H xs ls) (M : Meets ls) (hl : ls.length ≤ 500) : IsErrJ n ars (jD ls) .non := by
  have at' : ∀ {j : Nat} {y : D}, (ls.map lgD)[j]? = some y → ∃ l, ls[j]? = some l ∧ y = lgD l := fun {j y} e => by
    rw [List.getElem?_map] at e
    cases z : ls[j]? with
    | none => rw [z] at e; cases e
    | some l => rw [z] at e; exact ⟨l, rfl, (Option.some.inj e).symm⟩
  refine .fine (ds := ls.map lgD) ?_ (fun j y e => ?_) (fun j hj => ?_)
  · unfold jD
    rw [legs_len, List.length_map, if_pos hl]
  · obtain ⟨l, el, rfl⟩ := at' e
    exact ⟨l.1, l.2, (h.leg l (List.mem_of_getElem? el)).1⟩
  · obtain ⟨h0, os, os', t, t', v, w, e1, e2, g1, g2, ne⟩ := hj
    obtain ⟨l, el, q1⟩ := at' e1
    obtain ⟨l', el', q2⟩ := at' e2
    have o1 : os = l.1 := leg_inj q1
    have o2 : os' = l'.1 := leg_inj q2
    have := M (j - 1) l l' el (by rw [show j - 1 + 1 = j by omega]; exact el')
    rw [← o1, ← o2, g1, g2] at this
    exact ne (Option.some.inj this).symm
/-! ### few times, one by one -/
def fewOf (l : List Int × Int) : List Int × Int := (l.1, if l.1[0]? = l.1.getLast? then 1 + l.2 % 4 else 1)
theorem fewOf_good {m : Nat} {l : List Int × Int} (h : LegG m l) : LegG m (fewOf l) ∧ 1 ≤ (fewOf l).2 ∧ (fewOf l).2 ≤ 4 := by
  have h1 := Int.emod_nonneg l.2 (show (4 : Int) ≠ 0 by decide)
  have h2 := Int.emod_lt_of_pos l.2 (show (0 : Int) < 4 by decide)
  have e : 1 ≤ (fewOf l).2 ∧ (fewOf l).2 ≤ 4 := by
    unfold fewOf
    dsimp only
    split <;> omega
  refine ⟨⟨h.st, h.ne, e.1, ?_, h.len⟩, e⟩
  have : (10 : Int) ^ 30 = 1000000000000000000000000000000 := by decide +kernel
  omega
theorem cut_takeJ (xs : List V) (k : Nat) : cutV xs none (some (k : Int)) = xs.take k := by
  unfold cutV
  rw [HT.sIx_none, HT.sIx_nat, List.drop_zero, Nat.sub_zero]
  by_cases h : k ≤ xs.length
  · rw [Nat.min_eq_left h]
  · rw [Nat.min_eq_right (by omega), List.take_length, List.take_of_length_le (by omega)]
theorem cut_dropJ (xs : List V) (k : Nat) (h : k ≤ xs.length) : cutV xs (some (k : Int)) none = xs.drop k := by
  unfold cutV
  rw [HT.sIx_nat, Nat.min_eq_left h]
  refine List.take_of_length_le ?_
  rw [List.length_drop]
  exact Nat.le_refl _
theorem LegsIn.take {m : Nat} {H : Hp} : ∀ {k : Nat} {xs : List V} {ls : List (List Int × Int)}, LegsIn m H xs ls → LegsIn m H (xs.take k) (ls.take k)
  | 0, _, _, _ => by rw [List.take_zero, List.take_zero]; exact .nil
  | _ + 1, _, _, .nil => .nil
  | _ + 1, _, _, .cons h t => by rw [List.take_succ_cons, List.take_succ_cons]; exact .cons h (LegsIn.take t)
theorem LegsIn.drop {m : Nat} {H : Hp} : ∀ {k : Nat} {xs : List V} {ls : List (List Int × Int)}, LegsIn m H xs ls → LegsIn m H (xs.drop k) (ls.drop k)
  | 0, _, _, h => h
  | _ + 1, _, _, .nil => .nil
  | _ + 1, _, _, .cons h t => by rw [List.drop_succ_cons, List.drop_succ_cons]; exact LegsIn.drop t
end Sw
namespace Sw
open PySem PySem.Spec PyProof.Rows L2 SX
/-! ### what is right is found right -/
def netDn (n : Int) (ars : List (Int × Int)) : D := .tup [.int n, .tup (ars.map arrD)]
theorem leL_gt {a b c d : Int} (h : lt2 (c, d) (a, b)) : leL [a, b] [c, d] = false := by
  unfold lt2 at h
  unfold leL
  simp [Ob.lexAt]
  by_cases e : a = c
  · subst e
    have h2 : d < b := by
      rcases h with h | h
      · exact absurd h (Int.lt_irrefl _)
      · exact h.2
    have e2 : ¬ b = d := by omega
    simp [e2]
    omega
  · simp [e]
    rcases h with h | h
    · exact h
    · exact absurd h.1.symm e
theorem arr_fine {n : Int} {e : Int × Int} (h1 : Inn n e.1) (h2 : Inn n e.2) (ne : e.1 ≠ e.2) : isArrow n (arrD e) = true := by
  refine arrow_two.mpr ⟨e.1, e.2, rfl, rfl, ?_, ?_, ne⟩
  · simp only [isStop, isWhole, Bool.and_eq_true, decide_eq_true_eq]
    have := h1.1
    have := h1.2
    omega
  · simp only [isStop, isWhole, Bool.and_eq_true, decide_eq_true_eq]
    have := h2.1
    have := h2.2
    omega
theorem net_fine {n : Int} {ars : List (Int × Int)} (n1 : 1 ≤ n) (n2 : n ≤ 12) (inn : ∀ e ∈ ars, Inn n e.1 ∧ Inn n e.2) (nol : ∀ e ∈ ars, e.1 ≠ e.2) (asc : ars.Pairwise lt2) : IsErr (netDn n ars) .non := by
  have at' : ∀ {j : Nat} {y : D}, (ars.map arrD)[j]? = some y → ∃ e, ars[j]? = some e ∧ y = arrD e := fun {j y} e => by
    rw [List.getElem?_map] at e
    cases z : ars[j]? with
    | none => rw [z] at e; cases e
    | some l => rw [z] at e; exact ⟨l, rfl, (Option.some.inj e).symm⟩
  refine .fine (n := n) (as := ars.map arrD) ?_ (fun j y e => ?_) (fun j hj => ?_)
  · show (if 1 ≤ n ∧ n ≤ 12 then some (n, ars.map arrD) else none) = _
    rw [if_pos ⟨n1, n2⟩]
  · obtain ⟨a, ea, rfl⟩ := at' e
    have ma := List.mem_of_getElem? ea
    exact arr_fine (inn a ma).1 (inn a ma).2 (nol a ma)
  · obtain ⟨x, y, h0, e1, e2, h3⟩ := hj
    obtain ⟨a, ea, rfl⟩ := at' e1
    obtain ⟨b, eb, rfl⟩ := at' e2
    obtain ⟨i1, g1⟩ := List.getElem?_eq_some_iff.mp ea
    obtain ⟨i2, g2⟩ := List.getElem?_eq_some_iff.mp eb
    have := (List.pairwise_iff_getElem.mp asc) (j - 1) j i2 i1 (by omega)
    rw [g1, g2] at this
    have q := leL_gt (a := a.1) (b := a.2) (c := b.1) (d := b.2) this
    have h3 : leL [a.1, a.2] [b.1, b.2] = true := h3
    rw [q] at h3
    cases h3
theorem figs_marks : ∀ i, i < 13 → 32 ∉ figs i ∧ 62 ∉ figs i ∧ 58 ∉ figs i := by decide +kernel
theorem figsI_marks {v : Int} (h : 0 ≤ v) (h2 : v < 13) : 32 ∉ figsI v ∧ 62 ∉ figsI v ∧ numD (numL (figsI v)) = .int v := by
  obtain ⟨k, rfl⟩ := Int.eq_ofNat_of_zero_le h
  obtain ⟨a, b, _⟩ := figs_marks k (by omega)
  refine ⟨a, b, ?_⟩
  show numD (numL (figs k)) = _
  rw [numL_figs (by omega)]
  rfl
/-- the text of a net is read as the net -/
theorem net_reads {n : Int} {ars : List (Int × Int)} (n1 : 1 ≤ n) (n2 : n ≤ 12) (inn : ∀ e ∈ ars, Inn n e.1 ∧ Inn n e.2) (nol : ∀ e ∈ ars, e.1 ≠ e.2) (asc : ars.Pairwise lt2) : Good (textL n ars) (netDn n ars) := by
  refine ⟨?_, net_fine n1 n2 inn nol asc⟩
  obtain ⟨m1, m2, m3⟩ := figsI_marks (v := n) (by omega) (by omega)
  have ej : textL n ars = TL.joinL [32] ((figsI n ++ [58]) :: ars.map fun e => figsI e.1 ++ [62] ++ figsI e.2) := by
    rw [join_cons, List.map_map]
    unfold textL
    congr 2
  have es := spl_join (c := 32) (sep := []) (parts := (figsI n ++ [58]) :: ars.map fun e => figsI e.1 ++ [62] ++ figsI e.2) (by simp) fun p hp => by
    rcases List.mem_cons.mp hp with z | z
    · rw [z, List.mem_append, not_or]
      exact ⟨m1, by decide⟩
    · obtain ⟨e, he, rfl⟩ := List.mem_map.mp z
      obtain ⟨⟨a1, a2⟩, b1, b2⟩ := inn e he
      have ha := figsI_marks (v := e.1) a1 (by omega)
      have hb := figsI_marks (v := e.2) b1 (by omega)
      rw [List.mem_append, List.mem_append, not_or, not_or]
      exact ⟨⟨ha.1, by decide⟩, hb.1⟩
  unfold netData
  rw [ej, es]
  dsimp only
  rw [List.getLast?_concat, if_pos rfl, List.dropLast_concat, m3, List.map_map]
  unfold netDn
  congr 4
  refine congrArg D.tup (List.map_congr_left fun e he => ?_)
  obtain ⟨⟨a1, a2⟩, b1, b2⟩ := inn e he
  obtain ⟨_, ha2, ha3⟩ := figsI_marks (v := e.1) a1 (by omega)
  obtain ⟨_, hb2, hb3⟩ := figsI_marks (v := e.2) b1 (by omega)
  show wordD (figsI e.1 ++ [62] ++ figsI e.2) = arrD e
  have ee : endsL (figsI e.1 ++ [62] ++ figsI e.2) = (numL (figsI e.1), numL (figsI e.2)) := by
    unfold endsL
    have := par_head (c := 62) (sep := []) (p := figsI e.1) (figsI e.2) ha2
    rw [show figsI e.1 ++ [62] ++ figsI e.2 = figsI e.1 ++ ([62] ++ figsI e.2) by simp, this]
  unfold wordD arrD
  rw [ee, ha3, hb3]
theorem wholeI {lo hi v : Int} (h1 : lo ≤ v) (h2 : v ≤ hi) : isWhole lo hi (.int v) = true := by
  simp only [isWhole, Bool.and_eq_true, decide_eq_true_eq]
  exact ⟨h1, h2⟩
theorem int_atD {os : List Int} {j : Nat} {y : D} (h : (os.map D.int)[j]? = some y) : ∃ v, os[j]? = some v ∧ y = .int v := by
  rw [List.getElem?_map] at h
  cases z : os[j]? with
  | none => rw [z] at h; cases h
  | some v => rw [z] at h; exact ⟨v, rfl, (Option.some.inj h).symm⟩
theorem stand_fine {m : Nat} {row : List Int} {s0 : Int} (pm : row.Perm (rgI (m + 1))) (h0 : 0 ≤ s0) (h1 : s0 < m) : IsErrS (m : Int) (pairD row s0) .non := by
  have hl : row.length = m + 1 := by rw [pm.length_eq, rgI_len]
  refine .fine (ds := row.map D.int) (s := .int s0) ?_ (fun j y e => ?_) (fun j hj => ?_) (wholeI h0 (by omega))
  · unfold pairD
    rw [row_len, List.length_map, if_pos (by omega)]
  · obtain ⟨v, ev, rfl⟩ := int_atD e
    have := rgI_mem (pm.mem_iff.mp (List.mem_of_getElem? ev))
    exact wholeI (by omega) (by omega)
  · obtain ⟨v, i, e1, hi, e2⟩ := hj
    obtain ⟨a, ea, qa⟩ := int_atD e1
    obtain ⟨b, eb, qb⟩ := int_atD e2
    cases qa
    cases qb
    obtain ⟨l1, g1⟩ := List.getElem?_eq_some_iff.mp ea
    obtain ⟨l2, g2⟩ := List.getElem?_eq_some_iff.mp eb
    have nd : row.Nodup := pm.nodup_iff.mpr (rgI_nd _)
    have := (List.pairwise_iff_getElem.mp nd) i j l2 l1 hi
    rw [g1, g2] at this
    exact this rfl
theorem run_fine {n : Int} {ars : List (Int × Int)} {os : List Int} (R : RunOk n ars os) : IsErrR n ars (.tup (os.map D.int)) .non := by
  refine .fine (ds := os.map D.int) ?_ (fun j y e => ?_) (fun j hj => ?_)
  · rw [run_len, List.length_map, if_pos ⟨R.ne, R.len⟩]
  · obtain ⟨v, ev, rfl⟩ := int_atD e
    have := R.each v (List.mem_of_getElem? ev)
    exact wholeI this.1 (by have := this.2; omega)
  · obtain ⟨v, w, h0, e1, e2, nin⟩ := hj
    obtain ⟨a, ea, qa⟩ := int_atD e1
    obtain ⟨b, eb, qb⟩ := int_atD e2
    cases qa
    cases qb
    exact nin (R.ch (j - 1) v w ea (by rw [show j - 1 + 1 = j by omega]; exact eb))
/-! ### the five things -/
structure Five where
  m : Nat
  ars : List (Int × Int)
  run : List Int
  rl : Int
  ring : List Int
  gl : Int
  row : List Int
  s0 : Int
  ls : List (List Int × Int)
structure FiveA where
  a : Addr
  b : Addr
  ru : Addr
  ri : Addr
  st : Addr
  rw' : Addr
  jr : Addr
  ts : List V
  xs : List V
structure FiveAt (H : Hp) (x : FiveA) (g : Five) : Prop where
  net : NetAt (g.m : Int) H x.a x.b x.ts
  ar : ArsAt H x.ts g.ars
  asc : g.ars.Pairwise lt2
  nol : ∀ e ∈ g.ars, e.1 ≠ e.2
  run : RunIn H x.ru g.run g.rl g.m
  rok : RunOk (g.m : Int) g.ars g.run
  rlen : g.run.length ≤ 100
  ring : RunIn H x.ri g.ring g.gl g.m
  glen : g.ring.length ≤ 100
  st : H x.st = some (.tup [.ref x.rw', .int g.s0])
  rw' : H x.rw' = some (.tup (g.row.map V.int))
  pm : g.row.Perm (rgI (g.m + 1))
  s1 : 0 ≤ g.s0
  s2 : g.s0 < g.m
  j : H x.jr = some (.tup x.xs)
  legs : LegsAt (g.m : Int) g.ars H x.xs g.ls
  meets : Meets g.ls
  llen : g.ls.length ≤ 20
theorem FiveAt.keep {H H' : Hp} {x : FiveA} {g : Five} (h : FiveAt H x g) (s : TupS H H') : FiveAt H' x g :=
  ⟨h.net.keep s, h.ar.keep s, h.asc, h.nol, h.run.keep s, h.rok, h.rlen, h.ring.keep s, h.glen, s _ _ h.st, s _ _ h.rw', h.pm, h.s1, h.s2, s _ _ h.j, h.legs.keep s, h.meets, h.llen⟩
theorem FiveAt.m1 {H : Hp} {x : FiveA} {g : Five} (h : FiveAt H x g) : 1 ≤ g.m ∧ g.m ≤ 12 := by
  have h1 := h.net.n1
  have h2 := h.net.n2
  omega
theorem FiveAt.inn {H : Hp} {x : FiveA} {g : Five} (h : FiveAt H x g) : ∀ e ∈ g.ars, Inn (g.m : Int) e.1 ∧ Inn (g.m : Int) e.2 := (arrL_le h.net h.ar).1
/-- what a journey begins with -/
def begun (g : Five) : Int := match g.ls with
  | [] => g.s0
  | l :: _ => l.1.headD 0
def goesL (g : Five) : List Int := endsF (g.m + 1) (ledI (rgI (g.m + 1)) g.run.dropLast)
def numS (g : Five) : Int := (rk g.row : Nat) * g.m + g.s0
/-- what all thirteen tell -/
def placedD (g : Five) (T : Nat) : List D := [.non, .str (S (textL g.m g.ars)), netDn g.m g.ars, .non, .int (numS g), pairD g.row g.s0, .non, pairD (ledI g.row g.run.dropLast) g.rl, .tup ((goesL g).map D.int), .int T, .non,
  pairD (jDo g.m (g.row, begun g) g.ls).1 (jDo g.m (g.row, begun g) g.ls).2, .int (stepsF g.ls)]
abbrev TurnG (g : Five) (T : Nat) : Prop := IsTurn (g.m + 1) (ledI (rgI (g.m + 1)) g.ring.dropLast) T
end Sw
namespace Sw
open PySem PySem.Spec PyProof.Rows L2 SX
/-! ### data of tuples alone; the size of what is told -/
mutual
def tupD : D → Prop
  | .non => True
  | .bl _ => True
  | .int _ => True
  | .str _ => True
  | .tup ds => tupDs ds
  | .lst _ => False
  | .dct => False
  | .dx => False
  | .exc _ _ _ => False
def tupDs : List D → Prop
  | [] => True
  | d :: r => tupD d ∧ tupDs r
end
mutual
theorem Rep.tups {K : PySem.W.Frag} {H : Hp} : ∀ {d : D} {v : V} {as : List Addr}, Rep K H d v as → tupD d → ∀ b ∈ as, ∃ zs, H b = some (.tup zs)
  | .non, v, as, h, _, b, hb => by simp only [Rep] at h; rw [h.2] at hb; cases hb
  | .bl _, v, as, h, _, b, hb => by simp only [Rep] at h; rw [h.2] at hb; cases hb
  | .int _, v, as, h, _, b, hb => by simp only [Rep] at h; rw [h.2] at hb; cases hb
  | .str _, v, as, h, _, b, hb => by simp only [Rep] at h; rw [h.2] at hb; cases hb
  | .tup ds, v, as, h, t, b, hb => by
    simp only [Rep] at h
    simp only [tupD] at t
    obtain ⟨a, xs, bs, e, ha, r, na, rfl⟩ := h
    rcases List.mem_cons.mp hb with z | z
    · exact ⟨_, z ▸ ha⟩
    · exact RepAll.tups r t b z
  | .lst _, _, _, _, t, _, _ => by simp only [tupD] at t
  | .dct, _, _, _, t, _, _ => by simp only [tupD] at t
  | .dx, _, _, _, t, _, _ => by simp only [tupD] at t
  | .exc _ _ _, _, _, _, t, _, _ => by simp only [tupD] at t
theorem RepAll.tups {K : PySem.W.Frag} {H : Hp} : ∀ {ds : List D} {xs : List V} {as : List Addr}, RepAll K H ds xs as → tupDs ds → ∀ b ∈ as, ∃ zs, H b = some (.tup zs)
  | [], xs, as, h, _, b, hb => by simp only [RepAll] at h; rw [h.2] at hb; cases hb
  | d :: ds, xs, as, h, t, b, hb => by
    simp only [RepAll] at h
    simp only [tupDs] at t
    obtain ⟨x, r, bs, cs, e, h1, h2, rfl⟩ := h
    rcases List.mem_append.mp hb with z | z
    · exact Rep.tups h1 t.1 b z
    · exact RepAll.tups h2 t.2 b z
end
theorem tup_ints : ∀ os : List Int, tupDs (os.map D.int)
  | [] => trivial
  | o :: r => ⟨trivial, tup_ints r⟩
theorem tup_pair (os : List Int) (x : Int) : tupD (pairD os x) := by
  unfold pairD
  simp only [tupD, tupDs]
  exact ⟨tup_ints os, trivial, trivial⟩
theorem tup_arrs : ∀ ars : List (Int × Int), tupDs (ars.map arrD)
  | [] => trivial
  | e :: r => by
    simp only [List.map_cons, tupDs, arrD, tupD]
    exact ⟨⟨trivial, trivial, trivial⟩, tup_arrs r⟩
theorem tup_placed (g : Five) (T : Nat) : tupDs (placedD g T) := by
  unfold placedD netDn
  simp only [tupDs, tupD]
  exact ⟨trivial, trivial, ⟨trivial, tup_arrs _, trivial⟩, trivial, trivial, tup_pair _ _, trivial, tup_pair _ _, tup_ints _, trivial, trivial, tup_pair _ _, trivial, trivial⟩
theorem sml_wt {os : List Int} (h : Sml os) : smallAll (os.map D.int) ∧ wtAll (os.map D.int) ≤ os.length * 6 ∧ depAll (os.map D.int) = 0 := by
  obtain ⟨_, r2, r3, r4⟩ := ints_rep (K := default) (H := fun _ => none) h
  exact ⟨r2, by omega, by omega⟩
theorem pair_wt {os : List Int} {x : Int} (h : Sml os) (l : os.length ≤ 13) (hx : 0 ≤ x ∧ x < 14) : small (pairD os x) ∧ wt (pairD os x) ≤ 100 ∧ dep (pairD os x) ≤ 2 := by
  obtain ⟨r2, r3, r4⟩ := sml_wt h
  obtain ⟨_, i2, i3, i4⟩ := int_ok (K := default) (H := fun _ => none) (i := x) (w := 3) (k := 0) (by omega) (by decide) (by decide)
  unfold pairD
  refine ⟨?_, ?_, ?_⟩
  · simp only [small, smallAll] at i2 ⊢
    exact ⟨r2, i2, trivial⟩
  · simp only [wt, wtAll] at i3 ⊢
    omega
  · simp only [dep, depAll] at i4 ⊢
    omega
theorem FiveAt.legsG {H : Hp} {x : FiveA} {g : Five} (h : FiveAt H x g) : LegsG g.m g.ls := h.legs.isIn.good
theorem FiveAt.begun_in {H : Hp} {x : FiveA} {g : Five} (h : FiveAt H x g) : 0 ≤ begun g ∧ begun g < g.m := by
  unfold begun
  have hg := h.legsG
  cases e : g.ls with
  | nil => exact ⟨h.s1, h.s2⟩
  | cons l r =>
    have hl := hg l (by rw [e]; exact List.mem_cons_self)
    cases e2 : l.1 with
    | nil => exact absurd e2 hl.ne
    | cons o t =>
      show 0 ≤ l.1.headD 0 ∧ l.1.headD 0 < _
      rw [e2]
      exact hl.st o (by rw [e2]; exact List.mem_cons_self)
theorem FiveAt.led {H : Hp} {x : FiveA} {g : Five} (h : FiveAt H x g) : (ledI g.row g.run.dropLast).Perm (rgI (g.m + 1)) := (ledI_perm h.run.init (by rw [h.pm.length_eq, rgI_len]; omega)).trans h.pm
theorem FiveAt.goes {H : Hp} {x : FiveA} {g : Five} (h : FiveAt H x g) : (goesL g).Perm (rgI (g.m + 1)) := (odd_run h.run.init h.run.ne).1
theorem FiveAt.num {H : Hp} {x : FiveA} {g : Five} (h : FiveAt H x g) : 0 ≤ numS g ∧ numS g < manyS g.m ∧ stRow g.m (numS g) = g.row ∧ numS g % g.m = g.s0 := by
  have := h.m1
  exact num_back (n := (g.m : Int)) (by omega) (by rw [Int.toNat_natCast]; exact h.pm) h.s1 h.s2
theorem many_le {m : Nat} (h : m ≤ 12) : manyS m ≤ 100000000000 := by
  unfold manyS
  rw [Int.toNat_natCast]
  have : ∀ k, k ≤ 12 → ((k : Nat) : Int) * (fac (k + 1) : Nat) ≤ 100000000000 := by decide +kernel
  exact this m h
theorem placed_wt {H : Hp} {x : FiveA} {g : Five} (h : FiveAt H x g) {T : Nat} (hT : T ≤ 6227020800) : smallAll (placedD g T) ∧ wtAll (placedD g T) ≤ 30000 ∧ depAll (placedD g T) ≤ 5 := by
  obtain ⟨m1, m2⟩ := h.m1
  have sm : ∀ {os : List Int}, os.Perm (rgI (g.m + 1)) → Sml os ∧ os.length ≤ 13 := fun {os} pm => ⟨Sml.perm pm (by omega), by rw [pm.length_eq, rgI_len]; omega⟩
  have w1 := text_wt (textL_lt h.net h.ar)
  have l1 := textL_len h.net h.ar
  obtain ⟨a1, a2, a3⟩ := arrs_wt (n := (g.m : Int)) (by omega) g.ars h.inn
  have la := h.ar.len
  have lb := h.net.len
  obtain ⟨_, i2, i3, _⟩ := int_ok (K := default) (H := fun _ => none) (i := (g.m : Int)) (w := 3) (k := 0) (by omega) (by decide) (by decide)
  obtain ⟨n1, n2, _⟩ := h.num
  have n3 := many_le m2
  obtain ⟨_, j2, j3, _⟩ := int_ok (K := default) (H := fun _ => none) (i := numS g) (w := 12) (k := 0) (by omega) (by decide) (by decide)
  obtain ⟨_, t2, t3, _⟩ := int_ok (K := default) (H := fun _ => none) (i := (T : Int)) (w := 12) (k := 0) (by omega) (by decide) (by decide)
  obtain ⟨p1, p2, p3⟩ := pair_wt (sm h.pm).1 (sm h.pm).2 (x := g.s0) ⟨h.s1, by have := h.s2; omega⟩
  have rl := h.run.stops g.rl (List.mem_of_getLast? h.run.last)
  obtain ⟨q1, q2, q3⟩ := pair_wt (sm h.led).1 (sm h.led).2 (x := g.rl) ⟨rl.1, by omega⟩
  obtain ⟨g1, g2, g3⟩ := sml_wt (sm h.goes).1
  have gl := (sm h.goes).2
  have jp := jDo_perm (s := (g.row, begun g)) h.legsG h.pm
  have js := jDo_stop (s := (g.row, begun g)) h.legsG h.begun_in
  obtain ⟨d1, d2, d3⟩ := pair_wt (sm jp).1 (sm jp).2 (x := (jDo g.m (g.row, begun g) g.ls).2) ⟨js.1, by have := js.2; omega⟩
  obtain ⟨s1, s2⟩ := steps_le h.legsG
  have ll := h.llen
  obtain ⟨_, k2, k3, _⟩ := int_ok (K := default) (H := fun _ => none) (i := stepsF g.ls) (w := 38) (k := 0) (by
    have : (10 : Nat) ^ 38 = 100000000000000000000000000000000000000 := by decide +kernel
    omega) (by decide) (by decide)
  unfold placedD netDn
  refine ⟨?_, ?_, ?_⟩
  · simp only [smallAll, small] at i2 j2 t2 k2 ⊢
    exact ⟨trivial, trivial, ⟨i2, a1, trivial⟩, trivial, j2, p1, trivial, q1, g1, t2, trivial, d1, k2, trivial⟩
  · simp only [wtAll, wt] at w1 i3 j3 t3 k3 ⊢
    omega
  · simp only [depAll, dep] at a3 p3 q3 g3 d3 ⊢
    omega
theorem passN {X : Cx} : Passes (L2.CX X.prog X.w) X E0 := fun _ _ _ _ _ _ _ h => by
  obtain ⟨_, _, _, _, _, _, _, _, _, _, _, _, hE⟩ := h
  exact hE.elim
end Sw
namespace Sw
open PySem L2
abbrev sStForm : Stmt := top 38
abbrev nStForm : List Str := ["n", "value", "row"]
theorem scStForm : FnScope nStForm ["n", "value"] (defScope sStForm) := ⟨rfl, rfl, rfl, by decide +kernel, rfl, by decide +kernel, by decide +kernel⟩
abbrev sStand : Stmt := top 37
abbrev nStand : List Str := ["n", "value", "row", "stop", "place", "thing"]
theorem scStand : FnScope nStand ["n", "value"] (defScope sStand) := ⟨rfl, rfl, rfl, by decide +kernel, rfl, by decide +kernel, by decide +kernel⟩
section
variable {P : Program} {w : World} {K : PySem.W.Frag} {mg : Str → Option Value} {base : Heap}
def spStForm (K : PySem.W.Frag) : Sp := fun vs H Q _ => ∃ (n : Int) (x : V) (d : D) (as : List Addr), vs = [.int n, x] ∧ Rep K H d x as ∧ Q (.bl (rowOf n d).isSome) H
theorem ok_stForm {f : Addr} {fd : FuncData} (F : Fun K "has_standing_form" "has_standing_form" sStForm f fd) (B : NoNames mg) (O1 : Own P w K mg base 1 "is_pair" ["value"] (spPair K)) : FnOk P w K mg base CX0 2 f fd ["n", "value"] (spStForm K) := by
  obtain ⟨fP, fdP, GP, mP, kP, bP⟩ := O1.ex
  refine F.ok scStForm (fun vs H Q E h => ?_) (fun cdv A outer s H vs Q E hr h => ?_)
  · obtain ⟨n, x, d, as, rfl, _⟩ := h
    rfl
  · obtain ⟨n, x, d, as, rfl, hd, k⟩ := h
    refine ⟨_, pss_cons (ps_if (pt_not (pt_val (pe_call GP hr rfl mP kP bP .nil pass0 (pa_cons (pv 1) pa_nil)))) (pss_one (ps_ret pe_bl)) pss_nil) <|
      pss_cons (ps_set (i := 2) scStForm.nd rfl (.inl rfl) (pe_ix ix_tup (pv 1) pe_int (fun _ _ => rfl))) <|
      pss_one (ps_ret (pe_and (pe_isi (i := 2) (TN := "tuple") rfl (Or.inl rfl) (by decide) (by decide) B.isi B.tuple rfl rfl (by decide +kernel) (by decide) (by decide))
        (pe_one (pe_cmpR op_eq (pe_callB call_len_seq (by rfl) B.len PySem.boot_len (pa_cons (pv 2) pa_nil)) (pe_op op_add (pv 0) pe_int) (nomark _))))), ?_⟩
    refine ⟨_, rfl, x, d, as, rfl, hd, _, rfl, ?_⟩
    cases e : isPair d with
    | false =>
      refine iteT ?_
      rw [row_pair e] at k
      exact k
    | true =>
      refine iteF ?_
      obtain ⟨a1, b1, rfl⟩ := two_of e
      simp only [Rep, RepAll] at hd
      obtain ⟨p, xs, bs, rfl, hp, ⟨y, r, c1, c2, rfl, ha1, ⟨z, r2, d1, d2, rfl, hb1, ⟨rfl, rfl⟩, rfl⟩, rfl⟩, nap, rfl⟩ := hd
      refine ⟨_, rfl, p, _, 0, y, rfl, rfl, SqT.of hp, at_of (j := 0) rfl rfl, ?_⟩
      refine ⟨_, rfl, y, a1, c1, "tuple", rfl, by decide, ha1, _, rfl, ?_⟩
      cases e1 : isT "tuple" a1 with
      | false =>
        refine iteF ?_
        rw [row_no e1] at k
        exact k
      | true =>
        refine iteT ?_
        obtain ⟨ds, rfl⟩ := tup_of e1
        simp only [Rep] at ha1
        obtain ⟨a, ys, cs, rfl, ha, hds, na, rfl⟩ := ha1
        refine ⟨_, rfl, a, ys, rfl, .inr (SqT.of ha), _, rfl, _, _, rfl, rfl, rfl, ?_⟩
        have : (rowOf n (.tup [.tup ds, b1])).isSome = decide (V.int (ys.length : Int) = V.int (n + 1)) := by
          rw [row_len, hds.len]
          by_cases el : (ds.length : Int) = n + 1
          · rw [if_pos el, el, decide_eq_true rfl]
            rfl
          · rw [if_neg el, decide_eq_false (fun q => el (V.int.inj q))]
            rfl
        rw [this] at k
        exact k
theorem row_some {n : Int} {d : D} (h : (rowOf n d).isSome = true) : ∃ ds s, d = .tup [.tup ds, s] ∧ rowOf n d = some (ds, s) := by
  unfold rowOf at h ⊢
  split at h
  · rename_i ds s
    split at h
    · rename_i e
      exact ⟨ds, s, rfl, by rw [if_pos e]⟩
    · cases h
  · cases h
theorem ok_stand {f : Addr} {fd : FuncData} (F : Fun K "standing_error" "standing_error" sStand f fd) (B : NoNames mg) (O1 : Own P w K mg base 2 "has_standing_form" ["n", "value"] (spStForm K)) (O : Own P w K mg base 1 "is_integer_between" ["value", "least", "most"] (spBetween K))
    (O2 : Own P w K mg base 2 "is_stop" ["n", "value"] (spStop K)) : FnOk P w K mg base CX0 3 f fd ["n", "value"] (spSt K) := by
  obtain ⟨fP, fdP, GP, mP, kP, bP⟩ := O1.ex
  obtain ⟨fS, fdS, GS, mS, kS, bS⟩ := O.ex
  obtain ⟨fT, fdT, GT, mT, kT, bT⟩ := O2.ex
  refine F.ok scStand (fun vs H Q E h => ?_) (fun cdv A outer s H vs Q E hr h => ?_)
  · obtain ⟨n, x, d, as, rfl, _⟩ := h
    rfl
  · obtain ⟨n, x, d, as, rfl, hd, hw, n1, n2, k⟩ := h
    have hr1 : Room 1 _ := hr.mono (by decide)
    refine ⟨_, pss_cons (ps_if (pt_not (pt_val (pe_call GP hr rfl mP kP bP .nil pass0 (pa_cons (pv 0) (pa_cons (pv 1) pa_nil))))) (pss_one (ps_ret pe_str)) pss_nil) <|
      pss_cons (ps_asg (pv 1) (pg_tup (by rfl) (pgs_cons (pg_name (i := 2) scStand.nd rfl (.inl rfl)) (pgs_cons (pg_name (i := 3) scStand.nd rfl (.inl rfl)) pgs_nil)))) <|
      pss_cons (ps_for PassesOwn.never rfl (pi_enumT (by rfl) B.enumerate (pa_cons (pv 2) pa_nil)) (pg_tup rfl (pgs_cons (pg_name (i := 4) scStand.nd rfl (.inl rfl)) (pgs_cons (pg_name (i := 5) scStand.nd rfl (.inl rfl)) pgs_nil)))
        (pss_one (ps_if (pt_not (pt_val (pe_call GS hr1 rfl mS kS bS .nil pass0 (pa_cons (pv 5) (pa_cons pe_int (pa_cons (pv 0) pa_nil)))))) (pss_one (ps_ret (pe_tup (pa_cons pe_str (pa_cons (pv 4) pa_nil))))) pss_nil))) <|
      pss_cons (ps_for PassesOwn.never rfl (pi_enumT (by rfl) B.enumerate (pa_cons (pv 2) pa_nil)) (pg_tup rfl (pgs_cons (pg_name (i := 4) scStand.nd rfl (.inl rfl)) (pgs_cons (pg_name (i := 5) scStand.nd rfl (.inl rfl)) pgs_nil)))
        (pss_one (ps_if (pt_cmpR op_in_seq (pv 5) (pe_slice sl_tup (pv 2) po_none (po_some (pv 4))) (by with_unfolding_all rfl)) (pss_one (ps_ret (pe_tup (pa_cons pe_str (pa_cons (pv 4) pa_nil))))) pss_nil))) <|
      pss_cons (ps_if (pt_not (pt_val (pe_call GT hr rfl mT kT bT .nil pass0 (pa_cons (pv 0) (pa_cons (pv 3) pa_nil))))) (pss_one (ps_ret pe_str)) pss_nil) <|
      pss_one (ps_ret pe_non), ?_⟩
    have kform : rowOf n d = none → Q (.str "form") H := fun hf => by
      obtain ⟨q1, q2, q3, q4⟩ := err_str (K := K) (H := H) (z := "form") (by decide +kernel)
      exact k _ _ _ H (.form hf) (Same.refl H) q1 q2 q3 q4
    refine ⟨_, rfl, _, rfl, n, x, d, as, rfl, hd, _, rfl, ?_⟩
    cases e : (rowOf n d).isSome with
    | false =>
      refine iteT ?_
      exact kform (by cases q : rowOf n d with | none => rfl | some z => rw [q] at e; cases e)
    | true =>
      refine iteF ?_
      obtain ⟨ds, b1, rfl, hf⟩ := row_some e
      simp only [Rep, RepAll] at hd
      obtain ⟨p, xs, bs, rfl, hp, ⟨y, r, c1, c2, rfl, ⟨a, ys, cs, rfl, ha, hds, na, rfl⟩, ⟨z, r2, d1, d2, rfl, hb1, ⟨rfl, rfl⟩, rfl⟩, rfl⟩, nap, rfl⟩ := hd
      have hl := hds.len
      have hsz : ys.length ≤ sizeLine := by
        simp only [wt, wtAll] at hw
        have h2 := wt_len ds
        rw [hl, sizeLine_eq]
        omega
      refine ⟨_, rfl, p, _, rfl, SqT.of hp, rfl, _, _, rfl, _, [], rfl, rfl, ?_⟩
      refine ⟨_, rfl, a, ys, rfl, SqT.of ha, for_it walk_te (fun i σ H' => (∃ s3 s4, σ = [some (.int n), some (.ref p), some (.ref a), some z, s3, s4]) ∧ Same H H' ∧ ∀ (j : Nat) (y : D), j < i → ds[j]? = some y → isWhole 0 n y = true)
        ⟨⟨_, _, rfl⟩, Same.refl H, fun j y h => absurd h (Nat.not_lt_zero _)⟩ (fun i σ H' _ h => SqT.of (h.2.1 _ _ ha)) ?_ ?_⟩
      · rintro i x σ1 H1 H2 hi ⟨⟨s3, s4, rfl⟩, s1, q⟩ ⟨T, x1, x2, rfl, nT, rfl, e1, e2⟩
        obtain rfl : V.int (i : Nat) = x1 := Option.some.inj e1
        refine ⟨T, [.int (i : Nat), x2], rfl, .inl (.inl upd_same), rfl, _, [x2], rfl, x2, [], rfl, rfl, ?_⟩
        have s2 : Same H (upd H1 T (.tup [.int (i : Nat), x2])) := s1.trans (same_new nT)
        obtain ⟨d2, b2, hd2, hr2, _⟩ := hds.at2 e2
        refine ⟨_, rfl, _, rfl, x2, d2, b2, 0, n, rfl, hr2.same s2, _, rfl, ?_⟩
        cases ea : isWhole 0 n d2 with
        | true =>
          refine iteF ⟨⟨_, _, rfl⟩, s2, fun j y hj hy => ?_⟩
          rcases Nat.lt_succ_iff_lt_or_eq.mp hj with z | z
          · exact q j y z hy
          · subst z
            rw [hd2] at hy
            cases hy
            exact ea
        | false =>
          refine iteT ⟨_, rfl, by show 2 ≤ sizeLine; decide, fun p2 np2 => ?_⟩
          obtain ⟨q1, q2, q3, q4⟩ := err_pair (K := K) (z := "thing") (i := i) (by decide +kernel) (Nat.le_trans (Nat.le_of_lt hi) hsz) np2
          exact k _ _ _ _ (.thing hf hd2 ea q) (s2.trans (same_new np2)) q1 q2 q3 q4
      · rintro σ H1 ⟨⟨s3, s4, rfl⟩, s1, q⟩
        have qa : ∀ (j : Nat) (y : D), ds[j]? = some y → isWhole 0 n y = true := fun j y hy => q j y (by rw [hl]; exact (List.getElem?_eq_some_iff.mp hy).1) hy
        refine ⟨_, rfl, a, ys, rfl, SqT.of (s1 _ _ ha), for_it walk_te (fun i σ H' => (∃ s3 s4, σ = [some (.int n), some (.ref p), some (.ref a), some z, s3, s4]) ∧ Same H H' ∧ ∀ j, j < i → ¬ Twice ds j)
          ⟨⟨_, _, rfl⟩, s1, fun j h => absurd h (Nat.not_lt_zero _)⟩ (fun i σ H' _ h => SqT.of (h.2.1 _ _ ha)) ?_ ?_⟩
        · rintro i x σ2 H2 H3 hi ⟨⟨s3, s4, rfl⟩, s1, ql⟩ ⟨T, x1, x2, rfl, nT, rfl, e1, e2⟩
          obtain rfl : V.int (i : Nat) = x1 := Option.some.inj e1
          refine ⟨T, [.int (i : Nat), x2], rfl, .inl (.inl upd_same), rfl, _, [x2], rfl, x2, [], rfl, rfl, ?_⟩
          have s2 : Same H (upd H2 T (.tup [.int (i : Nat), x2])) := s1.trans (same_new nT)
          obtain ⟨d2, b2, hd2, hr2, _⟩ := hds.at2 e2
          obtain ⟨v, rfl⟩ := whole_int (qa i d2 hd2)
          simp only [Rep] at hr2
          obtain ⟨rfl, rfl⟩ := hr2
          obtain ⟨fl, iff⟩ := in_cut hds qa hd2
          refine ⟨_, rfl, _, rfl, _, rfl, (i : Int), rfl, a, ys, rfl, SqT.of (s2 _ _ ha), ?_, fun c nc => ?_⟩
          · rintro ⟨_, h2⟩
            rw [HT.sIx_nat] at h2
            omega
          have s3 := s2.trans (same_new (o := .tup (cutV ys none (some (i : Int)))) nc)
          refine ⟨c, _, rfl, .inr (SqT.of upd_same), rfl, fl, _, rfl, ?_⟩
          cases ei : inV (.int v) (cutV ys none (some (i : Int))) with
          | true =>
            refine iteT ⟨_, rfl, by show 2 ≤ sizeLine; decide, fun p2 np2 => ?_⟩
            obtain ⟨q1, q2, q3, q4⟩ := err_pair (K := K) (z := "twice") (i := i) (by decide +kernel) (Nat.le_trans (Nat.le_of_lt hi) hsz) np2
            exact k _ _ _ _ (.twice hf qa (iff.mp ei) ql) (s3.trans (same_new np2)) q1 q2 q3 q4
          | false =>
            refine iteF ⟨⟨_, _, rfl⟩, s3, fun j hj hb => ?_⟩
            rcases Nat.lt_succ_iff_lt_or_eq.mp hj with z | z
            · exact ql j z hb
            · subst z
              rw [iff.mpr hb] at ei
              cases ei
        · rintro σ2 H2 ⟨⟨s3, s4, rfl⟩, s2, ql⟩
          have no : ∀ j, ¬ Twice ds j := fun j hb => by
            obtain ⟨v, _, h1, _⟩ := id hb
            exact ql j (by rw [hl]; exact (List.getElem?_eq_some_iff.mp h1).1) hb
          refine ⟨_, rfl, _, rfl, z, b1, d1, n, rfl, hb1.same s2, _, rfl, ?_⟩
          cases es : isStop n b1 with
          | true => exact iteF (k .non .non [] H2 (.fine hf qa no es) s2 (by simp [Rep]) (by simp only [small]) (by simp only [wt]; decide) (by simp only [dep]; decide))
          | false =>
            obtain ⟨q1, q2, q3, q4⟩ := err_str (K := K) (H := H2) (z := "stop") (by decide +kernel)
            exact iteT (k _ _ _ H2 (.stop hf qa no es) s2 q1 q2 q3 q4)
end
end Sw
namespace Sw
open PySem PySem.Spec PyProof.Rows L2 SX
/-! ### what each def tells by place -/
theorem kb_oneR {K : PySem.W.Frag} {x p1 : Str} {st : Stmt} {f : Addr} {fd : FuncData} (F : Fun K x x st f fd)
    (b1 : ∀ (kV doc pm : Value) (an : Option Addr) (cdv ct u : Value), bindArgs (PySem.W.fnOf x x (defArgs st) (defBody st) (defScope st) .none kV doc pm an cdv ct) ⟨[], ([p1] : List Str).zip [u]⟩ = pure (([p1] : List Str).zip [u]))
    (b2 : ∀ (kV doc pm : Value) (an : Option Addr) (cdv ct u : Value), bindArgs (PySem.W.fnOf x x (defArgs st) (defBody st) (defScope st) .none kV doc pm an cdv ct) ⟨[u], ([p1] : List Str).zip []⟩ = pure (([p1] : List Str).zip [u])) : KBinds K fd [p1] [p1] (fun us ws => us ++ ws.reverse) (fun us ws => us ++ ws.reverse) := by
  obtain ⟨oc, od, kV, doc, pm, an, cdv, ct, osl, rfl, lk, hcd⟩ := F.ex
  refine ⟨fun s us ws _ hl => ?_, fun r q => r.append q.reverse⟩
  have hl2 : us.length + ws.length = 1 := by
    rw [List.length_append, List.length_reverse] at hl
    exact hl
  rcases us with _ | ⟨u, us⟩
  · rcases ws with _ | ⟨a, _ | ⟨b, ws⟩⟩
    · cases hl2
    · exact .of_eq (b1 kV doc pm an cdv ct a)
    · simp only [List.length_cons, List.length_nil] at hl2
      omega
  · rcases us with _ | ⟨v, us⟩
    · rcases ws with _ | ⟨a, ws⟩
      · exact .of_eq (b2 kV doc pm an cdv ct u)
      · simp only [List.length_cons, List.length_nil] at hl2
        omega
    · simp only [List.length_cons] at hl2
      omega
/-- a def by place, and by its words, the last one ahead -/
structure OwnK (P : Program) (w : World) (K : PySem.W.Frag) (mg : Str → Option Value) (base : Heap) (CX : CXT) (k : Nat) (x : Str) (ps ks : List Str) (sp : Sp) : Prop where
  ex : ∃ f fd, FnOk P w K mg base CX k f fd ps sp ∧ mg x = some (.ref f) ∧ PySem.W.keepIn K (.ref f) = true ∧ Binds K fd ps [] ∧ KBinds K fd ps ks (fun us ws => us ++ ws.reverse) (fun us ws => us ++ ws.reverse)
structure OwnsP (P : Program) (w : World) (K : PySem.W.Frag) (mg : Str → Option Value) (base : Heap) (C C' : Addr) : Prop where
  nerr : OwnK P w K mg base CX0 4 "net_error" ["value"] ["value"] (spError K)
  ntxt : OwnK P w K mg base CX0 1 "net_text" ["net"] ["net"] spNetText
  read : OwnK P w K mg base (L2.CX P w) 5 "read_net" ["value"] ["value"] (spReadNet K C)
  serr : OwnK P w K mg base CX0 3 "standing_error" ["n", "value"] ["value", "n"] (spSt K)
  snum : OwnK P w K mg base CX0 2 "standing_number" ["n", "standing"] ["standing", "n"] spStNum
  sat : OwnK P w K mg base (L2.CX P w) 2 "standing_at" ["n", "value"] ["value", "n"] (spStAt K C')
  rerr : OwnK P w K mg base CX0 3 "run_error" ["net", "value"] ["value", "net"] (spRun K)
  done : OwnK P w K mg base CX0 1 "done" ["standing", "run"] ["run", "standing"] (spDone false)
  goes : OwnK P w K mg base CX0 2 "goes" ["n", "run"] ["run", "n"] spGoes
  turns : OwnK P w K mg base CX0 3 "turns" ["n", "run"] ["run", "n"] spTurns
  jerr : OwnK P w K mg base CX0 5 "journey_error" ["net", "value"] ["value", "net"] (spJn K)
  jdone : OwnK P w K mg base CX0 5 "journey_done" ["standing", "journey"] ["journey", "standing"] spJDone
  steps : OwnK P w K mg base CX0 1 "steps_of" ["journey"] ["journey"] spSteps
theorem repAll_cons {K : PySem.W.Frag} {H : Hp} {d : D} {x : V} {ds : List D} {xs : List V} {as bs : List Addr} (h : Rep K H d x as) (t : RepAll K H ds xs bs) : RepAll K H (d :: ds) (x :: xs) (as ++ bs) := by
  rw [RepAll]
  exact ⟨x, xs, as, bs, rfl, h, t, rfl⟩
theorem rep_non {K : PySem.W.Frag} {H : Hp} : Rep K H .non .non [] := by simp [Rep]
theorem rep_str {K : PySem.W.Frag} {H : Hp} {z : Str} : Rep K H (.str z) (.str z) [] := by simp [Rep]
theorem rep_int {K : PySem.W.Frag} {H : Hp} {i : Int} : Rep K H (.int i) (.int i) [] := by simp [Rep]
theorem arsR {K : PySem.W.Frag} {H : Hp} : ∀ {ts : List V} {ars : List (Int × Int)}, ArsAt H ts ars → ∃ as, RepAll K H (ars.map arrD) ts as ∧ ∀ c ∈ as, ∃ v w : Int, H c = some (.tup [.int v, .int w])
  | _, _, .nil => ⟨[], by simp [RepAll], fun _ h => absurd h (by simp)⟩
  | _, _, .cons (b := e) ⟨t, e1, e2⟩ h => by
    obtain ⟨as, h1, h2⟩ := arsR (K := K) h
    subst e1
    refine ⟨[t] ++ as, repAll_cons ?_ h1, fun c hc => ?_⟩
    · unfold arrD
      rw [Rep]
      exact ⟨t, _, [] ++ ([] ++ []), rfl, e2, repAll_cons rep_int (repAll_cons rep_int (by simp [RepAll])), by simp, by simp⟩
    · rcases List.mem_append.mp hc with z | z
      · rw [List.mem_singleton.mp z]
        exact ⟨_, _, e2⟩
      · exact h2 c z
theorem FiveAt.netR {K : PySem.W.Frag} {H : Hp} {x : FiveA} {g : Five} (h : FiveAt H x g) : ∃ as, Rep K H (netDn g.m g.ars) (.ref x.a) as := by
  obtain ⟨as, h1, h2⟩ := arsR (K := K) h.ar
  have ha := h.net.a
  have hb := h.net.b
  have nb : x.b ∉ as := fun z => by
    obtain ⟨v, w, e⟩ := h2 _ z
    rw [hb] at e
    have e := HO.tup.inj (Option.some.inj e)
    obtain ⟨t, _, _, e2, _⟩ := h.net.arr (.int v) (by rw [e]; simp)
    cases e2
  have na : x.a ∉ as := fun z => by
    obtain ⟨v, w, e⟩ := h2 _ z
    rw [ha] at e
    have e := HO.tup.inj (Option.some.inj e)
    cases (List.cons.inj (List.cons.inj e).2).1
  have nab : x.a ≠ x.b := fun z => by
    rw [z, hb] at ha
    have e := HO.tup.inj (Option.some.inj ha)
    obtain ⟨t, _, _, e2, _⟩ := h.net.arr (.int g.m) (by rw [e]; simp)
    cases e2
  unfold netDn
  refine ⟨x.a :: ([] ++ ((x.b :: as) ++ [])), ?_⟩
  rw [Rep]
  refine ⟨x.a, _, [] ++ ((x.b :: as) ++ []), rfl, ha, repAll_cons rep_int (repAll_cons ?_ (by simp [RepAll])), ?_, rfl⟩
  · rw [Rep]
    exact ⟨x.b, _, as, rfl, hb, h1, nb, rfl⟩
  · simp only [List.nil_append, List.append_nil, List.mem_cons, not_or]
    exact ⟨nab, na⟩
theorem net_wt2 {H : Hp} {x : FiveA} {g : Five} (h : FiveAt H x g) : small (netDn g.m g.ars) ∧ wt (netDn g.m g.ars) ≤ 5000 ∧ dep (netDn g.m g.ars) ≤ 3 := by
  obtain ⟨m1, m2⟩ := h.m1
  obtain ⟨a1, a2, a3⟩ := arrs_wt (n := (g.m : Int)) (by omega) g.ars h.inn
  have la := h.ar.len
  have lb := h.net.len
  obtain ⟨_, i2, i3, _⟩ := int_ok (K := default) (H := fun _ => none) (i := (g.m : Int)) (w := 3) (k := 0) (by omega) (by decide) (by decide)
  unfold netDn
  refine ⟨?_, ?_, ?_⟩
  · simp only [small, smallAll] at i2 ⊢
    exact ⟨i2, a1, trivial⟩
  · simp only [wt, wtAll] at i3 ⊢
    omega
  · simp only [dep, depAll] at a3 ⊢
    omega
theorem FiveAt.sml {H : Hp} {x : FiveA} {g : Five} (h : FiveAt H x g) : Sml g.row ∧ g.row.length = g.m + 1 := ⟨Sml.perm h.pm (by have := h.m1; omega), by rw [h.pm.length_eq, rgI_len]⟩
theorem FiveAt.standR {K : PySem.W.Frag} {H : Hp} {x : FiveA} {g : Five} (h : FiveAt H x g) : Rep K H (pairD g.row g.s0) (.ref x.st) [x.st, x.rw'] ∧ wt (pairD g.row g.s0) ≤ 10000000 := by
  have m := h.m1
  obtain ⟨r1, r2, r3, r4⟩ := pairR (K := K) h.st h.rw' h.sml.1 (x := g.s0) ⟨h.s1, by have := h.s2; omega⟩
  have := h.sml.2
  exact ⟨r1, by omega⟩
theorem FiveAt.runR {K : PySem.W.Frag} {H : Hp} {x : FiveA} {g : Five} (h : FiveAt H x g) : Rep K H (.tup (g.run.map D.int)) (.ref x.ru) [x.ru] ∧ wt (.tup (g.run.map D.int)) ≤ 10000000 := by
  have m := h.m1
  obtain ⟨r1, r2, r3, r4⟩ := tupI (K := K) h.run.at' (.stops h.run.stops m.2)
  have := h.rlen
  exact ⟨r1, by omega⟩
theorem FiveAt.standA {H : Hp} {x : FiveA} {g : Five} (h : FiveAt H x g) : StandAt (g.m : Int) H x.st x.rw' g.row g.s0 := ⟨h.st, h.rw', by rw [h.sml.2]; omega, by have := h.m1; omega, by have := h.m1; omega⟩
abbrev sPlaced : Stmt := top 54
abbrev nPlaced : List Str := ["net", "run", "ring", "standing", "journey", "n", "begun", "found"]
theorem scPlaced : FnScope nPlaced ["net", "run", "ring", "standing", "journey"] (defScope sPlaced) := ⟨rfl, rfl, rfl, by decide +kernel, rfl, by decide +kernel, by decide +kernel⟩
section
variable (K : PySem.W.Frag) (H0 : Hp) (x : FiveA) (g : Five)
def JP0 : SH := fun σ H => ∃ bg, σ = [some (.ref x.a), some (.ref x.ru), some (.ref x.ri), some (.ref x.st), some (.ref x.jr), some (.int g.m), some (.ref bg), none] ∧ FiveAt H x g ∧ H bg = some (.tup [.ref x.rw', .int (begun g)]) ∧ Same H0 H
def JPF (ds : List D) : SH := fun σ H => ∃ bg L vs as, σ = [some (.ref x.a), some (.ref x.ru), some (.ref x.ri), some (.ref x.st), some (.ref x.jr), some (.int g.m), some (.ref bg), some (.ref L)] ∧ FiveAt H x g ∧ H bg = some (.tup [.ref x.rw', .int (begun g)]) ∧ Same H0 H ∧ H0 L = none ∧ H L = some (.lst vs) ∧ RepAll K H ds vs as ∧ vs.length ≤ 100
end
def placed1 (g : Five) : List D := [.non, .str (S (textL g.m g.ars)), netDn g.m g.ars, .non]
def placed2 (g : Five) : List D := [.int (numS g), pairD g.row g.s0, .non]
def placed3 (g : Five) (T : Nat) : List D := [pairD (ledI g.row g.run.dropLast) g.rl, .tup ((goesL g).map D.int), .int T, .non]
def placed4 (g : Five) : List D := [pairD (jDo g.m (g.row, begun g) g.ls).1 (jDo g.m (g.row, begun g) g.ls).2, .int (stepsF g.ls)]
theorem placed_is (g : Five) (T : Nat) : placedD g T = ((placed1 g ++ placed2 g) ++ placed3 g T) ++ placed4 g := rfl
section
variable {P : Program} {w : World} {K : PySem.W.Frag} {mg : Str → Option Value} {base : Heap} {C C' : Addr} {H0 : Hp} {x : FiveA} {g : Five}
theorem FiveAt.same {H H' : Hp} (h : FiveAt H x g) (s : Same H H') : FiveAt H' x g := h.keep (.of s)
/-- found = found + [..] -/
theorem found_more {ds es : List D} {σ : L2.St} {H : Hp} {D : Ends} {ta : TA} (h : JPF K H0 x g ds σ H) (hl : ds.length + es.length ≤ 100) (nx : ∀ σ' H', JPF K H0 x g (ds ++ es) σ' H' → D.nx σ' H')
    (ha : ∀ Q : List V → Hp → Prop, (∀ ys H1 bs, Same H H1 → RepAll K H1 es ys bs → Q ys H1) → ta σ H Q) : tAsg (tOp rCat (tVar 7) (tLst ta)) (gName 7) D σ H := by
  obtain ⟨bg, L, vs, as, rfl, F, hb, s0, n0, hL, r, lv⟩ := h
  refine ⟨_, rfl, ha _ fun ys H1 bs s1 r1 => ?_⟩
  have l1 := r.len
  have l2 := r1.len
  refine ⟨by rw [l2, sizeLine_eq]; omega, fun c nc => ?_⟩
  have sc := s1.trans (same_new (o := .lst ys) nc)
  refine ⟨L, c, vs, ys, rfl, rfl, sc _ _ hL, upd_same, by rw [l1, l2, sizeLine_eq]; omega, fun q nq => nx _ _ ?_⟩
  have sq := same_new (o := .lst (vs ++ ys)) nq
  have all := sc.trans sq
  refine ⟨bg, q, vs ++ ys, as ++ bs, rfl, F.same all, all _ _ hb, s0.trans all, (s0.trans sc).free nq, upd_same, repAll_cat (r.same all) (r1.same ((same_new nc).trans sq)), by rw [List.length_append, l1, l2]; exact hl⟩
def spPlaced (K : PySem.W.Frag) : Sp := fun vs H Q _ => ∃ (x : FiveA) (g : Five), vs = [.ref x.a, .ref x.ru, .ref x.ri, .ref x.st, .ref x.jr] ∧ FiveAt H x g ∧
  ∀ (r : Addr) (xs : List V) (as : List Addr) (T : Nat) (H' : Hp), Same H H' → H r = none → TurnG g T → T ≤ 6227020800 → H' r = some (.lst xs) → RepAll K H' (placedD g T) xs as → Q (.ref r) H'
end
end Sw
namespace Sw
open PySem PySem.Spec PyProof.Rows L2 SX
section
variable {P : Program} {w : World} {K : PySem.W.Frag} {mg : Str → Option Value} {base : Heap} {C C' : Addr} {f : Addr} {cdv : Value} {A : Around} {outer : List Env} {s : Shared} {Hz : Hp} {E : XK} {H0 : Hp} {x : FiveA} {g : Five}
def stP (i : Nat) : Stmt := (defBody sPlaced).getD i (.Pass ⟨0, 0, 0, 0⟩)
/-! ### the readings of the calls, whichever way the arguments came -/
section
variable {H : Hp} {Q : VK}
theorem k_nerr (F : FiveAt H x g) (q : ∀ H', Same H H' → Q .non H') : spError K [.ref x.a] H Q E0 := by
  obtain ⟨as, r⟩ := F.netR (K := K)
  have m := F.m1
  refine ⟨.ref x.a, netDn g.m g.ars, as, rfl, r, by have := (net_wt2 F).2.1; omega, fun r v bs H1 er s1 rv _ _ _ _ => ?_⟩
  have e := er.det (net_fine (n := (g.m : Int)) (by omega) (by omega) F.inn F.nol F.asc)
  subst e
  simp only [Rep] at rv
  rw [rv.1]
  exact q H1 s1
theorem k_ntxt (F : FiveAt H x g) (q : ∀ H', Same H H' → Q (.str (S (textL g.m g.ars))) H') : spNetText [.ref x.a] H Q E0 :=
  ⟨x.a, x.b, (g.m : Int), x.ts, g.ars, rfl, F.net, F.ar, q⟩
theorem k_read (F : FiveAt H x g) (q : ∀ H' r bs, Same H H' → Rep K H' (netDn g.m g.ars) (.ref r) bs → Q (.ref r) H') : spReadNet K C [.str (S (textL g.m g.ars))] H Q E0 := by
  have m := F.m1
  have gd := net_reads (n := (g.m : Int)) (ars := g.ars) (by omega) (by omega) F.inn F.nol F.asc
  have tl := textL_len F.net F.ar
  refine ⟨_, .str (S (textL g.m g.ars)), [], rfl, rep_str, fun l e => ?_, fun hb H' s => hb _ _ rfl gd, fun l dd e gd2 r bs H' s rp => ?_⟩
  · obtain rfl := S_inj (Sw.D.str.inj e)
    omega
  · obtain rfl := S_inj (Sw.D.str.inj e)
    have ed := Option.some.inj (gd.1.symm.trans gd2.1)
    rw [← ed] at rp
    exact q H' r bs s rp
theorem k_serr (F : FiveAt H x g) (q : ∀ H', Same H H' → Q .non H') : spSt K [.int g.m, .ref x.st] H Q E0 := by
  have m := F.m1
  obtain ⟨r, wr⟩ := F.standR (K := K)
  refine ⟨(g.m : Int), .ref x.st, _, _, rfl, r, wr, by omega, by omega, fun r v bs H1 er s1 rv _ _ _ => ?_⟩
  have e := er.det (stand_fine F.pm F.s1 F.s2)
  subst e
  simp only [Rep] at rv
  rw [rv.1]
  exact q H1 s1
theorem k_snum (F : FiveAt H x g) (q : ∀ H', Same H H' → Q (.int (numS g)) H') : spStNum [.int g.m, .ref x.st] H Q E0 :=
  ⟨(g.m : Int), g.s0, x.st, x.rw', g.row, rfl, F.standA, q⟩
theorem k_sat (F : FiveAt H x g) (q : ∀ H' r bs, Same H H' → Rep K H' (pairD g.row g.s0) (.ref r) bs → Q (.ref r) H') : spStAt K C' [.int g.m, .int (numS g)] H Q E0 := by
  have m := F.m1
  obtain ⟨n0, n1, n2, n3⟩ := F.num
  refine ⟨(g.m : Int), .int (numS g), .int (numS g), [], rfl, rep_int, by omega, by omega, fun hw H' s => ?_, fun num e h0 h1 a b H' s S => ?_⟩
  · rw [wholeI n0 (by omega)] at hw
    cases hw
  · obtain rfl := Sw.D.int.inj e
    rw [n2, n3] at S
    exact q H' a _ s (pairR S.a S.b F.sml.1 ⟨F.s1, by have := F.s2; omega⟩).1
theorem k_rerr (F : FiveAt H x g) (q : ∀ H', Same H H' → Q .non H') : spRun K [.ref x.a, .ref x.ru] H Q E0 := by
  obtain ⟨r, wr⟩ := F.runR (K := K)
  refine ⟨x.a, x.b, (g.m : Int), x.ts, g.ars, .ref x.ru, _, _, rfl, F.net, F.ar, r, wr, fun r v bs H1 er s1 rv _ _ _ => ?_⟩
  have e := er.det (run_fine F.rok)
  subst e
  simp only [Rep] at rv
  rw [rv.1]
  exact q H1 s1
theorem k_done (F : FiveAt H x g) {t : Addr} {v : V} (ht : H t = some (.tup [.ref x.rw', v])) (q : ∀ H' r bs, Same H H' → Rep K H' (pairD (ledI g.row g.run.dropLast) g.rl) (.ref r) bs → Q (.ref r) H') : spDone false [.ref t, .ref x.ru] H Q E0 := by
  have m := F.m1
  refine ⟨t, x.rw', x.ru, v, g.row, g.run, g.rl, g.m, rfl, ht, F.rw', F.run, F.sml.2, m.2, fun a b H' s na nb ha hb => ?_⟩
  obtain ⟨ob, hb, ho⟩ := hb
  have ho : ob = .tup ((ledI g.row g.run.dropLast).map V.int) := ho
  subst ho
  have rl := F.run.stops g.rl (List.mem_of_getLast? F.run.last)
  exact q H' a _ s (pairR ha hb (Sml.perm F.led (by omega)) ⟨rl.1, by omega⟩).1
theorem k_goes (F : FiveAt H x g) (q : ∀ H' r bs, Same H H' → Rep K H' (.tup ((goesL g).map D.int)) (.ref r) bs → Q (.ref r) H') : spGoes [.int g.m, .ref x.ru] H Q E0 := by
  have m := F.m1
  exact ⟨x.ru, g.run, g.rl, g.m, rfl, F.run, m.2, fun a H' s na ha => q H' a _ s (tupI (os := goesL g) ha (Sml.perm F.goes (by omega))).1⟩
theorem k_turns (F : FiveAt H x g) (q : ∀ (T : Nat) H', Same H H' → TurnG g T → T ≤ 6227020800 → Q (.int T) H') : spTurns [.int g.m, .ref x.ri] H Q E0 :=
  ⟨x.ri, g.ring, g.gl, g.m, rfl, F.ring, F.m1.2, q⟩
theorem k_jerr (F : FiveAt H x g) (q : ∀ H', Same H H' → Q .non H') : spJn K [.ref x.a, .ref x.jr] H Q E0 := by
  have m := F.m1
  obtain ⟨as, r1, r2, r3, r4⟩ := jR (K := K) F.j F.legs.isIn m.2
  have ll := F.llen
  have wl := wJ_le (ls := g.ls) fun l hl => (F.legs.leg l hl).2
  refine ⟨x.a, x.b, (g.m : Int), x.ts, g.ars, .ref x.jr, _, _, rfl, F.net, F.ar, r1, by omega, fun r v bs H1 er s1 rv _ _ _ => ?_⟩
  have e := er.det (journey_fine F.legs F.meets (by omega))
  subst e
  simp only [Rep] at rv
  rw [rv.1]
  exact q H1 s1
theorem k_jdone (F : FiveAt H x g) {bg : Addr} (hb : H bg = some (.tup [.ref x.rw', .int (begun g)])) (q : ∀ H' r bs, Same H H' → Rep K H' (pairD (jDo g.m (g.row, begun g) g.ls).1 (jDo g.m (g.row, begun g) g.ls).2) (.ref r) bs → Q (.ref r) H') : spJDone [.ref bg, .ref x.jr] H Q E0 := by
  have m := F.m1
  refine ⟨bg, x.rw', x.jr, begun g, g.row, x.xs, g.ls, g.m, rfl, hb, F.rw', F.j, F.legs.isIn, F.sml.2, m.2, fun a b H' s ha hb => ?_⟩
  have jp := jDo_perm (s := (g.row, begun g)) F.legsG F.pm
  have js := jDo_stop (s := (g.row, begun g)) F.legsG F.begun_in
  exact q H' a _ s (pairR ha hb (Sml.perm jp (by omega)) ⟨js.1, by have := js.2; omega⟩).1
theorem k_steps (F : FiveAt H x g) (q : ∀ H', Same H H' → Q (.int (stepsF g.ls)) H') : spSteps [.ref x.jr] H Q E0 :=
  ⟨x.jr, x.xs, g.ls, g.m, rfl, F.j, F.legs.isIn, by rw [F.legs.isIn.len]; have := F.llen; omega, q⟩
end
/-- what stands while the thirteen are asked -/
def JPB (x : FiveA) (g : Five) : SH := fun σ H => ∃ bg r7, σ = [some (.ref x.a), some (.ref x.ru), some (.ref x.ri), some (.ref x.st), some (.ref x.jr), some (.int g.m), some (.ref bg), r7] ∧ FiveAt H x g ∧ H bg = some (.tup [.ref x.rw', .int (begun g)])
theorem JPB.mono : SMono (JPB x g) := by
  rintro σ H H' ⟨bg, r7, e, F, hb⟩ s
  exact ⟨bg, r7, e, F.same s, s _ _ hb⟩
def tR (K : PySem.W.Frag) (S : SH) (P : D → Prop) : TE := fun σ H Q => S σ H ∧ ∀ (d : D) (v : V) (as : List Addr) (H' : Hp), P d → Rep K H' d v as → Same H H' → Q v H'
def tRs (K : PySem.W.Frag) (S : SH) (P : List D → Prop) : TA := fun σ H Q => S σ H ∧ ∀ (ds : List D) (vs : List V) (as : List Addr) (H' : Hp), P ds → RepAll K H' ds vs as → Same H H' → Q vs H'
def PCons (P : D → Prop) (PL : List D → Prop) : List D → Prop := fun l => ∃ d ds, l = d :: ds ∧ P d ∧ PL ds
abbrev PIs (d : D) : D → Prop := fun e => e = d
abbrev PNil : List D → Prop := fun l => l = []
section
variable {X : Cx} {S' : SH} {e : Expr} {es : List Expr} {Pd : D → Prop} {PL : List D → Prop}
theorem r_of {t : TE} (h : PE X e t) (ht : ∀ σ H Q, S' σ H → (∀ (d : D) (v : V) (as : List Addr) (H' : Hp), Pd d → Rep X.K H' d v as → Same H H' → Q v H') → t σ H Q) : PE X e (tR X.K S' Pd) := pe_weak h fun σ H Q q => ht σ H Q q.1 q.2
theorem rs_nil : PA X [] (tRs X.K S' PNil) := pa_weak pa_nil fun σ H Q q => q.2 [] [] [] H rfl (by simp [RepAll]) (Same.refl H)
theorem rs_cons (hS : SMono S') (ha : PE X e (tR X.K S' Pd)) (hr : PA X es (tRs X.K S' PL)) (hs : starEach (e :: es) X.env = (false, eval e X.env) :: starEach es X.env := by rfl) : PA X (e :: es) (tRs X.K S' (PCons Pd PL)) :=
  pa_weak (pa_cons ha hr hs) fun σ H Q q => ⟨q.1, fun d v as H1 p1 r1 s1 => ⟨hS _ _ _ q.1 s1, fun ds vs bs H2 p2 r2 s2 => q.2 (d :: ds) (v :: vs) (as ++ bs) H2 ⟨d, ds, rfl, p1, p2⟩ (repAll_cons (r1.same s2) r2) (s1.trans s2)⟩⟩
end
section
variable {X : Cx} {e : Expr}
theorem r_nerr (h : PE X e (tCall (spError X.K) [] E0 (tCons (tVar 0) tNil))) : PE X e (tR X.K (JPB x g) (PIs .non)) := r_of h fun σ H Q ⟨bg, r7, es, F, hb⟩ q => by
  subst es
  exact ⟨_, rfl, k_nerr F fun H' s' => q _ _ _ H' rfl rep_non s'⟩
theorem r_ntxt (h : PE X e (tCall spNetText [] E0 (tCons (tVar 0) tNil))) : PE X e (tR X.K (JPB x g) (PIs (.str (S (textL g.m g.ars))))) := r_of h fun σ H Q ⟨bg, r7, es, F, hb⟩ q => by
  subst es
  exact ⟨_, rfl, k_ntxt F fun H' s' => q _ _ _ H' rfl rep_str s'⟩
theorem r_read (h : PE X e (tCall (spReadNet X.K C) [] E0 (tCons (tCall spNetText [] E0 (tCons (tVar 0) tNil)) tNil))) : PE X e (tR X.K (JPB x g) (PIs (netDn g.m g.ars))) := r_of h fun σ H Q ⟨bg, r7, es, F, hb⟩ q => by
  subst es
  exact ⟨_, rfl, k_ntxt (Q := fun v H1 => spReadNet X.K C [v] H1 Q E0) F fun H1 s1 => k_read (F.same s1) fun H' r bs s2 rp => q _ _ _ H' rfl rp (s1.trans s2)⟩
theorem r_serr (h : PE X e (tCall (spSt X.K) [] E0 (tCons (tVar 5) (tCons (tVar 3) tNil)))) : PE X e (tR X.K (JPB x g) (PIs .non)) := r_of h fun σ H Q ⟨bg, r7, es, F, hb⟩ q => by
  subst es
  exact ⟨_, rfl, _, rfl, k_serr F fun H' s' => q _ _ _ H' rfl rep_non s'⟩
theorem r_snum (h : PE X e (tCall spStNum [] E0 (tCons (tVar 5) (tCons (tVar 3) tNil)))) : PE X e (tR X.K (JPB x g) (PIs (.int (numS g)))) := r_of h fun σ H Q ⟨bg, r7, es, F, hb⟩ q => by
  subst es
  exact ⟨_, rfl, _, rfl, k_snum F fun H' s' => q _ _ _ H' rfl rep_int s'⟩
theorem r_sat (h : PE X e (tCall (spStAt X.K C') [] E0 (tCons (tVar 5) (tCons (tCall spStNum [] E0 (tCons (tVar 5) (tCons (tVar 3) tNil))) tNil)))) : PE X e (tR X.K (JPB x g) (PIs (pairD g.row g.s0))) := r_of h fun σ H Q ⟨bg, r7, es, F, hb⟩ q => by
  subst es
  exact ⟨_, rfl, _, rfl, _, rfl, k_snum (Q := fun v H1 => spStAt X.K C' [.int g.m, v] H1 Q E0) F fun H1 s1 => k_sat (F.same s1) fun H' r bs s2 rp => q _ _ _ H' rfl rp (s1.trans s2)⟩
theorem r_rerr (h : PE X e (tCall (spRun X.K) [] E0 (tCons (tVar 0) (tCons (tVar 1) tNil)))) : PE X e (tR X.K (JPB x g) (PIs .non)) := r_of h fun σ H Q ⟨bg, r7, es, F, hb⟩ q => by
  subst es
  exact ⟨_, rfl, _, rfl, k_rerr F fun H' s' => q _ _ _ H' rfl rep_non s'⟩
theorem r_goes (h : PE X e (tCall spGoes [] E0 (tCons (tVar 5) (tCons (tVar 1) tNil)))) : PE X e (tR X.K (JPB x g) (PIs (.tup ((goesL g).map D.int)))) := r_of h fun σ H Q ⟨bg, r7, es, F, hb⟩ q => by
  subst es
  exact ⟨_, rfl, _, rfl, k_goes F fun H' r bs s' rp => q _ _ _ H' rfl rp s'⟩
/-- turns told -/
def PTurn (g : Five) : D → Prop := fun d => ∃ T : Nat, TurnG g T ∧ T ≤ 6227020800 ∧ d = .int T
theorem r_turns (h : PE X e (tCall spTurns [] E0 (tCons (tVar 5) (tCons (tVar 2) tNil)))) : PE X e (tR X.K (JPB x g) (PTurn g)) := r_of h fun σ H Q ⟨bg, r7, es, F, hb⟩ q => by
  subst es
  exact ⟨_, rfl, _, rfl, k_turns F fun T H' s' IT le => q _ _ _ H' ⟨T, IT, le, rfl⟩ rep_int s'⟩
theorem r_jerr (h : PE X e (tCall (spJn X.K) [] E0 (tCons (tVar 0) (tCons (tVar 4) tNil)))) : PE X e (tR X.K (JPB x g) (PIs .non)) := r_of h fun σ H Q ⟨bg, r7, es, F, hb⟩ q => by
  subst es
  exact ⟨_, rfl, _, rfl, k_jerr F fun H' s' => q _ _ _ H' rfl rep_non s'⟩
theorem r_jdone (h : PE X e (tCall spJDone [] E0 (tCons (tVar 6) (tCons (tVar 4) tNil)))) : PE X e (tR X.K (JPB x g) (PIs (pairD (jDo g.m (g.row, begun g) g.ls).1 (jDo g.m (g.row, begun g) g.ls).2))) := r_of h fun σ H Q ⟨bg, r7, es, F, hb⟩ q => by
  subst es
  exact ⟨_, rfl, _, rfl, k_jdone F hb fun H' r bs s' rp => q _ _ _ H' rfl rp s'⟩
theorem r_steps (h : PE X e (tCall spSteps [] E0 (tCons (tVar 4) tNil))) : PE X e (tR X.K (JPB x g) (PIs (.int (stepsF g.ls)))) := r_of h fun σ H Q ⟨bg, r7, es, F, hb⟩ q => by
  subst es
  exact ⟨_, rfl, k_steps F fun H' s' => q _ _ _ H' rfl rep_int s'⟩
theorem pair_head {H : Hp} {Q : VK} (F : FiveAt H x g) : ∃ o0, g.run[0]? = some o0 := ⟨_, List.getElem?_eq_getElem (List.length_pos_iff.mpr F.run.ne)⟩
theorem r_done (h : PE X e (tCall (spDone false) [] E0 (tCons (tTup (tCons (tOp (rIxT X.K) (tVar 3) (tC (.int 0))) (tCons (tOp (rIxT X.K) (tVar 1) (tC (.int 0))) tNil))) (tCons (tVar 1) tNil)))) : PE X e (tR X.K (JPB x g) (PIs (pairD (ledI g.row g.run.dropLast) g.rl))) := r_of h fun σ H Q ⟨bg, r7, es, F, hb⟩ q => by
  subst es
  obtain ⟨o0, h0⟩ := pair_head (Q := Q) F
  refine ⟨_, rfl, x.st, _, 0, .ref x.rw', rfl, rfl, SqT.of F.st, at_of (j := 0) rfl rfl, _, rfl, x.ru, _, 0, .int o0, rfl, rfl, SqT.of F.run.at', at_of (j := 0) rfl (by rw [List.getElem?_map, h0]; rfl), by show 2 ≤ sizeLine; decide, fun t nt => ?_⟩
  have st := same_new (o := .tup [.ref x.rw', .int o0]) nt
  exact ⟨_, rfl, k_done (F.same st) upd_same fun H' r bs s' rp => q _ _ _ H' rfl rp (st.trans s')⟩
end
/-- found = found + [..] -/
def JPX (K : PySem.W.Frag) (H0 : Hp) (x : FiveA) (g : Five) (PL : List D → Prop) : SH := fun σ H => ∃ ds, PL ds ∧ JPF K H0 x g ds σ H
def PCat (P1 P2 : List D → Prop) : List D → Prop := fun l => ∃ a b, l = a ++ b ∧ P1 a ∧ P2 b
theorem JPF.jpb {ds : List D} {σ : L2.St} {H : Hp} (h : JPF K H0 x g ds σ H) : JPB x g σ H := by
  obtain ⟨bg, L, vs, as, e, F, hb, _⟩ := h
  exact ⟨bg, _, e, F, hb⟩
theorem found_next {P1 P2 : List D → Prop} (h1 : ∀ ds, P1 ds → ds.length ≤ 20) (h2 : ∀ ds, P2 ds → ds.length ≤ 20) : ∀ (D : Ends) (σ : L2.St) (H : Hp), JPX K H0 x g P1 σ H → (∀ σ' H', JPX K H0 x g (PCat P1 P2) σ' H' → D.nx σ' H') → tAsg (tOp rCat (tVar 7) (tLst (tRs K (JPB x g) P2))) (gName 7) D σ H := by
  rintro D σ H ⟨ds, p1, h⟩ nx
  have jb := h.jpb
  obtain ⟨bg, L, vs, as, rfl, F, hb, s0, n0, hL, r, lv⟩ := h
  refine ⟨_, rfl, jb, fun es ys bs H1 p2 r1 s1 => ?_⟩
  have l1 := r.len
  have l2 := r1.len
  have := h1 _ p1
  have := h2 _ p2
  refine ⟨by rw [l2, sizeLine_eq]; omega, fun c nc => ?_⟩
  have sc := s1.trans (same_new (o := .lst ys) nc)
  refine ⟨L, c, vs, ys, rfl, rfl, sc _ _ hL, upd_same, by rw [l1, l2, sizeLine_eq]; omega, fun q nq => nx _ _ ⟨ds ++ es, ⟨ds, es, rfl, p1, p2⟩, ?_⟩⟩
  have sq := same_new (o := .lst (vs ++ ys)) nq
  have all := sc.trans sq
  exact ⟨bg, q, vs ++ ys, as ++ bs, rfl, F.same all, all _ _ hb, s0.trans all, (s0.trans sc).free nq, upd_same, repAll_cat (r.same all) (r1.same ((same_new nc).trans sq)), by rw [List.length_append, l1, l2]; omega⟩
end
end Sw
namespace Sw
open PySem PySem.Spec PyProof.Rows L2 SX
theorem pn_len : ∀ ds, PNil ds → ds.length = 0 := fun _ h => by rw [h]; rfl
theorem pc_len {P : D → Prop} {PL : List D → Prop} {n : Nat} (h : ∀ ds, PL ds → ds.length = n) : ∀ ds, PCons P PL ds → ds.length = n + 1 := by
  rintro _ ⟨d, ds, rfl, _, h2⟩
  rw [List.length_cons, h ds h2]
theorem pa_len {P1 P2 : List D → Prop} {n m : Nat} (h1 : ∀ ds, P1 ds → ds.length = n) (h2 : ∀ ds, P2 ds → ds.length = m) : ∀ ds, PCat P1 P2 ds → ds.length = n + m := by
  rintro _ ⟨a, b, rfl, p1, p2⟩
  rw [List.length_append, h1 a p1, h2 b p2]
theorem pl_le {P : List D → Prop} {n : Nat} (h : ∀ ds, P ds → ds.length = n) (hn : n ≤ 20 := by decide) : ∀ ds, P ds → ds.length ≤ 20 := fun ds p => by
  rw [h ds p]
  exact hn
def pl1 (g : Five) : List D → Prop := PCons (PIs .non) (PCons (PIs (.str (S (textL g.m g.ars)))) (PCons (PIs (netDn g.m g.ars)) (PCons (PIs .non) PNil)))
def pl2 (g : Five) : List D → Prop := PCons (PIs (.int (numS g))) (PCons (PIs (pairD g.row g.s0)) (PCons (PIs .non) PNil))
def pl3 (g : Five) : List D → Prop := PCons (PIs (pairD (ledI g.row g.run.dropLast) g.rl)) (PCons (PIs (.tup ((goesL g).map D.int))) (PCons (PTurn g) (PCons (PIs .non) PNil)))
def pl4 (g : Five) : List D → Prop := PCons (PIs (pairD (jDo g.m (g.row, begun g) g.ls).1 (jDo g.m (g.row, begun g) g.ls).2)) (PCons (PIs (.int (stepsF g.ls))) PNil)
theorem pl1_len (g : Five) : ∀ ds, pl1 g ds → ds.length = 4 := pc_len (pc_len (pc_len (pc_len pn_len)))
theorem pl2_len (g : Five) : ∀ ds, pl2 g ds → ds.length = 3 := pc_len (pc_len (pc_len pn_len))
theorem pl3_len (g : Five) : ∀ ds, pl3 g ds → ds.length = 4 := pc_len (pc_len (pc_len (pc_len pn_len)))
theorem pl4_len (g : Five) : ∀ ds, pl4 g ds → ds.length = 2 := pc_len (pc_len pn_len)
theorem pl_all {g : Five} {ds : List D} (h : PCat (PCat (PCat (pl1 g) (pl2 g)) (pl3 g)) (pl4 g) ds) : ∃ T, TurnG g T ∧ T ≤ 6227020800 ∧ ds = placedD g T := by
  obtain ⟨_, _, rfl, ⟨_, _, rfl, ⟨_, _, rfl, h1, h2⟩, h3⟩, h4⟩ := h
  obtain ⟨_, _, rfl, rfl, _, _, rfl, rfl, _, _, rfl, rfl, _, _, rfl, rfl, rfl⟩ := h1
  obtain ⟨_, _, rfl, rfl, _, _, rfl, rfl, _, _, rfl, rfl, rfl⟩ := h2
  obtain ⟨_, _, rfl, rfl, _, _, rfl, rfl, _, _, rfl, ⟨T, IT, le, rfl⟩, _, _, rfl, rfl, rfl⟩ := h3
  obtain ⟨_, _, rfl, rfl, _, _, rfl, rfl, rfl⟩ := h4
  exact ⟨T, IT, le, rfl⟩
section
variable {P : Program} {w : World} {K : PySem.W.Frag} {mg : Str → Option Value} {base : Heap} {C C' : Addr}
/-- the first statement of both defs: n, begun -/
def tBeg (K : PySem.W.Frag) : TS := tPar 5 6 (tCons (tOp (rIxT K) (tVar 0) (tC (.int 0))) (tCons (tTup (tCons (tOp (rIxT K) (tVar 3) (tC (.int 0))) (tCons (tIf (tTest (tOp (rNeD K) (tVar 4) (tTup tNil))) (tOp (rIxT K) (tOp (rIxT K) (tOp (rIxT K) (tVar 4) (tC (.int 0))) (tC (.int 0))) (tC (.int 0))) (tOp (rIxT K) (tVar 3) (tC (.int 1)))) tNil))) tNil))
def JQ0 (H0 : Hp) (x : FiveA) (g : Five) : SH := fun σ H => (∃ bg, σ = [some (.ref x.a), some (.ref x.ru), some (.ref x.ri), some (.ref x.st), some (.ref x.jr), some (.int g.m), some (.ref bg), none] ∧ FiveAt H x g ∧ H bg = some (.tup [.ref x.rw', .int (begun g)])) ∧ Same H0 H
theorem beg_read {x : FiveA} {g : Five} {H0 : Hp} {D : Ends} (F : FiveAt H0 x g) (nx : ∀ σ' H', JQ0 H0 x g σ' H' → D.nx σ' H') : tBeg K D [some (.ref x.a), some (.ref x.ru), some (.ref x.ri), some (.ref x.st), some (.ref x.jr), none, none, none] H0 := by
  refine ⟨_, rfl, x.a, _, 0, .int g.m, rfl, rfl, SqT.of F.net.a, at_of (j := 0) rfl rfl, _, rfl, x.st, _, 0, .ref x.rw', rfl, rfl, SqT.of F.st, at_of (j := 0) rfl rfl, _, rfl, by show 0 ≤ sizeLine; exact Nat.zero_le _, fun z nz => ?_⟩
  have sz : Same H0 (upd H0 z (.tup [])) := same_new nz
  have hz : (upd H0 z (.tup [])) z = some (.tup []) := upd_same
  have F := F.same sz
  generalize (upd H0 z (.tup [])) = H1 at F hz sz ⊢
  refine ⟨.tuple (g.ls.map lgP), .tuple [], .tup (SqT.of F.j) (dpLegs F.legs.isIn), .tup (SqT.of hz) .nil, shp_legs _, shp_nil, _, rfl, ?_⟩
  rw [legs_nil]
  have fin : ∀ v : Int, v = begun g → (2 ≤ sizeLine ∧ ∀ q, H1 q = none → ∃ v0 w0, [V.int g.m, V.ref q] = [v0, w0] ∧ D.nx ((([some (.ref x.a), some (.ref x.ru), some (.ref x.ri), some (.ref x.st), some (.ref x.jr), none, none, none] : L2.St).set 5 (some v0)).set 6 (some w0)) (upd H1 q (.tup [.ref x.rw', .int v]))) := fun v ev => by
    subst ev
    refine ⟨by decide, fun q nq => ⟨_, _, rfl, nx _ _ ⟨⟨q, rfl, F.same (same_new nq), upd_same⟩, sz.trans (same_new nq)⟩⟩⟩
  refine ite2 (fun y => ?_) (fun y => ?_)
  · have y : g.ls ≠ [] := by
      intro q
      rw [decide_eq_true q] at y
      cases y
    obtain ⟨l, ls', el⟩ : ∃ l ls', g.ls = l :: ls' := by
      cases h : g.ls with
      | nil => exact absurd h y
      | cons l r => exact ⟨l, r, rfl⟩
    have LI := F.legs.isIn
    have lx := LI.len
    obtain ⟨v0, ex⟩ : ∃ v0, x.xs[0]? = some v0 := by
      rw [List.getElem?_eq_getElem (by rw [lx, el]; simp)]
      exact ⟨_, rfl⟩
    obtain ⟨l2, e2, q, ru, last, rfl, hq, R, t1, t2, t3⟩ := LI.at ex
    obtain ⟨o0, h0⟩ : ∃ o0, l2.1[0]? = some o0 := ⟨_, List.getElem?_eq_getElem (List.length_pos_iff.mpr R.ne)⟩
    rw [el] at e2
    obtain rfl : l = l2 := Option.some.inj e2
    have eb : o0 = begun g := by
      unfold begun
      rw [el]
      show o0 = l.1.headD 0
      cases e3 : l.1 with
      | nil => rw [e3] at h0; cases h0
      | cons a r => rw [e3] at h0; exact (Option.some.inj h0).symm
    exact ⟨_, rfl, x.jr, _, 0, .ref q, rfl, rfl, SqT.of F.j, at_of (j := 0) rfl ex, q, _, 0, .ref ru, rfl, rfl, SqT.of hq, at_of (j := 0) rfl rfl, ru, _, 0, .int o0, rfl, rfl, SqT.of R.at', at_of (j := 0) rfl (by rw [List.getElem?_map, h0]; rfl), fin o0 eb⟩
  · have y : g.ls = [] := Classical.byContradiction fun q => y (by
      rw [decide_eq_false q]
      rfl)
    have eb : g.s0 = begun g := by
      unfold begun
      rw [y]
    exact ⟨_, rfl, x.st, _, 1, .int g.s0, rfl, rfl, SqT.of F.st, at_of (j := 1) rfl rfl, fin g.s0 eb⟩
theorem found_first {x : FiveA} {g : Five} {H0 : Hp} {P1 : List D → Prop} (h1 : ∀ ds, P1 ds → ds.length ≤ 20) : ∀ (D : Ends) (σ : L2.St) (H : Hp), JQ0 H0 x g σ H → (∀ σ' H', JPX K H0 x g P1 σ' H' → D.nx σ' H') → tAsg (tLst (tRs K (JPB x g) P1)) (gName 7) D σ H := by
  rintro D σ H ⟨⟨bg, rfl, F, hb⟩, s0⟩ nx
  refine ⟨⟨bg, none, rfl, F, hb⟩, fun ds vs as H1 p1 r1 s1 => ?_⟩
  have l1 := r1.len
  have := h1 _ p1
  refine ⟨by rw [l1, sizeLine_eq]; omega, fun L nL => nx _ _ ⟨ds, p1, ?_⟩⟩
  have sL := same_new (o := .lst vs) nL
  exact ⟨bg, L, vs, as, rfl, F.same (s1.trans sL), (s1.trans sL) _ _ hb, s0.trans (s1.trans sL), (s0.trans s1).free nL, upd_same, r1.same sL, by rw [l1]; omega⟩
theorem ok_placed {f : Addr} {fd : FuncData} (F : Fun K "_law_placed" "_law_placed" sPlaced f fd) (O : OwnsP P w K mg base C C') : FnOk P w K mg base CX0 6 f fd ["net", "run", "ring", "standing", "journey"] (spPlaced K) := by
  obtain ⟨f1, d1, G1, m1, k1, b1, w1⟩ := O.nerr.ex
  obtain ⟨f2, d2, G2, m2, k2, b2, w2⟩ := O.ntxt.ex
  obtain ⟨f3, d3, G3, m3, k3, b3, w3⟩ := O.read.ex
  obtain ⟨f4, d4, G4, m4, k4, b4, w4⟩ := O.serr.ex
  obtain ⟨f5, d5, G5, m5, k5, b5, w5⟩ := O.snum.ex
  obtain ⟨f6, d6, G6, m6, k6, b6, w6⟩ := O.sat.ex
  obtain ⟨f7, d7, G7, m7, k7, b7, w7⟩ := O.rerr.ex
  obtain ⟨f8, d8, G8, m8, k8, b8, w8⟩ := O.done.ex
  obtain ⟨f9, d9, G9, m9, k9, b9, w9⟩ := O.goes.ex
  obtain ⟨fa, da, Ga, ma, ka, ba, wa⟩ := O.turns.ex
  obtain ⟨fb, db, Gb, mb, kb, bb, wb⟩ := O.jerr.ex
  obtain ⟨fc, dc, Gc, mc, kc, bc, wc⟩ := O.jdone.ex
  obtain ⟨fe, de, Ge, me, ke, be, we⟩ := O.steps.ex
  refine F.ok scPlaced (fun vs H Q E h => ?_) (fun cdv A outer s H vs Q E hr h => ?_)
  · obtain ⟨x, g, rfl, _⟩ := h
    rfl
  · obtain ⟨x, g, rfl, F5, k⟩ := h
    have hr1 : Room 1 _ := hr.mono (by decide)
    have hr2 : Room 2 _ := hr.mono (by decide)
    have hr3 : Room 3 _ := hr.mono (by decide)
    have hr4 : Room 4 _ := hr.mono (by decide)
    have M := JPB.mono (x := x) (g := g)
    refine ⟨_, pss_cons (ps_par (i := 5) (j := 6) rfl scPlaced.nd rfl rfl (by decide) rfl rfl (pa_cons (pe_ix ix_tup (pv 0) pe_int (fun _ _ => rfl)) (pa_cons (pe_tup (pa_cons (pe_ix ix_tup (pv 3) pe_int (fun _ _ => rfl)) (pa_cons (pe_ifExp (pt_cmpR (op_neD hr.units) (pv 4) (pe_tup pa_nil) (nomark _)) (pe_ix ix_tup (pe_ix ix_tup (pe_ix ix_tup (pv 4) pe_int (fun _ _ => rfl)) pe_int (fun _ _ => rfl)) pe_int (fun _ _ => rfl)) (pe_ix ix_tup (pv 3) pe_int (fun _ _ => rfl))) pa_nil))) pa_nil)) (by rfl)) <|
      pss_cons (ps_cut (J := JQ0 H x g) (J' := JPX K H x g (pl1 g)) (ps_set (i := 7) scPlaced.nd rfl (.inl rfl) (pe_lst (rs_cons M (r_nerr (pe_call G1 hr4 rfl m1 k1 b1 .nil pass0 (pa_cons (pv 0) pa_nil))) <| rs_cons M (r_ntxt (pe_call G2 hr1 rfl m2 k2 b2 .nil pass0 (pa_cons (pv 0) pa_nil))) <|
        rs_cons M (r_read (pe_call G3 hr rfl m3 k3 b3 .nil passN (pa_cons (pe_call G2 hr1 rfl m2 k2 b2 .nil pass0 (pa_cons (pv 0) pa_nil)) pa_nil))) <| rs_cons M (r_serr (pe_call G4 hr3 rfl m4 k4 b4 .nil pass0 (pa_cons (pv 5) (pa_cons (pv 3) pa_nil)))) rs_nil))) (found_first (pl_le (pl1_len g)))) <|
      pss_cons (ps_cut (J := JPX K H x g (pl1 g)) (J' := JPX K H x g (PCat (pl1 g) (pl2 g))) (ps_set (i := 7) scPlaced.nd rfl (.inl rfl) (pe_op op_cat (pv 7) (pe_lst (rs_cons M (r_snum (pe_call G5 hr2 rfl m5 k5 b5 .nil pass0 (pa_cons (pv 5) (pa_cons (pv 3) pa_nil)))) <|
        rs_cons M (r_sat (pe_call G6 hr2 rfl m6 k6 b6 .nil passN (pa_cons (pv 5) (pa_cons (pe_call G5 hr2 rfl m5 k5 b5 .nil pass0 (pa_cons (pv 5) (pa_cons (pv 3) pa_nil))) pa_nil)))) <| rs_cons M (r_rerr (pe_call G7 hr3 rfl m7 k7 b7 .nil pass0 (pa_cons (pv 0) (pa_cons (pv 1) pa_nil)))) rs_nil)))) (found_next (pl_le (pl1_len g)) (pl_le (pl2_len g)))) <|
      pss_cons (ps_cut (J := JPX K H x g (PCat (pl1 g) (pl2 g))) (J' := JPX K H x g (PCat (PCat (pl1 g) (pl2 g)) (pl3 g))) (ps_set (i := 7) scPlaced.nd rfl (.inl rfl) (pe_op op_cat (pv 7) (pe_lst
        (rs_cons M (r_done (pe_call G8 hr1 rfl m8 k8 b8 .nil pass0 (pa_cons (pe_tup (pa_cons (pe_ix ix_tup (pv 3) pe_int (fun _ _ => rfl)) (pa_cons (pe_ix ix_tup (pv 1) pe_int (fun _ _ => rfl)) pa_nil))) (pa_cons (pv 1) pa_nil)))) <|
        rs_cons M (r_goes (pe_call G9 hr2 rfl m9 k9 b9 .nil pass0 (pa_cons (pv 5) (pa_cons (pv 1) pa_nil)))) <| rs_cons M (r_turns (pe_call Ga hr3 rfl ma ka ba .nil pass0 (pa_cons (pv 5) (pa_cons (pv 2) pa_nil)))) <|
        rs_cons M (r_jerr (pe_call Gb hr rfl mb kb bb .nil pass0 (pa_cons (pv 0) (pa_cons (pv 4) pa_nil)))) rs_nil)))) (found_next (pl_le (pa_len (pl1_len g) (pl2_len g))) (pl_le (pl3_len g)))) <|
      pss_one (ps_ret (pe_op op_cat (pv 7) (pe_lst (rs_cons M (r_jdone (pe_call Gc hr rfl mc kc bc .nil pass0 (pa_cons (pv 6) (pa_cons (pv 4) pa_nil)))) <| rs_cons M (r_steps (pe_call Ge hr1 rfl me ke be .nil pass0 (pa_cons (pv 4) pa_nil))) rs_nil)))), ?_⟩
    refine beg_read (K := K) F5 fun σ1 H1 h1 => ⟨h1, fun σ2 H2 h2 => ⟨h2, fun σ3 H3 h3 => ⟨h3, fun σ4 H4 h4 => ?_⟩⟩⟩
    obtain ⟨ds, p1, h4⟩ := h4
    have jb := h4.jpb
    obtain ⟨bg, L, vs, as, rfl, FF, hb, s0, n0, hL, r, lv⟩ := h4
    refine ⟨_, rfl, jb, fun es ys bs H5 p2 r1 s1 => ?_⟩
    have l1 := r.len
    have l2 := r1.len
    have e1 := pa_len (pa_len (pl1_len g) (pl2_len g)) (pl3_len g) ds p1
    have e2 := pl4_len g es p2
    refine ⟨by rw [l2, sizeLine_eq]; omega, fun c nc => ?_⟩
    have sc := s1.trans (same_new (o := .lst ys) nc)
    refine ⟨L, c, vs, ys, rfl, rfl, sc _ _ hL, upd_same, by rw [l1, l2, sizeLine_eq]; omega, fun q nq => ?_⟩
    have sq := same_new (o := .lst (vs ++ ys)) nq
    obtain ⟨T, IT, le, ed⟩ := pl_all (g := g) (ds := ds ++ es) ⟨ds, es, rfl, p1, p2⟩
    exact k q (vs ++ ys) (as ++ bs) T _ ((s0.trans sc).trans sq) ((s0.trans sc).free nq) IT le upd_same (by rw [← ed]; exact repAll_cat (r.same (sc.trans sq)) (r1.same ((same_new nc).trans sq)))
end
end Sw
namespace Sw
open PySem PySem.Spec PyProof.Rows L2 SX
/-! ### what each def tells by names -/
abbrev sNamed : Stmt := top 55
theorem scNamed : FnScope nPlaced ["net", "run", "ring", "standing", "journey"] (defScope sNamed) := ⟨rfl, rfl, rfl, by decide +kernel, rfl, by decide +kernel, by decide +kernel⟩
abbrev tW (sp : Sp) (tk : TA) : TE := fun σ H Q => tk σ H fun zs H2 => sp ((fun us ws : List V => us ++ ws.reverse) [] zs) H2 Q E0
section
variable {K : PySem.W.Frag} {x : FiveA} {g : Five} {C C' : Addr}
theorem w_nerr : ∀ (σ : L2.St) (H : Hp) (Q : VK), JPB x g σ H → (∀ (d : D) (v : V) (as : List Addr) (H' : Hp), ((PIs .non) : D → Prop) d → Rep K H' d v as → Same H H' → Q v H') → (tW (spError K) (tCons (tVar 0) tNil)) σ H Q := fun σ H Q ⟨bg, r7, es, F, hb⟩ q => by
  subst es
  exact ⟨_, rfl, k_nerr F fun H' s' => q _ _ _ H' rfl rep_non s'⟩
theorem w_ntxt : ∀ (σ : L2.St) (H : Hp) (Q : VK), JPB x g σ H → (∀ (d : D) (v : V) (as : List Addr) (H' : Hp), ((PIs (.str (S (textL g.m g.ars)))) : D → Prop) d → Rep K H' d v as → Same H H' → Q v H') → (tW spNetText (tCons (tVar 0) tNil)) σ H Q := fun σ H Q ⟨bg, r7, es, F, hb⟩ q => by
  subst es
  exact ⟨_, rfl, k_ntxt F fun H' s' => q _ _ _ H' rfl rep_str s'⟩
theorem w_read : ∀ (σ : L2.St) (H : Hp) (Q : VK), JPB x g σ H → (∀ (d : D) (v : V) (as : List Addr) (H' : Hp), ((PIs (netDn g.m g.ars)) : D → Prop) d → Rep K H' d v as → Same H H' → Q v H') → (tW (spReadNet K C) (tCons (tCall spNetText [] E0 (tCons (tVar 0) tNil)) tNil)) σ H Q := fun σ H Q ⟨bg, r7, es, F, hb⟩ q => by
  subst es
  exact ⟨_, rfl, k_ntxt (Q := fun v H1 => spReadNet K C [v] H1 Q E0) F fun H1 s1 => k_read (F.same s1) fun H' r bs s2 rp => q _ _ _ H' rfl rp (s1.trans s2)⟩
theorem w_serr : ∀ (σ : L2.St) (H : Hp) (Q : VK), JPB x g σ H → (∀ (d : D) (v : V) (as : List Addr) (H' : Hp), ((PIs .non) : D → Prop) d → Rep K H' d v as → Same H H' → Q v H') → (tW (spSt K) (tCons (tVar 3) (tCons (tVar 5) tNil))) σ H Q := fun σ H Q ⟨bg, r7, es, F, hb⟩ q => by
  subst es
  exact ⟨_, rfl, _, rfl, k_serr F fun H' s' => q _ _ _ H' rfl rep_non s'⟩
theorem w_snum : ∀ (σ : L2.St) (H : Hp) (Q : VK), JPB x g σ H → (∀ (d : D) (v : V) (as : List Addr) (H' : Hp), ((PIs (.int (numS g))) : D → Prop) d → Rep K H' d v as → Same H H' → Q v H') → (tW spStNum (tCons (tVar 3) (tCons (tVar 5) tNil))) σ H Q := fun σ H Q ⟨bg, r7, es, F, hb⟩ q => by
  subst es
  exact ⟨_, rfl, _, rfl, k_snum F fun H' s' => q _ _ _ H' rfl rep_int s'⟩
theorem w_sat : ∀ (σ : L2.St) (H : Hp) (Q : VK), JPB x g σ H → (∀ (d : D) (v : V) (as : List Addr) (H' : Hp), ((PIs (pairD g.row g.s0)) : D → Prop) d → Rep K H' d v as → Same H H' → Q v H') → (tW (spStAt K C') (tCons (tCall spStNum [] E0 (tCons (tVar 5) (tCons (tVar 3) tNil))) (tCons (tVar 5) tNil))) σ H Q := fun σ H Q ⟨bg, r7, es, F, hb⟩ q => by
  subst es
  exact ⟨_, rfl, _, rfl, k_snum (Q := fun v H1 => ∃ u, (some (some (V.int g.m)) : Option (Option V)) = some (some u) ∧ spStAt K C' [u, v] H1 Q E0) F fun H1 s1 => ⟨_, rfl, k_sat (F.same s1) fun H' r bs s2 rp => q _ _ _ H' rfl rp (s1.trans s2)⟩⟩
theorem w_rerr : ∀ (σ : L2.St) (H : Hp) (Q : VK), JPB x g σ H → (∀ (d : D) (v : V) (as : List Addr) (H' : Hp), ((PIs .non) : D → Prop) d → Rep K H' d v as → Same H H' → Q v H') → (tW (spRun K) (tCons (tVar 1) (tCons (tVar 0) tNil))) σ H Q := fun σ H Q ⟨bg, r7, es, F, hb⟩ q => by
  subst es
  exact ⟨_, rfl, _, rfl, k_rerr F fun H' s' => q _ _ _ H' rfl rep_non s'⟩
theorem w_goes : ∀ (σ : L2.St) (H : Hp) (Q : VK), JPB x g σ H → (∀ (d : D) (v : V) (as : List Addr) (H' : Hp), ((PIs (.tup ((goesL g).map D.int))) : D → Prop) d → Rep K H' d v as → Same H H' → Q v H') → (tW spGoes (tCons (tVar 1) (tCons (tVar 5) tNil))) σ H Q := fun σ H Q ⟨bg, r7, es, F, hb⟩ q => by
  subst es
  exact ⟨_, rfl, _, rfl, k_goes F fun H' r bs s' rp => q _ _ _ H' rfl rp s'⟩
theorem w_turns : ∀ (σ : L2.St) (H : Hp) (Q : VK), JPB x g σ H → (∀ (d : D) (v : V) (as : List Addr) (H' : Hp), ((PTurn g) : D → Prop) d → Rep K H' d v as → Same H H' → Q v H') → (tW spTurns (tCons (tVar 2) (tCons (tVar 5) tNil))) σ H Q := fun σ H Q ⟨bg, r7, es, F, hb⟩ q => by
  subst es
  exact ⟨_, rfl, _, rfl, k_turns F fun T H' s' IT le => q _ _ _ H' ⟨T, IT, le, rfl⟩ rep_int s'⟩
theorem w_jerr : ∀ (σ : L2.St) (H : Hp) (Q : VK), JPB x g σ H → (∀ (d : D) (v : V) (as : List Addr) (H' : Hp), ((PIs .non) : D → Prop) d → Rep K H' d v as → Same H H' → Q v H') → (tW (spJn K) (tCons (tVar 4) (tCons (tVar 0) tNil))) σ H Q := fun σ H Q ⟨bg, r7, es, F, hb⟩ q => by
  subst es
  exact ⟨_, rfl, _, rfl, k_jerr F fun H' s' => q _ _ _ H' rfl rep_non s'⟩
theorem w_jdone : ∀ (σ : L2.St) (H : Hp) (Q : VK), JPB x g σ H → (∀ (d : D) (v : V) (as : List Addr) (H' : Hp), ((PIs (pairD (jDo g.m (g.row, begun g) g.ls).1 (jDo g.m (g.row, begun g) g.ls).2)) : D → Prop) d → Rep K H' d v as → Same H H' → Q v H') → (tW spJDone (tCons (tVar 4) (tCons (tVar 6) tNil))) σ H Q := fun σ H Q ⟨bg, r7, es, F, hb⟩ q => by
  subst es
  exact ⟨_, rfl, _, rfl, k_jdone F hb fun H' r bs s' rp => q _ _ _ H' rfl rp s'⟩
theorem w_steps : ∀ (σ : L2.St) (H : Hp) (Q : VK), JPB x g σ H → (∀ (d : D) (v : V) (as : List Addr) (H' : Hp), ((PIs (.int (stepsF g.ls))) : D → Prop) d → Rep K H' d v as → Same H H' → Q v H') → (tW spSteps (tCons (tVar 4) tNil)) σ H Q := fun σ H Q ⟨bg, r7, es, F, hb⟩ q => by
  subst es
  exact ⟨_, rfl, k_steps F fun H' s' => q _ _ _ H' rfl rep_int s'⟩
theorem w_done : ∀ (σ : L2.St) (H : Hp) (Q : VK), JPB x g σ H → (∀ (d : D) (v : V) (as : List Addr) (H' : Hp), ((PIs (pairD (ledI g.row g.run.dropLast) g.rl)) : D → Prop) d → Rep K H' d v as → Same H H' → Q v H') → (tW (spDone false) (tCons (tVar 1) (tCons (tTup (tCons (tOp (rIxT K) (tVar 3) (tC (.int 0))) (tCons (tOp (rIxT K) (tVar 1) (tC (.int 0))) tNil))) tNil))) σ H Q := fun σ H Q ⟨bg, r7, es, F, hb⟩ q => by
  subst es
  obtain ⟨o0, h0⟩ := pair_head (Q := Q) F
  refine ⟨_, rfl, _, rfl, x.st, _, 0, .ref x.rw', rfl, rfl, SqT.of F.st, at_of (j := 0) rfl rfl, _, rfl, x.ru, _, 0, .int o0, rfl, rfl, SqT.of F.run.at', at_of (j := 0) rfl (by rw [List.getElem?_map, h0]; rfl), by show 2 ≤ sizeLine; decide, fun t nt => ?_⟩
  have st := same_new (o := .tup [.ref x.rw', .int o0]) nt
  exact k_done (F.same st) upd_same fun H' r bs s' rp => q _ _ _ H' rfl rp (st.trans s')
end
def nl1 (g : Five) : List D → Prop := PCons (PIs (.int (stepsF g.ls))) (PCons (PIs (pairD (jDo g.m (g.row, begun g) g.ls).1 (jDo g.m (g.row, begun g) g.ls).2)) PNil)
def nl2 (g : Five) : List D → Prop := PCons (PIs .non) (PCons (PTurn g) (PCons (PIs (.tup ((goesL g).map D.int))) PNil))
def nl3 (g : Five) : List D → Prop := PCons (PIs (pairD (ledI g.row g.run.dropLast) g.rl)) (PCons (PIs .non) PNil)
def nl4 (g : Five) : List D → Prop := PCons (PIs (pairD g.row g.s0)) (PCons (PIs (.int (numS g))) PNil)
def nl5 (g : Five) : List D → Prop := PCons (PIs .non) (PCons (PIs (netDn g.m g.ars)) (PCons (PIs (.str (S (textL g.m g.ars)))) PNil))
def nl6 : List D → Prop := PCons (PIs .non) PNil
theorem nl1_len (g : Five) : ∀ ds, nl1 g ds → ds.length = 2 := pc_len (pc_len pn_len)
theorem nl2_len (g : Five) : ∀ ds, nl2 g ds → ds.length = 3 := pc_len (pc_len (pc_len pn_len))
theorem nl3_len (g : Five) : ∀ ds, nl3 g ds → ds.length = 2 := pc_len (pc_len pn_len)
theorem nl4_len (g : Five) : ∀ ds, nl4 g ds → ds.length = 2 := pc_len (pc_len pn_len)
theorem nl5_len (g : Five) : ∀ ds, nl5 g ds → ds.length = 3 := pc_len (pc_len (pc_len pn_len))
theorem nl6_len : ∀ ds, nl6 ds → ds.length = 1 := pc_len pn_len
abbrev nlA (g : Five) := PCat (PCat (PCat (PCat (nl1 g) (nl2 g)) (nl3 g)) (nl4 g)) (nl5 g)
theorem nlA_len (g : Five) : ∀ ds, nlA g ds → ds.length = 12 := pa_len (pa_len (pa_len (pa_len (nl1_len g) (nl2_len g)) (nl3_len g)) (nl4_len g)) (nl5_len g)
theorem nl_all {g : Five} {ds : List D} (h : PCat (nlA g) nl6 ds) : ∃ T, TurnG g T ∧ T ≤ 6227020800 ∧ ds.reverse = placedD g T := by
  obtain ⟨_, _, rfl, ⟨_, _, rfl, ⟨_, _, rfl, ⟨_, _, rfl, ⟨_, _, rfl, h1, h2⟩, h3⟩, h4⟩, h5⟩, h6⟩ := h
  obtain ⟨_, _, rfl, rfl, _, _, rfl, rfl, rfl⟩ := h1
  obtain ⟨_, _, rfl, rfl, _, _, rfl, ⟨T, IT, le, rfl⟩, _, _, rfl, rfl, rfl⟩ := h2
  obtain ⟨_, _, rfl, rfl, _, _, rfl, rfl, rfl⟩ := h3
  obtain ⟨_, _, rfl, rfl, _, _, rfl, rfl, rfl⟩ := h4
  obtain ⟨_, _, rfl, rfl, _, _, rfl, rfl, _, _, rfl, rfl, rfl⟩ := h5
  obtain ⟨_, _, rfl, rfl, rfl⟩ := h6
  exact ⟨T, IT, le, rfl⟩
theorem repAll_rev {K : PySem.W.Frag} {H : Hp} : ∀ {ds : List D} {xs : List V} {as : List Addr}, RepAll K H ds xs as → ∃ bs, RepAll K H ds.reverse xs.reverse bs
  | [], xs, as, h => by
    simp only [RepAll] at h
    rw [h.1]
    exact ⟨[], by simp [RepAll]⟩
  | d :: ds, xs, as, h => by
    rw [RepAll] at h
    obtain ⟨x, r, bs, cs, rfl, h1, h2, _⟩ := h
    obtain ⟨es, h3⟩ := repAll_rev h2
    rw [List.reverse_cons, List.reverse_cons]
    exact ⟨_, repAll_cat h3 (repAll_one h1)⟩
section
variable {P : Program} {w : World} {K : PySem.W.Frag} {mg : Str → Option Value} {base : Heap} {C C' : Addr}
theorem ok_named {f : Addr} {fd : FuncData} (F : Fun K "_law_named" "_law_named" sNamed f fd) (O : OwnsP P w K mg base C C') : FnOk P w K mg base CX0 6 f fd ["net", "run", "ring", "standing", "journey"] (spPlaced K) := by
  obtain ⟨f1, d1, G1, m1, k1, b1, w1⟩ := O.nerr.ex
  obtain ⟨f2, d2, G2, m2, k2, b2, w2⟩ := O.ntxt.ex
  obtain ⟨f3, d3, G3, m3, k3, b3, w3⟩ := O.read.ex
  obtain ⟨f4, d4, G4, m4, k4, b4, w4⟩ := O.serr.ex
  obtain ⟨f5, d5, G5, m5, k5, b5, w5⟩ := O.snum.ex
  obtain ⟨f6, d6, G6, m6, k6, b6, w6⟩ := O.sat.ex
  obtain ⟨f7, d7, G7, m7, k7, b7, w7⟩ := O.rerr.ex
  obtain ⟨f8, d8, G8, m8, k8, b8, w8⟩ := O.done.ex
  obtain ⟨f9, d9, G9, m9, k9, b9, w9⟩ := O.goes.ex
  obtain ⟨fa, da, Ga, ma, ka, ba, wa⟩ := O.turns.ex
  obtain ⟨fb, db, Gb, mb, kb, bb, wb⟩ := O.jerr.ex
  obtain ⟨fc, dc, Gc, mc, kc, bc, wc⟩ := O.jdone.ex
  obtain ⟨fe, de, Ge, me, ke, be, we⟩ := O.steps.ex
  refine F.ok scNamed (fun vs H Q E h => ?_) (fun cdv A outer s H vs Q E hr h => ?_)
  · obtain ⟨x, g, rfl, _⟩ := h
    rfl
  · obtain ⟨x, g, rfl, F5, k⟩ := h
    have hr1 : Room 1 _ := hr.mono (by decide)
    have hr2 : Room 2 _ := hr.mono (by decide)
    have hr3 : Room 3 _ := hr.mono (by decide)
    have hr4 : Room 4 _ := hr.mono (by decide)
    have M := JPB.mono (x := x) (g := g)
    refine ⟨_, pss_cons (ps_par (i := 5) (j := 6) rfl scNamed.nd rfl rfl (by decide) rfl rfl (pa_cons (pe_ix ix_tup (pv 0) pe_int (fun _ _ => rfl)) (pa_cons (pe_tup (pa_cons (pe_ix ix_tup (pv 3) pe_int (fun _ _ => rfl)) (pa_cons (pe_ifExp (pt_cmpR (op_neD hr.units) (pv 4) (pe_tup pa_nil) (nomark _)) (pe_ix ix_tup (pe_ix ix_tup (pe_ix ix_tup (pv 4) pe_int (fun _ _ => rfl)) pe_int (fun _ _ => rfl)) pe_int (fun _ _ => rfl)) (pe_ix ix_tup (pv 3) pe_int (fun _ _ => rfl))) pa_nil))) pa_nil)) (by rfl)) <|
      pss_cons (ps_cut (J := JQ0 H x g) (J' := JPX K H x g (nl1 g)) (ps_set (i := 7) scNamed.nd rfl (.inl rfl) (pe_lst (rs_cons M (r_of (pe_callW Ge hr1 rfl me ke we pass0 (pk_cons (pv 4) pk_nil)) w_steps) <| rs_cons M (r_of (pe_callW Gc hr rfl mc kc wc pass0 (pk_cons (pv 4) (pk_cons (pv 6) pk_nil))) w_jdone) rs_nil))) (found_first (pl_le (nl1_len g)))) <|
      pss_cons (ps_cut (J := JPX K H x g (nl1 g)) (J' := JPX K H x g (PCat (nl1 g) (nl2 g))) (ps_set (i := 7) scNamed.nd rfl (.inl rfl) (pe_op op_cat (pv 7) (pe_lst (rs_cons M (r_of (pe_callW Gb hr rfl mb kb wb pass0 (pk_cons (pv 4) (pk_cons (pv 0) pk_nil))) w_jerr) <|
        rs_cons M (r_of (pe_callW Ga hr3 rfl ma ka wa pass0 (pk_cons (pv 2) (pk_cons (pv 5) pk_nil))) w_turns) <| rs_cons M (r_of (pe_callW G9 hr2 rfl m9 k9 w9 pass0 (pk_cons (pv 1) (pk_cons (pv 5) pk_nil))) w_goes) rs_nil)))) (found_next (pl_le (nl1_len g)) (pl_le (nl2_len g)))) <|
      pss_cons (ps_cut (J := JPX K H x g (PCat (nl1 g) (nl2 g))) (J' := JPX K H x g (PCat (PCat (nl1 g) (nl2 g)) (nl3 g))) (ps_set (i := 7) scNamed.nd rfl (.inl rfl) (pe_op op_cat (pv 7) (pe_lst
        (rs_cons M (r_of (pe_callW G8 hr1 rfl m8 k8 w8 pass0 (pk_cons (pv 1) (pk_cons (pe_tup (pa_cons (pe_ix ix_tup (pv 3) pe_int (fun _ _ => rfl)) (pa_cons (pe_ix ix_tup (pv 1) pe_int (fun _ _ => rfl)) pa_nil))) pk_nil))) w_done) <|
        rs_cons M (r_of (pe_callW G7 hr3 rfl m7 k7 w7 pass0 (pk_cons (pv 1) (pk_cons (pv 0) pk_nil))) w_rerr) rs_nil)))) (found_next (pl_le (pa_len (nl1_len g) (nl2_len g))) (pl_le (nl3_len g)))) <|
      pss_cons (ps_cut (J := JPX K H x g (PCat (PCat (nl1 g) (nl2 g)) (nl3 g))) (J' := JPX K H x g (PCat (PCat (PCat (nl1 g) (nl2 g)) (nl3 g)) (nl4 g))) (ps_set (i := 7) scNamed.nd rfl (.inl rfl) (pe_op op_cat (pv 7) (pe_lst
        (rs_cons M (r_of (pe_callW G6 hr2 rfl m6 k6 w6 passN (pk_cons (pe_call G5 hr2 rfl m5 k5 b5 .nil pass0 (pa_cons (pv 5) (pa_cons (pv 3) pa_nil))) (pk_cons (pv 5) pk_nil))) w_sat) <|
        rs_cons M (r_of (pe_callW G5 hr2 rfl m5 k5 w5 pass0 (pk_cons (pv 3) (pk_cons (pv 5) pk_nil))) w_snum) rs_nil)))) (found_next (pl_le (pa_len (pa_len (nl1_len g) (nl2_len g)) (nl3_len g))) (pl_le (nl4_len g)))) <|
      pss_cons (ps_cut (J := JPX K H x g (PCat (PCat (PCat (nl1 g) (nl2 g)) (nl3 g)) (nl4 g))) (J' := JPX K H x g (nlA g)) (ps_set (i := 7) scNamed.nd rfl (.inl rfl) (pe_op op_cat (pv 7) (pe_lst
        (rs_cons M (r_of (pe_callW G4 hr3 rfl m4 k4 w4 pass0 (pk_cons (pv 3) (pk_cons (pv 5) pk_nil))) w_serr) <|
        rs_cons M (r_of (pe_callW G3 hr rfl m3 k3 w3 passN (pk_cons (pe_call G2 hr1 rfl m2 k2 b2 .nil pass0 (pa_cons (pv 0) pa_nil)) pk_nil)) w_read) <|
        rs_cons M (r_of (pe_callW G2 hr1 rfl m2 k2 w2 pass0 (pk_cons (pv 0) pk_nil)) w_ntxt) rs_nil)))) (found_next (pl_le (pa_len (pa_len (pa_len (nl1_len g) (nl2_len g)) (nl3_len g)) (nl4_len g))) (pl_le (nl5_len g)))) <|
      pss_one (ps_ret (pe_revL (pe_op op_cat (pv 7) (pe_lst (rs_cons M (r_of (pe_callW G1 hr4 rfl m1 k1 w1 pass0 (pk_cons (pv 0) pk_nil)) w_nerr) rs_nil))))), ?_⟩
    refine beg_read (K := K) F5 fun σ1 H1 h1 => ⟨h1, fun σ2 H2 h2 => ⟨h2, fun σ3 H3 h3 => ⟨h3, fun σ4 H4 h4 => ⟨h4, fun σ5 H5 h5 => ⟨h5, fun σ6 H6 h6 => ?_⟩⟩⟩⟩⟩
    clear h1 h2 h3 h4 h5
    obtain ⟨ds, p1, h4⟩ := h6
    have jb := h4.jpb
    obtain ⟨bg, L, vs, as, rfl, FF, hb, s0, n0, hL, r, lv⟩ := h4
    refine ⟨_, rfl, jb, fun es ys bs H5 p2 r1 s1 => ?_⟩
    have l1 := r.len
    have l2 := r1.len
    have e1 := nlA_len g ds p1
    have e2 := nl6_len es p2
    refine ⟨by rw [l2, sizeLine_eq]; omega, fun c nc => ?_⟩
    have sc := s1.trans (same_new (o := .lst ys) nc)
    refine ⟨L, c, vs, ys, rfl, rfl, sc _ _ hL, upd_same, by rw [l1, l2, sizeLine_eq]; omega, fun q nq => ⟨q, vs ++ ys, rfl, SqL.of upd_same, fun q2 nq2 => ?_⟩⟩
    have sq := same_new (o := .lst (vs ++ ys)) nq
    have sq2 := same_new (o := .lst (vs ++ ys).reverse) nq2
    obtain ⟨T, IT, le, ed⟩ := nl_all (g := g) (ds := ds ++ es) ⟨ds, es, rfl, p1, p2⟩
    obtain ⟨zs, rz⟩ := repAll_rev (repAll_cat (r.same ((sc.trans sq).trans sq2)) (r1.same (((same_new nc).trans sq).trans sq2)))
    exact k q2 (vs ++ ys).reverse zs T _ (((s0.trans sc).trans sq).trans sq2) (((s0.trans sc).trans sq).free nq2) IT le upd_same (by rw [← ed]; exact rz)
end
end Sw
namespace Sw
open PySem PySem.Spec PyProof.Rows L2
section
variable {P : Program} {w : World} {K : PySem.W.Frag} {mg : Str → Option Value} {base : Heap}
/-! ### _law_round -/
abbrev sRound : Stmt := top 52
abbrev nRound : List Str := ["deck", "net", "many", "found", "rest"]
theorem scRound : FnScope nRound ["deck", "net", "many"] (defScope sRound) := ⟨rfl, rfl, rfl, by decide +kernel, rfl, by decide +kernel, by decide +kernel⟩
def spRound : Sp := fun vs H Q _ => ∃ (p d a b : Addr) (m : Nat) (many : Int) (ts : List V) (ars : List (Int × Int)), vs = [.ref p, .ref a, .int many] ∧ Deck H p d 63 ∧ NetAt m H a b ts ∧ ArsAt H ts ars ∧ (0 ≤ many ∧ many ≤ 1000) ∧
  ∀ (r : Addr) (os : List Int) (last : Int) (H' : Hp), Deck H' p d 63 → Kp p d H H' → RunIn H' r os last m → os[0]? = some last → Chain ars os → (os.length : Int) ≤ many + 13 → Q (.ref r) H'
theorem Chain.init {ars : List (Int × Int)} {os : List Int} (h : Chain ars os) : Chain ars os.dropLast := fun i v w h1 h2 => by
  rw [List.dropLast_eq_take, List.getElem?_take] at h1 h2
  split at h1
  · split at h2
    · exact h i v w h1 h2
    · cases h2
  · cases h1
theorem Chain.app2 {ars : List (Int × Int)} {os bs : List Int} {v : Int} (h : Chain ars os) (hl : os.getLast? = some v) (h2 : Chain ars (v :: bs)) : Chain ars (os ++ bs) := fun i x y e1 e2 => by
  by_cases q : i + 1 < os.length
  · rw [List.getElem?_append_left (by omega)] at e1
    rw [List.getElem?_append_left q] at e2
    exact h i x y e1 e2
  · have ne : os.length ≠ 0 := fun z => by
      have : os = [] := List.length_eq_zero_iff.mp z
      rw [this] at hl
      cases hl
    rw [List.getElem?_append_right (by omega)] at e2
    rw [List.getLast?_eq_getElem?] at hl
    by_cases q2 : i + 1 = os.length
    · rw [List.getElem?_append_left (by omega)] at e1
      rw [show os.length - 1 = i by omega, e1] at hl
      cases hl
      rw [q2, Nat.sub_self] at e2
      exact h2 0 _ y rfl (by simpa using e2)
    · rw [List.getElem?_append_right (by omega)] at e1
      refine h2 (i - os.length + 1) x y ?_ ?_
      · simpa using e1
      · rw [List.getElem?_cons_succ, show i - os.length + 1 = i + 1 - os.length by omega]
        exact e2
theorem ok_round {f : Addr} {fd : FuncData} (F : Fun K "_law_round" "_law_round" sRound f fd) (B : NoNames mg) (OD : Own P w K mg base 1 "_law_draw" ["deck", "many"] spDraw) (OW : Own P w K mg base 3 "_law_walk" ["deck", "net", "first", "many"] spWalk)
    (OB : Own P w K mg base 2 "_law_back" ["net", "first", "last"] spBack) : FnOk P w K mg base CX0 4 f fd ["deck", "net", "many"] spRound := by
  obtain ⟨fD, fdD, GD, mD, kD, bD⟩ := OD.ex
  obtain ⟨fW, fdW, GW, mW, kW, bW⟩ := OW.ex
  obtain ⟨fB, fdB, GB, mB, kB, bB⟩ := OB.ex
  refine F.ok scRound (fun vs H Q E h => ?_) (fun cdv A outer s H vs Q E hr h => ?_)
  · obtain ⟨p, d, a, b, m, many, ts, ars, rfl, _⟩ := h
    rfl
  · obtain ⟨p, d, a, b, m, many, ts, ars, rfl, D0, N, AR, hm, k⟩ := h
    have hr1 : Room 1 _ := hr.mono (by decide)
    have hr2 : Room 2 _ := hr.mono (by decide)
    have n1 := N.n1
    have n2 := N.n2
    refine ⟨_, pss_cons (ps_set (i := 3) scRound.nd rfl (.inl rfl) (pe_call GW hr rfl mW kW bW .nil pass0 (pa_cons (pv 0) (pa_cons (pv 1) (pa_cons (pe_call GD hr1 rfl mD kD bD .nil pass0 (pa_cons (pv 0) (pa_cons (pe_ix ix_tup (pv 1) pe_int (fun _ _ => rfl)) pa_nil))) (pa_cons (pv 2) pa_nil)))))) <|
      pss_cons (ps_while PassesOwn.never (pt_cmpR op_gt (pe_callB call_len_seq (by rfl) B.len PySem.boot_len (pa_cons (pv 3) pa_nil)) pe_int (nomark _))
        (pss_cons (ps_set (i := 4) scRound.nd rfl (.inl rfl) (pe_call GB hr2 rfl mB kB bB .nil pass0 (pa_cons (pv 1) (pa_cons (pe_ix ix_tup (pv 3) (pe_un un_neg pe_int) (fun _ _ => rfl)) (pa_cons (pe_ix ix_tup (pv 3) pe_int (fun _ _ => rfl)) pa_nil))))) <|
        pss_cons (ps_if (pt_cmpR op_notN (pv 4) pe_non (nomark _)) (pss_one (ps_ret (pe_op op_catA (pv 3) (pv 4)))) pss_nil) <|
        pss_one (ps_set (i := 3) scRound.nd rfl (.inl rfl) (pe_slice sl_tupA (pv 3) po_none (po_some (pe_un un_neg pe_int)))))) <|
      pss_one (ps_ret (pv 3)), ?_⟩
    refine ⟨_, rfl, _, rfl, _, rfl, _, rfl, a, _, 0, .int m, rfl, rfl, SqT.of N.a, at_of (j := 0) rfl rfl, p, d, (m : Int), rfl, D0, by omega, fun fi H1 q0 q1 _ D1 k1 => ?_⟩
    have q1 := q1 (by omega)
    have N1 := N.keep (.kp D0 k1)
    have AR1 := AR.keep (.kp D0 k1)
    refine ⟨_, rfl, p, d, a, b, (m : Int), fi, many, ts, ars, rfl, D1, N1, AR1, ⟨q0, q1⟩, hm, fun ru os H2 D2 k2 nru hru one olen oin of0 och _ => ?_⟩
    have N2 := N1.keep (.kp D1 k2)
    have AR2 := AR1.keep (.kp D1 k2)
    have kk := k1.trans k2
    refine ⟨fun q σ' H' => ∃ (ru : Addr) (os : List Int) (s4 : Option V), σ' = [some (.ref p), some (.ref a), some (.int many), some (.ref ru), s4] ∧ Same H2 H' ∧ H' ru = some (.tup (os.map V.int)) ∧ os ≠ [] ∧ (∀ o ∈ os, Inn m o) ∧ Chain ars os ∧ (os.length : Int) ≤ many + 1 ∧ os.length = q,
      ⟨_, ru, os, none, rfl, Same.refl _, hru, one, oin, och, olen, rfl⟩, ?_⟩
    clear och of0 oin olen one hru nru
    rintro q σ' H3 ⟨ru, os, s4, rfl, sm, hru, one, oin, och, olen, rfl⟩
    have pos := List.length_pos_iff.mpr one
    obtain ⟨last, el⟩ : ∃ last, os.getLast? = some last := ⟨_, List.getLast?_eq_some_getLast one⟩
    obtain ⟨o0, h0⟩ : ∃ o0, os[0]? = some o0 := ⟨_, List.getElem?_eq_getElem pos⟩
    refine ⟨_, rfl, ru, _, rfl, .inr (SqT.of hru), _, _, rfl, rfl, _, rfl, ?_⟩
    rw [List.length_map]
    refine ite2 (fun y => ?_) (fun y => ?_)
    · have y : (1 : Int) < (os.length : Int) := of_decide_eq_true y
      refine ⟨fun σ' H' => ∃ m', m' < os.length ∧ ∃ (ru : Addr) (os : List Int) (s4 : Option V), σ' = [some (.ref p), some (.ref a), some (.int many), some (.ref ru), s4] ∧ Same H2 H' ∧ H' ru = some (.tup (os.map V.int)) ∧ os ≠ [] ∧ (∀ o ∈ os, Inn m o) ∧ Chain ars os ∧ (os.length : Int) ≤ many + 1 ∧ os.length = m', fun _ _ h => h, ?_⟩
      have bl := oin last (List.mem_of_getLast? el)
      refine ⟨_, rfl, _, rfl, 1, rfl, ru, _, -1, .int last, rfl, rfl, SqT.of hru, last_at el, _, rfl, ru, _, 0, .int o0, rfl, rfl, SqT.of hru, at_of (j := 0) rfl (by rw [List.getElem?_map, h0]; rfl), ?_⟩
      refine ⟨a, b, (m : Int), last, o0, ts, ars, rfl, N2.keep (.of sm), AR2.keep (.of sm), bl, fun H4 s34 => ?_, fun r bs H4 s34 hr4 bch blast blen bin => ?_⟩
      · refine ⟨_, rfl, rfl, _, rfl, ?_⟩
        refine iteF ?_
        refine ⟨_, rfl, 1, rfl, -1, rfl, ?_⟩
        refine rd_cut (s34 _ _ hru) fun c H5 s45 hc => ?_
        rw [cut_init] at hc
        exact ⟨os.dropLast.length, by rw [List.length_dropLast]; omega, c, os.dropLast, _, rfl, sm.trans (s34.trans s45), hc, fun z => by have := congrArg List.length z; rw [List.length_dropLast] at this; simp at this; omega, fun o ho => oin o (List.dropLast_subset _ ho), och.init, by rw [List.length_dropLast]; omega, rfl⟩
      · refine ⟨_, rfl, rfl, _, rfl, ?_⟩
        refine iteT ?_
        refine ⟨_, rfl, _, rfl, rd_cat (s34 _ _ hru) hr4 (by rw [List.length_map, List.length_map, sizeLine_eq]; omega) fun c H5 s45 hc => ?_⟩
        rw [← List.map_append] at hc
        have sF := sm.trans (s34.trans s45)
        have el2 : (os ++ bs).getLast? = some o0 := by
          cases bs with
          | nil =>
            rw [List.append_nil, el]
            exact blast
          | cons z bs =>
            rw [List.getLast?_append]
            rw [List.getLast?_cons_cons] at blast
            rw [blast]
            rfl
        refine k c (os ++ bs) o0 H5 (D2.same sF) (kk.trans (.of sF)) ⟨hc, el2, fun o ho => (List.mem_append.mp ho).elim (oin o) (bin o)⟩ (by rw [List.getElem?_append_left pos]; exact h0) (och.app2 el bch) (by rw [List.length_append]; omega)
    · have y : ¬ (1 : Int) < (os.length : Int) := fun z => y (decide_eq_true z)
      obtain ⟨x, rfl⟩ : ∃ x, os = [x] := by
        match os, one with
        | [x], _ => exact ⟨x, rfl⟩
        | _ :: _ :: _, _ => exact absurd (by simp only [List.length_cons]; omega) y
      exact ⟨_, rfl, k ru [x] x _ (D2.same sm) (kk.trans (.of sm)) ⟨hru, rfl, oin⟩ rfl och (by show ((1 : Nat) : Int) ≤ _; omega)⟩
end
end Sw
namespace Sw
open PySem PySem.Spec PyProof.Rows L2 SX
/-! ### data of tuples, compared -/
mutual
def toP : D → PyData
  | .bl b => .bool b
  | .int i => .int i
  | .str x => .str x
  | .tup ds => .tuple (toPs ds)
  | _ => .none
def toPs : List D → List PyData
  | [] => []
  | d :: r => toP d :: toPs r
end
mutual
theorem Rep.dp {K : PySem.W.Frag} {H : Hp} : ∀ {d : D} {v : V} {as : List Addr}, Rep K H d v as → tupD d → Dp K H v (toP d)
  | .non, v, as, h, _ => by simp only [Rep] at h; rw [h.1]; exact .non
  | .bl b, v, as, h, _ => by simp only [Rep] at h; rw [h.1]; exact .bl b
  | .int i, v, as, h, _ => by simp only [Rep] at h; rw [h.1]; exact .int i
  | .str x, v, as, h, _ => by simp only [Rep] at h; rw [h.1]; exact .str x
  | .tup ds, v, as, h, t => by
    simp only [Rep] at h
    simp only [tupD] at t
    obtain ⟨a, xs, bs, e, ha, r, na, rfl⟩ := h
    rw [e]
    exact .tup (SqT.of ha) (RepAll.dps r t)
  | .lst _, _, _, _, t => by simp only [tupD] at t
  | .dct, _, _, _, t => by simp only [tupD] at t
  | .dx, _, _, _, t => by simp only [tupD] at t
  | .exc _ _ _, _, _, _, t => by simp only [tupD] at t
theorem RepAll.dps {K : PySem.W.Frag} {H : Hp} : ∀ {ds : List D} {xs : List V} {as : List Addr}, RepAll K H ds xs as → tupDs ds → DpAll K H xs (toPs ds)
  | [], xs, as, h, _ => by simp only [RepAll] at h; rw [h.1]; exact .nil
  | d :: ds, xs, as, h, t => by
    simp only [RepAll] at h
    simp only [tupDs] at t
    obtain ⟨x, r, bs, cs, e, h1, h2, rfl⟩ := h
    rw [e]
    exact .cons (Rep.dp h1 t.1) (RepAll.dps h2 t.2)
end
theorem lay_ints : ∀ os : List Int, PyData.canLayAll0 (toPs (os.map D.int)) = true ∧ PyData.depthAll (toPs (os.map D.int)) = 0
  | [] => ⟨rfl, by simp [toPs, PyData.depthAll]⟩
  | o :: r => by
    obtain ⟨h1, h2⟩ := lay_ints r
    refine ⟨?_, ?_⟩
    · simp [toPs, toP, PyData.canLayAll0, PyData.canLay0, h1]
    · simp only [List.map_cons, toPs, toP, PyData.depthAll, PyData.depth]
      omega
theorem lay_arrs : ∀ ars : List (Int × Int), PyData.canLayAll0 (toPs (ars.map arrD)) = true ∧ PyData.depthAll (toPs (ars.map arrD)) ≤ 1
  | [] => ⟨rfl, by simp [toPs, PyData.depthAll]⟩
  | e :: r => by
    obtain ⟨h1, h2⟩ := lay_arrs r
    refine ⟨?_, ?_⟩
    · simp [arrD, toPs, toP, PyData.canLayAll0, PyData.canLay0, h1]
    · simp only [List.map_cons, arrD, toPs, toP, PyData.depthAll, PyData.depth]
      omega
theorem shp_of {d : PyData} (h : d.canLay0 = true) (h2 : d.depth ≤ 64) : SeqAt.shaped d = true := by
  unfold SeqAt.shaped
  rw [h, decide_eq_true h2]
  rfl
theorem shp_net (g : Five) : SeqAt.shaped (toP (netDn g.m g.ars)) = true := by
  obtain ⟨h1, h2⟩ := lay_arrs g.ars
  refine shp_of ?_ ?_
  · simp [netDn, toP, toPs, PyData.canLay0, PyData.canLayAll0, h1]
  · simp only [netDn, toP, toPs, PyData.depth, PyData.depthAll]
    omega
theorem shp_pair (os : List Int) (x : Int) : SeqAt.shaped (toP (pairD os x)) = true := by
  obtain ⟨h1, h2⟩ := lay_ints os
  refine shp_of ?_ ?_
  · simp [pairD, toP, toPs, PyData.canLay0, PyData.canLayAll0, h1]
  · simp only [pairD, toP, toPs, PyData.depth, PyData.depthAll]
    omega
/-! ### the five things as one list -/
def fiveD (g : Five) : List D := [netDn g.m g.ars, .tup (g.run.map D.int), .tup (g.ring.map D.int), pairD g.row g.s0, jD g.ls]
theorem FiveAt.fiveR {K : PySem.W.Frag} {H : Hp} {x : FiveA} {g : Five} (F : FiveAt H x g) : (∃ as, RepAll K H (fiveD g) [.ref x.a, .ref x.ru, .ref x.ri, .ref x.st, .ref x.jr] as) ∧ smallAll (fiveD g) ∧ wtAll (fiveD g) ≤ 20000 ∧ depAll (fiveD g) ≤ 5 := by
  have m := F.m1
  obtain ⟨a1, r1⟩ := F.netR (K := K)
  obtain ⟨n1, n2, n3⟩ := net_wt2 F
  obtain ⟨r2, u1, u2, u3⟩ := tupI (K := K) F.run.at' (.stops F.run.stops m.2)
  obtain ⟨r3, i1, i2, i3⟩ := tupI (K := K) F.ring.at' (.stops F.ring.stops m.2)
  obtain ⟨r4, s1, s2, s3⟩ := pairR (K := K) F.st F.rw' F.sml.1 (x := g.s0) ⟨F.s1, by have := F.s2; omega⟩
  obtain ⟨a5, r5, j1, j2, j3⟩ := jR (K := K) F.j F.legs.isIn m.2
  have ll := F.llen
  have wl := wJ_le (ls := g.ls) fun l hl => (F.legs.leg l hl).2
  have l1 := F.rlen
  have l2 := F.glen
  have l3 := F.sml.2
  refine ⟨⟨_, repAll_cons r1 (repAll_cons r2 (repAll_cons r3 (repAll_cons r4 (repAll_cons r5 repAll_nil))))⟩, ?_, ?_, ?_⟩
  · simp only [fiveD, smallAll]
    exact ⟨n1, u1, i1, s1, j1, trivial⟩
  · simp only [fiveD, wtAll]
    omega
  · simp only [fiveD, depAll]
    omega
def seenZ (g : Five) (T : Nat) : Str := shown (.lst (placedD g T))
/-- what is kept of one turn -/
structure ItemOk (K : PySem.W.Frag) (p d kn : Addr) (H : Hp) (t : Addr) (x : FiveA) (g : Five) (T : Nat) (sn : Addr) (vs : List V) (as : List Addr) : Prop where
  at' : H t = some (.tup [.ref x.a, .ref x.ru, .ref x.ri, .ref x.st, .ref x.jr, .str (seenZ g T), .ref sn])
  five : FiveAt H x g
  turn : TurnG g T
  le : T ≤ 6227020800
  seen : H sn = some (.lst vs)
  rep : RepAll K H (placedD g T) vs as
  np : sn ≠ p
  nd : sn ≠ d
  nk : sn ≠ kn
theorem ItemOk.keep {K : PySem.W.Frag} {p d kn : Addr} {H H' : Hp} {t : Addr} {x : FiveA} {g : Five} {T : Nat} {sn : Addr} {vs : List V} {as : List Addr} (h : ItemOk K p d kn H t x g T sn vs as) (s : TupS H H') (hs : H' sn = some (.lst vs)) : ItemOk K p d kn H' t x g T sn vs as :=
  ⟨s _ _ h.at', h.five.keep s, h.turn, h.le, hs, h.rep.keep fun b hb o e => by
    obtain ⟨zs, e2⟩ := h.rep.tups (tup_placed g T) b hb
    have := s _ _ e2
    rw [e2] at e
    cases e
    exact this, h.np, h.nd, h.nk⟩
def ItemX (K : PySem.W.Frag) (p d kn : Addr) (H : Hp) (t : Addr) : Prop := ∃ x g T sn vs as, ItemOk K p d kn H t x g T sn vs as
theorem ItemX.kp {K : PySem.W.Frag} {p d kn : Addr} {H H' : Hp} {t : Addr} (h : ItemX K p d kn H t) (D0 : Deck H p d 63) (k : Kp p d H H') : ItemX K p d kn H' t := by
  obtain ⟨x, g, T, sn, vs, as, I⟩ := h
  exact ⟨x, g, T, sn, vs, as, I.keep (.kp D0 k) (k _ _ I.seen I.np I.nd)⟩
theorem ItemX.upd {K : PySem.W.Frag} {p d kn : Addr} {H : Hp} {o : HO} {t : Addr} (h : ItemX K p d kn H t) (nt : ∀ zs, H kn ≠ some (.tup zs)) : ItemX K p d kn (upd H kn o) t := by
  obtain ⟨x, g, T, sn, vs, as, I⟩ := h
  exact ⟨x, g, T, sn, vs, as, I.keep (.upd nt) (by rw [upd_ne I.nk]; exact I.seen)⟩
/-- the list of the seen, as data -/
theorem seenR {K : PySem.W.Frag} {H : Hp} {g : Five} {T : Nat} {sn : Addr} {vs : List V} {as : List Addr} (hs : H sn = some (.lst vs)) (r : RepAll K H (placedD g T) vs as) : Rep K H (.lst (placedD g T)) (.ref sn) (sn :: as) := by
  rw [Rep]
  refine ⟨sn, vs, as, rfl, hs, r, fun z => ?_, rfl⟩
  obtain ⟨zs, e⟩ := r.tups (tup_placed g T) sn z
  rw [hs] at e
  cases e
end Sw
namespace Sw
open PySem PySem.Spec PyProof.Rows L2 SX
/-! ### the law of names and equal calls -/
abbrev sLawE : Stmt := top 56
abbrev nLawE : List Str := ["script", "deck", "known", "turn", "n", "net", "run", "ring", "journey", "standing", "kept", "seen", "shown"]
theorem scLawE : FnScope nLawE ["script"] (defScope sLawE) := ⟨rfl, rfl, rfl, by decide +kernel, rfl, by decide +kernel, by decide +kernel⟩
def loopB : Stmt → List Stmt
  | .For (body := b) .. => b
  | _ => []
def stE (i : Nat) : Stmt := (defBody sLawE).getD i (.Pass ⟨0, 0, 0, 0⟩)
def tbE (i : Nat) : Stmt := (loopB (stE 2)).getD i (.Pass ⟨0, 0, 0, 0⟩)
structure IxE where
  sa : Addr
  p : Addr
  d : Addr
  kn : Addr
  t : Int
  its : List Addr
  x : FiveA
  g : Five
structure BE (K : PySem.W.Frag) (i : IxE) (H : Hp) : Prop where
  dk : Deck H i.p i.d 63
  kl : H i.kn = some (.lst (i.its.map V.ref))
  kd : i.kn ≠ i.d
  len : i.its.length ≤ 8
  all : ∀ t ∈ i.its, ItemX K i.p i.d i.kn H t
  five : FiveAt H i.x i.g
theorem BE.kp {K : PySem.W.Frag} {i : IxE} {H H' : Hp} (h : BE K i H) (k : Kp i.p i.d H H') (D' : Deck H' i.p i.d 63) : BE K i H' :=
  ⟨D', k _ _ h.kl (h.dk.kne h.kl) h.kd, h.kd, h.len, fun t ht => (h.all t ht).kp h.dk k, h.five.keep (.kp h.dk k)⟩
theorem BE.same {K : PySem.W.Frag} {i : IxE} {H H' : Hp} (h : BE K i H) (s : Same H H') : BE K i H' := h.kp (.of s) (h.dk.same s)
def JT1 (K : PySem.W.Frag) (i : IxE) : SH := fun σ H => ∃ s10 s11 s12, σ = [some (.ref i.sa), some (.ref i.p), some (.ref i.kn), some (.int i.t), some (.int i.g.m), some (.ref i.x.a), some (.ref i.x.ru), some (.ref i.x.ri), some (.ref i.x.jr), some (.ref i.x.st), s10, s11, s12] ∧ BE K i H
def JT2 (K : PySem.W.Frag) (i : IxE) : SH := fun σ H => ∃ s12 T sn vs as, σ = [some (.ref i.sa), some (.ref i.p), some (.ref i.kn), some (.int i.t), some (.int i.g.m), some (.ref i.x.a), some (.ref i.x.ru), some (.ref i.x.ri), some (.ref i.x.jr), some (.ref i.x.st), some (.str (shown (.lst (fiveD i.g)))), some (.ref sn), s12] ∧ BE K i H ∧
  TurnG i.g T ∧ T ≤ 6227020800 ∧ H sn = some (.lst vs) ∧ RepAll K H (placedD i.g T) vs as ∧ sn ≠ i.p ∧ sn ≠ i.d ∧ sn ≠ i.kn
def JT3 (K : PySem.W.Frag) (i : IxE) : SH := fun σ H => ∃ s3 s4 s5 s6 s7 s8 s9 s10 s11 s12 t', σ = [some (.ref i.sa), some (.ref i.p), some (.ref i.kn), s3, s4, s5, s6, s7, s8, s9, s10, s11, s12] ∧ Deck H i.p i.d 63 ∧ H i.kn = some (.lst ((i.its ++ [t']).map V.ref)) ∧ ∀ t ∈ i.its ++ [t'], ItemX K i.p i.d i.kn H t
section
variable {P : Program} {w : World} {K : PySem.W.Frag} {mg : Str → Option Value} {base : Heap} {f : Addr} {cdv : Value} {A : Around} {outer : List Env} {s : Shared} {H0 : Hp} {E : XK}
structure OwnsE (P : Program) (w : World) (K : PySem.W.Frag) (mg : Str → Option Value) (base : Heap) : Prop where
  deck : Own P w K mg base 1 "_law_deck" ["script"] (spDeck K)
  draw : Own P w K mg base 1 "_law_draw" ["deck", "many"] spDraw
  mixed : Own P w K mg base 2 "_law_mixed" ["deck", "items"] spMixedP
  net : Own P w K mg base 3 "_law_net" ["deck", "n"] spNetS
  walk : Own P w K mg base 3 "_law_walk" ["deck", "net", "first", "many"] spWalk
  round : Own P w K mg base 4 "_law_round" ["deck", "net", "many"] spRound
  jour : Own P w K mg base 4 "_law_journey" ["deck", "net", "many"] spLJourney
  placed : Own P w K mg base 6 "_law_placed" ["net", "run", "ring", "standing", "journey"] (spPlaced K)
  named : Own P w K mg base 6 "_law_named" ["net", "run", "ring", "standing", "journey"] (spPlaced K)
theorem BE.rep {i : IxE} {H : Hp} (h : BE K i H) {l : Addr} (nl : H l = none) : ∃ as, Rep K (upd H l (.lst [.ref i.x.a, .ref i.x.ru, .ref i.x.ri, .ref i.x.st, .ref i.x.jr])) (.lst (fiveD i.g)) (.ref l) as := by
  obtain ⟨⟨as, r⟩, _⟩ := h.five.fiveR (K := K)
  refine ⟨l :: as, ?_⟩
  rw [Rep]
  exact ⟨l, _, as, rfl, upd_same, r.same (same_new nl), nmem r nl, rfl⟩
theorem le_5 (B : NoNames mg) (O : OwnsE P w K mg base) (hr : Room 6 (A.deeper (envOfC "law" (defScope sLawE) s.heap.objs.size f cdv))) (hgd : (A.deeper (envOfC "law" (defScope sLawE) s.heap.objs.size f cdv)).guards = some []) : PS (cxOf CX0 P w K mg base nLawE "law" (defScope sLawE) f cdv A outer s H0 E).nox (tbE 5) (tCutI (JT1 K) (JT2 K)) := by
  obtain ⟨fP, fdP, GP, mP, kP, bP⟩ := O.placed.ex
  refine ps_cutI (JT1 K) (JT2 K) (ps_par (i := 10) (j := 11) rfl scLawE.nd rfl rfl (by decide) rfl rfl (pa_cons (pe_callB (call_repr hr hgd) (by rfl) B.repr (by decide +kernel) (pa_cons (pe_lst (pa_cons (pv 5) (pa_cons (pv 6) (pa_cons (pv 7) (pa_cons (pv 9) (pa_cons (pv 8) pa_nil)))))) pa_nil))
    (pa_cons (pe_call GP hr rfl mP kP bP .nil pass0 (pa_cons (pv 5) (pa_cons (pv 6) (pa_cons (pv 7) (pa_cons (pv 9) (pa_cons (pv 8) pa_nil)))))) pa_nil)) (by rfl)) ?_
  rintro i D σ H ⟨s10, s11, s12, rfl, b⟩ nx
  obtain ⟨_, f1, f2, f3⟩ := b.five.fiveR (K := K)
  refine ⟨_, rfl, _, rfl, _, rfl, _, rfl, _, rfl, by show 5 ≤ sizeLine; decide, fun l nl => ?_⟩
  obtain ⟨as, r⟩ := b.rep nl
  have sl := same_new (o := .lst [.ref i.x.a, .ref i.x.ru, .ref i.x.ri, .ref i.x.st, .ref i.x.jr]) nl
  have b := b.same sl
  refine ⟨.ref l, fiveD i.g, as, rfl, r, f1, by omega, by omega, ?_⟩
  clear r sl nl
  generalize (upd H l (.lst [.ref i.x.a, .ref i.x.ru, .ref i.x.ri, .ref i.x.st, .ref i.x.jr])) = H1 at b ⊢
  refine ⟨_, rfl, _, rfl, _, rfl, _, rfl, _, rfl, i.x, i.g, rfl, b.five, fun r vs as T H' s' nr IT le hr' rp => ⟨_, _, rfl, nx _ _ ?_⟩⟩
  have nn := b.dk.ne_none nr
  exact ⟨s12, T, r, vs, as, rfl, b.same s', IT, le, hr', rp, nn.1, nn.2, fun z => by rw [z, b.kl] at nr; cases nr⟩
theorem le_6 (B : NoNames mg) (O : OwnsE P w K mg base) (hr : Room 6 (A.deeper (envOfC "law" (defScope sLawE) s.heap.objs.size f cdv))) (hgd : (A.deeper (envOfC "law" (defScope sLawE) s.heap.objs.size f cdv)).guards = some []) : PS (cxOf CX0 P w K mg base nLawE "law" (defScope sLawE) f cdv A outer s H0 E).nox (tbE 6) (tCutI (JT2 K) (JT2 K)) := by
  obtain ⟨fP, fdP, GP, mP, kP, bP⟩ := O.named.ex
  refine ps_cutI (JT2 K) (JT2 K) (ps_if (pt_cmpR op_ne (pe_callB (call_repr hr hgd) (by rfl) B.repr (by decide +kernel) (pa_cons (pv 11) pa_nil)) (pe_callB (call_repr hr hgd) (by rfl) B.repr (by decide +kernel) (pa_cons (pe_call GP hr rfl mP kP bP .nil pass0 (pa_cons (pv 5) (pa_cons (pv 6) (pa_cons (pv 7) (pa_cons (pv 9) (pa_cons (pv 8) pa_nil)))))) pa_nil)) (nomark _))
    (pss_one (ps_ret pe_bl)) pss_nil) ?_
  rintro i D σ H ⟨s12, T, sn, vs, as, rfl, b, IT, le, hsn, rp, n1, n2, n3⟩ nx
  obtain ⟨w1, w2, w3⟩ := placed_wt b.five le
  refine ⟨_, rfl, .ref sn, placedD i.g T, _, rfl, seenR hsn rp, w1, by omega, by omega, ?_⟩
  refine ⟨_, rfl, _, rfl, _, rfl, _, rfl, _, rfl, i.x, i.g, rfl, b.five, fun r vs2 as2 T2 H' s' nr IT2 le2 hr2 rp2 => ?_⟩
  obtain rfl := IT.uniq IT2
  refine ⟨.ref r, placedD i.g T, _, rfl, seenR hr2 rp2, w1, by omega, by omega, rfl, _, rfl, ?_⟩
  rw [same_str rfl]
  exact iteF (nx _ _ ⟨s12, T, sn, vs, as, rfl, b.same s', IT, le, s' _ _ hsn, rp.same s', n1, n2, n3⟩)
theorem le_8 (B : NoNames mg) (hr : Room 6 (A.deeper (envOfC "law" (defScope sLawE) s.heap.objs.size f cdv))) (hgd : (A.deeper (envOfC "law" (defScope sLawE) s.heap.objs.size f cdv)).guards = some []) : PS (cxOf CX0 P w K mg base nLawE "law" (defScope sLawE) f cdv A outer s H0 E).nox (tbE 8) (tCutI (JT2 K) (JT2 K)) := by
  refine ps_cutI (JT2 K) (JT2 K) (ps_if (pt_cmpR op_ne (pe_callB (call_repr hr hgd) (by rfl) B.repr (by decide +kernel) (pa_cons (pe_lst (pa_cons (pv 5) (pa_cons (pv 6) (pa_cons (pv 7) (pa_cons (pv 9) (pa_cons (pv 8) pa_nil)))))) pa_nil)) (pv 10) (nomark _)) (pss_one (ps_ret pe_bl)) pss_nil) ?_
  rintro i D σ H ⟨s12, T, sn, vs, as, rfl, b, IT, le, hsn, rp, n1, n2, n3⟩ nx
  obtain ⟨_, f1, f2, f3⟩ := b.five.fiveR (K := K)
  refine ⟨_, rfl, _, rfl, _, rfl, _, rfl, _, rfl, by show 5 ≤ sizeLine; decide, fun l nl => ?_⟩
  obtain ⟨as', r⟩ := b.rep nl
  have sl := same_new (o := .lst [.ref i.x.a, .ref i.x.ru, .ref i.x.ri, .ref i.x.st, .ref i.x.jr]) nl
  refine ⟨.ref l, fiveD i.g, as', rfl, r, f1, by omega, by omega, _, rfl, rfl, _, rfl, ?_⟩
  rw [same_str rfl]
  exact iteF (nx _ _ ⟨s12, T, sn, vs, as, rfl, b.same sl, IT, le, sl _ _ hsn, rp.same sl, n1, n2, n3⟩)
theorem le_9 (B : NoNames mg) (hr : Room 6 (A.deeper (envOfC "law" (defScope sLawE) s.heap.objs.size f cdv))) (hgd : (A.deeper (envOfC "law" (defScope sLawE) s.heap.objs.size f cdv)).guards = some []) : PS (cxOf CX0 P w K mg base nLawE "law" (defScope sLawE) f cdv A outer s H0 E).nox (tbE 9) (tCutI (JT2 K) (JT3 K)) := by
  refine ps_cutI (JT2 K) (JT3 K) (ps_expr (pe_bm PySem.F.plainAttrs_list PySem.F.slot_list_append PySem.F.type_list_append mt_append (pv 2) (pa_cons (pe_tup (pa_cons (pv 5) (pa_cons (pv 6) (pa_cons (pv 7) (pa_cons (pv 9) (pa_cons (pv 8) (pa_cons (pe_callB (call_repr hr hgd) (by rfl) B.repr (by decide +kernel) (pa_cons (pv 11) pa_nil)) (pa_cons (pv 11) pa_nil)))))))) pa_nil))) ?_
  rintro i D σ H ⟨s12, T, sn, vs, as, rfl, b, IT, le, hsn, rp, n1, n2, n3⟩ nx
  obtain ⟨w1, w2, w3⟩ := placed_wt b.five le
  refine ⟨_, rfl, .inl ⟨rfl, _, SqL.of b.kl⟩, _, rfl, _, rfl, _, rfl, _, rfl, _, rfl, _, rfl, .ref sn, placedD i.g T, _, rfl, seenR hsn rp, w1, by omega, by omega, _, rfl, by show 7 ≤ sizeLine; decide, fun t nt => ?_⟩
  have st := same_new (o := .tup [.ref i.x.a, .ref i.x.ru, .ref i.x.ri, .ref i.x.st, .ref i.x.jr, .str (shown (.lst (placedD i.g T))), .ref sn]) nt
  have b := b.same st
  have it : ItemX K i.p i.d i.kn (upd H t (.tup [.ref i.x.a, .ref i.x.ru, .ref i.x.ri, .ref i.x.st, .ref i.x.jr, .str (shown (.lst (placedD i.g T))), .ref sn])) t :=
    ⟨i.x, i.g, T, sn, vs, as, upd_same, b.five, IT, le, st _ _ hsn, rp.same st, n1, n2, n3⟩
  clear st nt hsn rp
  generalize (upd H t (.tup [.ref i.x.a, .ref i.x.ru, .ref i.x.ri, .ref i.x.st, .ref i.x.jr, .str (shown (.lst (placedD i.g T))), .ref sn])) = H1 at b it ⊢
  have ll := b.len
  have nt : ∀ zs, H1 i.kn ≠ some (.tup zs) := fun zs z => by rw [b.kl] at z; cases z
  refine ⟨i.kn, i.its.map V.ref, .ref t, rfl, rfl, b.kl, by rw [List.length_map, sizeLine_eq]; omega, nx _ _ ?_⟩
  refine ⟨_, _, _, _, _, _, _, _, _, _, t, rfl, b.dk.upd (b.dk.kne b.kl) b.kd, by rw [upd_same, List.map_append]; rfl, fun t' ht => ?_⟩
  rcases List.mem_append.mp ht with h | h
  · exact (b.all t' h).upd nt
  · rw [List.mem_singleton.mp h]
    exact it.upd nt
end
end Sw
namespace Sw
open PySem PySem.Spec PyProof.Rows L2 SX
section
variable {P : Program} {w : World} {K : PySem.W.Frag} {mg : Str → Option Value} {base : Heap} {f : Addr} {cdv : Value} {A : Around} {outer : List Env} {s : Shared} {H0 : Hp} {E : XK}
theorem not_eqvD {d : PyData} (h : SeqAt.shaped d = true) : (!PyData.eqv d d) = false := by
  rw [SeqAt.eqv_refl d (SeqAt.canLay_of_shaped h)]
  rfl
theorem le_7 (B : NoNames mg) (hr : Room 6 (A.deeper (envOfC "law" (defScope sLawE) s.heap.objs.size f cdv))) : PS (cxOf CX0 P w K mg base nLawE "law" (defScope sLawE) f cdv A outer s H0 E).nox (tbE 7) (tCutI (JT2 K) (JT2 K)) := by
  refine ps_cutI (JT2 K) (JT2 K) (ps_if (PW.pt (pw_or (pt_cmpR (op_neD hr.units) (pe_ix ix_list (pv 11) pe_int (fun _ _ => rfl)) (pv 5) (nomark _)) (pw_or (pt_cmpR (op_neD hr.units) (pe_ix ix_list (pv 11) pe_int (fun _ _ => rfl)) (pv 9) (nomark _))
    (pw_or1 (pt_cmpR (op_neD hr.units) (pe_lst (pa_cons (pe_ix ix_list (pv 11) pe_int (fun _ _ => rfl)) (pa_cons (pe_ix ix_list (pv 11) pe_int (fun _ _ => rfl)) (pa_cons (pe_ix ix_list (pv 11) pe_int (fun _ _ => rfl)) (pa_cons (pe_ix ix_list (pv 11) pe_int (fun _ _ => rfl)) pa_nil)))))
      (pe_op op_rep (pe_lst (pa_cons pe_non pa_nil)) pe_int) (nomark _)))))) (pss_one (ps_ret pe_bl)) pss_nil) ?_
  rintro i D σ H ⟨s12, T, sn, vs, as, rfl, b, IT, le, hsn, rp, n1, n2, n3⟩ nx
  obtain ⟨v2, b2, e2, r2, _⟩ := rp.at (i := 2) (d := netDn i.g.m i.g.ars) rfl
  obtain ⟨v5, b5, e5, r5, _⟩ := rp.at (i := 5) (d := pairD i.g.row i.g.s0) rfl
  obtain ⟨v0, b0, e0, r0, _⟩ := rp.at (i := 0) (d := .non) rfl
  obtain ⟨v3, b3, e3, r3, _⟩ := rp.at (i := 3) (d := .non) rfl
  obtain ⟨v6, b6, e6, r6, _⟩ := rp.at (i := 6) (d := .non) rfl
  obtain ⟨va, ba, ea, ra, _⟩ := rp.at (i := 10) (d := .non) rfl
  simp only [Rep] at r0 r3 r6 ra
  obtain ⟨rfl, _⟩ := r0
  obtain ⟨rfl, _⟩ := r3
  obtain ⟨rfl, _⟩ := r6
  obtain ⟨rfl, _⟩ := ra
  obtain ⟨an, rn⟩ := b.five.netR (K := K)
  obtain ⟨rs, _⟩ := b.five.standR (K := K)
  have tn : tupD (netDn i.g.m i.g.ars) := by
    unfold netDn
    simp only [tupD, tupDs]
    exact ⟨trivial, tup_arrs _, trivial⟩
  refine ⟨_, rfl, sn, vs, 2, v2, rfl, rfl, SqL.of hsn, at_of (j := 2) rfl e2, _, rfl, toP (netDn i.g.m i.g.ars), toP (netDn i.g.m i.g.ars), r2.dp tn, rn.dp tn, shp_net i.g, shp_net i.g, _, rfl, ?_⟩
  rw [not_eqvD (shp_net i.g)]
  refine iteF ⟨_, rfl, sn, vs, 5, v5, rfl, rfl, SqL.of hsn, at_of (j := 5) rfl e5, _, rfl, toP (pairD i.g.row i.g.s0), toP (pairD i.g.row i.g.s0), r5.dp (tup_pair _ _), rs.dp (tup_pair _ _), shp_pair _ _, shp_pair _ _, _, rfl, ?_⟩
  rw [not_eqvD (shp_pair _ _)]
  refine iteF ⟨_, rfl, sn, vs, 0, .non, rfl, rfl, SqL.of hsn, at_of (j := 0) rfl e0, _, rfl, sn, vs, 3, .non, rfl, rfl, SqL.of hsn, at_of (j := 3) rfl e3, _, rfl, sn, vs, 6, .non, rfl, rfl, SqL.of hsn, at_of (j := 6) rfl e6, _, rfl, sn, vs, 10, .non, rfl, rfl, SqL.of hsn, at_of (j := 10) rfl ea, by show 4 ≤ sizeLine; decide, fun l1 nl1 => ⟨by show 1 ≤ sizeLine; decide, fun l2 nl2 => ?_⟩⟩
  have s1 := same_new (o := .lst [.non, .non, .non, .non]) nl1
  have s2 := same_new (o := .lst [.non]) nl2
  refine ⟨l2, 4, [.non], rfl, rfl, upd_same, by decide, by decide, by show 1 * 4 ≤ sizeLine; decide, fun l3 nl3 => ?_⟩
  have s3 := same_new (o := .lst (List.replicate (4 : Int).toNat [V.non]).flatten) nl3
  have all := (s1.trans s2).trans s3
  refine ⟨.list [.none, .none, .none, .none], .list [.none, .none, .none, .none], .lst (SqL.of ((s2.trans s3) _ _ upd_same)) (.cons .non (.cons .non (.cons .non (.cons .non .nil)))), .lst (xs := [.non, .non, .non, .non]) (SqL.of upd_same) (.cons .non (.cons .non (.cons .non (.cons .non .nil)))), by decide, by decide, _, rfl, ?_⟩
  rw [not_eqvD (by decide)]
  exact iteF (nx _ _ ⟨s12, T, sn, vs, as, rfl, b.same all, IT, le, all _ _ hsn, rp.same all, n1, n2, n3⟩)
end
end Sw
namespace Sw
open PySem PySem.Spec PyProof.Rows L2 SX
section
variable {P : Program} {w : World} {K : PySem.W.Frag} {mg : Str → Option Value} {base : Heap} {f : Addr} {cdv : Value} {A : Around} {outer : List Env} {s : Shared} {E : XK}
theorem ends_at {H : Hp} {t : Addr} {e : Int × Int} (hq : H t = some (.tup [.int e.1, .int e.2])) : endsOf H (.ref t) = e := by
  unfold endsOf
  dsimp only
  rw [hq]
/-- between two turns -/
def JE (K : PySem.W.Frag) (sa p d kn : Addr) (i : Nat) : SH := fun σ H => ∃ s3 s4 s5 s6 s7 s8 s9 s10 s11 s12, ∃ its : List Addr, σ = [some (.ref sa), some (.ref p), some (.ref kn), s3, s4, s5, s6, s7, s8, s9, s10, s11, s12] ∧ Deck H p d 63 ∧ H kn = some (.lst (its.map V.ref)) ∧ kn ≠ d ∧ its.length = i ∧ ∀ t ∈ its, ItemX K p d kn H t
theorem law_bodyE (B : NoNames mg) (O : OwnsE P w K mg base) {H : Hp} {vs : List V} {Q : VK}
    (hr : Room 6 (A.deeper (envOfC "law" (defScope sLawE) s.heap.objs.size f cdv))) (hgd : (A.deeper (envOfC "law" (defScope sLawE) s.heap.objs.size f cdv)).guards = some []) (h : spLaw K vs H Q E) :
    ∃ t, PSs (cxOf CX0 P w K mg base nLawE "law" (defScope sLawE) f cdv A outer s H E).nox (defBody sLawE) t ∧ t { nx := fun _ H' => Q .non H', rt := Q } (start nLawE vs) H := by
  obtain ⟨fK, fdK, GK, mK, kK, bK⟩ := O.deck.ex
  obtain ⟨fD, fdD, GD, mD, kD, bD⟩ := O.draw.ex
  obtain ⟨fM, fdM, GM, mM, kM, bM⟩ := O.mixed.ex
  obtain ⟨fN, fdN, GN, mN, kN, bN⟩ := O.net.ex
  obtain ⟨fW, fdW, GW, mW, kW, bW⟩ := O.walk.ex
  obtain ⟨fR, fdR, GR, mR, kR, bR⟩ := O.round.ex
  obtain ⟨fJ, fdJ, GJ, mJ, kJ, bJ⟩ := O.jour.ex
  obtain ⟨fP, fdP, GP, mP, kP, bP⟩ := O.placed.ex
  obtain ⟨sa, ns, rfl, hS, hl, k⟩ := h
  have hr1 : Room 1 _ := hr.mono (by decide)
  have hr2 : Room 2 _ := hr.mono (by decide)
  have hr3 : Room 3 _ := hr.mono (by decide)
  have hr4 : Room 4 _ := hr.mono (by decide)
  refine ⟨_, pss_cons (ps_set (i := 1) scLawE.nd rfl (.inl rfl) (pe_call GK hr1 rfl mK kK bK .nil pass0 (pa_cons (pv 0) pa_nil))) <|
    pss_cons (ps_set (i := 2) scLawE.nd rfl (.inl rfl) (pe_lst pa_nil)) <|
    pss_cons (ps_for PassesOwn.never rfl (pi_range1 (by rfl) B.range (pa_cons pe_int pa_nil)) (pg_name (i := 3) scLawE.nd rfl (.inl rfl))
      (pss_cons (ps_set (i := 4) scLawE.nd rfl (.inl rfl) (pe_ix ix_list (pe_lst (pa_cons pe_int (pa_cons pe_int (pa_cons pe_int (pa_cons pe_int (pa_cons pe_int (pa_cons pe_int (pa_cons pe_int
        (pa_cons (pe_op op_add pe_int (pe_call GD hr1 rfl mD kD bD .nil pass0 (pa_cons (pv 1) (pa_cons pe_int pa_nil)))) pa_nil))))))))) (pv 3) (fun _ _ => rfl))) <|
      pss_cons (ps_set (i := 5) scLawE.nd rfl (.inl rfl) (pe_call GN hr3 rfl mN kN bN .nil pass0 (pa_cons (pv 1) (pa_cons (pv 4) pa_nil)))) <|
      pss_cons (ps_set (i := 6) scLawE.nd rfl (.inl rfl) (pe_call GW hr3 rfl mW kW bW .nil pass0 (pa_cons (pv 1) (pa_cons (pv 5) (pa_cons (pe_call GD hr1 rfl mD kD bD .nil pass0 (pa_cons (pv 1) (pa_cons (pv 4) pa_nil))) (pa_cons (pe_call GD hr1 rfl mD kD bD .nil pass0 (pa_cons (pv 1) (pa_cons pe_int pa_nil))) pa_nil)))))) <|
      pss_cons (ps_par (i := 7) (j := 8) rfl scLawE.nd rfl rfl (by decide) rfl rfl (pa_cons (pe_call GR hr4 rfl mR kR bR .nil pass0 (pa_cons (pv 1) (pa_cons (pv 5) (pa_cons (pe_call GD hr1 rfl mD kD bD .nil pass0 (pa_cons (pv 1) (pa_cons pe_int pa_nil))) pa_nil))))
        (pa_cons (pe_call GJ hr4 rfl mJ kJ bJ .nil pass0 (pa_cons (pv 1) (pa_cons (pv 5) (pa_cons (pe_call GD hr1 rfl mD kD bD .nil pass0 (pa_cons (pv 1) (pa_cons pe_int pa_nil))) pa_nil)))) pa_nil)) (by rfl)) <|
      pss_cons (ps_set (i := 9) scLawE.nd rfl (.inl rfl) (pe_tup (pa_cons (pe_callTy call_tuple_of (by rfl) B.tuple (by decide +kernel) (pa_cons (pe_call GM hr2 rfl mM kM bM .nil pass0 (pa_cons (pv 1) (pa_cons (pe_listRg rfl (by rfl) B.list (prg_1 (by rfl) B.range (pe_op op_add (pv 4) pe_int))) pa_nil))) pa_nil))
        (pa_cons (pe_call GD hr1 rfl mD kD bD .nil pass0 (pa_cons (pv 1) (pa_cons (pv 4) pa_nil))) pa_nil)))) <|
      pss_cons (st := tbE 5) (le_5 B O hr hgd) <| pss_cons (st := tbE 6) (le_6 B O hr hgd) <| pss_cons (st := tbE 7) (le_7 B hr) <| pss_cons (st := tbE 8) (le_8 B hr hgd) <| pss_one (st := tbE 9) (le_9 B hr hgd))) <|
    pss_cons (ps_for PassesOwn.never rfl (pi_list (pe_revL (pv 2))) (pg_tup rfl (pgs_cons (pg_name (i := 5) scLawE.nd rfl (.inl rfl)) (pgs_cons (pg_name (i := 6) scLawE.nd rfl (.inl rfl)) (pgs_cons (pg_name (i := 7) scLawE.nd rfl (.inl rfl)) (pgs_cons (pg_name (i := 9) scLawE.nd rfl (.inl rfl))
        (pgs_cons (pg_name (i := 8) scLawE.nd rfl (.inl rfl)) (pgs_cons (pg_name (i := 12) scLawE.nd rfl (.inl rfl)) (pgs_cons (pg_name (i := 11) scLawE.nd rfl (.inl rfl)) pgs_nil))))))))
      (pss_one (ps_if (PW.pt (pw_or (pt_cmpR op_ne (pe_callB (call_repr hr hgd) (by rfl) B.repr (by decide +kernel) (pa_cons (pe_call GP hr rfl mP kP bP .nil pass0 (pa_cons (pv 5) (pa_cons (pv 6) (pa_cons (pv 7) (pa_cons (pv 9) (pa_cons (pv 8) pa_nil)))))) pa_nil)) (pv 12) (nomark _))
        (pw_or1 (pt_cmpR op_ne (pe_callB (call_repr hr hgd) (by rfl) B.repr (by decide +kernel) (pa_cons (pv 11) pa_nil)) (pv 12) (nomark _))))) (pss_one (ps_ret pe_bl)) pss_nil))) <|
    pss_one (ps_ret pe_bl), ?_⟩
  refine ⟨_, rfl, sa, ns, rfl, hS, hl, fun p d H1 s1 np nd D1 => ⟨by show 0 ≤ sizeLine; exact Nat.zero_le _, fun kn nkn => ?_⟩⟩
  have skn := same_new (o := .lst []) nkn
  have hkn : (upd H1 kn (.lst [])) kn = some (.lst []) := upd_same
  have knd := (D1.ne_none nkn).2
  have D2 := D1.same skn
  clear skn nkn
  generalize (upd H1 kn (.lst [])) = H2 at hkn D2 ⊢
  refine ⟨8, rfl, by decide, by decide, for_range (lo := 0) (n := 8) (JE K sa p d kn) ⟨_, _, _, _, _, _, _, _, _, _, [], rfl, D2, hkn, knd, rfl, fun _ h => absurd h (by simp)⟩ ?_ ?_⟩
  · rintro i σ H5 hi ⟨s3, s4, s5, s6, s7, s8, s9, s10, s11, s12, its, rfl, D5, hk5, _, li, ai⟩
    refine ⟨_, rfl, p, d, 12, rfl, D5, by omega, fun r H6 r0 r1 _ D6 k6 => ⟨_, _, rfl, rfl, by show 8 ≤ sizeLine; decide, fun L nL => ?_⟩⟩
    have r1 := r1 (by decide)
    obtain ⟨j, rfl⟩ := Int.eq_ofNat_of_zero_le r0
    obtain ⟨m, en, n1, n2⟩ : ∃ m : Nat, ([.int 1, .int 2, .int 3, .int 4, .int 5, .int 8, .int 12, .int (1 + (j : Int))] : List V)[i]? = some (.int m) ∧ 1 ≤ m ∧ m ≤ 12 := by
      have : i = 0 ∨ i = 1 ∨ i = 2 ∨ i = 3 ∨ i = 4 ∨ i = 5 ∨ i = 6 ∨ i = 7 := by omega
      rcases this with rfl | rfl | rfl | rfl | rfl | rfl | rfl | rfl
      · exact ⟨1, rfl, by decide, by decide⟩
      · exact ⟨2, rfl, by decide, by decide⟩
      · exact ⟨3, rfl, by decide, by decide⟩
      · exact ⟨4, rfl, by decide, by decide⟩
      · exact ⟨5, rfl, by decide, by decide⟩
      · exact ⟨8, rfl, by decide, by decide⟩
      · exact ⟨12, rfl, by decide, by decide⟩
      · exact ⟨1 + j, by show some (V.int (1 + (j : Int))) = some (V.int ((1 + j : Nat) : Int)); rw [Int.natCast_add]; rfl, by omega, by omega⟩
    refine ⟨_, rfl, L, _, _, .int m, rfl, rfl, SqL.of upd_same, at_of (j := i) (by omega) en, ?_⟩
    have sL := same_new (o := .lst [.int 1, .int 2, .int 3, .int 4, .int 5, .int 8, .int 12, .int (1 + (j : Int))]) nL
    have k7 : Kp p d H5 _ := k6.trans (.of sL)
    have D7 := D6.same sL
    clear k6 sL
    generalize (upd H6 L _) = H7 at D7 k7 ⊢
    clear nL D6 en
    refine ⟨_, rfl, _, rfl, p, d, (m : Int), rfl, D7, by omega, by omega, fun a b ts H8 D8 k8 ha hb arr lt asc nol => ?_⟩
    obtain ⟨ars, AR⟩ := ArsAt.ex arr
    have N : NetAt (m : Int) H8 a b ts := ⟨ha, hb, arr, lt, by omega, by omega⟩
    have asc2 : ars.Pairwise lt2 ∧ ∀ e ∈ ars, e.1 ≠ e.2 := by
      have em : ts.map (endsOf H8) = ars := by
        clear asc nol lt arr N ha hb
        induction AR with
        | nil => rfl
        | cons h t ih =>
          obtain ⟨q, rfl, hq⟩ := h
          rw [List.map_cons, ih, ends_at hq]
      rw [em] at asc
      refine ⟨asc, fun e he => ?_⟩
      obtain ⟨x, hx, q, rfl, hq⟩ := paired_mem AR he
      have := nol _ hx
      rw [ends_at hq] at this
      exact this
    clear asc nol
    refine ⟨_, rfl, _, rfl, _, rfl, _, rfl, p, d, (m : Int), rfl, D8, by omega, fun fi H9 f0 f1 _ D9 k9 => ⟨_, rfl, p, d, 30, rfl, D9, by decide, fun ma H10 q0 q1 _ D10 k10 => ?_⟩⟩
    have f1 := f1 (by omega)
    have q1 := q1 (by decide)
    have kN := k9.trans k10
    have N := N.keep (.kp D8 kN)
    have AR := AR.keep (.kp D8 kN)
    refine ⟨p, d, a, b, (m : Int), fi, ma, ts, ars, rfl, D10, N, AR, ⟨f0, f1⟩, ⟨q0, by omega⟩, fun ru os H11 D11 k11 nru hru one olen oin ofst och _ => ?_⟩
    have N := N.keep (.kp D10 k11)
    have AR := AR.keep (.kp D10 k11)
    have RI : RunIn H11 ru os (os.getLast one) m := ⟨hru, List.getLast?_eq_some_getLast one, oin⟩
    have RO : RunOk (m : Int) ars os := ⟨List.length_pos_iff.mpr one, by omega, oin, och⟩
    refine ⟨_, rfl, _, rfl, _, rfl, p, d, 12, rfl, D11, by decide, fun mb H12 b0 b1 _ D12 k12 => ?_⟩
    have b1 := b1 (by decide)
    have N := N.keep (.kp D11 k12)
    have AR := AR.keep (.kp D11 k12)
    refine ⟨p, d, a, b, m, mb, ts, ars, rfl, D12, N, AR, ⟨b0, by omega⟩, fun ri gs gl H13 D13 k13 GI _ _ glen => ?_⟩
    have N := N.keep (.kp D12 k13)
    have AR := AR.keep (.kp D12 k13)
    have RI := RI.keep (.kp D11 (k12.trans k13))
    refine ⟨_, rfl, _, rfl, _, rfl, p, d, 6, rfl, D13, by decide, fun mc H14 c0 c1 _ D14 k14 => ?_⟩
    have c1 := c1 (by decide)
    have N := N.keep (.kp D13 k14)
    have AR := AR.keep (.kp D13 k14)
    refine ⟨p, d, a, b, (m : Int), mc, ts, ars, rfl, D14, N, AR, ⟨c0, by omega⟩, fun jr xs ls H15 D15 k15 hjr LA MM lj => ⟨_, _, rfl, ?_⟩⟩
    have N := N.keep (.kp D14 k15)
    have AR := AR.keep (.kp D14 k15)
    have k1315 := k14.trans k15
    have RI := RI.keep (.kp D13 k1315)
    have GI := GI.keep (.kp D13 k1315)
    have lx := LA.isIn.len
    have k15' : Kp p d H5 H15 := ((((((k7.trans k8).trans kN).trans k11).trans k12).trans k13).trans k14).trans k15
    clear k7 k8 kN k11 k12 k13 k14 k15 k1315 k9 k10
    have eN : (m : Int) + 1 = ((m + 1 : Nat) : Int) := by omega
    refine ⟨_, rfl, _, rfl, _, _, rfl, rfl, (m : Int) + 1, rfl, RgOk.of_le (by decide) (by omega) (by decide) (by omega), fun q nq => ?_⟩
    rw [eN, rgV_rgI]
    have sq : Same H15 (upd H15 q (.lst ((rgI (m + 1)).map V.int))) := same_new nq
    refine ⟨p, d, q, rgI (m + 1), rfl, D15.same sq, upd_same, by rw [rgI_len]; omega, fun r' row H16 D16 k16 nr hrr pr => ⟨r', _, rfl, .inl ⟨SqL.of hrr, fun rw_ nrw => ?_⟩⟩⟩
    have srw : Same H16 (upd H16 rw_ (.tup (row.map V.int))) := same_new nrw
    have D17 := D16.same srw
    have k17 : Kp p d H15 (upd H16 rw_ (.tup (row.map V.int))) := ((Kp.of sq).trans k16).trans (.of srw)
    have hrw : (upd H16 rw_ (.tup (row.map V.int))) rw_ = some (.tup (row.map V.int)) := upd_same
    clear D16 k16 srw nrw hrr sq nq
    generalize (upd H16 rw_ (.tup (row.map V.int))) = H17 at D17 k17 hrw ⊢
    refine ⟨_, rfl, _, rfl, p, d, (m : Int), rfl, D17, by omega, fun s0 H18 z0 z1 _ D18 k18 => ⟨by show 2 ≤ sizeLine; decide, fun st nst => ?_⟩⟩
    have z1 := z1 (by omega)
    have sst := same_new (o := .tup [.ref rw_, .int s0]) nst
    have k19 : Kp p d H15 (upd H18 st (.tup [.ref rw_, .int s0])) := (k17.trans k18).trans (.of sst)
    have D19 := D18.same sst
    have hst : (upd H18 st (.tup [.ref rw_, .int s0])) st = some (.tup [.ref rw_, .int s0]) := upd_same
    have hrw := (Kp.trans k18 (.of sst)) _ _ hrw (D17.tne hrw).1 (D17.tne hrw).2
    clear sst nst k17 k18
    generalize (upd H18 st (.tup [.ref rw_, .int s0])) = H19 at D19 k19 hst hrw ⊢
    have tu := TupS.kp D15 k19
    have kall := k15'.trans k19
    have five : FiveAt H19 ⟨a, b, ru, ri, st, rw_, jr, ts, xs⟩ ⟨m, ars, os, os.getLast one, gs, gl, row, s0, ls⟩ :=
      ⟨N.keep tu, AR.keep tu, asc2.1, asc2.2, RI.keep tu, RO, by show os.length ≤ 100; omega, GI.keep tu, by show gs.length ≤ 100; omega, hst, hrw, pr, z0, z1, tu _ _ hjr, LA.keep tu, MM, by show ls.length ≤ 20; omega⟩
    refine ⟨⟨sa, p, d, kn, 0 + (i : Int), its, _, _⟩, ⟨_, _, _, rfl, D19, kall _ _ hk5 (D5.kne hk5) knd, knd, by show its.length ≤ 8; omega, fun t ht => (ai t ht).kp D5 kall, five⟩, fun σ1 J1 h1 => ⟨_, h1, fun σ2 J2 h2 => ⟨_, h2, fun σ3 J3 h3 => ⟨_, h3, fun σ4 J4 h4 => ⟨_, h4, fun σ5 J5 h5 => ?_⟩⟩⟩⟩⟩
    obtain ⟨z3, z4, z5, z6, z7, z8, z9, z10, z11, z12, t', rfl, DZ, hkz, az⟩ := h5
    exact ⟨_, _, _, _, _, _, _, _, _, _, its ++ [t'], rfl, DZ, hkz, knd, by rw [List.length_append, li]; rfl, az⟩
  · rintro σ H3 ⟨s3, s4, s5, s6, s7, s8, s9, s10, s11, s12, its, rfl, D3, hk3, _, li, ai⟩
    refine ⟨_, rfl, kn, _, rfl, SqL.of hk3, fun kr nkr => ⟨kr, rfl, ⟨_, SqL.of upd_same⟩, ?_⟩⟩
    have sk : Same H3 (upd H3 kr (.lst (its.map V.ref).reverse)) := same_new nkr
    have hkr : (upd H3 kr (.lst (its.map V.ref).reverse)) kr = some (.lst (its.map V.ref).reverse) := upd_same
    have D4 := D3.same sk
    have ai : ∀ t ∈ its, ItemX K p d kn (upd H3 kr (.lst (its.map V.ref).reverse)) t := fun t ht => (ai t ht).kp D3 (.of sk)
    clear sk nkr hk3 D3
    generalize (upd H3 kr (.lst (its.map V.ref).reverse)) = H4 at hkr D4 ai ⊢
    refine for_it (walk_list (xs := (its.map V.ref).reverse)) (fun i σ H' => (∃ s3 s4 s5 s6 s7 s8 s9 s10 s11 s12, σ = [some (.ref sa), some (.ref p), some (.ref kn), s3, s4, s5, s6, s7, s8, s9, s10, s11, s12]) ∧ Same H4 H')
      ⟨⟨_, _, _, _, _, _, _, _, _, _, rfl⟩, Same.refl _⟩ (fun i σ H' _ h => SqL.of (h.2 _ _ hkr)) ?_ ?_
    · rintro i y σ H5 H6 hi ⟨⟨s3, s4, s5, s6, s7, s8, s9, s10, s11, s12, rfl⟩, s45⟩ ⟨rfl, ey⟩
      have my := List.mem_reverse.mp (List.mem_of_getElem? ey)
      obtain ⟨t, mt, rfl⟩ := List.mem_map.mp my
      obtain ⟨x, g, T, sn, vs, as, I⟩ := (ai t mt).kp D4 (.of s45)
      obtain ⟨w1, w2, w3⟩ := placed_wt I.five I.le
      refine ⟨t, _, rfl, SqT.of I.at', rfl, _, _, rfl, _, _, rfl, _, _, rfl, _, _, rfl, _, _, rfl, _, _, rfl, _, _, rfl, rfl, ?_⟩
      refine ⟨_, rfl, _, rfl, _, rfl, _, rfl, _, rfl, x, g, rfl, I.five, fun r vs2 as2 T2 H7 s7' nr IT2 le2 hr2 rp2 => ?_⟩
      obtain rfl := I.turn.uniq IT2
      have s46 := s45.trans s7'
      refine ⟨.ref r, placedD g T, _, rfl, seenR hr2 rp2, w1, by omega, by omega, _, rfl, rfl, _, rfl, ?_⟩
      have es : shown (.lst (placedD g T)) = seenZ g T := rfl
      rw [es, same_str rfl]
      refine iteF ⟨_, rfl, .ref sn, placedD g T, _, rfl, seenR (s7' _ _ I.seen) (I.rep.same s7'), w1, by omega, by omega, _, rfl, rfl, _, rfl, ?_⟩
      rw [es, same_str rfl]
      exact iteF ⟨⟨_, _, _, _, _, _, _, _, _, _, rfl⟩, s46⟩
    · rintro σ H5 ⟨⟨s3, s4, s5, s6, s7, s8, s9, s10, s11, s12, rfl⟩, s45⟩
      exact k H5
end
end Sw
namespace Sw
open PySem PySem.Spec PyProof.Rows L2 PySem.W
section
variable {P : Program} {w : World} {K : Frag} {mg : Str → Option Value} {base : Heap}
theorem Has.ownK1 {CX : CXT} {k : Nat} {x p1 : Str} {st : Stmt} {sp : Sp} (hs : Has K mg x st) (ok : ∀ f fd, Fun K x x st f fd → FnOk P w K mg base CX k f fd [p1] sp)
    (b : ∀ (kV doc pm : Value) (an : Option Addr) (cdv ct : Value) (us : List Value), us.length = ([p1] : List Str).length → bindArgs (fnOf x x (defArgs st) (defBody st) (defScope st) .none kV doc pm an cdv ct) ⟨us, []⟩ = pure (([p1] : List Str).zip us))
    (b1 : ∀ (kV doc pm : Value) (an : Option Addr) (cdv ct u : Value), bindArgs (fnOf x x (defArgs st) (defBody st) (defScope st) .none kV doc pm an cdv ct) ⟨[], ([p1] : List Str).zip [u]⟩ = pure (([p1] : List Str).zip [u]))
    (b2 : ∀ (kV doc pm : Value) (an : Option Addr) (cdv ct u : Value), bindArgs (fnOf x x (defArgs st) (defBody st) (defScope st) .none kV doc pm an cdv ct) ⟨[u], ([p1] : List Str).zip []⟩ = pure (([p1] : List Str).zip [u])) : OwnK P w K mg base CX k x [p1] [p1] sp := by
  obtain ⟨f, fd, F, m⟩ := hs
  exact ⟨f, fd, ok f fd F, m, F.kp, F.binds b, kb_oneR F b1 b2⟩
theorem Has.ownK2 {CX : CXT} {k : Nat} {x p1 p2 : Str} {st : Stmt} {sp : Sp} (hs : Has K mg x st) (ok : ∀ f fd, Fun K x x st f fd → FnOk P w K mg base CX k f fd [p1, p2] sp)
    (b : ∀ (kV doc pm : Value) (an : Option Addr) (cdv ct : Value) (us : List Value), us.length = ([p1, p2] : List Str).length → bindArgs (fnOf x x (defArgs st) (defBody st) (defScope st) .none kV doc pm an cdv ct) ⟨us, []⟩ = pure (([p1, p2] : List Str).zip us))
    (b1 : ∀ (kV doc pm : Value) (an : Option Addr) (cdv ct u v : Value), bindArgs (fnOf x x (defArgs st) (defBody st) (defScope st) .none kV doc pm an cdv ct) ⟨[], ([p2, p1] : List Str).zip [u, v]⟩ = pure (([p1, p2] : List Str).zip [v, u]))
    (b2 : ∀ (kV doc pm : Value) (an : Option Addr) (cdv ct u v : Value), bindArgs (fnOf x x (defArgs st) (defBody st) (defScope st) .none kV doc pm an cdv ct) ⟨[u], ([p2, p1] : List Str).zip [v]⟩ = pure (([p1, p2] : List Str).zip [u, v]))
    (b3 : ∀ (kV doc pm : Value) (an : Option Addr) (cdv ct u v : Value), bindArgs (fnOf x x (defArgs st) (defBody st) (defScope st) .none kV doc pm an cdv ct) ⟨[u, v], ([p2, p1] : List Str).zip []⟩ = pure (([p1, p2] : List Str).zip [u, v])) : OwnK P w K mg base CX k x [p1, p2] [p2, p1] sp := by
  obtain ⟨f, fd, F, m⟩ := hs
  exact ⟨f, fd, ok f fd F, m, F.kp, F.binds b, kb_pair F b1 b2 b3⟩
end
theorem run_k11 {P : Program} {w : World} {K : Frag} {mg : Str → Option Value} {base : Heap} {fa a : Addr} {s₁ : Shared} {H : Hp} {ns : List Int} {t0 t1 t2 t3 : Tok} (B : NoNames mg) (bs : mg "set" = none) (bsum : mg "sum" = none) (bd : mg "divmod" = none)
    (m0 : mg "MAX_STOPS" = some (.int 12 t0)) (m1 : mg "MAX_RUN" = some (.int 1000 t1)) (m2 : mg "MAX_LEGS" = some (.int 500 t2)) (m3 : mg "MAX_TIMES" = some (.int (10 ^ 30) t3)) (mF : mg "factorial" = some (.builtin "math.factorial")) (mL : mg "lcm" = some (.builtin "math.lcm"))
    (ET : ∃ C S, UErr K mg "BadText" "SwapError" C S) (EU : ∃ C S, UErr K mg "Unfit" "SwapError" C S)
    (hBetween : Has K mg "is_integer_between" sBetween) (hPair : Has K mg "is_pair" sPair) (hError : Has K mg "net_error" sError) (hForm : Has K mg "has_net_form" sForm) (hStop : Has K mg "is_stop" sStop) (hArrow : Has K mg "is_arrow" sArrow)
    (hRun : Has K mg "run_error" sRun) (hDone : Has K mg "done" sDone) (hGoes : Has K mg "goes" sGoes) (hTurns : Has K mg "turns" sTurns) (hTurnsOf : Has K mg "turns_of" sTurnsOf) (hTurnsAt : Has K mg "turns_at" sTurnsAt) (hPLed : Has K mg "led" sPLed)
    (hJour : Has K mg "journey_error" sJourney) (hLeg : Has K mg "is_leg" sIsLeg) (hJDone : Has K mg "journey_done" sJDone) (hLegDone : Has K mg "leg_done" sLegDone) (hSteps : Has K mg "steps_of" sSteps)
    (hNetText : Has K mg "net_text" sNetText) (hReadNet : Has K mg "read_net" sReadNet) (hEndsIn : Has K mg "ends_in" sEndsIn) (hNumIn : Has K mg "number_in" sNumIn)
    (hStand : Has K mg "standing_error" sStand) (hStForm : Has K mg "has_standing_form" sStForm) (hStNum : Has K mg "standing_number" sStNum) (hStAt : Has K mg "standing_at" sStAt) (hRowNum : Has K mg "row_number" sRowNum) (hRowAt : Has K mg "row_at" sRowAt)
    (hDeck : Has K mg "_law_deck" sDeck) (hDraw : Has K mg "_law_draw" sDraw) (hPick : Has K mg "_law_pick" sPick) (hMixed : Has K mg "_law_mixed" sMixed) (hNet : Has K mg "_law_net" sNet) (hOnward : Has K mg "_law_onward" sOnward) (hWalk : Has K mg "_law_walk" sWalk) (hBack : Has K mg "_law_back" sBack)
    (hRound : Has K mg "_law_round" sRound) (hLJour : Has K mg "_law_journey" sLJourney) (hPlaced : Has K mg "_law_placed" sPlaced) (hNamed : Has K mg "_law_named" sNamed)
    (hLaw : Has K mg "law" sLawE) (hfa : mg "law" = some (.ref fa))
    (ev : Env0 P w K mg base callerA [] s₁ H) (sq : SqL K H a (ns.map V.int)) (hlen : ns.length ≤ 63) :
    codeAny (model P w) callerA (.call (.ref fa) ⟨[.ref a], []⟩) (CR CX0 [] P w H s₁ (fun v _ => v = .bl true) fun _ _ _ => False) s₁ := by
  obtain ⟨C, S, UT⟩ := ET
  obtain ⟨C', S', UU⟩ := EU
  obtain ⟨f, fd, F, m⟩ := hLaw
  have e := hfa.symm.trans m
  cases e
  have O1 : Own P w K mg base 1 "is_integer_between" ["value", "least", "most"] (spBetween K) := hBetween.own (fun f fd F => ok_between F B) fun _ _ _ _ _ _ us hl => match us, hl with | [_, _, _], _ => rfl
  have O2 : Own P w K mg base 1 "is_pair" ["value"] (spPair K) := hPair.own (fun f fd F => ok_pair F B) fun _ _ _ _ _ _ us hl => match us, hl with | [_], _ => rfl
  have O3 : Own P w K mg base 2 "is_stop" ["n", "value"] (spStop K) := hStop.own (fun f fd F => ok_stop F O1) fun _ _ _ _ _ _ us hl => match us, hl with | [_, _], _ => rfl
  have O4 : Own P w K mg base 3 "is_arrow" ["n", "value"] (spArrow K) := hArrow.own (fun f fd F => ok_arrow F O2 O3) fun _ _ _ _ _ _ us hl => match us, hl with | [_, _], _ => rfl
  have O5 : Own P w K mg base 2 "has_net_form" ["value"] (spForm K) := hForm.own (fun f fd F => ok_form F B t0 m0 O2 O1) fun _ _ _ _ _ _ us hl => match us, hl with | [_], _ => rfl
  have O6 : Own P w K mg base 4 "net_error" ["value"] (spError K) := hError.own (fun f fd F => ok_error F B O5 O4) fun _ _ _ _ _ _ us hl => match us, hl with | [_], _ => rfl
  have OR : Own P w K mg base 3 "run_error" ["net", "value"] (spRun K) := hRun.own (fun f fd F => ok_run F B bs t1 m1 O3) fun _ _ _ _ _ _ us hl => match us, hl with | [_, _], _ => rfl
  have OL : Own P w K mg base 4 "is_leg" ["net", "value"] (spLeg K) := hLeg.own (fun f fd F => ok_isLeg F B t3 m3 O2 OR O1) fun _ _ _ _ _ _ us hl => match us, hl with | [_, _], _ => rfl
  have P5Z : Own P w K mg base 1 "done" ["standing", "run"] (spDone true) := hDone.own (fun f fd F => ok_done true F B) fun _ _ _ _ _ _ us hl => match us, hl with | [_, _], _ => rfl
  have P6 : Own P w K mg base 2 "goes" ["n", "run"] spGoes := hGoes.own (fun f fd F => ok_goes F B P5Z) fun _ _ _ _ _ _ us hl => match us, hl with | [_, _], _ => rfl
  have P7 : Own P w K mg base 1 "turns_at" ["moves", "place"] spTurnsAt := hTurnsAt.own (fun f fd F => ok_turnsAt F B) fun _ _ _ _ _ _ us hl => match us, hl with | [_, _], _ => rfl
  have P8 : Own P w K mg base 2 "turns_of" ["moves"] spTurnsOf := hTurnsOf.own (fun f fd F => ok_turnsOf F B mL P7) fun _ _ _ _ _ _ us hl => match us, hl with | [_], _ => rfl
  have PA : Own P w K mg base 3 "led" ["row", "moves", "times"] spPLed := hPLed.own (fun f fd F => ok_pLed F B P8) fun _ _ _ _ _ _ us hl => match us, hl with | [_, _, _], _ => rfl
  have PB : Own P w K mg base 4 "leg_done" ["standing", "run", "times"] spLegDone := hLegDone.own (fun f fd F => ok_legDone F B PA P6) fun _ _ _ _ _ _ us hl => match us, hl with | [_, _, _], _ => rfl
  have N1 : Own P w K mg base 1 "number_in" ["word"] spNumIn := hNumIn.own (fun f fd F => ok_numIn F B t0 m0) fun _ _ _ _ _ _ us hl => match us, hl with | [_], _ => rfl
  have N2 : Own P w K mg base 2 "ends_in" ["word"] spEndsIn := hEndsIn.own (fun f fd F => ok_endsIn F N1) fun _ _ _ _ _ _ us hl => match us, hl with | [_], _ => rfl
  have SF : Own P w K mg base 2 "has_standing_form" ["n", "value"] (spStForm K) := hStForm.own (fun f fd F => ok_stForm F B O2) fun _ _ _ _ _ _ us hl => match us, hl with | [_, _], _ => rfl
  have SN : Own P w K mg base 1 "row_number" ["row"] (spRowNum K) := hRowNum.own (fun f fd F => ok_rowNum F B) fun _ _ _ _ _ _ us hl => match us, hl with | [_], _ => rfl
  have SA : Own P w K mg base 1 "row_at" ["many", "number"] spRowAt := hRowAt.own (fun f fd F => ok_rowAt F B bd mF) fun _ _ _ _ _ _ us hl => match us, hl with | [_, _], _ => rfl
  have OP : OwnsP P w K mg base C C' := ⟨
    hError.ownK1 (fun f fd F => ok_error F B O5 O4) (fun _ _ _ _ _ _ us hl => match us, hl with | [_], _ => rfl) (fun _ _ _ _ _ _ _ => rfl) fun _ _ _ _ _ _ _ => rfl,
    hNetText.ownK1 (fun f fd F => ok_netText F) (fun _ _ _ _ _ _ us hl => match us, hl with | [_], _ => rfl) (fun _ _ _ _ _ _ _ => rfl) fun _ _ _ _ _ _ _ => rfl,
    hReadNet.ownK1 (fun f fd F => ok_readNet F B UT N1 N2 O6) (fun _ _ _ _ _ _ us hl => match us, hl with | [_], _ => rfl) (fun _ _ _ _ _ _ _ => rfl) fun _ _ _ _ _ _ _ => rfl,
    hStand.ownK2 (fun f fd F => ok_stand F B SF O1 O3) (fun _ _ _ _ _ _ us hl => match us, hl with | [_, _], _ => rfl) (fun _ _ _ _ _ _ _ _ => rfl) (fun _ _ _ _ _ _ _ _ => rfl) fun _ _ _ _ _ _ _ _ => rfl,
    hStNum.ownK2 (fun f fd F => ok_stNum F SN) (fun _ _ _ _ _ _ us hl => match us, hl with | [_, _], _ => rfl) (fun _ _ _ _ _ _ _ _ => rfl) (fun _ _ _ _ _ _ _ _ => rfl) fun _ _ _ _ _ _ _ _ => rfl,
    hStAt.ownK2 (fun f fd F => ok_stAt F B bd mF UU O1 SA) (fun _ _ _ _ _ _ us hl => match us, hl with | [_, _], _ => rfl) (fun _ _ _ _ _ _ _ _ => rfl) (fun _ _ _ _ _ _ _ _ => rfl) fun _ _ _ _ _ _ _ _ => rfl,
    hRun.ownK2 (fun f fd F => ok_run F B bs t1 m1 O3) (fun _ _ _ _ _ _ us hl => match us, hl with | [_, _], _ => rfl) (fun _ _ _ _ _ _ _ _ => rfl) (fun _ _ _ _ _ _ _ _ => rfl) fun _ _ _ _ _ _ _ _ => rfl,
    hDone.ownK2 (fun f fd F => ok_done false F B) (fun _ _ _ _ _ _ us hl => match us, hl with | [_, _], _ => rfl) (fun _ _ _ _ _ _ _ _ => rfl) (fun _ _ _ _ _ _ _ _ => rfl) fun _ _ _ _ _ _ _ _ => rfl,
    hGoes.ownK2 (fun f fd F => ok_goes F B P5Z) (fun _ _ _ _ _ _ us hl => match us, hl with | [_, _], _ => rfl) (fun _ _ _ _ _ _ _ _ => rfl) (fun _ _ _ _ _ _ _ _ => rfl) fun _ _ _ _ _ _ _ _ => rfl,
    hTurns.ownK2 (fun f fd F => ok_turns F P6 P8) (fun _ _ _ _ _ _ us hl => match us, hl with | [_, _], _ => rfl) (fun _ _ _ _ _ _ _ _ => rfl) (fun _ _ _ _ _ _ _ _ => rfl) fun _ _ _ _ _ _ _ _ => rfl,
    hJour.ownK2 (fun f fd F => ok_journey F B t2 m2 OL) (fun _ _ _ _ _ _ us hl => match us, hl with | [_, _], _ => rfl) (fun _ _ _ _ _ _ _ _ => rfl) (fun _ _ _ _ _ _ _ _ => rfl) fun _ _ _ _ _ _ _ _ => rfl,
    hJDone.ownK2 (fun f fd F => ok_jDone F PB) (fun _ _ _ _ _ _ us hl => match us, hl with | [_, _], _ => rfl) (fun _ _ _ _ _ _ _ _ => rfl) (fun _ _ _ _ _ _ _ _ => rfl) fun _ _ _ _ _ _ _ _ => rfl,
    hSteps.ownK1 (fun f fd F => ok_steps F B bsum) (fun _ _ _ _ _ _ us hl => match us, hl with | [_], _ => rfl) (fun _ _ _ _ _ _ _ => rfl) fun _ _ _ _ _ _ _ => rfl⟩
  have L1 : Own P w K mg base 1 "_law_deck" ["script"] (spDeck K) := hDeck.own (fun f fd F => ok_deck F B) fun _ _ _ _ _ _ us hl => match us, hl with | [_], _ => rfl
  have L2 : Own P w K mg base 1 "_law_draw" ["deck", "many"] spDraw := hDraw.own (fun f fd F => ok_draw F B) fun _ _ _ _ _ _ us hl => match us, hl with | [_, _], _ => rfl
  have L2X : Own P w K mg base 1 "_law_draw" ["deck", "many"] spDrawX := hDraw.own (fun f fd F => ok_drawX F B) fun _ _ _ _ _ _ us hl => match us, hl with | [_, _], _ => rfl
  have L3 : Own P w K mg base 2 "_law_pick" ["deck", "items"] spPick := hPick.own (fun f fd F => ok_pick F B L2) fun _ _ _ _ _ _ us hl => match us, hl with | [_, _], _ => rfl
  have L4 : Own P w K mg base 2 "_law_mixed" ["deck", "items"] spMixed := hMixed.own (fun f fd F => ok_mixed F B L2) fun _ _ _ _ _ _ us hl => match us, hl with | [_, _], _ => rfl
  have L4P : Own P w K mg base 2 "_law_mixed" ["deck", "items"] spMixedP := hMixed.own (fun f fd F => ok_mixedP F B L2) fun _ _ _ _ _ _ us hl => match us, hl with | [_, _], _ => rfl
  have L5 : Own P w K mg base 3 "_law_net" ["deck", "n"] spNetS := hNet.own (fun f fd F => ok_netS F B L2 L3 L4) fun _ _ _ _ _ _ us hl => match us, hl with | [_, _], _ => rfl
  have L6 : Own P w K mg base 1 "_law_onward" ["net"] spOnward := hOnward.own (fun f fd F => ok_onward F B) fun _ _ _ _ _ _ us hl => match us, hl with | [_], _ => rfl
  have L7 : Own P w K mg base 3 "_law_walk" ["deck", "net", "first", "many"] spWalk := hWalk.own (fun f fd F => ok_walk F B L3 L6) fun _ _ _ _ _ _ us hl => match us, hl with | [_, _, _, _], _ => rfl
  have L8 : Own P w K mg base 2 "_law_back" ["net", "first", "last"] spBack := hBack.own (fun f fd F => ok_back F B L6) fun _ _ _ _ _ _ us hl => match us, hl with | [_, _, _], _ => rfl
  have LR : Own P w K mg base 4 "_law_round" ["deck", "net", "many"] spRound := hRound.own (fun f fd F => ok_round F B L2 L7 L8) fun _ _ _ _ _ _ us hl => match us, hl with | [_, _, _], _ => rfl
  have L9 : Own P w K mg base 4 "_law_journey" ["deck", "net", "many"] spLJourney := hLJour.own (fun f fd F => ok_lJourney F B L2X L3 L7 L8) fun _ _ _ _ _ _ us hl => match us, hl with | [_, _, _], _ => rfl
  have LP : Own P w K mg base 6 "_law_placed" ["net", "run", "ring", "standing", "journey"] (spPlaced K) := hPlaced.own (fun f fd F => ok_placed F OP) fun _ _ _ _ _ _ us hl => match us, hl with | [_, _, _, _, _], _ => rfl
  have LN : Own P w K mg base 6 "_law_named" ["net", "run", "ring", "standing", "journey"] (spPlaced K) := hNamed.own (fun f fd F => ok_named F OP) fun _ _ _ _ _ _ us hl => match us, hl with | [_, _, _, _, _], _ => rfl
  have rm : Room 7 callerA := ⟨rfl, by decide, by decide⟩
  refine run_def (us := [.ref a]) (vs := [.ref a]) (Q := fun v _ => v = .bl true) (E := fun _ _ _ => False) F scLawE rm ev (F.binds (ps := ["script"]) (fun _ _ _ _ _ _ us hl => match us, hl with | [_], _ => rfl) s₁ [.ref a] ?_ rfl) (.cons rfl .nil) rfl fun cdv => ?_
  · exact ev.mod.kin.keeps fun b o z => (ev.bs b o z).1
  · exact law_bodyE (Q := fun v _ => v = .bl true) B ⟨L1, L2, L4P, L5, L7, LR, L9, LP, LN⟩ (rm.deeper _) rfl ⟨a, ns, rfl, sq, hlen, fun _ => rfl⟩
end Sw
open PySem PySem.W PyProof.Rows
set_option maxHeartbeats 0 in
theorem PySem.Challenge.cw_swapstops_k11_names_and_equal_calls_holds : PySem.Challenge.rw_swapstops_k11_names_and_equal_calls.Holds := by
  w_on; o_law; k_head; (case hw => w_witness2)
  k_fill
  refine Sw.walk_law (l := PySem.Challenge.rw_swapstops_k11_names_and_equal_calls) rfl rfl (fun w h Y => PySem.W.kIn_of Y) ?F
  case F =>
    intro w mg fa h KX G hmg base s₁ H a ns ev sq hlen
    refine' Sw.run_k11 ?qz0h ?qz1h ?qz2h ?qz3h ?qz4h ?qz5h ?qz6h ?qz7h ?qz8h ?qz9h ?qz10h ?qz11h ?qz12h ?qz13h ?qz14h ?qz15h ?qz16h ?qz17h ?qz18h ?qz19h ?qz20h ?qz21h ?qz22h ?qz23h ?qz24h ?qz25h ?qz26h ?qz27h ?qz28h ?qz29h ?qz30h ?qz31h ?qz32h ?qz33h ?qz34h ?qz35h ?qz36h ?qz37h ?qz38h ?qz39h ?qz40h ?qz41h ?qz42h ?qz43h ?qz44h ?qz45h ?qz46h ?qz47h ?qz48h ?qz49h ?qz50h ?qz51h ?qz52h hmg ev sq hlen
    case qz0h =>
      refine' ⟨PySem.W.mg_none_of KX G ?zn1, PySem.W.mg_none_of KX G ?zn2, PySem.W.mg_none_of KX G ?zn3, PySem.W.mg_none_of KX G ?zn4, PySem.W.mg_none_of KX G ?zn5, PySem.W.mg_none_of KX G ?zn6, PySem.W.mg_none_of KX G ?zn7, PySem.W.mg_none_of KX G ?zn8, PySem.W.mg_none_of KX G ?zn9, PySem.W.mg_none_of KX G ?zn10, PySem.W.mg_none_of KX G ?zn11, PySem.W.mg_none_of KX G ?zn12, PySem.W.mg_none_of KX G ?zn13, PySem.W.mg_none_of KX G ?zn14, PySem.W.mg_none_of KX G ?zn15⟩
      (case zn1 => k_is); (case zn2 => k_is); (case zn3 => k_is); (case zn4 => k_is); (case zn5 => k_is); (case zn6 => k_is); (case zn7 => k_is); (case zn8 => k_is); (case zn9 => k_is); (case zn10 => k_is); (case zn11 => k_is); (case zn12 => k_is); (case zn13 => k_is); (case zn14 => k_is); (case zn15 => k_is)
    case qz1h =>
      refine' PySem.W.mg_none_of KX G ?nn1
      (case nn1 => k_is)
    case qz2h =>
      refine' PySem.W.mg_none_of KX G ?nn2
      (case nn2 => k_is)
    case qz3h =>
      refine' PySem.W.mg_none_of KX G ?nn3
      (case nn3 => k_is)
    case qz4h =>
      refine' PySem.W.mg_of KX G ?mm4
      (case mm4 => k_is)
    case qz5h =>
      refine' PySem.W.mg_of KX G ?mm5
      (case mm5 => k_is)
    case qz6h =>
      refine' PySem.W.mg_of KX G ?mm6
      (case mm6 => k_is)
    case qz7h =>
      refine' PySem.W.mg_of KX G ?mm7
      (case mm7 => k_is)
    case qz8h =>
      refine' PySem.W.mg_of KX G ?mm8
      (case mm8 => k_is)
    case qz9h =>
      refine' PySem.W.mg_of KX G ?mm9
      (case mm9 => k_is)
    case qz10h =>
      refine' Sw.uerr_mk KX G ?aCx10 ?aSx10 ?madex10 ?kCx10 ?basex10 ?tyx10 ?selfx10 ?e1x10 ?e2x10 ?e4x10 ?e5x10 ?e6x10 ?e7x10 ?e8x10 ?subx10
      (case aCx10 => k_is); (case aSx10 => k_is); (case madex10 => k_exc); (case kCx10 => k_is); (case basex10 => k_is); (case tyx10 => k_is); (case selfx10 => first | rfl | k_is); (case e1x10 => k_is); (case e2x10 => k_is); (case e4x10 => k_is); (case e5x10 => k_is); (case e6x10 => k_is); (case e7x10 => k_is); (case e8x10 => k_is); (case subx10 => kit_is)
    case qz11h =>
      refine' Sw.uerr_mk KX G ?aCx11 ?aSx11 ?madex11 ?kCx11 ?basex11 ?tyx11 ?selfx11 ?e1x11 ?e2x11 ?e4x11 ?e5x11 ?e6x11 ?e7x11 ?e8x11 ?subx11
      (case aCx11 => k_is); (case aSx11 => k_is); (case madex11 => k_exc); (case kCx11 => k_is); (case basex11 => k_is); (case tyx11 => k_is); (case selfx11 => first | rfl | k_is); (case e1x11 => k_is); (case e2x11 => k_is); (case e4x11 => k_is); (case e5x11 => k_is); (case e6x11 => k_is); (case e7x11 => k_is); (case e8x11 => k_is); (case subx11 => kit_is)
    case qz12h =>
      refine' Sw.has_mk KX G ?va1 ?vl1 ?vc1 ?vk1
      (case va1 => k_is); (case vl1 => k_is); (case vc1 => k_is); (case vk1 => k_is)
    case qz13h =>
      refine' Sw.has_mk KX G ?va2 ?vl2 ?vc2 ?vk2
      (case va2 => k_is); (case vl2 => k_is); (case vc2 => k_is); (case vk2 => k_is)
    case qz14h =>
      refine' Sw.has_mk KX G ?va3 ?vl3 ?vc3 ?vk3
      (case va3 => k_is); (case vl3 => k_is); (case vc3 => k_is); (case vk3 => k_is)
    case qz15h =>
      refine' Sw.has_mk KX G ?va4 ?vl4 ?vc4 ?vk4
      (case va4 => k_is); (case vl4 => k_is); (case vc4 => k_is); (case vk4 => k_is)
    case qz16h =>
      refine' Sw.has_mk KX G ?va5 ?vl5 ?vc5 ?vk5
      (case va5 => k_is); (case vl5 => k_is); (case vc5 => k_is); (case vk5 => k_is)
    case qz17h =>
      refine' Sw.has_mk KX G ?va6 ?vl6 ?vc6 ?vk6
      (case va6 => k_is); (case vl6 => k_is); (case vc6 => k_is); (case vk6 => k_is)
    case qz18h =>
      refine' Sw.has_mk KX G ?va7 ?vl7 ?vc7 ?vk7
      (case va7 => k_is); (case vl7 => k_is); (case vc7 => k_is); (case vk7 => k_is)
    case qz19h =>
      refine' Sw.has_mk KX G ?va8 ?vl8 ?vc8 ?vk8
      (case va8 => k_is); (case vl8 => k_is); (case vc8 => k_is); (case vk8 => k_is)
    case qz20h =>
      refine' Sw.has_mk KX G ?va9 ?vl9 ?vc9 ?vk9
      (case va9 => k_is); (case vl9 => k_is); (case vc9 => k_is); (case vk9 => k_is)
    case qz21h =>
      refine' Sw.has_mk KX G ?va10 ?vl10 ?vc10 ?vk10
      (case va10 => k_is); (case vl10 => k_is); (case vc10 => k_is); (case vk10 => k_is)
    case qz22h =>
      refine' Sw.has_mk KX G ?va11 ?vl11 ?vc11 ?vk11
      (case va11 => k_is); (case vl11 => k_is); (case vc11 => k_is); (case vk11 => k_is)
    case qz23h =>
      refine' Sw.has_mk KX G ?va12 ?vl12 ?vc12 ?vk12
      (case va12 => k_is); (case vl12 => k_is); (case vc12 => k_is); (case vk12 => k_is)
    case qz24h =>
      refine' Sw.has_mk KX G ?va13 ?vl13 ?vc13 ?vk13
      (case va13 => k_is); (case vl13 => k_is); (case vc13 => k_is); (case vk13 => k_is)
    case qz25h =>
      refine' Sw.has_mk KX G ?va14 ?vl14 ?vc14 ?vk14
      (case va14 => k_is); (case vl14 => k_is); (case vc14 => k_is); (case vk14 => k_is)
    case qz26h =>
      refine' Sw.has_mk KX G ?va15 ?vl15 ?vc15 ?vk15
      (case va15 => k_is); (case vl15 => k_is); (case vc15 => k_is); (case vk15 => k_is)
    case qz27h =>
      refine' Sw.has_mk KX G ?va16 ?vl16 ?vc16 ?vk16
      (case va16 => k_is); (case vl16 => k_is); (case vc16 => k_is); (case vk16 => k_is)
    case qz28h =>
      refine' Sw.has_mk KX G ?va17 ?vl17 ?vc17 ?vk17
      (case va17 => k_is); (case vl17 => k_is); (case vc17 => k_is); (case vk17 => k_is)
    case qz29h =>
      refine' Sw.has_mk KX G ?va18 ?vl18 ?vc18 ?vk18
      (case va18 => k_is); (case vl18 => k_is); (case vc18 => k_is); (case vk18 => k_is)
    case qz30h =>
      refine' Sw.has_mk KX G ?va19 ?vl19 ?vc19 ?vk19
      (case va19 => k_is); (case vl19 => k_is); (case vc19 => k_is); (case vk19 => k_is)
    case qz31h =>
      refine' Sw.has_mk KX G ?va20 ?vl20 ?vc20 ?vk20
      (case va20 => k_is); (case vl20 => k_is); (case vc20 => k_is); (case vk20 => k_is)
    case qz32h =>
      refine' Sw.has_mk KX G ?va21 ?vl21 ?vc21 ?vk21
      (case va21 => k_is); (case vl21 => k_is); (case vc21 => k_is); (case vk21 => k_is)
    case qz33h =>
      refine' Sw.has_mk KX G ?va22 ?vl22 ?vc22 ?vk22
      (case va22 => k_is); (case vl22 => k_is); (case vc22 => k_is); (case vk22 => k_is)
    case qz34h =>
      refine' Sw.has_mk KX G ?va23 ?vl23 ?vc23 ?vk23
      (case va23 => k_is); (case vl23 => k_is); (case vc23 => k_is); (case vk23 => k_is)
    case qz35h =>
      refine' Sw.has_mk KX G ?va24 ?vl24 ?vc24 ?vk24
      (case va24 => k_is); (case vl24 => k_is); (case vc24 => k_is); (case vk24 => k_is)
    case qz36h =>
      refine' Sw.has_mk KX G ?va25 ?vl25 ?vc25 ?vk25
      (case va25 => k_is); (case vl25 => k_is); (case vc25 => k_is); (case vk25 => k_is)
    case qz37h =>
      refine' Sw.has_mk KX G ?va26 ?vl26 ?vc26 ?vk26
      (case va26 => k_is); (case vl26 => k_is); (case vc26 => k_is); (case vk26 => k_is)
    case qz38h =>
      refine' Sw.has_mk KX G ?va27 ?vl27 ?vc27 ?vk27
      (case va27 => k_is); (case vl27 => k_is); (case vc27 => k_is); (case vk27 => k_is)
    case qz39h =>
      refine' Sw.has_mk KX G ?va28 ?vl28 ?vc28 ?vk28
      (case va28 => k_is); (case vl28 => k_is); (case vc28 => k_is); (case vk28 => k_is)
    case qz40h =>
      refine' Sw.has_mk KX G ?va29 ?vl29 ?vc29 ?vk29
      (case va29 => k_is); (case vl29 => k_is); (case vc29 => k_is); (case vk29 => k_is)
    case qz41h =>
      refine' Sw.has_mk KX G ?va30 ?vl30 ?vc30 ?vk30
      (case va30 => k_is); (case vl30 => k_is); (case vc30 => k_is); (case vk30 => k_is)
    case qz42h =>
      refine' Sw.has_mk KX G ?va31 ?vl31 ?vc31 ?vk31
      (case va31 => k_is); (case vl31 => k_is); (case vc31 => k_is); (case vk31 => k_is)
    case qz43h =>
      refine' Sw.has_mk KX G ?va32 ?vl32 ?vc32 ?vk32
      (case va32 => k_is); (case vl32 => k_is); (case vc32 => k_is); (case vk32 => k_is)
    case qz44h =>
      refine' Sw.has_mk KX G ?va33 ?vl33 ?vc33 ?vk33
      (case va33 => k_is); (case vl33 => k_is); (case vc33 => k_is); (case vk33 => k_is)
    case qz45h =>
      refine' Sw.has_mk KX G ?va34 ?vl34 ?vc34 ?vk34
      (case va34 => k_is); (case vl34 => k_is); (case vc34 => k_is); (case vk34 => k_is)
    case qz46h =>
      refine' Sw.has_mk KX G ?va35 ?vl35 ?vc35 ?vk35
      (case va35 => k_is); (case vl35 => k_is); (case vc35 => k_is); (case vk35 => k_is)
    case qz47h =>
      refine' Sw.has_mk KX G ?va36 ?vl36 ?vc36 ?vk36
      (case va36 => k_is); (case vl36 => k_is); (case vc36 => k_is); (case vk36 => k_is)
    case qz48h =>
      refine' Sw.has_mk KX G ?va37 ?vl37 ?vc37 ?vk37
      (case va37 => k_is); (case vl37 => k_is); (case vc37 => k_is); (case vk37 => k_is)
    case qz49h =>
      refine' Sw.has_mk KX G ?va38 ?vl38 ?vc38 ?vk38
      (case va38 => k_is); (case vl38 => k_is); (case vc38 => k_is); (case vk38 => k_is)
    case qz50h =>
      refine' Sw.has_mk KX G ?va39 ?vl39 ?vc39 ?vk39
      (case va39 => k_is); (case vl39 => k_is); (case vc39 => k_is); (case vk39 => k_is)
    case qz51h =>
      refine' Sw.has_mk KX G ?va40 ?vl40 ?vc40 ?vk40
      (case va40 => k_is); (case vl40 => k_is); (case vc40 => k_is); (case vk40 => k_is)
    case qz52h =>
      refine' Sw.has_mk KX G ?va41 ?vl41 ?vc41 ?vk41
      (case va41 => k_is); (case vl41 => k_is); (case vc41 => k_is); (case vk41 => k_is)
