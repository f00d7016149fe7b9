import PyProof.Rows.All
import Wide.All
import OpenK.AllK
import Wide.FinOn
import KE.KExcSuper
import HandS.ForExc
import HandS.ExcInit
import HandS.ExcValue
import KE.KExcStr
import PyProof.ReprReads
import PyProof.ReprLen
import PyProof.StrHeap
import HandS.Call
import HandS.IsInst
import KE.KExcIs
import HandS.ForMost
import HandS.Walk
import KE.GoesMore
import KE.GoesEnum
import PyProof.Draws
import HandS.TupLe
import KE.KEqSeq
import HandS.Conv
import HandS.Style
import HandS.TupAny
import HandS.Ends
import HandS.ExcField
import HandS.ExcOwn
import HandS.Gcd
import HandS.TryOnly
import KE.KMathGC
import HandS.ExcIs
import HandS.Text
import HandS.Codes
import HandS.FStr
import HandS.List
import HandS.Base
import PyProof.CollectIter
import PyProof.Comp
import PyProof.Seq
import HandS.SetFor
import PyProof.NeKinds
import HandS.Wide
import PySem.Challenge.RW_swapstops_k05_errors_and_bounds
set_option Elab.async false
set_option linter.all false
set_option maxRecDepth 100000
set_option maxHeartbeats 4000000
namespace Sw
open PySem PySem.Spec PyProof.Rows PySem.W
/-- an exception's record -/
abbrev xRec (C : Addr) (d : Option Addr) (t : Addr) : Obj := { cls := .ref C, dict := d, data := .fields #[.ref t, .none, .none, .none, .bool false, .none] }
abbrev xTup (vs : List Value) : Obj := { cls := .type "tuple", data := .seq vs.toArray }
/-- what the written part says of an own exception's class over ValueError -/
structure XCls (K : Frag) (C : Addr) : Prop where
  cls : ∃ nm q N bs bm sn sub ab col dd k0 k1 k2 k3 k5, K.lookup C = some (excClassObj nm q C N bs bm true sn sub ab col dd k0 k1 k2 k3 k5 "ValueError.__new__") ∧ PySem.HandSPX.refsVE bm = true
  sa : findIn K (.ref C) "__setattr__" = some (some (.builtin "object.__setattr__"))
  opq : nsIn K cStatics "thirdparty.any" = some none
  kp : keepIn K (.ref C) = true
section
variable {P : Program} {w : World} {A : Around} {E : Value → Shared → Prop} {h : Heap} {g : Array GenState} {d : Drawn} {t : Nat} {os : OsState} {K : Frag} {C x : Addr}
/-- super().__init__ as it was bound, called: the args are laid anew -/
theorem bound_call (T : XCls K C) (X : K.In h) {u t0 : Addr} {dv : Option Addr} {rest : List Value} {Q : Value → Shared → Prop}
    (hu : h.get? u = some (kxs_mw "ValueError.__init__" x)) (hx : h.get? x = some (xRec C dv t0)) (hz : rest.length ≤ sizeLine)
    (hq : ∀ h' t1, (∀ b o, b ≠ x → h.get? b = some o → h'.get? b = some o) → h.get? t1 = none → t1 ≠ x → h'.get? x = some (xRec C dv t1) → h'.get? t1 = some (xTup rest) → Q .none ⟨h', g, d, t, os⟩) :
    wpAny (model P w) A (call (.ref u) rest) Q E ⟨h, g, d, t, os⟩ := by
  obtain ⟨nm, q, N, bs, bm, sn, sub, ab, col, dd, k0, k1, k2, k3, k5, hC, hbm⟩ := T.cls
  refine wpAny_call (codeAny_of_tree ?_)
  show wpAny _ A.in1 (callAny (.ref u) ⟨rest, []⟩) _ _ _
  simp only [callAny]
  refine wpAny_bind (wpAny_load hu ?_)
  simp only [kxs_mw, show (Value.type "method-wrapper" == Value.type "method" || Value.type "method-wrapper" == Value.type "builtin_function_or_method" || Value.type "method-wrapper" == Value.type "method-wrapper") = true by decide, if_true]
  refine KFB.if_so (by decide) ?_
  refine wpAny_bind (check_bound_init PySem.F.excBase_ValueError.toExcCallFacts (X _ _ hC) hx rfl ?_)
  refine wpAny_bind (wpAny_pure (wpAny_pure ?_))
  refine ⟨plainId_quiet PySem.F.excBase_ValueError.init.plain _, codeAny_builtin PySem.F.excBase_ValueError.initEntry ?_⟩
  refine exc_init_tree (cls := .ref C) (t0 := t0) (dv := dv) (c2 := .none) (c3 := .none) (b4 := .bool false) hx hz fun h' k e1 e2 => ?_
  refine hq h' h.objs.size k (Heap.get?_none_of_le (Nat.le_refl _)) (fun z => ?_) e1 e2
  rw [← z] at hx
  exact absurd (Heap.lt_size hx) (Nat.lt_irrefl _)
end
end Sw
namespace Sw
open PySem PySem.Spec PyProof.Rows PySem.W PySem.Calls
/-- the body that super().__init__(msg); self.fld = prm makes -/
abbrev initBody (msg fld prm : Str) (j : Nat) (p0 p1 p2 p3 p4 p5 p6 p7 p8 p9 : Pos) : List Stmt :=
  [.Expr (.Call (.Attribute (.Call (.Name "super" p0) [] [] p1) "__init__" p2) [.Constant (.str msg) j p3] [] p4) p5,
   .Assign [.Attribute (.Name "self" p6) fld p7] (.Name prm p8) p9]
theorem call_base {o : Expr} {name : Str} {apos pos : Pos} {e : Expr} {env : Env} (hl : (apos.endLine == pos.line) = true) (hs : starEach [e] env = [(false, eval e env)]) :
    eval (.Call (.Attribute o name apos) [e] [] pos) env = (do
      let ov ← attributeBase o name env (eval o env)
      standAt apos.atName
      let (f, first) ← holding [ov] (getMethod ov name (do return (← importBound o env).getD true))
      callWith pos f first (backTo pos (starEach [e] env)) []) := by
  have e2 : methodCallPos true o env apos pos = pure pos := by
    unfold methodCallPos
    rw [hl]
    rfl
  show (do
    let ov ← attributeBase o name env (eval o env)
    standAt apos.atName
    methodCall o name apos pos env ov 1 (backTo pos (starEach [e] env)) (backToKw pos (keywordEach [] env))) = _
  unfold methodCall
  rw [hs]
  show (do
    let ov ← attributeBase o name env (eval o env)
    standAt apos.atName
    let (f, first) ← holding [ov] (calleeOf true o env ov name)
    let callPos ← methodCallPos true o env apos pos
    callWith callPos f first (backTo pos [(false, eval e env)]) []) = _
  rw [e2]
  simp only [pure_bind]
  rfl
abbrev initScope (prm : Str) : Scope := { kind := .function, names := [(PySem.Str.ofString "self", .local), (prm, .local), (PySem.Str.ofString "__class__", .free), (PySem.Str.ofString "super", .globalImplicit)], isGenerator := false, isCoroutine := false, more := [] }
/-- the argument u by place, or by its word -/
abbrev initArgs (kw : Bool) (prm : Str) (a u : Value) : Args := match kw with
  | true => ⟨[a], [(prm, u)]⟩
  | false => ⟨[a, u], []⟩
/-- what the written part says of the def __init__ of such a class -/
structure XInit (K : Frag) (C fI : Addr) (msg fld prm file : Str) : Prop where
  ex : ∃ (qual : Str) (j : Nat) (p0 p1 p2 p3 p4 p5 p6 p7 p8 p9 : Pos) (params : Arguments) (dV kV doc pm ct oc ccl cl : Value) (an od cdd cld : Option Addr) (osl ccs csl : Array (Option Value)) (cc cda : Addr) (vs : Array Value) (tf : Tok) (ar : Arg),
    K.lookup fI = some ⟨oc, od, .func (ksFn "__init__" qual params (initBody msg fld prm j p0 p1 p2 p3 p4 p5 p6 p7 p8 p9) (initScope prm) dV kV doc pm an (.ref cda) ct cc), osl⟩ ∧
    codeIn K (.ref cda) qual = true ∧ K.lookup cda = some ⟨ccl, cdd, .fields vs, ccs⟩ ∧ vs[2]? = some (.str file tf) ∧ K.lookup cc = some ⟨cl, cld, .cell (some (.ref C)), csl⟩ ∧
    (p2.endLine == p4.line) = true ∧ (params.posonlyargs ++ params.args).head? = some ar ∧ ar.arg = "self" ∧
    (∀ (kw : Bool) (a u : Value), bindArgs (ksFn "__init__" qual params (initBody msg fld prm j p0 p1 p2 p3 p4 p5 p6 p7 p8 p9) (initScope prm) dV kV doc pm an (.ref cda) ct cc) (initArgs kw prm a u) = pure [(("self" : Str), a), (prm, u)])
  pn : ¬ prm = "self"
  pc : ¬ prm = "__class__"
  ps : ¬ prm = "super"
  pd : (prm == ("__debug__" : Str)) = false
  su : ks_superIn K C C "__init__" = some (some (.builtin "ValueError.__init__"))
  sub : subIn K (.ref C) (.type "ValueError") = some true
  self : mroIn K C (.ref C) = some true
  nf : findIn K (.ref C) fld = some none
  ty : typeIn K (.ref fI) = some (.type "function")
  fi : findIn K (.ref C) "__init__" = some (some (.ref fI))
section
variable {P : Program} {w : World} {A : Around} {E : Value → Shared → Prop} {h : Heap} {g : Array GenState} {d : Drawn} {t : Nat} {os : OsState} {K : Frag} {C x fI t0 : Addr} {mg mb : Str → Option Value} {u : Value} {msg fld prm file : Str}
theorem init_code {kw : Bool} (T : XCls K C) (F : XInit K C fI msg fld prm file) (X : K.In h) {R : Result → Shared → Prop}
    (hroom : A.depth < recursionLimit) (hlim : h.NoLimit) (hmg : h.Ns mainGlobals mg) (hmb : h.Ns builtinsNs mb) (hg : mg "super" = none) (hb : mb "super" = some (.type "super"))
    (hfile : ((P.main.file : Str) == file) = true) (htop : (P.main.scope.names.lookup ("super" : Str)).isSome = false)
    (hx : h.get? x = some (xRec C none t0)) (hxK : K.lookup x = none)
    (hq : ∀ h' tk t1 dx, (∀ b o, b ≠ x → h.get? b = some o → h'.get? b = some o) → h.get? t1 = none → t1 ≠ x → h'.get? x = some (xRec C (some dx) t1) → (∃ tm, h'.get? t1 = some (xTup [.str msg tm])) → h.get? dx = none → dx ≠ x → dx ≠ t1 → h'.Ns1 dx (fun y => if y = fld then some u else none) → R (.ok (.ret .none)) ⟨h', g, d, tk, os⟩) :
    codeAny (model P w) A (.call (.ref fI) (initArgs kw prm (.ref x) u)) R ⟨h, g, d, t, os⟩ := by
  obtain ⟨nm, q, N, bs, bm, sn, sub, ab, col, dd, k0, k1, k2, k3, k5, hC, hbm⟩ := T.cls
  obtain ⟨qual, j, p0, p1, p2, p3, p4, p5, p6, p7, p8, p9, params, dV, kV, doc, pm, ct, oc, ccl, cl, an, od, cdd, cld, osl, ccs, csl, cc, cda, vs, tf, ar, lk, hcd, hcda, hvs, hcc, hln, har, hself, hbind⟩ := F.ex
  have ne1 : (("__class__" : Str) == "self") = false := by decide
  have ne2 : (("super" : Str) == "self") = false := by decide
  have ne3 : (("super" : Str) == "__class__") = false := by decide
  have nb : ∀ {a b : Str}, ¬ b = a → (a == b) = false := fun h => beq_eq_false_iff_ne.mpr fun z => h z.symm
  have hsl : (initScope prm).names.lookup ("self" : Str) = some .local := by
    show List.lookup ("self" : Str) ((("self" : Str), NameKind.local) :: _) = _
    rw [List.lookup_cons_self]
  have hpl : (initScope prm).names.lookup prm = some .local := by
    show List.lookup prm ((("self" : Str), NameKind.local) :: (prm, NameKind.local) :: _) = _
    rw [List.lookup_cons, beq_eq_false_iff_ne.mpr F.pn, List.lookup_cons_self]
  have hcls : (initScope prm).names.lookup ("__class__" : Str) = some .free := by
    show List.lookup ("__class__" : Str) ((("self" : Str), NameKind.local) :: (prm, NameKind.local) :: (("__class__" : Str), NameKind.free) :: _) = _
    rw [List.lookup_cons, ne1, List.lookup_cons, nb F.pc, List.lookup_cons_self]
  have hsup : (initScope prm).names.lookup ("super" : Str) = some .globalImplicit := by
    show List.lookup ("super" : Str) ((("self" : Str), NameKind.local) :: (prm, NameKind.local) :: (("__class__" : Str), NameKind.free) :: (("super" : Str), NameKind.globalImplicit) :: _) = _
    rw [List.lookup_cons, ne2, List.lookup_cons, nb F.ps, List.lookup_cons, ne3, List.lookup_cons_self]
  have hncell : ∀ x ∈ (initScope prm).names, x.2 ≠ .cell := fun x hx => by
    simp at hx
    rcases hx with rfl | rfl | rfl | rfl <;> (intro z; cases z)
  have hk : (initScope prm).kind = .function := rfl
  have hcl : clsIn K C = some { name := nm, bases := bs, mro := .ref C :: bm, ns := N, qualname := q, hasDict := true, slotNames := sn, subclasses := sub, abstract := ab, collection := col, hasDel := false } := by unfold clsIn; rw [hC] <;> rfl
  have hCd : ∃ cd, h.get? C = some (excClassObj nm q C N bs bm true sn sub ab col dd k0 k1 k2 k3 k5 "ValueError.__new__") ∧ (excClassObj nm q C N bs bm true sn sub ab col dd k0 k1 k2 k3 k5 "ValueError.__new__").data = .cls cd := ⟨_, X _ _ hC, rfl⟩
  obtain ⟨cdC, hC1, hC2⟩ := hCd
  have hloc : ∀ y ∈ [(("self" : Str), Value.ref x), (prm, u)], (initScope prm).names.lookup y.1 = some .local := fun y hy => by
    rcases List.mem_cons.mp hy with rfl | hy
    · exact hsl
    · obtain rfl := List.mem_singleton.mp hy
      exact hpl
  refine ks_codeAny_call_defAt (fd := ksFn "__init__" qual params (initBody msg fld prm j p0 p1 p2 p3 p4 p5 p6 p7 p8 p9) (initScope prm) dV kV doc pm an (.ref cda) ct cc) (binds := [(("self" : Str), Value.ref x), (prm, u)]) hroom (X _ _ lk) rfl hlim (codeRec_of X hcd) rfl (.of_eq (hbind kw _ _)) hncell hloc (fun h1 hns k1 => ?_) rfl rfl hk
  have mp : ([(("self" : Str), Value.ref x), (prm, u)].reverse.lookup prm) = some u := by
    show List.lookup prm [(prm, u), (("self" : Str), Value.ref x)] = some u
    rw [List.lookup_cons_self]
  have ms : ([(("self" : Str), Value.ref x), (prm, u)].reverse.lookup ("self" : Str)) = some (.ref x) := by
    show List.lookup ("self" : Str) [(prm, u), (("self" : Str), Value.ref x)] = some (.ref x)
    have e : (("self" : Str) == prm) = false := beq_eq_false_iff_ne.mpr fun z => F.pn z.symm
    rw [List.lookup_cons, e, List.lookup_cons_self]
  -- super().__init__(msg)
  refine ks_wpAt_execs_cons (ks_wpAt_Expr_any (ks_wpAt_MethodCall ?_ (call_base hln rfl)))
  refine ks_wpAt_super_base (env := ksEnv qual (initScope prm) h.objs.size fI (.ref cda) cc) (ar := ar) hsup hcls (by decide) rfl (k1 _ _ (X _ _ lk)) rfl har rfl (k1 _ _ (X _ _ hcda)) rfl hvs hfile htop ?_
  refine ks_loadName_global hk hsup (loadGlobal_builtin (env := ksEnv qual (initScope prm) h.objs.size fI (.ref cda) cc) (hmg.keeps k1) hg (hmb.keeps k1) hb ⟨rfl, ?_⟩)
  refine wpAny_loadName_free hk hcls rfl ⟨_, k1 _ _ (X _ _ hcc), rfl⟩ ?_
  rw [hself]
  refine wpAny_loadName_local hk hsl hns ms ?_
  refine ks_wpAny_isType_cls (k1 _ _ hC1) hC2 ⟨rfl, ?_⟩
  have X1 : K.In h1 := X.keeps k1
  refine ks_wpAny_call_super (k1 _ _ hC1) hC2 (k1 _ _ hx) rfl (fun c e => by cases e) (looks_mroIn X1 F.self) (fun h2 eso k2 => ?_)
  have X2 : K.In h2 := X1.keeps k2
  have hx2 := k2 _ _ (k1 _ _ hx)
  have I2 : InstAt h2 x (xRec C none t0) C none := ⟨hx2, rfl, rfl, trivial⟩
  have hm := F.su
  unfold ks_superIn at hm
  rw [hcl] at hm
  refine kxs_getMethod kxs_ValueError eso (looks_opaque X2 T.opq) (l₀ := .ref C :: bm) ?_ rfl X2 hm (I2.type.andThen (looks_subIn X2 F.sub)) (ks_ne X2 I2 hcl) (by decide) ?_
  · exact fun A Q E s k q => wpAny_bind ((looks_clsIn X2 hcl) A _ E s k (wpAny_pure q))
  have k3 : ∀ b o, h2.get? b = some o → (h2.push (kxs_mw "ValueError.__init__" x)).get? b = some o := fun b o e => Heap.get?_push_of_some _ e
  have hu3 : (h2.push (kxs_mw "ValueError.__init__" x)).get? h2.objs.size = some (kxs_mw "ValueError.__init__" x) := Heap.get?_push_at rfl rfl
  refine kxs_callWith (i := "ValueError.__init__") (x := x) rfl (evalArgs_plain ?_)
  show wpAny _ _ (spliced ((false, eval (.Constant (.str msg) j p3) _) :: backTo p4 (starEach [] _))) _ _ _
  refine Calls.spliced_cons (Calls.Constant_str ?_)
  refine Calls.spliced_nil ⟨hu3, ?_⟩
  show wpAny _ _ (call (.ref h2.objs.size) [.str msg _]) _ _ _
  refine bound_call T (X2.keeps k3) hu3 (k3 _ _ hx2) (by show 1 ≤ sizeLine; rw [sizeLine_eq]; omega) fun h4 t1 k4 nt1 nx e1 e2 => ?_
  -- self.fld = prm
  have kAll : ∀ b o, b ≠ x → h.get? b = some o → h4.get? b = some o := fun b o hb e => k4 b o hb (k3 _ _ (k2 _ _ (k1 _ _ e)))
  have hLx : h.objs.size ≠ x := fun z => by
    rw [← z] at hx
    exact absurd (Heap.lt_size hx) (Nat.lt_irrefl _)
  have hns4 : h4.Ns h.objs.size fun z => List.lookup z [(("self" : Str), Value.ref x), (prm, u)].reverse := by
    obtain ⟨o, es, ep, ho, r⟩ := hns
    exact ⟨o, es, ep, k4 _ _ hLx (k3 _ _ (k2 _ _ ho)), r⟩
  have X4 : K.In h4 := fun b o e => kAll b o (fun z => by
    rw [z, hxK] at e
    cases e) (X _ _ e)
  refine ks_wpAt_execs_cons (wpAt_of_wpAny (plainObj_wpAny_Assign_Attribute ?_))
  refine wpAny_Name (wpAny_loadName_local hk hpl hns4 mp ?_) F.pd
  refine wpAny_Name (wpAny_loadName_local hk hsl hns4 ms ?_) (by decide)
  refine set_plain X4 (ox := xRec C none t1) (od := none) ⟨e1, rfl, rfl, trivial⟩ T.sa ?_
  refine PySem.HandSPX.exc_osa X4 e1 hcl (show PySem.HandSPX.refsVE (.ref C :: bm) = true from hbm) rfl F.nf (fun h5 tk' dx k5 dn dne hx5 hn5 => ?_)
  refine wpAt_of_wpAny (wpAny_pure ?_)
  have hn6 := hn5
  obtain ⟨oD, es, ep, hoD, hdD, _⟩ := hn5
  have e2' := k5 _ _ nx e2
  refine hq h5 tk' t1 dx (fun b o hb e => k5 b o hb (kAll b o hb e)) ?_ nx hx5 ⟨_, e2'⟩ ?_ dne (fun z => ?_) hn6
  rotate_left
  · cases e : h.get? dx with
    | none => rfl
    | some o =>
      have hb : dx ≠ x := dne
      exact absurd (Heap.lt_size (kAll _ _ hb e)) (Nat.not_lt.mpr dn)
  · rw [z, e2'] at hoD
    obtain rfl := Option.some.inj hoD
    cases hdD
  cases e : h.get? t1 with
  | none => rfl
  | some o =>
    rw [k3 _ _ (k2 _ _ (k1 _ _ e))] at nt1
    cases nt1
end
end Sw
namespace Sw
open PySem PySem.Spec PyProof.Rows L2
/-- an exception of the class at C that was made, its args at t -/
def xV (C t : Addr) (d : Option Addr) (a : Addr) : HO := .ext fun h => h.get? a = some (xRec C d t)
theorem xV_ok {P : Program} {w : World} {H : Hp} {h : Heap} {C t a : Addr} {d : Option Addr} (e : h.get? a = some (xRec C d t)) : ObjOk P w H h a (xV C t d a) :=
  ⟨e, ⟨_, e⟩, fun _ _ z k => k _ z⟩
theorem xV_at {P : Program} {w : World} {H : Hp} {h : Heap} {C t a : Addr} {d : Option Addr} (ok : HOk P w H h) (e : H a = some (xV C t d a)) : h.get? a = some (xRec C d t) := by
  have x : ObjOk P w H h a (.ext fun h => h.get? a = some (xRec C d t)) := ok a _ e
  exact x.1
section
variable {X : Cx} {pins : List (Addr × Obj)} {σ : L2.St} {H : Hp} {s : Shared}
/-- two new objects laid -/
theorem laid2 {h' : Heap} {a b : Addr} {o u : HO} {t' : Nat} (I : Inv X pins σ H s) (k : ∀ c v, s.heap.get? c = some v → h'.get? c = some v) (ha : s.heap.get? a = none) (hb : s.heap.get? b = none) (ne : b ≠ a)
    (new : ObjOk X.prog X.w (upd (upd H b u) a o) h' a o) (new2 : ObjOk X.prog X.w (upd (upd H b u) a o) h' b u) : Inv X pins σ (upd (upd H b u) a o) { s with heap := h', toks := t' } := by
  have na : H a = none := I.hok.gone ha
  have nb : H b = none := I.hok.gone hb
  have up : ∀ {c : Addr} {v : HO}, H c = some v → (upd (upd H b u) a o) c = some v := fun {c v} e => by
    rw [upd_ne (ne_of_none e na), upd_ne (ne_of_none e nb)]
    exact e
  have old : ∀ {c : Addr} {v : Obj}, s.heap.get? c = some v → c ≠ a ∧ c ≠ b := fun {c v} e => by
    constructor
    · intro z
      rw [z, ha] at e
      cases e
    · intro z
      rw [z, hb] at e
      cases e
  refine I.un ⟨fun c v e _ _ _ => k c v e, fun c v e _ _ _ => ⟨v.slots, k c v e⟩, fun c v e n _ => ?_, fun c v e _ => ⟨v, k c v e⟩, fun c xs e => up e, fun c v xs e => up e, fun c ps e => ⟨#[], by rw [up e]; simp⟩⟩ fun c v e => ?_
  · rw [upd_ne (old e).1, upd_ne (old e).2]
    exact n
  · by_cases ca : c = a
    · subst ca
      rw [upd_same] at e
      cases e
      exact new
    · by_cases cb : c = b
      · subst cb
        rw [upd_ne ca, upd_same] at e
        cases e
        exact new2
      · rw [upd_ne ca, upd_ne cb] at e
        exact (I.hok c v e).stay (fun d q _ z => k d q z) (fun d z => up z) fun d xs z => up z
/-- three -/
theorem laid3 {h' : Heap} {a b c : Addr} {o u v : HO} {t' : Nat} (I : Inv X pins σ H s) (k : ∀ x y, s.heap.get? x = some y → h'.get? x = some y) (ha : s.heap.get? a = none) (hb : s.heap.get? b = none) (hc : s.heap.get? c = none) (ne : b ≠ a) (ca : c ≠ a) (cb : c ≠ b)
    (new : ObjOk X.prog X.w (upd (upd (upd H c v) b u) a o) h' a o) (new2 : ObjOk X.prog X.w (upd (upd (upd H c v) b u) a o) h' b u) (new3 : ObjOk X.prog X.w (upd (upd (upd H c v) b u) a o) h' c v) : Inv X pins σ (upd (upd (upd H c v) b u) a o) { s with heap := h', toks := t' } := by
  have na : H a = none := I.hok.gone ha
  have nb : H b = none := I.hok.gone hb
  have nc : H c = none := I.hok.gone hc
  have up : ∀ {x : Addr} {y : HO}, H x = some y → (upd (upd (upd H c v) b u) a o) x = some y := fun {x y} e => by
    rw [upd_ne (ne_of_none e na), upd_ne (ne_of_none e nb), upd_ne (ne_of_none e nc)]
    exact e
  have old : ∀ {x : Addr} {y : Obj}, s.heap.get? x = some y → x ≠ a ∧ x ≠ b ∧ x ≠ c := fun {x y} e => by
    refine ⟨?_, ?_, ?_⟩
    · intro z
      rw [z, ha] at e
      cases e
    · intro z
      rw [z, hb] at e
      cases e
    · intro z
      rw [z, hc] at e
      cases e
  refine I.un ⟨fun x y e _ _ _ => k x y e, fun x y e _ _ _ => ⟨y.slots, k x y e⟩, fun x y e n _ => ?_, fun x y e _ => ⟨y, k x y e⟩, fun x xs e => up e, fun x y xs e => up e, fun x ps e => ⟨#[], by rw [up e]; simp⟩⟩ fun x y e => ?_
  · obtain ⟨z1, z2, z3⟩ := old e
    rw [upd_ne z1, upd_ne z2, upd_ne z3]
    exact n
  · by_cases xa : x = a
    · subst xa
      rw [upd_same] at e
      cases e
      exact new
    · by_cases xb : x = b
      · subst xb
        rw [upd_ne xa, upd_same] at e
        cases e
        exact new2
      · by_cases xc : x = c
        · subst xc
          rw [upd_ne xa, upd_ne xb, upd_same] at e
          cases e
          exact new3
        · rw [upd_ne xa, upd_ne xb, upd_ne xc] at e
          exact (I.hok x y e).stay (fun d q _ z => k d q z) (fun d z => up z) fun d xs z => up z
variable {e : Expr} {te : TE} {x : Str} {p pos : Pos} {C fI : Addr} {msg fld prm file : Str}
theorem boot_super : bootBuiltins "super" = some (.type "super") := by first | boot_by_name | rfl | kernel_rfl
/-- C(e), C an own class of errors whose __init__ says super().__init__(msg); self.fld = prm -/
theorem pe_xmk (T : XCls X.K C) (F : XInit X.K C fI msg fld prm file) (hr : Room 1 X.A) (hg : Gl X x) (hm : X.mg x = some (.ref C)) (hs : X.mg "super" = none)
    (hfile : ((X.prog.main.file : Str) == file) = true) (htop : (X.prog.main.scope.names.lookup ("super" : Str)).isSome = false) (he : PE X e te)
    (hst : starEach [e] X.env = (false, eval e X.env) :: starEach [] X.env := by rfl) (hdb : (x == ("__debug__" : Str)) = false := by decide) :
    PE X (.Call (.Name x p) [e] [] pos) (fun σ H Q => te σ H fun _ H1 => ∀ a t1 dx, H1 a = none → H1 t1 = none → H1 dx = none → t1 ≠ a → dx ≠ a → dx ≠ t1 → Q (.ref a) (upd (upd (upd H1 dx (.own a)) t1 (.tup [.str msg])) a (xV C t1 (some dx) a))) := by
  refine ⟨fun pins s σ H Q I h => ?_⟩
  obtain ⟨nm, q, N, bs, bm, sn, sub, ab, col, dd, k0, k1, k2, k3, k5, hC, hbm⟩ := T.cls
  refine wpAny_Call_Name_kw (ld_glob I hg hm ?_ hdb)
  refine PySem.W.callWith_K (h₀ := X.base) I.ok.mod.kin T.kp ?_ hst (by rfl)
  rw [hst]
  show wpAny _ _ (spliced ((false, eval e X.env) :: backTo pos (starEach [] X.env))) _ _ s
  refine Calls.spliced_cons (thn (he.run pins s σ H _ I h) fun u s1 ⟨v, H1, I1, r1, q1⟩ => ?_)
  refine Calls.spliced_nil ⟨I1.kIn, ?_⟩
  show wpAny _ _ (call (.ref C) [u]) _ _ _
  obtain ⟨hp, g, dr, tk, os⟩ := s1
  have kk : ∀ b o, hp.get? b = some o → ((hp.push (PySem.W.kdv_tup [u])).push (PySem.HandSPX.excO C hp.objs.size)).get? b = some o := fun b o e => Heap.get?_push_of_some _ (Heap.get?_push_of_some _ e)
  have hget : ((hp.push (PySem.W.kdv_tup [u])).push (PySem.HandSPX.excO C hp.objs.size)).get? (hp.objs.size + 1) = some (xRec C none hp.objs.size) := by
    show _ = some (PySem.HandSPX.excO C hp.objs.size)
    heap_get
  have na : hp.get? (hp.objs.size + 1) = none := Heap.get?_none_of_le (Nat.le_succ _)
  have kin := I1.kIn
  obtain ⟨mb, hb1, hb2⟩ := I1.mod.blt
  refine wpAny_call (PySem.HandSPX.call_own PySem.F.excBase_ValueError (fun Y => PySem.HandSPX.refsVE_contains Y bm hbm) (kin _ _ hC) (PySem.W.looks_findIn kin F.fi) (fun self => PySem.W.bind_fn kin self F.ty) (by show 1 ≤ sizeLine; rw [sizeLine_eq]; omega) ?_)
  refine init_code (kw := false) T F (kin.keeps kk) (mg := X.mg) (mb := mb) (hr.make C [u] []).depth (I1.nolimit.keeps kk) ((I1.mod.glob.keeps I1.bk).keeps kk) ((hb1.keeps I1.bk).keeps kk) hs ((hb2 _ (by decide)).trans boot_super) hfile htop hget ?_ fun h' tk' t1 dx k4 nt1 ne e1 e2 nd da dt en => ?_
  · cases z : X.K.lookup (hp.objs.size + 1) with
    | none => rfl
    | some o =>
      rw [kin _ _ z] at na
      cases na
  · have k5 : ∀ b o, hp.get? b = some o → h'.get? b = some o := fun b o e => k4 b o (fun z => by
      rw [z, na] at e
      cases e) (kk b o e)
    have nt0 : hp.get? t1 = none := by
      cases z : hp.get? t1 with
      | none => rfl
      | some o =>
        rw [kk _ _ z] at nt1
        cases nt1
    have nd0 : hp.get? dx = none := by
      cases z : hp.get? dx with
      | none => rfl
      | some o =>
        rw [kk _ _ z] at nd
        cases nd
    have eo : ∃ o, h'.get? dx = some o := by
      obtain ⟨oD, es, ep, hoD, _⟩ := en
      exact ⟨oD, hoD⟩
    obtain ⟨tm, e3⟩ := e2
    refine ⟨rfl, ⟨.ref (hp.objs.size + 1), _, laid3 (t' := tk') (o := xV C t1 (some dx) (hp.objs.size + 1)) (u := .tup [.str msg]) (v := .own (hp.objs.size + 1)) I1 k5 na nt0 nd0 ne da dt (xV_ok e1) ⟨?_, [.str msg tm], .cons ⟨tm, rfl⟩ .nil, ⟨_, e3, rfl, _, rfl⟩⟩ eo, rfl, q1 _ t1 dx (I1.hok.gone na) (I1.hok.gone nt0) (I1.hok.gone nd0) ne da dt⟩⟩
    show 1 ≤ sizeLine
    rw [sizeLine_eq]
    omega
/-- C(), C an own class of errors without __init__ -/
theorem pe_xmk0 {k : Nat} {bmB : List Value} {B newId initId : String} (F : ExcBaseFacts B newId initId bmB) (q : PySem.W.excIn X.K C bmB newId = true) (kC : PySem.W.keepIn X.K (.ref C) = true) (hg : Gl X x) (hm : X.mg x = some (.ref C))
    (hdb : (x == ("__debug__" : Str)) = false := by decide) :
    PE X (.Call (.Name x p) [] [] pos) (fun _ H Q => ∀ a t1, H a = none → H t1 = none → t1 ≠ a → Q (.ref a) (upd (upd H t1 (.tup [])) a (xV C t1 none a))) := by
  refine ⟨fun pins s σ H Q I h => ?_⟩
  refine wpAny_Call_Name_kw (ld_glob I hg hm ?_ hdb)
  refine PySem.W.callWith_K0 (first := []) I.kIn kC ?_
  show wpAny _ _ (call (.ref C) []) _ _ _
  obtain ⟨bm, N, nm, qn, bs, hdct, sn, sub, ab, col, dd, k0, k1, k2, k3, k5, mN, hC, hN, hni, T⟩ := exc_obj I.kIn q
  refine wpAny_call_exc_subT F T hC hN hni (fun h' a hm => ?_) (by show 0 ≤ sizeLine; omega)
  obtain ⟨t1, e1, nt, e2⟩ := hm.there
  have ne : t1 ≠ a := fun z => by
    rw [z, e1] at e2
    have e3 := Option.some.inj e2
    cases e3
  exact ⟨.ref a, _, laid2 (t' := s.toks) (o := xV C t1 none a) (u := .tup []) I hm.keeps hm.new nt ne (xV_ok e1) ⟨Nat.zero_le _, [], .nil, ⟨_, e2, rfl, _, rfl⟩⟩, rfl, h a t1 (I.hok.gone hm.new) (I.hok.gone nt) ne⟩
end
end Sw
namespace Sw
open PySem PySem.Spec PyProof.Rows PySem.W Builtin Builtin.BaseException
/-- how repr calls a class -/
def exN (nm : Str) : Str := ((nm.toString.cutAt '.').getLastD "")
/-- a class of errors, by what repr and isinstance ask -/
structure XGood (K : Frag) (C : Addr) (n : Str) : Prop where
  nm : ∃ cd, clsIn K C = some cd ∧ exN cd.name = n
  len : n.length ≤ 60
  rp : findIn K (.ref C) "__repr__" = some (some (.builtin "BaseException.__repr__"))
  sub : subIn K (.ref C) (.type "BaseException") = some true
  ga : findIn K (.ref C) "__getattribute__" = some (some (.builtin "BaseException.__getattribute__"))
  gt : findIn K (.ref C) "__getattr__" = some none
  ca : findIn K (.ref C) "__class__" = some (some (.builtin "object.__class__"))
  cn : specialIn K (.builtin "object.__class__") "__get__" = some (some (.builtin "getset_descriptor.__get__"))
  ct : takesIn K (.builtin "object.__class__") = some true
  mo : mroIn K C (.type "object") = some true
  ni : subIn K (.ref C) (.type "int") = some false
  nb : subIn K (.ref C) (.type "bool") = some false
  nt : subIn K (.ref C) (.type "tuple") = some false
  ns : subIn K (.ref C) (.type "str") = some false
  nl : subIn K (.ref C) (.type "list") = some false
  nd : subIn K (.ref C) (.type "dict") = some false
/-- the text of such an error, by its args (none or one text) -/
def xText (n : Str) : Option Str → Str
  | none => n ++ "()"
  | some m => n ++ "(" ++ reprText m ++ ")"
def xArgs : Option Str → List L2.V
  | none => []
  | some m => [.str m]
section
variable {prog : Program} {w : World} {A : Around} {E : Value → Shared → Prop} {s : Shared} {K : Frag} {C e t0 : Addr} {n : Str}
theorem typeNameWhole_C {M : Model} (G : XGood K C n) (x : ExcC K C e t0 s.heap) {Q : String → Shared → Prop} (h : ∀ nm : String, (((nm.cutAt '.').getLastD "" : String) : Str) = n → Q nm s) : wpAny M A (typeNameOfWhole (.ref e)) Q E s := by
  obtain ⟨cd, hc, hn⟩ := G.nm
  unfold typeNameOfWhole shownTypeOf
  refine wpAny_bind (wpAny_bind ((x.LT).here ?_))
  simp only [show (Value.ref C == Value.type "builtin_function_or_method") = false from rfl, Bool.false_eq_true, if_false]
  refine wpAny_pure ?_
  unfold typeNameWhole
  refine wpAny_bind ((looks_clsIn x.1 hc).here (wpAny_pure ?_))
  exact h _ hn
theorem bexcRepr_C (G : XGood K C n) (x : ExcC K C e t0 s.heap) (m : Option Str) {its : List Value} (hi : L2.Vals (xArgs m) its) (ht : s.heap.TupAt t0 its) (b : Nat) (hsz : b + (xText n m).length ≤ sizeLine)
    (g : List Code) (hg : A.guards = some g) (hcl : Clear g t0) (hu : A.units + 2 < cLine) {Q : Fin → Shared → Prop}
    (h : ∀ h' u tk, (∀ b o, s.heap.get? b = some o → h'.get? b = some o) → Q (.done (.ret (.str (xText n m) u))) { s with heap := h', toks := tk }) :
    wpAny (model prog w) A (Builtin.bexcReprAt b ⟨[.ref e], []⟩) Q E s := by
  unfold Builtin.bexcReprAt
  cases m with
  | some m =>
    cases hi with
    | cons r1 r2 =>
      cases r2
      obtain ⟨tk, rfl⟩ := r1
      have eP : (Str.ofString "(").length = 1 := by rw [PySem.ofString_length]; rfl
      have e1 : b + (n ++ Str.ofString "(" ++ reprText m ++ Str.ofString ")").length ≤ sizeLine := hsz
      have hsz2 : (n ++ Str.ofString "(" ++ reprText m ++ Str.ofString ")").length ≤ sizeLine := Nat.le_trans (Nat.le_add_left _ b) e1
      rw [strLen_append, strLen_append, strLen_append, eP] at e1
      have hsz1 : (reprText m).length ≤ sizeLine := by omega
      have hpile : b + (n.length + 1) ≤ sizeLine := by omega
      refine wpAny_bind (wpAny_pure ?_)
      refine wpAny_bind (typeNameWhole_C G x fun nm en => ?_)
      refine wpAny_bind (bexcArgs_C x ht ?_)
      show wpAny _ _ (rule "BaseException.__repr__.one-argument" >>= _) _ _ _
      refine wpAny_bind (wpAny_rule ?_)
      rw [en]
      refine wpAny_bind ?_
      rw [pyReprUnder_leaf (v := .str m tk) hpile (by intro a; nofun)]
      refine wpAny_pyRepr_str ?_ hsz1
      unfold retStr
      refine wpAny_bind (wpAny_mkStr (wpAny_pure ?_) hsz2)
      exact h s.heap _ _ fun _ _ e => e
  | none =>
    cases hi
    obtain ⟨ot, kk, hto, hc, hd⟩ := id ht
    have e1 : b + (n ++ Str.ofString "()").length ≤ sizeLine := hsz
    have e2 : (n ++ Str.ofString "()").length ≤ sizeLine := Nat.le_trans (Nat.le_add_left _ b) e1
    rw [strLen_append] at e1
    have e3 : (Str.ofString "()").length = 2 := by rw [PySem.ofString_length]; rfl
    have et : tupleText [] = ("()" : Str) := by decide +kernel
    refine wpAny_bind (wpAny_pure ?_)
    refine wpAny_bind (typeNameWhole_C G x fun nm en => ?_)
    refine wpAny_bind (bexcArgs_C x ht ?_)
    show wpAny _ _ (pyReprUnder (b + _) (.ref t0) >>= _) _ _ _
    rw [en]
    refine wpAny_bind ?_
    have hK := ReprK.tuple (prog := prog) (w := w) (as := []) (h₀ := s.heap) (d := 0) (a := t0) (o := ot) (items := #[]) (n := kk) (ts := []) hto hc hd (by simp) .nil
    refine hK (b + n.length) (by rw [et]; show b + n.length + (Str.ofString "()").length ≤ sizeLine; omega) A g E s _ hg (fun b hb => ?_) (by omega) (fun _ _ e => e) fun h' tk hk => ?_
    · obtain rfl := List.mem_singleton.mp hb
      exact hcl
    · rw [et]
      unfold retStr
      refine wpAny_bind (wpAny_mkStr (wpAny_pure ?_) e2)
      exact h h' _ _ hk
theorem reprUnder_C (G : XGood K C n) (x : ExcC K C e t0 s.heap) (m : Option Str) {its : List Value} (hi : L2.Vals (xArgs m) its) (ht : s.heap.TupAt t0 its) (b : Nat) (hsz : b + (xText n m).length ≤ sizeLine)
    (g : List Code) (hg : A.guards = some g) (hcl : Clear g t0) (hu : A.units + 3 < cLine) {Q : Value → Shared → Prop}
    (h : ∀ h' u tk, (∀ b o, s.heap.get? b = some o → h'.get? b = some o) → Q (.str (xText n m) u) { s with heap := h', toks := tk }) :
    wpAny (model prog w) A (pyReprObjUnder b (.ref e)) Q E s := by
  unfold pyReprObjUnder pyReprObjBy
  have hf : Looks (model prog w) s.heap (typeLookup (.ref C) "__repr__") (some (.builtin "BaseException.__repr__")) := looks_findIn x.1 G.rp
  have hb : bindSpecial (.builtin "BaseException.__repr__") (.ref e) = pure (.builtin "BaseException.__repr__", [.ref e]) := PySem.F.excStr_Exception.repr.bind _
  have hT : Looks (model prog w) s.heap (typeOf (.ref e)) (.ref C) := x.LT
  refine wpAny_bind (wpAny_cRoomFor (by omega) ?_)
  unfold specialOf
  refine wpAny_bind (wpAny_bind (hT.here (hf.here ?_)))
  have fin : wpAny (model prog w) A (call (.builtin "BaseException.__repr__.under") [.ref e, rawInt b]) (fun v s' => (∃ x u, v = .str x u) ∧ Q v s') E s := by
    refine wpAny_call (codeAny_call_builtin PySem.F.plain_bexc_repr_under PySem.F.entry_bexc_repr_under ?_)
    rw [PySem.F.check_bexc_repr_under]
    refine wpAny_pure ?_
    show wpAny _ _ (reprTwin "BaseException.__repr__" Builtin.bexcReprAt ⟨[.ref e, rawInt b], []⟩) _ _ _
    rw [reprTwin_eq]
    refine wpAny_bind ?_
    refine @PySem.W.check_slot (model prog w) _ _ s "BaseException.__repr__" "BaseException" "__repr__" (.ref e) [] [] _ (by decide +kernel) (by decide +kernel) (x.LI G.sub) (PySem.F.args_bexc_repr _) ?_
    refine bexcRepr_C (A := A.in1) G x m hi ht b hsz g hg hcl (by show A.units + 1 + 2 < cLine; omega) fun h' u tk hk => ?_
    exact ⟨⟨_, _, rfl⟩, h h' u tk hk⟩
  simp only [Option.isNone_some, Bool.false_eq_true, if_false]
  refine wpAny_bind ?_
  unfold callSpecialIfBoundBy? bindSpecialIfBound? specialOf
  refine wpAny_holding (wpAny_bind (wpAny_bind (wpAny_bind (hT.here (hf.here ?_)))))
  simp only [hb]
  have fin2 : wpAny (model prog w) A (call (.builtin "BaseException.__repr__.under") [.ref e, rawInt b] >>= fun v => pure (some v)) (fun r s' => wpAny (model prog w) A (match r with
      | some r => do if ← isInstance r (.type "str") then pure r else raiseError "TypeError" s!"__repr__ returned non-string (type {← typeNameOf r})"
      | none => unsupported "repr:special-get-raises") Q E s') E s := by
    refine wpAny_bind (wpAny_mono fin (fun v s' hv => ?_) fun _ _ z => z)
    obtain ⟨⟨y, u, rfl⟩, hq⟩ := hv
    exact wpAny_pure (wpAny_bind (wpAny_isInstance (T := "str") (b := true) rfl isSubtype_str_str (wpAny_pure hq)))
  refine wpAny_bind (wpAny_askSetting (wpAny_ite ?_))
  split
  · exact wpAny_bind (wpAny_pure (wpAny_pure fin2))
  · exact wpAny_tryCatch (wpAny_bind (wpAny_pure (wpAny_pure fin2)))
end
end Sw
namespace Sw
open PySem PySem.Spec PyProof.Rows L2
/-- a key of a dict, as repr shows it -/
def keyTxt : Key → Str
  | .inl i => toString i
  | .inr x => reprText x
def keyOk : Key → Prop
  | .inl i => i.natAbs.log2 < 1920
  | .inr x => (reprText x).length ≤ sizeLine
def entTxt : List Key → List Str → List Str
  | k :: ks, t :: ts => (keyTxt k ++ ": " ++ t) :: entTxt ks ts
  | _, _ => []
def keysWt : List Key → Nat
  | [] => 0
  | k :: ks => (keyTxt k).length + 2 + keysWt ks
/-- plain data, and errors of the package -/
inductive D where
  | non | bl (b : Bool) | int (i : Int) | str (x : Str) | tup (xs : List D) | lst (xs : List D) | dct | dx (ks : List Key) (ds : List D) | exc (C : Addr) (n : Str) (m : Option Str)
mutual
/-- the text that repr gives -/
def shown : D → Str
  | .non => "None"
  | .bl b => if b then "True" else "False"
  | .int i => toString i
  | .str x => reprText x
  | .tup xs => tupleText (shownAll xs)
  | .lst xs => listText (shownAll xs)
  | .dct => "{}"
  | .dx ks ds => dictText (entTxt ks (shownAll ds))
  | .exc _ n m => xText n m
def shownAll : List D → List Str
  | [] => []
  | d :: r => shown d :: shownAll r
end
mutual
/-- no shorter than the text -/
def wt : D → Nat
  | .non => 4
  | .bl _ => 5
  | .int i => (Str.ofString (toString i)).length
  | .str x => (reprText x).length
  | .tup xs => wtAll xs + 3
  | .lst xs => wtAll xs + 3
  | .dct => 2
  | .dx ks ds => keysWt ks + wtAll ds + 2
  | .exc _ n m => (xText n m).length
def wtAll : List D → Nat
  | [] => 0
  | d :: r => wt d + 2 + wtAll r
end
mutual
def dep : D → Nat
  | .tup xs => depAll xs + 1
  | .lst xs => depAll xs + 1
  | .dct => 1
  | .dx _ ds => depAll ds + 1
  | .exc _ _ _ => 3
  | _ => 0
def depAll : List D → Nat
  | [] => 0
  | d :: r => max (dep d) (depAll r)
end
mutual
/-- its ints can be written -/
def small : D → Prop
  | .int i => i.natAbs.log2 < 1920
  | .tup xs => smallAll xs
  | .lst xs => smallAll xs
  | .dx ks ds => (∀ k ∈ ks, keyOk k) ∧ smallAll ds
  | _ => True
def smallAll : List D → Prop
  | [] => True
  | d :: r => small d ∧ smallAll r
end
theorem dictText_len (ps : List Str) : (dictText ps).length ≤ (ps.map (·.length)).sum + 2 * ps.length + 2 := by
  have e : (dictText ps).length = 1 + (Str.join ", " ps).length + 1 := by
    unfold dictText
    rw [strLen_append, strLen_append]; rfl
  have h : (Str.join ", " ps).length ≤ (ps.map (·.length)).sum + ps.length * 2 := PySem.StrLaws.join_length_le ", " ps
  omega
theorem entTxt_len : ∀ (ks : List Key) (ts : List Str), ((entTxt ks ts).map (·.length)).sum ≤ keysWt ks + (ts.map (·.length)).sum ∧ (entTxt ks ts).length ≤ ts.length
  | [], ts => by simp [entTxt]
  | k :: ks, [] => by simp [entTxt]
  | k :: ks, t :: ts => by
    obtain ⟨h1, h2⟩ := entTxt_len ks ts
    have e2 : ((": " : String) : Str).length = 2 := rfl
    simp only [entTxt, keysWt, List.map_cons, List.sum_cons, List.length_cons]
    rw [strLen_append, strLen_append, e2]
    omega
mutual
theorem shown_wt : ∀ d : D, (shown d).length ≤ wt d
  | .non => by simp only [wt]; decide +kernel
  | .bl b => by cases b <;> (simp only [wt]; decide +kernel)
  | .int i => by simp only [shown, wt]; exact Nat.le_refl _
  | .str x => by simp only [shown, wt]; exact Nat.le_refl _
  | .tup xs => by
    have h := tupleText_len_le (shownAll xs)
    have h2 := shownAll_wt xs
    simp only [shown, wt]
    omega
  | .lst xs => by
    have h := listText_len_le (shownAll xs)
    have h2 := shownAll_wt xs
    simp only [shown, wt]
    omega
  | .dct => by simp only [wt]; decide +kernel
  | .dx ks ds => by
    have h := dictText_len (entTxt ks (shownAll ds))
    obtain ⟨h1, h3⟩ := entTxt_len ks (shownAll ds)
    have h2 := shownAll_wt ds
    simp only [shown, wt]
    omega
  | .exc _ n m => by simp only [shown, wt]; exact Nat.le_refl _
theorem shownAll_wt : ∀ xs : List D, ((shownAll xs).map (·.length)).sum + 2 * (shownAll xs).length ≤ wtAll xs
  | [] => by simp [shownAll, wtAll]
  | d :: r => by
    have h := shown_wt d
    have h2 := shownAll_wt r
    simp only [shownAll, wtAll, List.map_cons, List.sum_cons, List.length_cons]
    omega
end
theorem wt_mem : ∀ {xs : List D} {d : D}, d ∈ xs → wt d + 2 ≤ wtAll xs
  | x :: r, d, h => by
    simp only [wtAll]
    rcases List.mem_cons.mp h with e | e
    · rw [e]; omega
    · have := wt_mem e
      omega
theorem dep_mem : ∀ {xs : List D} {d : D}, d ∈ xs → dep d ≤ depAll xs
  | x :: r, d, h => by
    simp only [depAll]
    rcases List.mem_cons.mp h with e | e
    · rw [e]; exact Nat.le_max_left _ _
    · exact Nat.le_trans (dep_mem e) (Nat.le_max_right _ _)
theorem small_mem : ∀ {xs : List D} {d : D}, smallAll xs → d ∈ xs → small d
  | x :: r, d, s, h => by
    simp only [smallAll] at s
    rcases List.mem_cons.mp h with e | e
    · rw [e]; exact s.1
    · exact small_mem s.2 e
mutual
/-- in H the value v is the data d; as: the addresses of what it is made of -/
def Rep (K : PySem.W.Frag) (H : Hp) : D → V → List Addr → Prop
  | .non, v, as => v = .non ∧ as = []
  | .bl b, v, as => v = .bl b ∧ as = []
  | .int i, v, as => v = .int i ∧ as = []
  | .str x, v, as => v = .str x ∧ as = []
  | .tup ds, v, as => ∃ a xs bs, v = .ref a ∧ H a = some (.tup xs) ∧ RepAll K H ds xs bs ∧ a ∉ bs ∧ as = a :: bs
  | .lst ds, v, as => ∃ a xs bs, v = .ref a ∧ H a = some (.lst xs) ∧ RepAll K H ds xs bs ∧ a ∉ bs ∧ as = a :: bs
  | .dct, v, as => ∃ a, v = .ref a ∧ H a = some (.dK []) ∧ as = [a]
  | .dx ks ds, v, as => ∃ a kvs bs, v = .ref a ∧ H a = some (.dK kvs) ∧ kvs.map Prod.fst = ks ∧ RepAll K H ds (kvs.map Prod.snd) bs ∧ a ∉ bs ∧ as = a :: bs
  | .exc C n m, v, as => ∃ a t d, v = .ref a ∧ H a = some (xV C t d a) ∧ H t = some (.tup (xArgs m)) ∧ (∀ dx, d = some dx → H dx = some (.own a)) ∧ XGood K C n ∧ as = a :: t :: d.toList
def RepAll (K : PySem.W.Frag) (H : Hp) : List D → List V → List Addr → Prop
  | [], xs, as => xs = [] ∧ as = []
  | d :: ds, xs, as => ∃ x r bs cs, xs = x :: r ∧ Rep K H d x bs ∧ RepAll K H ds r cs ∧ as = bs ++ cs
end
section
variable {K : PySem.W.Frag} {H H' : Hp}
mutual
theorem Rep.keep : ∀ {d : D} {v : V} {as : List Addr}, Rep K H d v as → (∀ b ∈ as, ∀ o, H b = some o → H' b = some o) → Rep K H' d v as
  | .non, v, as, h, _ => by simpa only [Rep] using h
  | .bl _, v, as, h, _ => by simpa only [Rep] using h
  | .int _, v, as, h, _ => by simpa only [Rep] using h
  | .str _, v, as, h, _ => by simpa only [Rep] using h
  | .tup ds, v, as, h, k => by
    simp only [Rep] at h ⊢
    obtain ⟨a, xs, bs, e, ha, r, na, rfl⟩ := h
    exact ⟨a, xs, bs, e, k a (by simp) _ ha, RepAll.keep r fun b hb => k b (by simp [hb]), na, rfl⟩
  | .lst ds, v, as, h, k => by
    simp only [Rep] at h ⊢
    obtain ⟨a, xs, bs, e, ha, r, na, rfl⟩ := h
    exact ⟨a, xs, bs, e, k a (by simp) _ ha, RepAll.keep r fun b hb => k b (by simp [hb]), na, rfl⟩
  | .dct, v, as, h, k => by
    simp only [Rep] at h ⊢
    obtain ⟨a, e, ha, rfl⟩ := h
    exact ⟨a, e, k a (by simp) _ ha, rfl⟩
  | .dx ks ds, v, as, h, k => by
    simp only [Rep] at h ⊢
    obtain ⟨a, kvs, bs, e, ha, ek, r, na, rfl⟩ := h
    exact ⟨a, kvs, bs, e, k a (by simp) _ ha, ek, RepAll.keep r fun b hb => k b (by simp [hb]), na, rfl⟩
  | .exc C n m, v, as, h, k => by
    simp only [Rep] at h ⊢
    obtain ⟨a, t, d, e, ha, ht, hd, g, rfl⟩ := h
    exact ⟨a, t, d, e, k a (by simp) _ ha, k t (by simp) _ ht, fun dx z => k dx (by simp [z]) _ (hd dx z), g, rfl⟩
theorem RepAll.keep : ∀ {ds : List D} {xs : List V} {as : List Addr}, RepAll K H ds xs as → (∀ b ∈ as, ∀ o, H b = some o → H' b = some o) → RepAll K H' ds xs as
  | [], xs, as, h, _ => by simpa only [RepAll] using h
  | d :: ds, xs, as, h, k => by
    simp only [RepAll] at h ⊢
    obtain ⟨x, r, bs, cs, e, h1, h2, rfl⟩ := h
    exact ⟨x, r, bs, cs, e, Rep.keep h1 fun b hb => k b (by simp [hb]), RepAll.keep h2 fun b hb => k b (by simp [hb]), rfl⟩
end
mutual
/-- all of it is tracked -/
theorem Rep.tracked : ∀ {d : D} {v : V} {as : List Addr}, Rep K H d v as → ∀ b ∈ as, ∃ o, H b = some o
  | .non, v, as, h, b, hb => by simp only [Rep] at h; rw [h.2] at hb; cases hb
  | .bl _, v, as, h, b, hb => by simp only [Rep] at h; rw [h.2] at hb; cases hb
  | .int _, v, as, h, b, hb => by simp only [Rep] at h; rw [h.2] at hb; cases hb
  | .str _, v, as, h, b, hb => by simp only [Rep] at h; rw [h.2] at hb; cases hb
  | .tup ds, v, as, h, b, hb => by
    simp only [Rep] at h
    obtain ⟨a, xs, bs, e, ha, r, na, rfl⟩ := h
    rcases List.mem_cons.mp hb with z | z
    · exact ⟨_, z ▸ ha⟩
    · exact RepAll.tracked r b z
  | .lst ds, v, as, h, b, hb => by
    simp only [Rep] at h
    obtain ⟨a, xs, bs, e, ha, r, na, rfl⟩ := h
    rcases List.mem_cons.mp hb with z | z
    · exact ⟨_, z ▸ ha⟩
    · exact RepAll.tracked r b z
  | .dct, v, as, h, b, hb => by
    simp only [Rep] at h
    obtain ⟨a, e, ha, rfl⟩ := h
    obtain rfl := List.mem_singleton.mp hb
    exact ⟨_, ha⟩
  | .dx ks ds, v, as, h, b, hb => by
    simp only [Rep] at h
    obtain ⟨a, kvs, bs, e, ha, ek, r, na, rfl⟩ := h
    rcases List.mem_cons.mp hb with z | z
    · exact ⟨_, z ▸ ha⟩
    · exact RepAll.tracked r b z
  | .exc C n m, v, as, h, b, hb => by
    simp only [Rep] at h
    obtain ⟨a, t, d, e, ha, ht, hd, g, rfl⟩ := h
    rcases List.mem_cons.mp hb with z | z
    · exact ⟨_, z ▸ ha⟩
    · rcases List.mem_cons.mp z with z | z
      · exact ⟨_, z ▸ ht⟩
      · exact ⟨_, hd b (by simpa using z)⟩
theorem RepAll.tracked : ∀ {ds : List D} {xs : List V} {as : List Addr}, RepAll K H ds xs as → ∀ b ∈ as, ∃ o, H b = some o
  | [], xs, as, h, b, hb => by simp only [RepAll] at h; rw [h.2] at hb; cases hb
  | d :: ds, xs, as, h, b, hb => by
    simp only [RepAll] at h
    obtain ⟨x, r, bs, cs, e, h1, h2, rfl⟩ := h
    rcases List.mem_append.mp hb with z | z
    · exact Rep.tracked h1 b z
    · exact RepAll.tracked h2 b z
end
theorem RepAll.len : ∀ {ds : List D} {xs : List V} {as : List Addr}, RepAll K H ds xs as → xs.length = ds.length
  | [], xs, as, h => by
    simp only [RepAll] at h
    rw [h.1]
    rfl
  | d :: ds, xs, as, h => by
    simp only [RepAll] at h
    obtain ⟨x, r, bs, cs, e, h1, h2, _⟩ := h
    rw [e, List.length_cons, List.length_cons, RepAll.len h2]
theorem RepAll.at : ∀ {ds : List D} {xs : List V} {as : List Addr} {i : Nat} {d : D}, RepAll K H ds xs as → ds[i]? = some d → ∃ x bs, xs[i]? = some x ∧ Rep K H d x bs ∧ ∀ b ∈ bs, b ∈ as
  | [], xs, as, i, d, h, e => by simp at e
  | d :: ds, xs, as, 0, d', h, e => by
    simp only [RepAll] at h
    obtain ⟨x, r, bs, cs, rfl, h1, h2, rfl⟩ := h
    obtain rfl : d = d' := by simpa using e
    exact ⟨x, bs, rfl, h1, fun b hb => by simp [hb]⟩
  | d :: ds, xs, as, i + 1, d', h, e => by
    simp only [RepAll] at h
    obtain ⟨x, r, bs, cs, rfl, h1, h2, rfl⟩ := h
    obtain ⟨y, es, q1, q2, q3⟩ := RepAll.at (i := i) h2 (by simpa using e)
    exact ⟨y, es, by simpa using q1, q2, fun b hb => by simp [q3 b hb]⟩
theorem RepAll.at2 {ds : List D} {xs : List V} {as : List Addr} {i : Nat} {x : V} (h : RepAll K H ds xs as) (e : xs[i]? = some x) : ∃ d bs, ds[i]? = some d ∧ Rep K H d x bs ∧ ∀ b ∈ bs, b ∈ as := by
  have hl := h.len
  have hi : i < ds.length := by rw [← hl]; exact (List.getElem?_eq_some_iff.mp e).1
  obtain ⟨y, bs, q1, q2, q3⟩ := h.at (List.getElem?_eq_getElem hi)
  rw [e] at q1
  cases q1
  exact ⟨_, bs, List.getElem?_eq_getElem hi, q2, q3⟩
section
variable {P : Program} {w : World} {h : Heap}
/-- the keys of entries -/
inductive KeysAre : List Key → List DictEntry → Prop
  | nil : KeysAre [] []
  | cons {k : Key} {ks : List Key} {e : DictEntry} {es : List DictEntry} : keyIs k e.key = true → KeysAre ks es → KeysAre (k :: ks) (e :: es)
theorem kv_vals : ∀ {kvs : List (Key × V)} {vs : List (Key × Value)} {es : List DictEntry}, KV kvs vs → Pairs (mixKind P w) es vs → ∃ us, Vals (kvs.map Prod.snd) us ∧ us = es.map (·.val) ∧ KeysAre (kvs.map Prod.fst) es
  | _, _, _, .nil, pr => by
    cases pr
    exact ⟨[], .nil, rfl, .nil⟩
  | _, _, _, .cons r t, pr => by
    cases pr with
    | cons h1 h2 h3 =>
      obtain ⟨us, a, b, c⟩ := kv_vals t h3
      obtain ⟨r1, r2⟩ := r
      refine ⟨_ :: us, .cons r2 a, ?_, ?_⟩
      · rw [List.map_cons, ← b, h2]
      · rw [List.map_cons, r1]
        exact .cons h1 c
theorem key_shows {k : Key} {v : Value} (hk : keyIs k v = true) (ok : keyOk k) {as : List Addr} {d : Nat} : ReprK P w as h d v (keyTxt k) := by
  rcases keyIs_shape hk with ⟨i, t, rfl, e⟩ | ⟨x, t, rfl, e⟩
  · subst e
    exact ReprK.of_is (ReprIs.int t ok) _ _ _
  · subst e
    exact ReprK.of_is (ReprIs.str x t ok) _ _ _
theorem ents_of {as : List Addr} {d : Nat} : ∀ {ks : List Key} {es : List DictEntry} {ts : List Str}, KeysAre ks es → (∀ k ∈ ks, keyOk k) → ReprAllK P w as h d (es.map (·.val)) ts → ReprEntriesK P w as h d es (entTxt ks ts)
  | _, _, _, .nil, _, r => by
    generalize hq : ([] : List DictEntry).map (·.val) = q at r
    cases r with
    | nil => exact .nil
    | cons _ _ => cases hq
  | _, _, ts, .cons (k := k) (e := e) (es := es) hk t, ok, r => by
    generalize hq : (e :: es).map (·.val) = q at r
    cases r with
    | nil => cases hq
    | cons r1 r2 =>
      rw [List.map_cons] at hq
      obtain ⟨rfl, rfl⟩ := List.cons.inj hq
      exact .cons (key_shows hk (ok _ List.mem_cons_self)) r1 (ents_of t (fun k hk => ok k (List.mem_cons_of_mem _ hk)) r2)
mutual
/-- what stands there shows by its text -/
theorem Rep.shows (hok : HOk P w H h) (kin : K.In h) : ∀ {d : D} {v : V} {as : List Addr} {u : Value}, Rep K H d v as → RelV v u → small d → wt d ≤ sizeLine → ReprK P w as h (dep d) u (shown d)
  | .non, v, as, u, r, q, sm, z => by
    simp only [Rep] at r
    obtain ⟨rfl, rfl⟩ := r
    cases (show u = Value.none from q)
    exact ReprK.of_is ReprIs.none _ _ _
  | .bl b, v, as, u, r, q, sm, z => by
    simp only [Rep] at r
    obtain ⟨rfl, rfl⟩ := r
    cases (show u = Value.bool b from q)
    exact ReprK.of_is (ReprIs.bool b) _ _ _
  | .int i, v, as, u, r, q, sm, z => by
    simp only [Rep] at r
    obtain ⟨rfl, rfl⟩ := r
    obtain ⟨t, rfl⟩ := (show ∃ t, u = Value.int i t from q)
    simp only [small] at sm
    exact ReprK.of_is (ReprIs.int t sm) _ _ _
  | .str x, v, as, u, r, q, sm, z => by
    simp only [Rep] at r
    obtain ⟨rfl, rfl⟩ := r
    obtain ⟨t, rfl⟩ := (show ∃ t, u = Value.str x t from q)
    simp only [wt] at z
    exact ReprK.of_is (ReprIs.str x t z) _ _ _
  | .tup ds, v, as, u, r, q, sm, z => by
    simp only [Rep] at r
    obtain ⟨a, xs, bs, rfl, ha, ra, na, rfl⟩ := r
    cases (show u = Value.ref a from q)
    obtain ⟨_, its, rv, o, h1, h2, n, h3⟩ := (show ObjOk P w H h a (.tup xs) from hok a _ ha)
    simp only [small] at sm
    simp only [wt] at z
    have k := RepAll.shows hok kin ra rv sm (by omega) (depAll ds) (Nat.le_refl _)
    simp only [shown, dep]
    exact ReprK.tuple h1 h2 h3 na (by simpa using k)
  | .lst ds, v, as, u, r, q, sm, z => by
    simp only [Rep] at r
    obtain ⟨a, xs, bs, rfl, ha, ra, na, rfl⟩ := r
    cases (show u = Value.ref a from q)
    obtain ⟨_, its, n, rv, h1⟩ := (show ObjOk P w H h a (.lst xs) from hok a _ ha)
    simp only [small] at sm
    simp only [wt] at z
    have k := RepAll.shows hok kin ra rv sm (by omega) (depAll ds) (Nat.le_refl _)
    simp only [shown, dep]
    cases its with
    | nil =>
      generalize shownAll ds = ts at k ⊢
      cases k
      rw [show listText [] = ("[]" : Str) from listText_nil]
      exact ReprK.listEmpty h1 rfl rfl
    | cons y l =>
      exact ReprK.list h1 rfl rfl na (by simpa using k.length_eq) (fun i y e => k.item i y (by simpa using e))
  | .dx ks ds, v, as, u, r, q, sm, z => by
    simp only [Rep] at r
    obtain ⟨a, kvs, bs, rfl, ha, ek, ra, na, rfl⟩ := r
    cases (show u = Value.ref a from q)
    obtain ⟨_, hs, vs, kv, o, es, ep, h1, h2, h3, h4⟩ := (show ObjOk P w H h a (.dK kvs) from hok a _ ha)
    simp only [small] at sm
    simp only [wt] at z
    have pr : Pairs (mixKind P w) es.toList vs := h4.2.1
    have ent : ∃ us, Vals (kvs.map Prod.snd) us ∧ us = es.toList.map (·.val) ∧ KeysAre (kvs.map Prod.fst) es.toList := kv_vals kv pr
    obtain ⟨us, rv, eu, ky⟩ := ent
    have k := RepAll.shows hok kin ra rv sm.2 (by omega) (depAll ds) (Nat.le_refl _)
    rw [ek] at ky
    simp only [shown, dep]
    refine ReprK.dict (o := o) (es := es) (n := ep) h1 h2.1 h3 hs na ?_
    rw [eu] at k
    exact ents_of ky sm.1 k
  | .dct, v, as, u, r, q, sm, z => by
    simp only [Rep] at r
    obtain ⟨a, rfl, ha, rfl⟩ := r
    cases (show u = Value.ref a from q)
    obtain ⟨_, hs, vs, kv, o, es, ep, h1, h2, h3, h4⟩ := (show ObjOk P w H h a (.dK []) from hok a _ ha)
    cases kv
    simp only [shown, dep]
    have et : dictText [] = ("{}" : Str) := by decide +kernel
    rw [← et]
    refine ReprK.dict (as := []) (d := 0) (o := o) (es := es) (n := ep) h1 h2.1 h3 hs (by simp) ?_
    have e0 : es.toList = [] := by
      have q : Pairs (mixKind P w) es.toList [] := h4.2.1
      generalize es.toList = l at q
      cases q
      rfl
    rw [e0]
    exact .nil
  | .exc C n m, v, as, u, r, q, sm, z => by
    simp only [Rep] at r
    obtain ⟨a, t, d, rfl, ha, ht, _, g, rfl⟩ := r
    cases (show u = Value.ref a from q)
    have h1 := xV_at hok ha
    obtain ⟨_, its, rv, o, h2, h3, n2, h4⟩ := (show ObjOk P w H h t (.tup (xArgs m)) from hok t _ ht)
    simp only [wt] at z
    simp only [shown, dep]
    intro base hb A gs E s Q hg hcl hu hk0 hQ
    refine wpAny_pyReprUnder_ref (by omega) (reprUnder_C g ⟨kin.keeps hk0, _, _, hk0 _ _ h1, rfl, rfl, rfl⟩ m rv ⟨o, n2, hk0 _ _ h2, h3, h4⟩ base hb gs hg (hcl t (by simp)) hu fun h' u tk hk => ⟨_, _, rfl, hQ h' tk hk⟩)
theorem RepAll.shows (hok : HOk P w H h) (kin : K.In h) : ∀ {ds : List D} {xs : List V} {as : List Addr} {us : List Value}, RepAll K H ds xs as → Vals xs us → smallAll ds → wtAll ds ≤ sizeLine → ∀ n, depAll ds ≤ n → ReprAllK P w as h n us (shownAll ds)
  | [], xs, as, us, r, q, sm, z, n, hn => by
    simp only [RepAll] at r
    obtain ⟨rfl, rfl⟩ := r
    cases q
    simp only [shownAll]
    exact .nil
  | d :: ds, xs, as, us, r, q, sm, z, n, hn => by
    simp only [RepAll] at r
    obtain ⟨x, l, bs, cs, rfl, r1, r2, rfl⟩ := r
    cases q with
    | cons q1 q2 =>
      simp only [smallAll] at sm
      simp only [wtAll] at z
      simp only [depAll] at hn
      simp only [shownAll]
      have k1 := Rep.shows hok kin r1 q1 sm.1 (by omega)
      have k2 := RepAll.shows hok kin r2 q2 sm.2 (by omega) n (by omega)
      exact .cons ((k1.more fun b hb => List.mem_append_left _ hb).level_le (by omega)) (k2.more_le (fun b hb => List.mem_append_right _ hb) (Nat.le_refl _))
end
end
end
end Sw
namespace Sw
open PySem PySem.Spec PyProof.Rows L2
/-- repr(xs), xs a list of data -/
def rRepr (K : PySem.W.Frag) : List V → Hp → VK → Prop := fun xs H Q => ∃ x ds as, xs = [x] ∧ Rep K H (.lst ds) x as ∧ smallAll ds ∧ wtAll ds ≤ 10000000 ∧ depAll ds ≤ 30 ∧ Q (.str (shown (.lst ds))) H
theorem call_repr {X : Cx} {k : Nat} (hr : Room k X.A) (hg : X.A.guards = some []) : CallR X (.builtin "repr") (rRepr X.K) := by
  intro pins s σ H xs us Q I r h
  obtain ⟨x, ds, as, rfl, hd, sm, z, dp, q⟩ := h
  obtain ⟨u, rfl, hu⟩ := vals1 r
  have un := hr.units
  have hz : wt (.lst ds) ≤ sizeLine := by
    rw [sizeLine_eq]
    simp only [wt]
    omega
  have hsh : (listText (shownAll ds)).length ≤ sizeLine := by
    have h1 := shown_wt (.lst ds)
    simp only [shown] at h1
    omega
  simp only [Rep] at hd
  obtain ⟨a, ys, bs, rfl, ha, ra, na, rfl⟩ := hd
  cases (show u = Value.ref a from hu)
  obtain ⟨_, its, n, rv, h1⟩ := (show ObjOk X.prog X.w H s.heap a (.lst ys) from I.hok a _ ha)
  have kr := RepAll.shows I.hok I.kIn ra rv sm (by simp only [wt] at hz; omega) (depAll ds) (Nat.le_refl _)
  have hT : s.TypeIs (.ref a) "list" := ⟨_, h1, rfl⟩
  simp only [shown] at q
  refine call_repr_slot (by omega) hT PySem.F.slot_list_repr.toG ?_
  cases its with
  | nil =>
    generalize shownAll ds = ts at kr q
    cases kr
    rw [show listText [] = ("[]" : Str) from listText_nil] at q
    exact call_list_repr_empty hT h1 rfl ⟨_, _, rfl, .str "[]", H, I.tok _, ⟨_, rfl⟩, q⟩
  | cons y l =>
    refine call_list_reprK (as := bs) (h₀ := s.heap) (d := depAll ds) h1 rfl rfl na (by simpa using kr.length_eq) (fun i y e => kr.item i y (by simpa using e)) (g := []) hg (fun b _ => Clear.nil b) (by show X.A.units + 1 + _ < cLine; omega) (fun _ _ e => e) (fun h' u tk hk => ?_) hsh
    exact ⟨_, _, rfl, .str _, H, I.kept (t' := tk) hk, ⟨_, rfl⟩, q⟩
/-! ### what a class a thing is of -/
/-- isinstance(x, T), by the data -/
def isT (T : String) : D → Bool
  | .int _ => T == "int"
  | .bl _ => T == "bool" || T == "int"
  | .str _ => T == "str"
  | .tup _ => T == "tuple"
  | .lst _ => T == "list"
  | .dct => T == "dict"
  | .dx _ _ => T == "dict"
  | _ => false
def isTs : List String := ["int", "bool", "tuple", "str", "list", "dict"]
def rIsD (K : PySem.W.Frag) : List V → Hp → VK → Prop := fun xs H Q => ∃ (x : V) (d : D) (as : List Addr) (T : String), xs = [x, .ty T] ∧ T ∈ isTs ∧ Rep K H d x as ∧ Q (.bl (isT T d)) H
theorem kit_exc {K : PySem.W.Frag} {C : Addr} {n : Str} (G : XGood K C n) {T : String} (hT : T ∈ isTs) : PySem.W.kitOne K (.ref C) (.type T) = some false := by
  have e : ∀ T : String, PySem.W.kitMeta T = true → PySem.W.subIn K (.ref C) (.type T) = some false → PySem.W.kitOne K (.ref C) (.type T) = some false := fun T h1 h2 => by
    unfold PySem.W.kitOne PySem.W.kitCls
    rw [if_neg (show ¬ ((Value.ref C == Value.type T) = true) from Bool.false_ne_true)]
    show (if PySem.W.kitMeta T = true then _ else _) = _
    rw [if_pos h1, h2]
  simp only [isTs, List.mem_cons, List.not_mem_nil, or_false] at hT
  rcases hT with rfl | rfl | rfl | rfl | rfl | rfl
  · exact e _ (by decide +kernel) G.ni
  · exact e _ (by decide +kernel) G.nb
  · exact e _ (by decide +kernel) G.nt
  · exact e _ (by decide +kernel) G.ns
  · exact e _ (by decide +kernel) G.nl
  · exact e _ (by decide +kernel) G.nd
theorem kitB_none {T : String} (hT : T ∈ isTs) : kitB "NoneType" T = some false := by
  simp only [isTs, List.mem_cons, List.not_mem_nil, or_false] at hT
  rcases hT with rfl | rfl | rfl | rfl | rfl | rfl <;> decide +kernel
theorem kitB_bool {T : String} (hT : T ∈ isTs) : kitB "bool" T = some (T == "bool" || T == "int") := by
  simp only [isTs, List.mem_cons, List.not_mem_nil, or_false] at hT
  rcases hT with rfl | rfl | rfl | rfl | rfl | rfl <;> decide +kernel
theorem kitB_self {S T : String} (hS : S ∈ ["int", "str", "tuple", "list", "dict"]) (hT : T ∈ isTs) : kitB S T = some (T == S) := by
  simp only [isTs, List.mem_cons, List.not_mem_nil, or_false] at hT hS
  rcases hS with rfl | rfl | rfl | rfl | rfl <;> rcases hT with rfl | rfl | rfl | rfl | rfl | rfl <;> decide +kernel
theorem call_isD {X : Cx} : CallR X (.builtin "isinstance") (rIsD X.K) := by
  intro pins s σ H xs us Q I r h
  obtain ⟨x, d, as, T, rfl, hT, hd, q⟩ := h
  have ex : ∀ t b, TyX X.K H x t → PySem.W.kitOne X.K t (.type T) = some b → isT T d = b → wpAny (model X.prog X.w) X.A (call (.builtin "isinstance") us) (EP X pins σ Q) X.xe s := fun t b h1 h2 h3 => by
    rw [h3] at q
    exact call_isi pins s σ H _ us Q I r ⟨x, .ty T, t, .type T, b, rfl, .ty T, h1, h2, q⟩
  cases d with
  | non =>
    simp only [Rep] at hd
    obtain ⟨rfl, rfl⟩ := hd
    exact ex _ _ (.base .non) (kit_ty (kitB_none hT)) rfl
  | bl b =>
    simp only [Rep] at hd
    obtain ⟨rfl, rfl⟩ := hd
    exact ex _ _ (.base (.bl b)) (kit_ty (kitB_bool hT)) rfl
  | int i =>
    simp only [Rep] at hd
    obtain ⟨rfl, rfl⟩ := hd
    exact ex _ _ (.base (.int i)) (kit_ty (kitB_self (by decide) hT)) rfl
  | str y =>
    simp only [Rep] at hd
    obtain ⟨rfl, rfl⟩ := hd
    exact ex _ _ (.base (.str y)) (kit_ty (kitB_self (by decide) hT)) rfl
  | tup ds =>
    simp only [Rep] at hd
    obtain ⟨a, ys, bs, rfl, ha, _⟩ := hd
    exact ex _ _ (.base (.tup ha)) (kit_ty (kitB_self (by decide) hT)) rfl
  | lst ds =>
    simp only [Rep] at hd
    obtain ⟨a, ys, bs, rfl, ha, _⟩ := hd
    exact ex _ _ (.base (.lst ha)) (kit_ty (kitB_self (by decide) hT)) rfl
  | dct =>
    simp only [Rep] at hd
    obtain ⟨a, rfl, ha, _⟩ := hd
    exact ex _ _ (.base (.dK ha)) (kit_ty (kitB_self (by decide) hT)) rfl
  | dx =>
    simp only [Rep] at hd
    obtain ⟨a, kvs, bs, rfl, ha, _⟩ := hd
    exact ex _ _ (.base (.dK ha)) (kit_ty (kitB_self (by decide) hT)) rfl
  | exc C n m =>
    simp only [Rep] at hd
    obtain ⟨a, t, dd, rfl, ha, ht, hx, G, _⟩ := hd
    obtain ⟨u1, u2, rfl, r1, r2⟩ := vals2 r
    cases (show u1 = Value.ref a from r1)
    cases (show u2 = Value.type T from r2)
    have h1 := xV_at I.hok ha
    obtain ⟨cd, hc, _⟩ := G.nm
    have fin : ∀ od, PySem.W.InstAt s.heap a (xRec C dd t) C od → wpAny (model X.prog X.w) X.A (call (.builtin "isinstance") [.ref a, .type T]) (EP X pins σ Q) X.xe s := fun od J =>
      PySem.W.kia_one (PySem.W.kitx_exc (od := od) (by rw [hc]; rfl) G.ga G.gt G.sub G.ca G.cn G.ct G.mo) I.kIn J (kit_exc G hT) (fun z => nomatch z) fun tk => ⟨.bl false, H, I.tok tk, rfl, q⟩
    cases dd with
    | none => exact fin none ⟨h1, rfl, rfl, trivial⟩
    | some dx =>
      obtain ⟨o, ho⟩ := (show ObjOk X.prog X.w H s.heap dx (.own a) from I.hok dx _ (hx dx rfl))
      exact fin (some o) ⟨h1, rfl, rfl, ho⟩
end Sw
namespace Sw
open PySem PySem.Spec PyProof.Rows
theorem enum_new1 {v : Value} {o : Obj} {Hx : Heap → Prop} (B : Begins v o Hx) :
    Meets (Builtin.«enumerate.__new__» ⟨[.type "enumerate", v], []⟩) (fun _ R s => Hx s.heap ∧
      R (.ok (.ret (.ref (s.heap.push o).objs.size))) { s with heap := (s.heap.push o).push { cls := .type "enumerate", data := .fields #[.none, .bool false, .ref s.heap.objs.size, rawInt 0, .none, .none] } }) :=
  .of_wp fun prog w A R s h => by
    obtain ⟨hp, g, d, tk, os⟩ := s
    obtain ⟨h1, h⟩ := h
    have hsub := sub_enumerate
    have q1 : ∀ {A' : Around} {E : Value → Shared → Prop} {Q : Value → Shared → Prop}, Q (.ref hp.objs.size) ⟨hp.push o, g, d, tk, os⟩ → wpAny (model prog w) A' (pyIter v) Q E ⟨hp, g, d, tk, os⟩ :=
      fun q => B.iter prog w _ _ ⟨hp, g, d, tk, os⟩ _ h1 q
    wp_walk using q1
    refine wpAny_stack_any fun st => wpAny_pure ?_
    split
    · rename_i c _ _ _ _ _
      cases (c == Value.type "enumerate")
      · wp_walk using q1
        exact ⟨_, rfl, h⟩
      · wp_walk using q1
        exact ⟨_, rfl, h⟩
    · wp_walk using q1
      exact ⟨_, rfl, h⟩
theorem enum_call1 {prog : Program} {w : World} {A : Around} {E : Value → Shared → Prop} {s : Shared} {v : Value} {o : Obj} {Hx : Heap → Prop} {Q : Value → Shared → Prop} (B : Begins v o Hx) (h1 : Hx s.heap)
    (h : ∀ h', IsEnum h' (s.heap.objs.size + 1) s.heap.objs.size 0 .none → h'.get? s.heap.objs.size = some o → (∀ b o, s.heap.get? b = some o → h'.get? b = some o) → Q (.ref (s.heap.objs.size + 1)) { s with heap := h' }) :
    wpAny (model prog w) A (call (.type "enumerate") [v]) Q E s := by
  refine callType_new F.called_enumerate (by decide) (F.typeCall_enumerate_1 _) (F.newCall_enumerate_1 _) (fun obj => F.args_object_init_2 obj _) F.entry_enumerate_new (enum_new1 B) ⟨h1, ?_⟩
  have hz : (s.heap.push o).objs.size = s.heap.objs.size + 1 := Heap.size_push ..
  show _ ∧ _
  rw [hz]
  have he : IsEnum ((s.heap.push o).push { cls := .type "enumerate", data := .fields #[.none, .bool false, .ref s.heap.objs.size, rawInt 0, .none, .none] }) (s.heap.objs.size + 1) s.heap.objs.size 0 .none := by
    have q := Heap.get?_push_size (s.heap.push o) (o := { cls := .type "enumerate", data := .fields #[.none, .bool false, .ref s.heap.objs.size, rawInt 0, .none, .none] }) rfl
    rw [hz] at q
    exact q
  exact ⟨⟨_, he, rfl⟩, h _ he (Heap.get?_push_of_some _ (Heap.get?_push_size _ B.free)) fun b o x => Heap.get?_push_of_some _ (Heap.get?_push_of_some _ x)⟩
end Sw
namespace Sw
open PySem PySem.Spec PyProof.Rows L2
/-- the tuple at a, each item in a new pair with its place -/
def ItTe (K : PySem.W.Frag) (a : Addr) : It :=
  ⟨fun i H => ∃ (xs : List V) (x : V), SqT K H a xs ∧ xs[i]? = some x, fun i H v H' => ∃ T x, v = .ref T ∧ H T = none ∧ H' = upd H T (.tup [.int (i : Nat), x]) ∧ ∀ xs, SqT K H a xs → xs[i]? = some x, fun i H => ∃ xs : List V, SqT K H a xs ∧ xs.length = i⟩
theorem turn_te {P : Program} {w : World} {K : PySem.W.Frag} {elts : List Expr} {kk : Nat} {tpos : Pos} (a e it : Addr) :
    Turn P w K (.Tuple elts kk tpos) (ItTe K a) [e, it] e (fun i h => (∃ old, IsEnum h e it ((i : Nat) : Int) old) ∧ h.IsTupleIter it a i ∧ e ≠ it ∧ a ≠ it ∧ a ≠ e) where
  mem := by simp
  obj := fun i h st b hb => by
    obtain ⟨⟨old, he⟩, ⟨o, ho, hc, hd⟩, _⟩ := st
    rcases List.mem_cons.mp hb with z | z
    · rw [z]; exact ⟨_, he, fun v q => nomatch q⟩
    · obtain rfl := List.mem_singleton.mp z
      exact ⟨o, ho, fun v q => by rw [hd] at q; cases q⟩
  keep := fun i h h' st k => by
    obtain ⟨⟨old, he⟩, hi, hne⟩ := st
    exact ⟨⟨old, k e (by simp) _ he⟩, hi.at fun o q => k it (by simp) o q, hne⟩
  item := by
    intro X hP hw hK hc i pins s σ H E I hf st hg
    subst hP hw hK
    obtain ⟨⟨old, he⟩, hit, hne, hai, hae⟩ := st
    obtain ⟨xs, x, hq, hx⟩ := hg
    obtain ⟨its, rv, p, hz⟩ := I.tuple hq
    obtain ⟨u, hu, ru⟩ := rv.get hx
    have hel : e < s.heap.objs.size := Heap.lt_size he
    have hil : it < s.heap.objs.size := by obtain ⟨_, q, _⟩ := hit; exact Heap.lt_size q
    have hlt : i < its.toArray.size := by
      have := (List.getElem?_eq_some_iff.mp hu).1
      simpa using this
    refine wpAny_pyNext_enum_itemD (Draws.tuple (A := X.A.in1) (I.ok.hd hc) it a hai its.toArray) he ⟨hit, p⟩ hlt hne (by simp [hne, Ne.symm hae]) fun y h' tk hy ho hst hT hsz hk => ?_
    obtain ⟨hit', _⟩ := hst
    have ey : y = u := by
      have q : its.toArray[i]? = some y := hy
      have q2 : its.toArray[i]? = some u := by simpa using hu
      rw [q2] at q
      exact (Option.some.inj q).symm
    subst ey
    refine ⟨_, rfl, wpAny_letOwnedTupleGo_enum (s := { s with heap := h', toks := tk + 1 }) ho fun h'' he' sb => ?_⟩
    have hT2 : h''.get? s.heap.objs.size = some { cls := .type "tuple", data := .seq #[.int i tk, y] } := (sb.2 _ (Nat.ne_of_gt hel)).trans hT
    have new : ObjOk X.prog X.w (upd H s.heap.objs.size (.tup [.int (i : Nat), x])) h'' s.heap.objs.size (.tup [.int (i : Nat), x]) :=
      ⟨by show 2 ≤ sizeLine; decide, [.int i tk, y], .cons ⟨_, rfl⟩ (.cons ru .nil), ⟨_, hT2, rfl, _, rfl⟩⟩
    have I1 : Inv X pins σ (upd H s.heap.objs.size (.tup [.int (i : Nat), x])) { s with heap := h'', toks := tk + 1 } :=
      I.turnedNew (ch := [e, it]) (fun b ob hb q => (sb.2 b (fun z => hb (by simp [z]))).trans (hk b ob (fun z => hb (by simp [z])) (fun z => hb (by simp [z])) q)) hf (Nat.le_refl _) new
    refine ⟨.ref s.heap.objs.size, _, I1, rfl, ⟨_, x, rfl, I.hok.fresh (Nat.le_refl _), rfl, fun ys hy => by rw [I.tuple_inj hy hq]; exact hx⟩, ⟨⟨y, ?_⟩, hit'.at fun o q => (sb.2 it (Ne.symm hne)).trans q, hne, hai, hae⟩, fun b hb => ?_⟩
    · have e1 : ((i + 1 : Nat) : Int) = (i : Int) + 1 := by omega
      rw [e1]; exact he'
    · have hb' : b < s.heap.objs.size := by
        rcases List.mem_cons.mp hb with z | z
        · rw [z]; exact hel
        · obtain rfl := List.mem_singleton.mp z
          exact hil
      rw [upd_ne (Nat.ne_of_lt hb')]
      exact (hf b hb).1
  done := by
    intro X hP hw hK hc i pins s σ H E I hf st hg
    subst hP hw hK
    obtain ⟨⟨old, he⟩, hit, hne, hai, hae⟩ := st
    obtain ⟨xs, hq, hx⟩ := hg
    obtain ⟨its, rv, p, hz⟩ := I.tuple hq
    obtain ⟨f0, f1, f2, f3, f4, f5⟩ := hf it (by simp)
    have hl := rv.length
    have hi : its.toArray.size = i := by simp; omega
    refine wpAny_pyNext_enum_endD (Draws.tuple (A := X.A.in1) (I.ok.hd hc) it a hai its.toArray) he (by rw [hi]; exact ⟨hit, p⟩) fun h' eb => ⟨rfl, I.turned (t' := s.toks) (fun b o hb q => eb b o hb q) f0 f1 f3 f4 f5⟩
  self := fun A i s Q E st h => let ⟨⟨_, he⟩, _⟩ := st; wpAny_pyIter_enum he h
def iTe (K : PySem.W.Frag) (ta : TA) : TI := fun σ H R => ta σ H fun vs H1 => ∃ a xs, vs = [.ref a] ∧ SqT K H1 a xs ∧ R (ItTe K a) H1
/-- for i, x in enumerate(t), t a tuple -/
theorem pi_enumT {X : Cx} {e : Expr} {ta : TA} {p pos tpos : Pos} {elts : List Expr} {kk : Nat} (hg : Gl X "enumerate") (hm : X.mg "enumerate" = none) (ha : PA X [e] ta) (hs : starEach [e] X.env = [(false, eval e X.env)] := by rfl) :
    PI X (.Tuple elts kk tpos) (.Call (.Name "enumerate" p) [e] [] pos) (iTe X.K ta) := by
  refine ⟨fun pins s σ H R I h => ?_⟩
  refine Call_ (ld_blt I hg hm boot_enumerate (PyProof.Rows.callWith_type1 (thn (ha.run pos pins s σ H _ I h) fun us s1 ⟨vs, H1, I1, r1, q1⟩ => ?_) hs rfl))
  obtain ⟨a, xs, ex, hq, q⟩ := q1
  subst ex
  cases r1 with
  | cons r rr =>
    cases rr
    cases r
    obtain ⟨its, rv, p', hz⟩ := I1.tuple hq
    have hal : a < s1.heap.objs.size := by obtain ⟨_, q, _⟩ := p'; exact Heap.lt_size q
    refine enum_call1 (begins_tuple a its.toArray) p' fun h' he hit hk => wpAny_pyIter_enum he ?_
    have I2 : Inv X pins σ H1 { s1 with heap := h' } := I1.kept (t' := s1.toks) hk
    refine ⟨s1.heap.objs.size + 1, [s1.heap.objs.size + 1, s1.heap.objs.size], _, _, H1, rfl, I2, turn_te a (s1.heap.objs.size + 1) s1.heap.objs.size, ⟨⟨.none, he⟩, ⟨_, hit, rfl, rfl⟩, Nat.succ_ne_self _, Nat.ne_of_lt hal, Nat.ne_of_lt (Nat.lt_succ_of_lt hal)⟩, fun b hb => ?_, q⟩
    have hle : s1.heap.objs.size ≤ b := by
      rcases List.mem_cons.mp hb with z | z
      · rw [z]; exact Nat.le_add_right _ _
      · obtain rfl := List.mem_singleton.mp z
        exact Nat.le_refl _
    exact I1.fpOk hle (I1.hok.fresh hle)
theorem walk_te {K : PySem.W.Frag} {a : Addr} {xs : List V} : Walk (ItTe K a) xs.length (fun H => SqT K H a xs) (YPair (fun i => some (.int (i : Nat))) (fun i => xs[i]?)) := by
  refine ⟨fun i _ hi q => ⟨xs, xs[i], q, by simp [hi]⟩, fun _ q => ⟨xs, q, rfl⟩, fun i H v H' _ q y => ?_⟩
  obtain ⟨T, x, h1, h2, h3, h4⟩ := y
  exact ⟨T, .int (i : Nat), x, h1, h2, h3, rfl, h4 xs q⟩
end Sw
namespace Sw
open PySem L2
/-! ### what all laws share: the text by places, the checks of the package, data in short -/
def top (i : Nat) : Stmt := PySem.Challenge.pw_swapstops_k05_errors_and_bounds.main.body.getD i (.Pass ⟨0, 0, 0, 0⟩)
def isWhole (lo hi : Int) : D → Bool
  | .int i => decide (lo ≤ i) && decide (i ≤ hi)
  | _ => false
def isPair : D → Bool
  | .tup [_, _] => true
  | _ => false
/-- built-in names that no module has taken -/
structure NoNames (mg : Str → Option Value) : Prop where
  isi : mg "isinstance" = none
  len : mg "len" = none
  int : mg "int" = none
  bool : mg "bool" = none
  tuple : mg "tuple" = none
  enumerate : mg "enumerate" = none
  range : mg "range" = none
  abs : mg "abs" = none
  list : mg "list" = none
  dict : mg "dict" = none
  zip : mg "zip" = none
  sorted : mg "sorted" = none
  str : mg "str" = none
  repr : mg "repr" = none
  super : mg "super" = none
section
variable {P : Program} {w : World} {K : PySem.W.Frag} {mg : Str → Option Value} {base : Heap}
/-- isinstance(the name in slot i, T) -/
theorem pe_isi {X : Cx} {i : Nat} {x T : Str} {p1 p2 p3 p4 : Pos} {TN : String} (hN : X.N[i]? = some x) (hv : Vis X.env.scope x) (hd : (x == ("__debug__" : Str)) = false) (hcd : (x == ("__classdict__" : Str)) = false)
    (h1 : X.mg "isinstance" = none) (h2 : X.mg T = none) (g1 : Gl X "isinstance") (g2 : Gl X T) (hb : bootBuiltins T = some (.type TN)) (hn : T ≠ "__name__") (hd2 : (T == ("__debug__" : Str)) = false)
    (hs : starEach [Expr.Name x p1, Expr.Name T p2] X.env = (false, eval (.Name x p1) X.env) :: starEach [Expr.Name T p2] X.env := by rfl) (hs2 : starEach [Expr.Name T p2] X.env = (false, eval (.Name T p2) X.env) :: starEach [] X.env := by rfl)
    (hpl : (backTo p4 (starEach [Expr.Name T p2] X.env)).any (·.1) = false := by rfl) :
    PE X (.Call (.Name "isinstance" p3) [.Name x p1, .Name T p2] [] p4) (tCB (rIsD X.K) (tCons (tVar i) (tCons (tC (.ty TN)) tNil))) :=
  pe_callB call_isD g1 h1 (by decide +kernel) (pa_cons (pe_var hN hv hd hcd) (pa_cons (pe_bltn (v := .ty TN) g2 h2 hb rfl hn hd2) pa_nil hs2) hs) (by decide) (by decide) hs hpl
def spBetween (K : PySem.W.Frag) : Sp := fun vs H Q _ => ∃ (x : V) (d : D) (as : List Addr) (lo hi : Int), vs = [x, .int lo, .int hi] ∧ Rep K H d x as ∧ Q (.bl (isWhole lo hi d)) H
/-! ### is_pair -/
def spPair (K : PySem.W.Frag) : Sp := fun vs H Q _ => ∃ (x : V) (d : D) (as : List Addr), vs = [x] ∧ Rep K H d x as ∧ Q (.bl (isPair d)) H
/-- a def of one's own that may be called by its name -/
structure Own (P : Program) (w : World) (K : PySem.W.Frag) (mg : Str → Option Value) (base : Heap) (k : Nat) (x : Str) (ps : List Str) (sp : Sp) : Prop where
  ex : ∃ f fd, FnOk P w K mg base CX0 k f fd ps sp ∧ mg x = some (.ref f) ∧ PySem.W.keepIn K (.ref f) = true ∧ Binds K fd ps []
theorem two_of {d : D} (h : isPair d = true) : ∃ a b, d = .tup [a, b] := by
  cases d with
  | tup ds =>
    match ds, h with
    | [a, b], _ => exact ⟨a, b, rfl⟩
    | [], h => cases h
    | [_], h => cases h
    | _ :: _ :: _ :: _, h => cases h
  | _ => cases h
theorem int_wt {i : Nat} (h : i ≤ sizeLine) : (Str.ofString (toString (i : Int))).length ≤ 20 ∧ ((i : Int)).natAbs.log2 < 1920 := by
  rw [sizeLine_eq] at h
  have h1 : ((i : Int)).natAbs < 10 ^ 19 := by
    have : ((i : Int)).natAbs = i := rfl
    rw [this]
    omega
  have h2 := int_text_length_le10 (k := 19) (by decide) h1
  rw [PySem.ofString_length]
  refine ⟨h2, ?_⟩
  exact PySem.Spec.log2_small (Nat.lt_of_lt_of_le h1 (by decide +kernel))
theorem wt_len : ∀ ds : List D, 2 * ds.length ≤ wtAll ds
  | [] => by simp [wtAll]
  | d :: r => by
    have := wt_len r
    simp only [wtAll, List.length_cons]
    omega
/-- a new pair of a word and a place -/
theorem rep_err {H : Hp} {p : Addr} {z : Str} {i : Int} (h : H p = none) : Rep K (upd H p (.tup [.str z, .int i])) (.tup [.str z, .int i]) (.ref p) [p] := by
  simp only [Rep, RepAll]
  exact ⟨p, _, [], rfl, upd_same, ⟨_, _, [], [], rfl, ⟨rfl, rfl⟩, ⟨_, _, [], [], rfl, ⟨rfl, rfl⟩, ⟨rfl, rfl⟩, rfl⟩, rfl⟩, by simp, rfl⟩
theorem same_new {H : Hp} {p : Addr} {o : HO} (h : H p = none) : Same H (upd H p o) := fun b x e => by
  rw [upd_ne (ne_of_none e h)]
  exact e
theorem Rep.same {H H' : Hp} {d : D} {v : V} {as : List Addr} (h : Rep K H d v as) (s : Same H H') : Rep K H' d v as := h.keep fun b _ o e => s b o e
theorem RepAll.same {H H' : Hp} {d : List D} {v : List V} {as : List Addr} (h : RepAll K H d v as) (s : Same H H') : RepAll K H' d v as := h.keep fun b _ o e => s b o e
theorem pair_len {ds : List D} {n : Nat} (h : n = ds.length) : isPair (.tup ds) = decide (V.int (n : Int) = V.int 2) := by
  match ds, h with
  | [], hl => rw [hl]; rfl
  | [_], hl => rw [hl]; rfl
  | [_, _], hl => rw [hl]; rfl
  | _ :: _ :: _ :: r, hl =>
    rw [hl]
    show false = _
    refine (decide_eq_false fun z => ?_).symm
    have z2 : ((_ : Nat) : Int) = 2 := V.int.inj z
    simp only [List.length_cons] at z2
    omega
theorem tup_of {d : D} (e : isT "tuple" d = true) : ∃ ds, d = .tup ds := by
  cases d <;> first | exact ⟨_, rfl⟩ | (simp_all [isT])
theorem pair_tup {d : D} (e : isT "tuple" d = false) : isPair d = false := by
  cases d <;> simp_all [isT, isPair]
/-- isinstance(e, T) -/
theorem pe_isiE {X : Cx} {e : Expr} {te : TE} {T : Str} {p2 p3 p4 : Pos} {TN : String} (he : PE X e te)
    (h1 : X.mg "isinstance" = none) (h2 : X.mg T = none) (g1 : Gl X "isinstance") (g2 : Gl X T) (hb : bootBuiltins T = some (.type TN)) (hn : T ≠ "__name__") (hd2 : (T == ("__debug__" : Str)) = false)
    (hs : starEach [e, Expr.Name T p2] X.env = (false, eval e X.env) :: starEach [Expr.Name T p2] X.env := by rfl) (hs2 : starEach [Expr.Name T p2] X.env = (false, eval (.Name T p2) X.env) :: starEach [] X.env := by rfl)
    (hpl : (backTo p4 (starEach [Expr.Name T p2] X.env)).any (·.1) = false := by rfl) :
    PE X (.Call (.Name "isinstance" p3) [e, .Name T p2] [] p4) (tCB (rIsD X.K) (tCons te (tCons (tC (.ty TN)) tNil))) :=
  pe_callB call_isD g1 h1 (by decide +kernel) (pa_cons he (pa_cons (pe_bltn (v := .ty TN) g2 h2 hb rfl hn hd2) pa_nil hs2) hs) (by decide) (by decide) hs hpl
end
end Sw
namespace Sw
open PySem L2
abbrev sDeck : Stmt := top 38
abbrev sDraw : Stmt := top 39
abbrev sPick : Stmt := top 40
theorem scDeck : FnScope ["script", "deck", "cell", "whole", "state"] ["script"] (defScope sDeck) := ⟨rfl, rfl, rfl, by decide +kernel, rfl, by decide +kernel, by decide +kernel⟩
theorem scDraw : FnScope ["deck", "many", "whole", "one", "two"] ["deck", "many"] (defScope sDraw) := ⟨rfl, rfl, rfl, by decide +kernel, rfl, by decide +kernel, by decide +kernel⟩
theorem scPick : FnScope ["deck", "items"] ["deck", "items"] (defScope sPick) := ⟨rfl, rfl, rfl, by decide +kernel, rfl, by decide +kernel, by decide +kernel⟩
/-! ### the deck -/
def kD : Key := .inr "deep"
def kS : Key := .inr "state"
theorem kDS : ¬ kD = kS := by decide +kernel
theorem kSD : ¬ kS = kD := by decide +kernel
def deckL (d : Addr) (st : Int) : List (Key × V) := [(kD, .ref d), (kS, .int st)]
theorem deck_deep (d : Addr) (st : Int) : valV (deckL d st) kD = some (.ref d) := by
  show ((deckL d st).find? fun kv => decide (kv.1 = kD)).map (·.2) = _
  unfold deckL
  rw [List.find?_cons, decide_eq_true rfl]
  rfl
theorem deck_state (d : Addr) (st : Int) : valV (deckL d st) kS = some (.int st) := by
  show ((deckL d st).find? fun kv => decide (kv.1 = kS)).map (·.2) = _
  unfold deckL
  rw [List.find?_cons, decide_eq_false kDS, List.find?_cons, decide_eq_true rfl]
  rfl
theorem deck_put_deep (d e : Addr) (st : Int) : putK (deckL d st) kD (.ref e) = deckL e st := by
  unfold putK deckL
  rw [if_pos (by simp)]
  simp [kSD]
theorem deck_put_state (d : Addr) (st z : Int) : putK (deckL d st) kS (.int z) = deckL d z := by
  unfold putK deckL
  rw [if_pos (by simp)]
  simp [kDS]
theorem deck_new (d : Addr) (st : Int) : mergeK [] [(kD, V.ref d), (kS, V.int st)] = deckL d st := by
  show putK (putK [] kD (.ref d)) kS (.int st) = _
  have e1 : putK ([] : List (Key × V)) kD (.ref d) = [(kD, .ref d)] := by simp [putK]
  rw [e1]
  unfold putK deckL
  rw [if_neg (by simp [kDS])]
  rfl
/-- a deck at p, its deep cells at d: at most m -/
structure Deck (H : Hp) (p d : Addr) (m : Nat) : Prop where
  ex : ∃ (ns : List Int) (st : Int), H p = some (.dK (deckL d st)) ∧ H d = some (.lst (ns.map V.int)) ∧ ns.length ≤ m ∧ (∀ n ∈ ns, 0 ≤ n) ∧ 0 ≤ st ∧ st < 2 ^ 61
theorem Deck.same {H H' : Hp} {p d : Addr} {m : Nat} (D : Deck H p d m) (s : Same H H') : Deck H' p d m := by
  obtain ⟨ns, st, h1, h2, r⟩ := D.ex
  exact ⟨ns, st, s _ _ h1, s _ _ h2, r⟩
theorem Deck.ne {H : Hp} {p d : Addr} {m : Nat} (D : Deck H p d m) : p ≠ d := by
  obtain ⟨ns, st, h1, h2, r⟩ := D.ex
  exact ne_of h1 h2 (by intro z; cases z)
theorem Deck.mono {H : Hp} {p d : Addr} {m k : Nat} (D : Deck H p d m) (h : m ≤ k) : Deck H p d k := by
  obtain ⟨ns, st, h1, h2, h3, r⟩ := D.ex
  exact ⟨ns, st, h1, h2, Nat.le_trans h3 h, r⟩
theorem dget_deep {H : Hp} {p d : Addr} {st : Int} (h : H p = some (.dK (deckL d st))) : DGet H p (.str "deep") (some (.ref d)) := by
  have q := DGet.k (k := kD) h
  rw [deck_deep] at q
  exact q
theorem dget_state {H : Hp} {p d : Addr} {st : Int} (h : H p = some (.dK (deckL d st))) : DGet H p (.str "state") (some (.int st)) := by
  have q := DGet.k (k := kS) h
  rw [deck_state] at q
  exact q
theorem dput_deep {H : Hp} {p d : Addr} {st : Int} (e : Addr) (h : H p = some (.dK (deckL d st))) : DPut H p (.str "deep") (.ref e) (upd H p (.dK (deckL e st))) := by
  have q := DPut.k (k := kD) (v := .ref e) h (by show 2 < sizeLine; rw [sizeLine_eq]; omega)
  rw [deck_put_deep] at q
  exact q
theorem dput_state {H : Hp} {p d : Addr} {st : Int} (z : Int) (h : H p = some (.dK (deckL d st))) : DPut H p (.str "state") (.int z) (upd H p (.dK (deckL d z))) := by
  have q := DPut.k (k := kS) (v := .int z) h (by show 2 < sizeLine; rw [sizeLine_eq]; omega)
  rw [deck_put_state] at q
  exact q
theorem cut_int (ns : List Int) (lo hi : Option Int) : ∃ ms : List Int, cutV (ns.map V.int) lo hi = ms.map V.int ∧ ms.length ≤ ns.length := by
  refine ⟨(ns.drop (HT.sIx (ns.map V.int).length 0 lo)).take (HT.sIx (ns.map V.int).length (ns.map V.int).length hi - HT.sIx (ns.map V.int).length 0 lo), ?_, ?_⟩
  · unfold cutV
    rw [List.map_take, List.map_drop]
  · rw [List.length_take, List.length_drop]
    omega
section
variable {P : Program} {w : World} {K : PySem.W.Frag} {mg : Str → Option Value} {base : Heap}
def spDeck (K : PySem.W.Frag) : Sp := fun vs H Q _ => ∃ (a : Addr) (ns : List Int), vs = [.ref a] ∧ SqL K H a (ns.map V.int) ∧ ns.length ≤ 63 ∧ ∀ (p d : Addr) (H' : Hp), Same H H' → H p = none → H d = none → Deck H' p d 63 → Q (.ref p) H'
theorem ok_deck {f : Addr} {fd : FuncData} (F : Fun K "_law_deck" "_law_deck" sDeck f fd) (B : NoNames mg) : FnOk P w K mg base CX0 1 f fd ["script"] (spDeck K) := by
  refine F.ok scDeck (fun vs H Q E h => ?_) (fun cdv A outer s H vs Q E hr h => ?_)
  · obtain ⟨a, ns, rfl, _⟩ := h
    rfl
  · obtain ⟨a, ns, rfl, hS, hl, k⟩ := h
    have hu := hu_of hr
    refine ⟨_, pss_cons (ps_set (i := 1) scDeck.nd rfl (.inl rfl) (pe_disp (pps_cons pe_str (pe_lst pa_nil) (pps_cons pe_str (pe_op op_add pe_int (pe_callB call_len_seq (by rfl) B.len PySem.boot_len (pa_cons (pe_slice sl_list (pv 0) po_none (po_some pe_int)) pa_nil))) pps_nil)) (by rfl) (by rfl) (fun z => by cases z) (by decide)))
      (pss_cons (ps_for PassesOwn.never rfl (pi_list (pe_slice sl_list (pv 0) po_none (po_some pe_int))) (pg_name (i := 2) scDeck.nd rfl (.inl rfl))
        (pss_cons (ps_set (i := 3) scDeck.nd rfl (.inl rfl) (pe_callB call_abs (by rfl) B.abs (by decide +kernel) (pa_cons (pv 2) pa_nil)))
        (pss_cons (ps_if (pt_cmpR op_ge (pv 3) (pe_op op_pow pe_int pe_int) (nomark _)) (pss_one (ps_dput hu (pv 1) pe_str (pe_op op_cat (pe_lst (pa_cons (pv 3) pa_nil)) (pe_dget hu (pv 1) pe_str (fun _ _ => rfl))) rfl)) pss_nil)
        (pss_cons (ps_set (i := 4) scDeck.nd rfl (.inl rfl) (pe_op op_add (pe_op op_mul (pe_op op_add (pe_op op_add (pe_op op_add (pe_dget hu (pv 1) pe_str (fun _ _ => rfl)) (pe_op op_mul pe_int (pv 3)))
            (pe_callTy call_int1 (by rfl) B.int (by decide +kernel) (pa_cons (pe_cmpR op_lt (pv 2) pe_int (nomark _)) pa_nil))) pe_int) pe_int) pe_int))
        (pss_one (ps_dput hu (pv 1) pe_str (pe_op op_mod (pe_callTy call_int1 (by rfl) B.int (by decide +kernel) (pa_cons (pv 4) pa_nil)) pe_int) rfl))))))
      (pss_one (ps_ret (pv 1)))), ?_⟩
    -- the deck
    intro p np
    refine ⟨Nat.zero_le _, fun l nl => ?_⟩
    have nlp : p ≠ l := fun z => by
      rw [z, upd_same] at nl
      cases nl
    have nl0 : H l = none := by
      rw [upd_ne nlp.symm] at nl
      exact nl
    have s1 : Same H (upd (upd H p (.dK [])) l (.lst [])) := (same_new np).trans (same_new nl)
    obtain ⟨ms, em, lm⟩ := cut_int ns none (some 63)
    refine ⟨_, rfl, 63, rfl, a, ns.map V.int, rfl, s1.seq hS, fun c nc => ?_⟩
    rw [em]
    refine ⟨c, _, rfl, .inl (SqL.of upd_same), _, _, rfl, rfl, ?_⟩
    have s2 := s1.trans (same_new (o := .lst (ms.map V.int)) nc)
    have ncp : p ≠ c := fun z => by
      rw [← z, upd_ne nlp, upd_same] at nc
      cases nc
    have ncl : l ≠ c := fun z => by
      rw [← z, upd_same] at nc
      cases nc
    refine ⟨by rw [upd_ne ncp, upd_ne nlp, upd_same], [(kD, .ref l), (kS, .int (1279805 + ((ms.map V.int).length : Int)))], rfl, by show 2 ≤ 15; decide, ?_⟩
    rw [deck_new]
    have em2 : (ms.map V.int).length ≤ 63 := by
      rw [List.length_map]
      omega
    have d0 : Deck (upd (upd (upd (upd H p (.dK [])) l (.lst [])) c (.lst (ms.map V.int))) p (.dK (deckL l (1279805 + ((ms.map V.int).length : Int))))) p l 0 :=
      ⟨[], _, upd_same, by rw [upd_ne nlp.symm, upd_ne ncl, upd_same]; rfl, Nat.le_refl _, fun _ h => absurd h (by simp), by omega, by omega⟩
    have s3 : Same H (upd (upd (upd (upd H p (.dK [])) l (.lst [])) c (.lst (ms.map V.int))) p (.dK (deckL l (1279805 + ((ms.map V.int).length : Int))))) := fun b o e => by
      rw [upd_ne (ne_of_none e np)]
      exact s2 b o e
    -- for cell in script[:63]
    refine ⟨_, rfl, 63, rfl, a, ns.map V.int, rfl, s3.seq hS, fun c2 nc2 => ?_⟩
    rw [em]
    have s4 := s3.trans (same_new (o := .lst (ms.map V.int)) nc2)
    have p0 : ∀ {H' : Hp}, (∃ d', Deck H' p d' 0) → True := fun _ => trivial
    refine ⟨c2, rfl, ⟨_, SqL.of upd_same⟩, for_it (walk_list (xs := ms.map V.int)) (fun i σ H' => ∃ s2 s3 s4 d', σ = [some (.ref a), some (.ref p), s2, s3, s4] ∧ Same H H' ∧ H' c2 = some (.lst (ms.map V.int)) ∧ H d' = none ∧ Deck H' p d' i)
      ⟨none, none, none, l, rfl, s4, upd_same, nl0, d0.same (same_new nc2)⟩ (fun i σ H' _ h => by obtain ⟨_, _, _, _, _, _, h3, _⟩ := h; exact SqL.of h3) ?_ ?_⟩
    · rintro i x σ H0 H1 hi ⟨t2, t3, t4, d', rfl, w1, w2, w3, D⟩ ⟨rfl, ex⟩
      obtain ⟨z, rfl⟩ : ∃ z, x = V.int z := by
        rw [List.getElem?_map] at ex
        cases q : ms[i]? with
        | none => rw [q] at ex; cases ex
        | some z => rw [q] at ex; exact ⟨z, (Option.some.inj ex).symm⟩
      have hi63 : i < 63 := by
        rw [List.length_map] at hi
        omega
      -- whole = abs(cell)
      refine ⟨_, rfl, z, rfl, ?_⟩
      obtain ⟨deep, st, hp1, hd1, hl1, hn1, hs1, hs2⟩ := id D.ex
      have hW : 0 ≤ (if z < 0 then -z else z) := by split <;> omega
      generalize (if z < 0 then -z else z) = W at hW ⊢
      refine ⟨_, rfl, _, _, rfl, rfl, ⟨by decide, by decide, by decide⟩, _, _, rfl, rfl, _, rfl, ?_⟩
      refine ite2 (fun _ => ?yes) (fun _ => ?no)
      case' yes =>
        -- deck["deep"] = [whole] + deck["deep"]
        refine ⟨_, rfl, by show 1 ≤ sizeLine; decide, fun q nq => ?_⟩
        have sq : Same H1 (upd H1 q (.lst [.int W])) := same_new nq
        refine ⟨_, rfl, p, _, rfl, dget_deep (sq _ _ hp1), q, d', _, _, rfl, rfl, upd_same, sq _ _ hd1, ?_, fun e ne => ?_⟩
        · rw [List.length_map, sizeLine_eq]
          show 1 + deep.length ≤ _
          omega
        have se := sq.trans (same_new (o := .lst ([V.int W] ++ deep.map V.int)) ne)
        refine ⟨_, rfl, p, _, rfl, dput_deep e (se _ _ hp1), ?_⟩
        have ep : e ≠ p := fun y => by
          rw [y, sq _ _ hp1] at ne
          cases ne
        have cp : c2 ≠ p := ne_of w2 hp1 (by intro y; cases y)
        have e0 : H e = none := w1.free (sq.free ne)
        have y1 : Same H (upd (upd (upd H1 q (.lst [.int W])) e (.lst ([V.int W] ++ deep.map V.int))) p (.dK (deckL e st))) := fun b o h => by
          rw [upd_ne (ne_of_none h np)]
          exact se _ _ (w1 b o h)
        have y2 : (upd (upd (upd H1 q (.lst [.int W])) e (.lst ([V.int W] ++ deep.map V.int))) p (.dK (deckL e st))) c2 = some (.lst (ms.map V.int)) := by
          rw [upd_ne cp]
          exact se _ _ w2
        have y3 : ∃ (d2 : Addr) (deep2 : List Int) (st2 : Int), (H d2 = none ∧ (upd (upd (upd H1 q (.lst [.int W])) e (.lst ([V.int W] ++ deep.map V.int))) p (.dK (deckL e st))) p = some (.dK (deckL d2 st2)) ∧
            (upd (upd (upd H1 q (.lst [.int W])) e (.lst ([V.int W] ++ deep.map V.int))) p (.dK (deckL e st))) d2 = some (.lst (deep2.map V.int)) ∧ deep2.length ≤ i + 1 ∧ (∀ n ∈ deep2, 0 ≤ n)) ∧ 0 ≤ st2 ∧ st2 < 2 ^ 61 :=
          ⟨e, W :: deep, st, ⟨e0, upd_same, by rw [upd_ne ep, upd_same]; rfl, by simp only [List.length_cons]; omega, fun n hn => by
            rcases List.mem_cons.mp hn with y | y
            · rw [y]; exact hW
            · exact hn1 n y⟩, hs1, hs2⟩
        generalize (upd (upd (upd H1 q (.lst [.int W])) e (.lst ([V.int W] ++ deep.map V.int))) p (.dK (deckL e st))) = H2 at y1 y2 y3 ⊢
      case' no =>
        have y1 : Same H H1 := w1
        have y2 : H1 c2 = some (.lst (ms.map V.int)) := w2
        have y3 : ∃ (d2 : Addr) (deep2 : List Int) (st2 : Int), (H d2 = none ∧ H1 p = some (.dK (deckL d2 st2)) ∧ H1 d2 = some (.lst (deep2.map V.int)) ∧ deep2.length ≤ i + 1 ∧ (∀ n ∈ deep2, 0 ≤ n)) ∧ 0 ≤ st2 ∧ st2 < 2 ^ 61 :=
          ⟨d', deep, st, ⟨w3, hp1, hd1, by omega, hn1⟩, hs1, hs2⟩
        generalize H1 = H2 at y1 y2 y3 ⊢
      all_goals
        obtain ⟨d2, deep2, st2, ⟨g0, g1, g2, g3, g4⟩, g5, g6⟩ := y3
        -- state
        refine ⟨_, rfl, p, _, rfl, dget_state g1, _, rfl, _, _, rfl, rfl, .inl ⟨by decide, by decide⟩, _, _, rfl, rfl, ?_⟩
        refine ⟨_, rfl, _, _, rfl, rfl, .inr ⟨_, rfl, _, _, rfl, rfl, ?_⟩⟩
        refine ⟨_, _, rfl, rfl, _, _, rfl, rfl, .inr ⟨by decide, by decide⟩, _, _, rfl, rfl, ?_⟩
        refine ⟨_, rfl, .inl ⟨_, rfl, _, _, rfl, rfl, (by show (0 : Int) < 2305843009213693951; decide), _, rfl, p, _, rfl, dput_state _ g1, ?_⟩⟩
        have np2 : p ≠ d2 := ne_of g1 g2 (by intro y; cases y)
        have cp : c2 ≠ p := ne_of y2 g1 (by intro y; cases y)
        refine ⟨_, _, _, d2, rfl, fun b o h => ?_, ?_, g0, ⟨deep2, _, upd_same, ?_, g3, g4, Int.emod_nonneg _ (by decide), Int.lt_of_lt_of_le (Int.emod_lt_of_pos _ (by decide)) (by decide)⟩⟩
        · rw [upd_ne (ne_of_none h np)]
          exact y1 b o h
        · rw [upd_ne cp]
          exact y2
        · rw [upd_ne np2.symm]
          exact g2
    · rintro σ H1 ⟨t2, t3, t4, d', rfl, w1, w2, w3, D⟩
      refine ⟨_, rfl, k p d' H1 w1 np w3 (D.mono ?_)⟩
      rw [List.length_map]
      omega
end
end Sw
namespace Sw
open PySem L2
/-- all but the deck stands -/
def Kp (p d : Addr) (H H' : Hp) : Prop := ∀ b o, H b = some o → b ≠ p → b ≠ d → H' b = some o
theorem Kp.of {p d : Addr} {H H' : Hp} (s : Same H H') : Kp p d H H' := fun b o e _ _ => s b o e
theorem Kp.refl {p d : Addr} {H : Hp} : Kp p d H H := fun _ _ e _ _ => e
theorem Kp.trans {p d : Addr} {H H1 H2 : Hp} (s : Kp p d H H1) (t : Kp p d H1 H2) : Kp p d H H2 := fun b o e n1 n2 => t b o (s b o e n1 n2) n1 n2
theorem Kp.new {p d : Addr} {H : Hp} {a : Addr} {o : HO} (h : H a = none) : Kp p d H (upd H a o) := .of (same_new h)
theorem Deck.ne_none {H : Hp} {p d : Addr} {m : Nat} (D : Deck H p d m) {a : Addr} (h : H a = none) : a ≠ p ∧ a ≠ d := by
  obtain ⟨ns, st, h1, h2, r⟩ := D.ex
  refine ⟨fun z => ?_, fun z => ?_⟩
  · rw [z, h1] at h
    cases h
  · rw [z, h2] at h
    cases h
/-- what is not yet stands not behind either -/
theorem Deck.free {H H' : Hp} {p d : Addr} {m : Nat} (D : Deck H p d m) (s : Kp p d H H') {a : Addr} (h : H' a = none) (D' : Deck H' p d m) : H a = none := by
  cases e : H a with
  | none => rfl
  | some o =>
    have n := D'.ne_none h
    have := s a o e n.1 n.2
    rw [this] at h
    cases h
theorem eqv_nil (ns : List Int) : (!PyData.eqv (.list (ns.map PyData.int)) (.list [])) = decide (ns ≠ []) := by
  cases ns with
  | nil => simp [PyData.eqv, PyData.eqvAll]
  | cons a r => simp [PyData.eqv, PyData.eqvAll]
theorem dpInts {K : PySem.W.Frag} {H : Hp} : ∀ ns : List Int, DpAll K H (ns.map V.int) (ns.map PyData.int)
  | [] => .nil
  | n :: r => .cons (.int n) (dpInts r)
theorem last_ints {ns : List Int} (h : ns ≠ []) : ∃ n ms, ns = ms ++ [n] ∧ (ns.map V.int)[(ns.map V.int).length - 1]? = some (.int n) ∧ (ns.map V.int).dropLast = ms.map V.int := by
  refine ⟨ns.getLast h, ns.dropLast, (List.dropLast_concat_getLast h).symm, ?_, ?_⟩
  · rw [List.getElem?_map, List.length_map]
    rw [← List.getLast?_eq_getElem?, List.getLast?_eq_some_getLast h]
    rfl
  · rw [List.map_dropLast]
section
variable {P : Program} {w : World} {K : PySem.W.Frag} {mg : Str → Option Value} {base : Heap}
def spDraw : Sp := fun vs H Q _ => ∃ (p d : Addr) (m : Int), vs = [.ref p, .int m] ∧ Deck H p d 63 ∧ m < 1000000 ∧ ∀ (r : Int) (H' : Hp), 0 ≤ r → (1 ≤ m → r < m) → (m < 2 → r = 0) → Deck H' p d 63 → Kp p d H H' → Q (.int r) H'
theorem ok_draw {f : Addr} {fd : FuncData} (F : Fun K "_law_draw" "_law_draw" sDraw f fd) (B : NoNames mg) : FnOk P w K mg base CX0 1 f fd ["deck", "many"] (spDraw) := by
  refine F.ok scDraw (fun vs H Q E h => ?_) (fun cdv A outer s H vs Q E hr h => ?_)
  · obtain ⟨p, d, m, rfl, _⟩ := h
    rfl
  · obtain ⟨p, d, m, rfl, D, hm, k⟩ := h
    have hu := hu_of hr
    refine ⟨_, pss_cons (ps_if (pt_cmpR op_lt (pv 1) pe_int (nomark _)) (pss_one (ps_ret pe_int)) pss_nil)
      (pss_cons (ps_if (pt_cmpR (op_neD hr.units) (pe_dget hu (pv 0) pe_str (fun _ _ => rfl)) (pe_lst pa_nil) (nomark _))
        (pss_cons (ps_set (i := 2) scDraw.nd rfl (.inl rfl) (pe_bm0 PySem.F.plainAttrs_list PySem.F.slot_list_pop PySem.F.type_list_pop mt_pop (pe_dget hu (pv 0) pe_str (fun _ _ => rfl))))
        (pss_cons (ps_if (pt_cmpR op_ge (pv 2) (pv 1) (nomark _)) (pss_one (ps_expr (pe_bm PySem.F.plainAttrs_list PySem.F.slot_list_append PySem.F.type_list_append mt_append (pe_dget hu (pv 0) pe_str (fun _ _ => rfl)) (pa_cons (pe_op op_fdiv (pv 2) (pv 1)) pa_nil)))) pss_nil)
        (pss_one (ps_ret (pe_op op_mod (pe_callTy call_int1 (by rfl) B.int (by decide +kernel) (pa_cons (pv 2) pa_nil)) (pv 1)))))) pss_nil)
      (pss_cons (ps_set (i := 3) scDraw.nd rfl (.inl rfl) (pe_op op_mod (pe_callTy call_int1 (by rfl) B.int (by decide +kernel) (pa_cons (pe_op op_add (pe_op op_mul (pe_dget hu (pv 0) pe_str (fun _ _ => rfl)) pe_int) pe_int) pa_nil)) pe_int))
      (pss_cons (ps_dput hu (pv 0) pe_str (pv 3) rfl)
      (pss_cons (ps_set (i := 4) scDraw.nd rfl (.inl rfl) (pe_op op_mod (pe_callTy call_int1 (by rfl) B.int (by decide +kernel) (pa_cons (pe_op op_add (pe_op op_add (pe_op op_mul (pv 3) (pv 3)) (pe_op op_mul pe_int (pv 3))) pe_int) pa_nil)) pe_int))
      (pss_one (ps_ret (pe_op op_mod (pe_callTy call_int1 (by rfl) B.int (by decide +kernel) (pa_cons (pe_op op_fdiv (pv 4) pe_int) pa_nil)) (pv 1)))))))), ?_⟩
    obtain ⟨ns, st, hp, hd, hl, hn, hs1, hs2⟩ := id D.ex
    refine ⟨_, rfl, _, _, rfl, rfl, _, rfl, ?_⟩
    refine ite2 (fun z => ?_) (fun z => ?_)
    · have z : m < 2 := of_decide_eq_true z
      exact k 0 H (by decide) (fun _ => by omega) (fun _ => rfl) D .refl
    have z : ¬ m < 2 := fun q => z (decide_eq_true q)
    refine ⟨_, rfl, p, _, rfl, dget_deep hp, by show 0 ≤ sizeLine; exact Nat.zero_le _, fun e ne => ?_⟩
    have se : Same H (upd H e (.lst [])) := same_new ne
    refine ⟨.list (ns.map PyData.int), .list [], .lst (SqL.of (se _ _ hd)) (dpInts ns), .lst (SqL.of upd_same) .nil, PySem.W.ke_shaped_ints ns, rfl, _, rfl, ?_⟩
    rw [eqv_nil]
    refine ite2 (fun y => ?_) (fun y => ?_)
    · obtain ⟨n, ms, rfl, hlast, hdrop⟩ := last_ints (of_decide_eq_true y)
      have hn0 : 0 ≤ n := hn n (by simp)
      refine ⟨_, rfl, p, _, rfl, dget_deep (se _ _ hp), .inl ⟨rfl, _, SqL.of (se _ _ hd)⟩, d, _, _, rfl, rfl, se _ _ hd, hlast, ?_⟩
      rw [hdrop]
      have hpd := D.ne
      have h1 : (upd (upd H e (.lst [])) d (.lst (ms.map V.int))) p = some (.dK (deckL d st)) := by
        rw [upd_ne hpd]
        exact se _ _ hp
      have h2 : (upd (upd H e (.lst [])) d (.lst (ms.map V.int))) d = some (.lst (ms.map V.int)) := upd_same
      have h3 : Kp p d H (upd (upd H e (.lst [])) d (.lst (ms.map V.int))) := fun b o e n1 n2 => by
        rw [upd_ne n2]
        exact se _ _ e
      have hl' : ms.length + 1 ≤ 63 := by simpa using hl
      have hn' : ∀ x ∈ ms, 0 ≤ x := fun x hx => hn x (by simp [hx])
      generalize (upd (upd H e (.lst [])) d (.lst (ms.map V.int))) = H1 at h1 h2 h3 ⊢
      have D1 : Deck H1 p d 63 := ⟨ms, st, h1, h2, by omega, hn', hs1, hs2⟩
      refine ⟨_, rfl, _, rfl, _, _, rfl, rfl, _, rfl, ?_⟩
      refine ite2 (fun x => ?_) (fun x => ?_)
      · have x : m ≤ n := of_decide_eq_true x
        refine ⟨_, rfl, p, _, rfl, dget_deep h1, .inl ⟨rfl, _, SqL.of h2⟩, _, rfl, _, rfl, _, _, rfl, rfl, ⟨by omega, by omega⟩, d, _, _, rfl, rfl, h2, ?_, ?_⟩
        · rw [List.length_map, sizeLine_eq]
          omega
        refine ⟨_, rfl, .inl ⟨_, rfl, _, rfl, _, _, rfl, rfl, by show 0 < m; omega, ?_⟩⟩
        refine k _ _ (Int.emod_nonneg _ (by omega)) (fun _ => Int.emod_lt_of_pos _ (by omega)) (fun y => absurd y (by omega)) ⟨ms ++ [n / m], st, ?_, ?_, ?_, ?_, hs1, hs2⟩ (h3.trans fun b o e n1 n2 => ?_)
        · rw [upd_ne hpd]
          exact h1
        · rw [upd_same, List.map_append]
          rfl
        · simp
          omega
        · intro x hx
          rcases List.mem_append.mp hx with q | q
          · exact hn' x q
          · rw [List.mem_singleton.mp q]
            exact Int.ediv_nonneg hn0 (by omega)
        · rw [upd_ne n2]
          exact e
      · refine ⟨_, rfl, .inl ⟨_, rfl, _, rfl, _, _, rfl, rfl, by show 0 < m; omega, ?_⟩⟩
        exact k _ _ (Int.emod_nonneg _ (by omega)) (fun _ => Int.emod_lt_of_pos _ (by omega)) (fun y => absurd y (by omega)) D1 h3
    · have D1 := D.same se
      generalize (upd H e (.lst [])) = H1 at se D1
      obtain ⟨ns, st, hp, hd, hl, hn, hs1, hs2⟩ := id D1.ex
      refine ⟨_, rfl, p, _, rfl, dget_state hp, _, _, rfl, rfl, .inl ⟨by omega, by omega⟩, _, _, rfl, rfl, ?_⟩
      refine .inl ⟨_, rfl, _, _, rfl, rfl, (by show (0 : Int) < 2305843009213693951; decide), ?_⟩
      dsimp only
      have o1 : 0 ≤ (st * 1181783497276652981 + 88172645463325) % 2305843009213693951 := Int.emod_nonneg _ (by decide)
      have o2 : (st * 1181783497276652981 + 88172645463325) % 2305843009213693951 < 2305843009213693951 := Int.emod_lt_of_pos _ (by decide)
      generalize (st * 1181783497276652981 + 88172645463325) % 2305843009213693951 = one at o1 o2 ⊢
      refine ⟨_, rfl, _, rfl, p, _, rfl, dput_state one hp, ?_⟩
      refine ⟨_, rfl, _, rfl, _, _, rfl, rfl, .inl ⟨by omega, by omega⟩, _, rfl, _, _, rfl, rfl, .inl ⟨by decide, by decide⟩, _, _, rfl, rfl, _, _, rfl, rfl, ?_⟩
      refine .inl ⟨_, rfl, _, _, rfl, rfl, (by show (0 : Int) < 2305843009213693921; decide), ?_⟩
      dsimp only
      generalize (one * one + 374761393 * one + 11) % 2305843009213693921 = two
      refine ⟨_, rfl, _, _, rfl, rfl, ⟨by decide, by decide⟩, ?_⟩
      refine .inl ⟨_, rfl, _, rfl, _, _, rfl, rfl, by show 0 < m; omega, ?_⟩
      refine k _ _ (Int.emod_nonneg _ (by omega)) (fun _ => Int.emod_lt_of_pos _ (by omega)) (fun y => absurd y (by omega)) ⟨ns, one, upd_same, ?_, hl, hn, o1, by omega⟩ (fun b o e n1 n2 => ?_)
      · rw [upd_ne (D1.ne).symm]
        exact hd
      · rw [upd_ne n1]
        exact se _ _ e
end
end Sw
namespace Sw
open PySem L2
theorem erase_map {α β : Type} (f : α → β) : ∀ (l : List α) (i : Nat), (l.map f).eraseIdx i = (l.eraseIdx i).map f
  | [], _ => rfl
  | _ :: _, 0 => rfl
  | a :: r, i + 1 => by
    show f a :: (r.map f).eraseIdx i = f a :: (r.eraseIdx i).map f
    rw [erase_map f r i]
theorem Deck.kne {H : Hp} {p d : Addr} {m : Nat} (D : Deck H p d m) {a : Addr} {xs : List V} (h : H a = some (.lst xs)) : a ≠ p := by
  obtain ⟨ns, st, h1, h2, r⟩ := D.ex
  exact ne_of h h1 (by intro y; cases y)
theorem Deck.tne {H : Hp} {p d : Addr} {m : Nat} (D : Deck H p d m) {a : Addr} {xs : List V} (h : H a = some (.tup xs)) : a ≠ p ∧ a ≠ d := by
  obtain ⟨ns, st, h1, h2, r⟩ := D.ex
  exact ⟨ne_of h h1 (by intro y; cases y), ne_of h h2 (by intro y; cases y)⟩
theorem Deck.upd {H : Hp} {p d a : Addr} {m : Nat} {o : HO} (D : Deck H p d m) (h1 : a ≠ p) (h2 : a ≠ d) : Deck (L2.upd H a o) p d m := by
  obtain ⟨ns, st, e1, e2, r⟩ := D.ex
  exact ⟨ns, st, by rw [upd_ne h1.symm]; exact e1, by rw [upd_ne h2.symm]; exact e2, r⟩
section
variable {P : Program} {w : World} {K : PySem.W.Frag} {mg : Str → Option Value} {base : Heap}
def spPick : Sp := fun vs H Q _ => ∃ (p d a : Addr) (xs : List V), vs = [.ref p, .ref a] ∧ Deck H p d 63 ∧ H a = some (.lst xs) ∧ a ≠ d ∧ xs ≠ [] ∧ xs.length < 1000000 ∧ ∀ (x : V) (H' : Hp), x ∈ xs → Deck H' p d 63 → Kp p d H H' → Q x H'
theorem ok_pick {f : Addr} {fd : FuncData} (F : Fun K "_law_pick" "_law_pick" sPick f fd) (B : NoNames mg) (O : Own P w K mg base 1 "_law_draw" ["deck", "many"] spDraw) : FnOk P w K mg base CX0 2 f fd ["deck", "items"] (spPick) := by
  obtain ⟨fD, fdD, GD, mD, kD, bD⟩ := O.ex
  refine F.ok scPick (fun vs H Q E h => ?_) (fun cdv A outer s H vs Q E hr h => ?_)
  · obtain ⟨p, d, a, xs, rfl, _⟩ := h
    rfl
  · obtain ⟨p, d, a, xs, rfl, D, ha, nd, hx, hl, k⟩ := h
    refine ⟨_, pss_one (ps_ret (pe_ix ix_list (pv 1) (pe_call GD hr rfl mD kD bD .nil pass0 (pa_cons (pv 0) (pa_cons (pe_callB call_len_seq (by rfl) B.len PySem.boot_len (pa_cons (pv 1) pa_nil)) pa_nil))) (fun _ _ => rfl))), ?_⟩
    have hpos : 0 < xs.length := List.length_pos_iff.mpr hx
    refine ⟨_, rfl, _, rfl, _, rfl, a, xs, rfl, .inl (SqL.of ha), p, d, (xs.length : Int), rfl, D, by omega, fun r H' r0 r1 r2 D' kp => ?_⟩
    have ha' := kp _ _ ha (D.kne ha) nd
    have hr : r < (xs.length : Int) := r1 (by omega)
    obtain ⟨i, rfl⟩ := Int.eq_ofNat_of_zero_le r0
    have hi : i < xs.length := by omega
    exact ⟨a, xs, _, xs[i], rfl, rfl, SqL.of ha', at_of (j := i) rfl (List.getElem?_eq_getElem hi), k _ _ (List.getElem_mem hi) D' kp⟩
def spMixed : Sp := fun vs H Q _ => ∃ (p d a : Addr) (ns : List Int), vs = [.ref p, .ref a] ∧ Deck H p d 63 ∧ H a = some (.lst (ns.map V.int)) ∧ ns.length < 1000000 ∧ ∀ (r : Addr) (ms : List Int) (H' : Hp), Deck H' p d 63 → Kp p d H H' → H r = none → H' r = some (.lst (ms.map V.int)) → ms.length = ns.length → (∀ m ∈ ms, m ∈ ns) → Q (.ref r) H'
end
end Sw
namespace Sw
open PySem L2
/-! ### expressions that give data -/
abbrev SH := L2.St → Hp → Prop
/-- what is free may be used, and what S says holds -/
structure Fit (S : SH) (U : L2.St → Addr → Prop) (σ : L2.St) (H : Hp) : Prop where
  s : S σ H
  u : ∀ a, H a = none → U σ a
def tDat (K : PySem.W.Frag) (S : SH) (U : L2.St → Addr → Prop) (w k : Nat) : TE := fun σ H Q => Fit S U σ H ∧ ∀ (x : V) (dd : D) (as : List Addr) (H' : Hp), Rep K H' dd x as → (∀ a ∈ as, U σ a) → Same H H' → small dd → wt dd ≤ w → dep dd ≤ k → Q x H'
def tDats (K : PySem.W.Frag) (S : SH) (U : L2.St → Addr → Prop) (w k m : Nat) : TA := fun σ H Q => Fit S U σ H ∧ ∀ (xs : List V) (ds : List D) (as : List Addr) (H' : Hp), xs.length = m → RepAll K H' ds xs as → (∀ a ∈ as, U σ a) → Same H H' → smallAll ds → wtAll ds ≤ w → depAll ds ≤ k → Q xs H'
/-- a new list of data -/
def tDatL (K : PySem.W.Frag) (S : SH) (U : L2.St → Addr → Prop) (w k m : Nat) : TE := fun σ H Q => Fit S U σ H ∧ ∀ (l : Addr) (xs : List V) (ds : List D) (as : List Addr) (H' : Hp), H l = none → H' l = some (.lst xs) → l ∉ as → xs.length = m → RepAll K H' ds xs as → (∀ a ∈ as, U σ a) → Same H H' → smallAll ds → wtAll ds ≤ w → depAll ds ≤ k → Q (.ref l) H'
def SMono (S : SH) : Prop := ∀ σ H H', S σ H → Same H H' → S σ H'
theorem Fit.same {S : SH} {U : L2.St → Addr → Prop} {σ : L2.St} {H H' : Hp} (hS : SMono S) (f : Fit S U σ H) (s : Same H H') : Fit S U σ H' := ⟨hS σ H H' f.s s, fun a h => f.u a (s.free h)⟩
theorem pe_weak {X : Cx} {e : Expr} {t t' : TE} (h : PE X e t) (hw : ∀ σ H Q, t' σ H Q → t σ H Q) : PE X e t' := ⟨fun pins s σ H Q I q => h.run pins s σ H Q I (hw σ H Q q)⟩
theorem pa_weak {X : Cx} {es : List Expr} {t t' : TA} (h : PA X es t) (hw : ∀ σ H Q, t' σ H Q → t σ H Q) : PA X es t' := ⟨fun pos pins s σ H Q I q => h.run pos pins s σ H Q I (hw σ H Q q)⟩
section
variable {X : Cx} {S : SH} {U : L2.St → Addr → Prop} {e : Expr} {es : List Expr} {w k : Nat}
theorem dat_le {w' k' : Nat} (h : PE X e (tDat X.K S U w k)) (hw : w ≤ w') (hk : k ≤ k') : PE X e (tDat X.K S U w' k') :=
  pe_weak h fun σ H Q q => ⟨q.1, fun x dd as H' h1 h2 h3 h4 h5 h6 => q.2 x dd as H' h1 h2 h3 h4 (by omega) (by omega)⟩
theorem dat_of {t : TE} (h : PE X e t) (ht : ∀ σ H Q, S σ H → (∀ v dd, Rep X.K H dd v [] → small dd → wt dd ≤ w → dep dd ≤ k → Q v H) → t σ H Q) : PE X e (tDat X.K S U w k) :=
  pe_weak h fun σ H Q q => ht σ H Q q.1.s fun v dd h1 h2 h3 h4 => q.2 v dd [] H h1 (fun _ h => absurd h (by simp)) (Same.refl H) h2 h3 h4
theorem int_ok {K : PySem.W.Frag} {H : Hp} {i : Int} {w k : Nat} (hi : i.natAbs < 10 ^ w) (hw : 0 < w) (hw2 : w ≤ 40) : Rep K H (.int i) (.int i) [] ∧ small (.int i) ∧ wt (.int i) ≤ w + 1 ∧ dep (.int i) ≤ k := by
  refine ⟨by simp [Rep], ?_, ?_, by simp only [dep]; omega⟩
  · simp only [small]
    exact PySem.Spec.log2_small (Nat.lt_of_lt_of_le hi (Nat.le_trans (Nat.pow_le_pow_right (by decide) hw2) (by decide +kernel)))
  · simp only [wt]
    rw [PySem.ofString_length]
    exact int_text_length_le10 hw hi
theorem dat_int {i : Int} {t : TE} (h : PE X e t) (ht : ∀ σ H Q, Q (.int i) H → t σ H Q) (hi : i.natAbs < 10 ^ w := by decide +kernel) (hw : 0 < w := by decide) (hw2 : w ≤ 40 := by decide) : PE X e (tDat X.K S U (w + 1) k) :=
  dat_of h fun σ H Q _ q => ht σ H Q (by
    obtain ⟨h1, h2, h3, h4⟩ := int_ok (K := X.K) (H := H) (k := k) hi hw hw2
    exact q _ _ h1 h2 h3 h4)
/-- a slot that holds a small whole number -/
def SInt (S : SH) (i : Nat) : Prop := ∀ σ H, S σ H → ∃ v, σ[i]? = some (some (.int v)) ∧ v.natAbs < 10 ^ 3
theorem dat_var {i : Nat} (h : PE X e (tVar i)) (hS : SInt S i) : PE X e (tDat X.K S U 4 k) :=
  dat_of h fun σ H Q hs q => by
    obtain ⟨v, e, hv⟩ := hS σ H hs
    obtain ⟨h1, h2, h3, h4⟩ := int_ok (K := X.K) (H := H) (k := k) hv (by decide) (by decide)
    exact ⟨_, e, q _ _ h1 h2 h3 h4⟩
theorem dat_bl {t : TE} (h : PE X e t) (ht : ∀ σ H Q, S σ H → (∀ b, Q (.bl b) H) → t σ H Q) : PE X e (tDat X.K S U 5 k) :=
  dat_of h fun σ H Q hs q => ht σ H Q hs fun b => q _ (.bl b) (by simp [Rep]) (by simp only [small]) (by simp only [wt]; omega) (by simp only [dep]; omega)
theorem dat_true {b : Bool} (h : PE X e (tC (.bl b))) : PE X e (tDat X.K S U 5 k) := dat_bl h fun σ H Q _ q => q b
theorem dat_non (h : PE X e (tC .non)) : PE X e (tDat X.K S U 4 k) :=
  dat_of h fun σ H Q _ q => q .non .non (by simp [Rep]) (by simp only [small]) (by simp only [wt]; omega) (by simp only [dep]; omega)
theorem dat_str {x : Str} (h : PE X e (tC (.str x))) (hw : (reprText x).length ≤ w := by decide +kernel) : PE X e (tDat X.K S U w k) :=
  dat_of h fun σ H Q _ q => q (.str x) (.str x) (by simp [Rep]) (by simp only [small]) (by simp only [wt]; omega) (by simp only [dep]; omega)
theorem dat_dct {pos : Pos} : PE X (.Dict [] [] pos) (tDat X.K S U 2 (k + 1)) :=
  pe_weak pe_dnewK fun σ H Q q p np => q.2 _ .dct [p] _ (by simp only [Rep]; exact ⟨p, rfl, upd_same, rfl⟩) (fun a ha => by rw [List.mem_singleton.mp ha]; exact q.1.u p np) (same_new np) (by simp only [small]) (by simp only [wt]; omega) (by simp only [dep]; omega)
theorem dats_nil : PA X [] (tDats X.K S U 0 k 0) := pa_weak pa_nil fun σ H Q q => q.2 [] [] [] H rfl (by simp [RepAll]) (fun _ h => absurd h (by simp)) (Same.refl H) (by simp only [smallAll]) (by simp only [wtAll]; omega) (by simp only [depAll]; omega)
theorem dats_cons {w' m : Nat} (hS : SMono S) (ha : PE X e (tDat X.K S U w k)) (hr : PA X es (tDats X.K S U w' k m)) (hs : starEach (e :: es) X.env = (false, eval e X.env) :: starEach es X.env := by rfl) : PA X (e :: es) (tDats X.K S U (w + 2 + w') k (m + 1)) :=
  pa_weak (pa_cons ha hr hs) fun σ H Q q => ⟨q.1, fun x dd as H1 h1 h2 h3 h4 h5 h6 => ⟨q.1.same hS h3, fun xs ds bs H2 lm l1 l2 l3 l4 l5 l6 =>
    q.2 (x :: xs) (dd :: ds) (as ++ bs) H2 (by rw [List.length_cons, lm]) (by simp only [RepAll]; exact ⟨x, xs, as, bs, rfl, h1.same l3, l1, rfl⟩) (fun a ha => (List.mem_append.mp ha).elim (h2 a) (l2 a)) (h3.trans l3) (by simp only [smallAll]; exact ⟨h4, l4⟩) (by simp only [wtAll]; omega) (by simp only [depAll]; omega)⟩⟩
theorem wlen {K : PySem.W.Frag} {H : Hp} {xs : List V} {ds : List D} {as : List Addr} (h : RepAll K H ds xs as) (hw : wtAll ds ≤ 10000000) : xs.length ≤ sizeLine := by
  have h1 := wt_len ds
  rw [h.len, sizeLine_eq]
  omega
theorem nmem {K : PySem.W.Frag} {H : Hp} {xs : List V} {ds : List D} {as : List Addr} {a : Addr} (h : RepAll K H ds xs as) (ha : H a = none) : a ∉ as := fun z => by
  obtain ⟨o, e⟩ := h.tracked a z
  rw [ha] at e
  cases e
theorem dat_tup {x1 m : Nat} {pos : Pos} (h : PA X es (tDats X.K S U w k m)) (hS : SMono S) (hw : w ≤ 10000000 := by decide) : PE X (.Tuple es x1 pos) (tDat X.K S U (w + 3) (k + 1)) :=
  pe_weak (pe_tup h) fun σ H Q q => ⟨q.1, fun xs ds as H1 hm h1 h2 h3 h4 h5 h6 => ⟨wlen h1 (by omega), fun p np =>
    q.2 (.ref p) (.tup ds) (p :: as) _ (by simp only [Rep]; exact ⟨p, xs, as, rfl, upd_same, h1.same (same_new np), nmem h1 np, rfl⟩) (fun a ha => (List.mem_cons.mp ha).elim (fun z => by rw [z]; exact (q.1.same hS h3).u p np) (h2 a)) (h3.trans (same_new np)) (by simp only [small]; exact h4) (by simp only [wt]; omega) (by simp only [dep]; omega)⟩⟩
theorem dat_lst {m : Nat} {pos : Pos} (h : PA X es (tDats X.K S U w k m)) (hS : SMono S) (hw : w ≤ 10000000 := by decide) : PE X (.List es pos) (tDat X.K S U (w + 3) (k + 1)) :=
  pe_weak (pe_lst h) fun σ H Q q => ⟨q.1, fun xs ds as H1 hm h1 h2 h3 h4 h5 h6 => ⟨wlen h1 (by omega), fun p np =>
    q.2 (.ref p) (.lst ds) (p :: as) _ (by simp only [Rep]; exact ⟨p, xs, as, rfl, upd_same, h1.same (same_new np), nmem h1 np, rfl⟩) (fun a ha => (List.mem_cons.mp ha).elim (fun z => by rw [z]; exact (q.1.same hS h3).u p np) (h2 a)) (h3.trans (same_new np)) (by simp only [small]; exact h4) (by simp only [wt]; omega) (by simp only [dep]; omega)⟩⟩
theorem datL_lst {m : Nat} {pos : Pos} (h : PA X es (tDats X.K S U w k m)) (hS : SMono S) (hw : w ≤ 10000000 := by decide) : PE X (.List es pos) (tDatL X.K S U w k m) :=
  pe_weak (pe_lst h) fun σ H Q q => ⟨q.1, fun xs ds as H1 hm h1 h2 h3 h4 h5 h6 => ⟨wlen h1 (by omega), fun p np =>
    q.2 p xs ds as _ (h3.free np) upd_same (nmem h1 np) hm (h1.same (same_new np)) h2 (h3.trans (same_new np)) h4 (by omega) (by omega)⟩⟩
/-- an own error with an __init__ -/
structure XE (P : Program) (K : PySem.W.Frag) (mg : Str → Option Value) (x msg fld : Str) : Prop where
  ex : ∃ C fI file, XCls K C ∧ XInit K C fI msg fld fld file ∧ mg x = some (.ref C) ∧ ((P.main.file : Str) == file) = true ∧ (P.main.scope.names.lookup ("super" : Str)).isSome = false ∧ XGood K C x
/-- an own error without -/
structure XU (K : PySem.W.Frag) (mg : Str → Option Value) (x : Str) : Prop where
  ex : ∃ (C : Addr) (bmB : List Value) (B newId initId : String), ExcBaseFacts B newId initId bmB ∧ PySem.W.excIn K C bmB newId = true ∧ PySem.W.keepIn K (.ref C) = true ∧ mg x = some (.ref C) ∧ XGood K C x
theorem wt_exc {C : Addr} {n : Str} (h : n.length ≤ 60) : wt (.exc C n none) ≤ 62 := by
  simp only [wt, xText]
  rw [PySem.Str.length_append]
  have : ("()" : Str).length = 2 := by decide +kernel
  omega
theorem wt_exc1 {C : Addr} {n m : Str} (h : n.length ≤ 60) (hm : (reprText m).length ≤ 40) : wt (.exc C n (some m)) ≤ 102 := by
  simp only [wt, xText]
  rw [PySem.Str.length_append, PySem.Str.length_append, PySem.Str.length_append]
  have h1 : ("(" : Str).length = 1 := by decide +kernel
  have h2 : (")" : Str).length = 1 := by decide +kernel
  omega
theorem dat_xe {x msg fld : Str} {pos p : Pos} {kr : Nat} (E : XE X.prog X.K X.mg x msg fld) (hmsg : (reprText msg).length ≤ 40) (hdb : (x == ("__debug__" : Str)) = false) (B : NoNames X.mg) (hr : Room kr X.A) (h1r : 1 ≤ kr) (hS : SMono S) (hg : Gl X x) (he : PE X e (tDat X.K S U w k)) (hst : starEach [e] X.env = (false, eval e X.env) :: starEach [] X.env := by rfl) :
    PE X (.Call (.Name x p) [e] [] pos) (tDat X.K S U 102 (k + 3)) := by
  obtain ⟨C, fI, file, T, F, hm, hf, ht, G⟩ := E.ex
  refine pe_weak (pe_xmk T F (hr.mono h1r) hg hm B.super hf ht he hst hdb) fun σ H Q q => ⟨q.1, fun x' dd as H1 l1 l2 l3 l4 l5 l6 => fun a t1 dx na nt nd n1 n2 n3 => ?_⟩
  have u := (q.1.same hS l3).u
  refine q.2 (.ref a) (.exc C x (some msg)) [a, t1, dx] _ ?_ (fun b hb => ?_) ?_ (by simp only [small]) (wt_exc1 G.len hmsg) (by simp only [dep]; omega)
  · simp only [Rep]
    refine ⟨a, t1, some dx, rfl, upd_same, ?_, fun d hd => ?_, G, rfl⟩
    · rw [upd_ne n1, upd_same]
      rfl
    · cases hd
      rw [upd_ne n2, upd_ne n3, upd_same]
  · simp only [List.mem_cons, List.not_mem_nil, or_false] at hb
    rcases hb with rfl | rfl | rfl
    · exact u _ na
    · exact u _ nt
    · exact u _ nd
  · refine l3.trans fun b o hb => ?_
    rw [upd_ne (ne_of_none hb na), upd_ne (ne_of_none hb nt), upd_ne (ne_of_none hb nd)]
    exact hb
theorem dat_xu {x : Str} {pos p : Pos} (E : XU X.K X.mg x) (hdb : (x == ("__debug__" : Str)) = false) (hg : Gl X x) : PE X (.Call (.Name x p) [] [] pos) (tDat X.K S U 62 (k + 3)) := by
  obtain ⟨C, bmB, Bn, newId, initId, F, q, kC, hm, G⟩ := E.ex
  refine pe_weak (pe_xmk0 (k := 0) F q kC hg hm hdb) fun σ H Q q a t1 na nt n1 => ?_
  refine q.2 (.ref a) (.exc C x none) [a, t1] _ ?_ (fun b hb => ?_) ?_ (by simp only [small]) (wt_exc G.len) (by simp only [dep]; omega)
  · simp only [Rep]
    refine ⟨a, t1, none, rfl, upd_same, ?_, fun d hd => (nomatch hd), G, rfl⟩
    rw [upd_ne n1, upd_same]
    rfl
  · simp only [List.mem_cons, List.not_mem_nil, or_false] at hb
    rcases hb with rfl | rfl
    · exact q.1.u _ na
    · exact q.1.u _ nt
  · intro b o hb
    rw [upd_ne (ne_of_none hb na), upd_ne (ne_of_none hb nt)]
    exact hb
end
end Sw
namespace Sw
open PySem L2
/-- a statement kept to what it is to do with the slots and the heap -/
def tCut (J J' : L2.St → Hp → Prop) : TS := fun D σ H => J σ H ∧ ∀ σ' H', J' σ' H' → D.nx σ' H'
theorem ps_cut {X : Cx} {st : Stmt} {t : TS} {J J' : L2.St → Hp → Prop} (h : PS X st t) (hJ : ∀ D σ H, J σ H → (∀ σ' H', J' σ' H' → D.nx σ' H') → t D σ H) : PS X st (tCut J J') :=
  ⟨fun pins s σ H D I q => h.run pins s σ H D I (hJ D σ H q.1 q.2)⟩
def Inn (n a : Int) : Prop := 0 ≤ a ∧ a < n
/-- tuples stand -/
def TupS (H H' : Hp) : Prop := ∀ b xs, H b = some (.tup xs) → H' b = some (.tup xs)
theorem TupS.of {H H' : Hp} (s : Same H H') : TupS H H' := fun b xs e => s _ _ e
theorem TupS.refl {H : Hp} : TupS H H := fun _ _ e => e
theorem TupS.trans {H H1 H2 : Hp} (s : TupS H H1) (t : TupS H1 H2) : TupS H H2 := fun b xs e => t _ _ (s _ _ e)
theorem TupS.kp {H H' : Hp} {p d : Addr} {m : Nat} (D : Deck H p d m) (s : Kp p d H H') : TupS H H' := fun b xs e => s _ _ e (D.tne e).1 (D.tne e).2
/-- a list, a dict is written -/
theorem TupS.upd {H : Hp} {a : Addr} {o : HO} (h : ∀ xs, H a ≠ some (.tup xs)) : TupS H (L2.upd H a o) := fun b xs e => by
  rw [upd_ne (fun z => h xs (by rw [← z]; exact e))]
  exact e
theorem Kp.free {H H' : Hp} {p d : Addr} {m : Nat} (s : Kp p d H H') (D' : Deck H' p d m) {a : Addr} (h : H' a = none) : H a = none := by
  cases e : H a with
  | none => rfl
  | some o =>
    have n := D'.ne_none h
    have := s a o e n.1 n.2
    rw [this] at h
    cases h
end Sw
namespace Sw
open PySem L2
/-- off the deck -/
def Off (p d : Addr) : Addr → Prop := fun a => a ≠ p ∧ a ≠ d
/-- the deck, and U: addresses off the deck, what is free and all tuples among them -/
structure Dk (H : Hp) (p d : Addr) (U : Addr → Prop) : Prop where
  dk : Deck H p d 63
  off : ∀ a, U a → Off p d a
  free : ∀ a, H a = none → U a
  tup : ∀ a zs, H a = some (.tup zs) → U a
theorem Dk.kp {H H' : Hp} {p d : Addr} {U : Addr → Prop} (D : Dk H p d U) (s : Kp p d H H') (D' : Deck H' p d 63) : Dk H' p d U := by
  have fr : ∀ a, H' a = none → H a = none := fun a h => by
    cases e : H a with
    | none => rfl
    | some o =>
      have n := D'.ne_none h
      have := s a o e n.1 n.2
      rw [this] at h
      cases h
  refine ⟨D', D.off, fun a h => D.free a (fr a h), fun a zs h => ?_⟩
  cases e : H a with
  | none => exact D.free a e
  | some o =>
    have n := D'.tne h
    have := s a o e n.1 n.2
    rw [this] at h
    cases h
    exact D.tup a zs e
theorem Dk.same {H H' : Hp} {p d : Addr} {U : Addr → Prop} (D : Dk H p d U) (s : Same H H') : Dk H' p d U := D.kp (.of s) (D.dk.same s)
/-- x is data of a bounded kind, made of things of U -/
def Dat (K : PySem.W.Frag) (U : Addr → Prop) (w k : Nat) (H : Hp) (x : V) : Prop := ∃ dd as, Rep K H dd x as ∧ (∀ a ∈ as, U a) ∧ small dd ∧ wt dd ≤ w ∧ dep dd ≤ k
theorem Dat.keep {K : PySem.W.Frag} {p d : Addr} {U : Addr → Prop} {w k : Nat} {H H' : Hp} {x : V} (h : Dat K U w k H x) (o : ∀ a, U a → Off p d a) (s : Kp p d H H') : Dat K U w k H' x := by
  obtain ⟨dd, as, h1, h2, h3⟩ := h
  exact ⟨dd, as, h1.keep fun b hb y e => s b y e (o b (h2 b hb)).1 (o b (h2 b hb)).2, h2, h3⟩
theorem Dat.le {K : PySem.W.Frag} {U : Addr → Prop} {w k w' k' : Nat} {H : Hp} {x : V} (h : Dat K U w k H x) (h1 : w ≤ w') (h2 : k ≤ k') : Dat K U w' k' H x := by
  obtain ⟨dd, as, h3, h4, h5, h6, h7⟩ := h
  exact ⟨dd, as, h3, h4, h5, by omega, by omega⟩
theorem Dat.all {K : PySem.W.Frag} {U : Addr → Prop} {w k : Nat} {H : Hp} {xs : List V} {ds : List D} {as : List Addr} (h : RepAll K H ds xs as) (hu : ∀ a ∈ as, U a) (hs : smallAll ds) (hw : wtAll ds ≤ w) (hk : depAll ds ≤ k) : ∀ x ∈ xs, Dat K U w k H x := fun x hx => by
  obtain ⟨i, hi, e⟩ := List.getElem_of_mem hx
  obtain ⟨dd, bs, h1, h2, h3⟩ := h.at2 (i := i) (x := x) (by rw [List.getElem?_eq_getElem hi, e])
  have hm := List.mem_of_getElem? h1
  have := wt_mem hm
  have := dep_mem hm
  exact ⟨dd, bs, h2, fun a ha => hu a (h3 a ha), small_mem hs hm, by omega, by omega⟩
/-- a list of data -/
theorem dats_rep {K : PySem.W.Frag} {U : Addr → Prop} {w k : Nat} {H : Hp} : ∀ {xs : List V}, (∀ x ∈ xs, Dat K U w k H x) → ∃ ds as, RepAll K H ds xs as ∧ (∀ a ∈ as, U a) ∧ smallAll ds ∧ wtAll ds ≤ xs.length * (w + 2) ∧ depAll ds ≤ k
  | [], _ => ⟨[], [], by simp [RepAll], fun _ h => absurd h (by simp), by simp [smallAll], by simp [wtAll], by simp [depAll]⟩
  | x :: r, h => by
    obtain ⟨dd, as, h1, h2, h3, h4, h5⟩ := h x (by simp)
    obtain ⟨ds, bs, l1, l2, l3, l4, l5⟩ := dats_rep (xs := r) fun y hy => h y (by simp [hy])
    refine ⟨dd :: ds, as ++ bs, ?_, fun c hc => (List.mem_append.mp hc).elim (h2 c) (l2 c), ?_, ?_, ?_⟩
    · simp only [RepAll]
      exact ⟨x, r, as, bs, rfl, h1, l1, rfl⟩
    · simp only [smallAll]
      exact ⟨h3, l3⟩
    · simp only [wtAll, List.length_cons, Nat.succ_mul]
      omega
    · simp only [depAll]
      omega
/-- a new tuple of data -/
theorem Dat.newTup {K : PySem.W.Frag} {T : Addr} {U : Addr → Prop} {w k : Nat} {H : Hp} {xs : List V} (h : ∀ x ∈ xs, Dat K U w k H x) (nT : H T = none) (o : U T) : Dat K U (xs.length * (w + 2) + 3) (k + 1) (upd H T (.tup xs)) (.ref T) := by
  obtain ⟨ds, as, l1, l2, l3, l4, l5⟩ := dats_rep h
  refine ⟨.tup ds, T :: as, ?_, fun c hc => ?_, by simp only [small]; exact l3, by simp only [wt]; omega, by simp only [dep]; omega⟩
  · simp only [Rep]
    exact ⟨T, _, as, rfl, upd_same, l1.same (same_new nT), nmem l1 nT, rfl⟩
  · rcases List.mem_cons.mp hc with z | z
    · rw [z]; exact o
    · exact l2 c z
theorem Dat.int {K : PySem.W.Frag} {U : Addr → Prop} {w k : Nat} {H : Hp} {i : Int} (h : i.natAbs < 1000) (hw : 4 ≤ w) : Dat K U w k H (.int i) := by
  obtain ⟨i1, i2, i3, i4⟩ := int_ok (K := K) (H := H) (i := i) (w := 3) (k := k) h (by decide) (by decide)
  exact ⟨_, [], i1, fun _ h => absurd h (by simp), i2, by omega, i4⟩
end Sw
namespace Sw
open PySem PySem.Spec PyProof.Rows L2 HT
/-! ### t[::-1], t a tuple -/
theorem back_pick (items : List Value) : ((List.range items.length).filterMap fun (m : Nat) => items.toArray[(((items.length : Int) - 1) + (m : Int) * (-1)).toNat]?) = items.reverse := by
  have e : ∀ m, m < items.length → items.toArray[(((items.length : Int) - 1) + (m : Int) * (-1)).toNat]? = some (items.reverse.getD m .none) := fun m hm => by
    have h1 : (((items.length : Int) - 1) + (m : Int) * (-1)).toNat = items.length - 1 - m := by omega
    rw [h1, List.getElem?_toArray, List.getD_eq_getElem?_getD, List.getElem?_reverse hm, List.getElem?_eq_getElem (by omega)]
    rfl
  have go : ∀ k, k ≤ items.length → (List.range k).filterMap (fun (m : Nat) => items.toArray[(((items.length : Int) - 1) + (m : Int) * (-1)).toNat]?) = items.reverse.take k := by
    intro k
    induction k with
    | zero => intro _; rfl
    | succ k ih =>
      intro hk
      have hk' : k < items.reverse.length := by rw [List.length_reverse]; exact hk
      rw [List.range_succ, List.filterMap_append, ih (by omega), List.take_add_one, List.getElem?_eq_getElem hk']
      congr 1
      have e1 := e k hk
      rw [List.getD_eq_getElem?_getD, List.getElem?_eq_getElem hk'] at e1
      show (List.filterMap (fun (m : Nat) => items.toArray[(((items.length : Int) - 1) + (m : Int) * (-1)).toNat]?) [k]) = [items.reverse[k]]
      simp only [List.filterMap, e1, Option.getD_some]
  have h := go items.length (Nat.le_refl _)
  rw [h, List.take_of_length_le (by rw [List.length_reverse]; exact Nat.le_refl _)]
section
variable {prog : Program} {w : World} {A : Around} {E : Value → Shared → Prop} {s : Shared}
theorem getItem_tuple_back {t sl : Addr} {items : List Value} {vl vu vs : Value} {Q : Value → Shared → Prop} (ht : IsTup s.heap t items.toArray) (hs : s.heap.IsSliceOf sl vl vu vs) (pl : IsPart vl none) (pu : IsPart vu none) (ps : IsPart vs (some (-1)))
    (h : Q (.ref s.heap.objs.size) { s with heap := s.heap.push { cls := .type "tuple", data := .seq items.reverse.toArray } }) (hsz : items.length ≤ sizeLine) : wpAny (model prog w) A (getItem (.ref t) (.ref sl)) Q E s := by
  obtain ⟨os, a1, a2, a3⟩ := id hs
  have tS : s.TypeIs (.ref sl) "slice" := ⟨os, a1, a2⟩
  unfold getItem
  try with_reducible refine wpAny_holding ?_
  first | refine wpAny_bind (wpAny_pure ?_) | skip
  refine wpAny_bind (wpAny_sequenceKey ht.typeIs (by decide) ?_)
  refine wpAny_bind (wpAny_callSpecial?_slot (name := Str.ofString "__getitem__") ht.typeIs PyProof.Rows.slot_tuple_getitem ?_)
  refine wpAny_call_entry PyProof.Rows.slot_tuple_getitem ht.typeIs entry_tuple_getitem ?_ (args_tuple_getitem _ _)
  show wpAny _ _ (Builtin.Tuple.tupleItemsOf (.ref t) >>= _) _ _ s
  refine wpAny_bind (tupleItemsOf_ ht (wpAny_bind (wpAny_typeOf tS ?_)))
  rw [if_pos (by decide)]
  refine wpAny_bind ?_
  unfold Builtin.Slice.sliceApplied Builtin.Slice.sliceFields
  refine wpAny_bind (wpAny_bind (wpAny_field a1 a3 (x := vl) rfl (wpAny_bind (wpAny_field a1 a3 (x := vu) rfl (wpAny_bind (wpAny_field a1 a3 (x := vs) rfl (wpAny_pure ?_)))))))
  refine wpAny_bind (slicePart_ ps ?_)
  show wpAny _ _ (if ((-1 : Int) == 0) = true then _ else _) _ _ s
  rw [if_neg (by decide)]
  refine wpAny_bind (slicePart_ pl (wpAny_bind (slicePart_ pu (wpAny_bind (wpAny_pure ?_)))))
  have adj : Builtin.Slice.sliceAdjust none none (-1) ((items.toArray.size : Nat) : Int) = (((items.length : Int) - 1), -1) := by
    rw [List.size_toArray]
    rfl
  have plc : Builtin.Slice.slicePlaces ((items.length : Int) - 1) (-1) (-1) = items.length := by
    unfold Builtin.Slice.slicePlaces
    rw [if_neg (by decide)]
    by_cases c : (items.length : Int) - 1 > -1
    · rw [if_pos c]
      simp only [Int.neg_neg, Int.ediv_one]
      omega
    · rw [if_neg c]
      omega
  show wpAny _ _ (match Builtin.Slice.sliceAdjust none none (-1) ((items.toArray.size : Nat) : Int) with | (lo, hi) => pure (lo, (-1 : Int), Builtin.Slice.slicePlaces lo hi (-1))) _ _ s
  rw [adj]
  show wpAny _ _ (pure ((items.length : Int) - 1, (-1 : Int), Builtin.Slice.slicePlaces ((items.length : Int) - 1) (-1) (-1))) _ _ s
  rw [plc]
  refine wpAny_pure ?_
  show wpAny _ _ (if ((((items.length : Int) - 1) == 0 && (-1 : Int) == 1 && items.length == items.toArray.size) = true) then _ else _) _ _ s
  rw [if_neg (by simp)]
  have pick := back_pick items
  have pick2 : ((List.range items.length).filterMap fun (m : Nat) => items.toArray[(((items.length : Int) - 1) + (m : Int) * (-1)).toNat]?).toArray = items.reverse.toArray := by rw [pick]
  rw [pick2]
  have ok : sizeOk (.seq items.reverse.toArray) := by
    show items.reverse.toArray.size ≤ sizeLine
    rw [List.size_toArray, List.length_reverse]
    exact hsz
  first
    | exact wpAny_bind (m := Builtin.Tuple.tupleExact _) (wpAny_newObj_type (wpAny_pure ⟨_, rfl, wpAny_pure h⟩) ok)
    | exact wpAny_bind (m := Builtin.Tuple.tupleExact _) (wpAny_newObj_type (wpAny_bind (wpAny_pure (wpAny_pure ⟨_, rfl, wpAny_pure h⟩))) ok)
    | exact wpAny_bind (wpAny_bind (m := Builtin.Tuple.tupleExact _) (wpAny_newObj_type (wpAny_pure (wpAny_pure ⟨_, rfl, wpAny_pure h⟩)) ok))
    | exact wpAny_bind (wpAny_bind (m := Builtin.Tuple.tupleExact _) (wpAny_newObj_type (wpAny_pure ⟨_, rfl, wpAny_pure h⟩) ok))
end
def tRevT (K : PySem.W.Frag) (te : TE) : TE := fun σ H Q => te σ H fun x H1 => ∃ a xs, x = .ref a ∧ SqT K H1 a xs ∧ ∀ p, H1 p = none → Q (.ref p) (upd H1 p (.tup xs.reverse))
theorem pe_revT {X : Cx} {e : Expr} {te : TE} {k : Nat} {p1 p2 p3 pos : Pos} (he : PE X e te) : PE X (.Subscript e (.Slice none none (some (.UnaryOp .USub (.Constant (.int 1) k p1) p2)) p3) pos) (tRevT X.K te) := by
  refine ⟨fun pins s σ H Q I h => Subscript_ (thn (he.run pins s σ H _ I h) fun v s1 ⟨x, H1, I1, r1, q1⟩ => ?_)⟩
  obtain ⟨a, xs, rfl, hx, q⟩ := q1
  cases r1
  have minus : PO X (some (.UnaryOp .USub (.Constant (.int 1) k p1) p2)) (tPart (tUn (rU fun i => .int (-i)) (tC (.int 1)))) := po_some (pe_un un_neg pe_int)
  refine wpAny_Slice (thn (po_none.run pins s1 σ H1 (fun o H2 => o = none ∧ H2 = H1) I1 ⟨rfl, rfl⟩) fun vl s2 ⟨l, H2, I2, pl, z1, z2⟩ => ?_)
  subst z1 z2
  refine thn (po_none.run pins s2 σ H2 (fun o H3 => o = none ∧ H3 = H2) I2 ⟨rfl, rfl⟩) fun vu s3 ⟨u, H3, I3, pu, z1, z2⟩ => ?_
  subst z1 z2
  refine thn (minus.run pins s3 σ H3 (fun o H4 => o = some (-1) ∧ H4 = H3) I3 ⟨1, rfl, -1, rfl, rfl, rfl⟩) fun vs s4 ⟨o, H4, I4, ps, z1, z2⟩ => ?_
  subst z1 z2
  have I5 : Inv X pins σ H4 { s4 with heap := s4.heap.push { cls := .type "slice", data := .fields #[vl, vu, vs] } } := I4.kept (t' := s4.toks) fun b ob z => Heap.get?_push_of_some _ z
  obtain ⟨its, r, ht, hz⟩ := I5.tuple hx
  show wpAny (model X.prog X.w) X.A (subscriptTail e (.Slice none none (some (.UnaryOp .USub (.Constant (.int 1) k p1) p2)) p3) (.ref a) (.ref s4.heap.objs.size)) (EP X pins σ Q) X.xe { s4 with heap := s4.heap.push { cls := .type "slice", data := .fields #[vl, vu, vs] } }
  refine tail_any (ops := [.ref a, .ref s4.heap.objs.size]) ht.typeIs PyProof.Rows.slot_tuple_getitem.lookup ?_ (by with_unfolding_all rfl)
  refine getItem_tuple_back ht (Heap.IsSliceOf.new _ vl vu vs) pl pu ps ?_ (by rw [← r.length]; exact hz)
  refine ⟨.ref _, _, I5.laid (t' := s4.toks) (o := .tup xs.reverse) (fun b ob z => Heap.get?_push_of_some _ z) (Nat.le_refl _) ?_, rfl, q _ (I5.hok.fresh (Nat.le_refl _))⟩
  exact ⟨by rw [List.length_reverse]; exact hz, _, r.reverse, IsTup.new _ _⟩
end Sw
namespace Sw
open PySem L2
/-! ### expressions that give data, draws among them: all stands but the deck -/
def UW (p d : Addr) (W : Addr → Prop) : Addr → Prop := fun c => Off p d c ∧ W c
/-- W holds of what is free, of all tuples -/
structure WOk (W : Addr → Prop) (H : Hp) : Prop where
  free : ∀ a, H a = none → W a
  tup : ∀ a zs, H a = some (.tup zs) → W a
theorem WOk.kp {W : Addr → Prop} {p d : Addr} {H H' : Hp} (h : WOk W H) (s : Kp p d H H') (D' : Deck H' p d 63) : WOk W H' := by
  refine ⟨fun a e => h.free a (s.free D' e), fun a zs e => ?_⟩
  cases q : H a with
  | none => exact h.free a q
  | some o =>
    have n := D'.tne e
    have := s a o q n.1 n.2
    rw [this] at e
    cases e
    exact h.tup a zs q
structure SK (p d : Addr) (W : Addr → Prop) (S : SH) : Prop where
  wk : ∀ σ H, S σ H → WOk W H
  dk : ∀ σ H, S σ H → Deck H p d 63
  keep : ∀ σ H H', S σ H → Deck H' p d 63 → Kp p d H H' → S σ H'
theorem SK.same {p d : Addr} {W : Addr → Prop} {S : SH} (h : SK p d W S) {σ : L2.St} {H H' : Hp} (s : S σ H) (e : Same H H') : S σ H' := h.keep σ H H' s ((h.dk _ _ s).same e) (.of e)
def tK (K : PySem.W.Frag) (p d : Addr) (W : Addr → Prop) (S : SH) (w k : Nat) : TE := fun σ H Q => S σ H ∧ ∀ (x : V) (H' : Hp), Dat K (UW p d W) w k H' x → S σ H' → Kp p d H H' → Q x H'
def tKs (K : PySem.W.Frag) (p d : Addr) (W : Addr → Prop) (S : SH) (w k m : Nat) : TA := fun σ H Q => S σ H ∧ ∀ (xs : List V) (ds : List D) (as : List Addr) (H' : Hp), xs.length = m → RepAll K H' ds xs as → (∀ a ∈ as, UW p d W a) → smallAll ds → wtAll ds ≤ w → depAll ds ≤ k → S σ H' → Kp p d H H' → Q xs H'
def tKl (K : PySem.W.Frag) (p d : Addr) (W : Addr → Prop) (S : SH) (w k m : Nat) : TA := fun σ H Q => S σ H ∧ ∀ (xs : List V) (H' : Hp), xs.length = m → (∀ x ∈ xs, Dat K (UW p d W) w k H' x) → S σ H' → Kp p d H H' → Q xs H'
/-- a small whole number -/
def tI (p d : Addr) (S : SH) : TE := fun σ H Q => S σ H ∧ ∀ (i : Int) (H' : Hp), i.natAbs < 1000 → S σ H' → Kp p d H H' → Q (.int i) H'
/-- a tuple of small whole numbers -/
def tIT (p d : Addr) (S : SH) (m : Nat) : TE := fun σ H Q => S σ H ∧ ∀ (q : Addr) (is : List Int) (H' : Hp), H' q = some (.tup (is.map V.int)) → (∀ o ∈ is, o.natAbs < 1000) → is.length ≤ m → S σ H' → Kp p d H H' → Q (.ref q) H'
theorem Dat.kp {K : PySem.W.Frag} {W : Addr → Prop} {p d : Addr} {w k : Nat} {H H' : Hp} {x : V} (h : Dat K (UW p d W) w k H x) (s : Kp p d H H') : Dat K (UW p d W) w k H' x := h.keep (fun _ o => o.1) s
theorem repAll_kp {K : PySem.W.Frag} {W : Addr → Prop} {p d : Addr} {H H' : Hp} {ds : List D} {xs : List V} {as : List Addr} (h : RepAll K H ds xs as) (o : ∀ a ∈ as, UW p d W a) (s : Kp p d H H') : RepAll K H' ds xs as := h.keep fun b hb y e => s b y e (o b hb).1.1 (o b hb).1.2
theorem ints_all {K : PySem.W.Frag} {H : Hp} : ∀ {is : List Int}, (∀ o ∈ is, o.natAbs < 1000) → RepAll K H (is.map D.int) (is.map V.int) [] ∧ smallAll (is.map D.int) ∧ wtAll (is.map D.int) ≤ is.length * 6 ∧ depAll (is.map D.int) = 0
  | [], _ => ⟨by simp [RepAll], by simp [smallAll], by simp [wtAll], by simp [depAll]⟩
  | o :: r, h => by
    obtain ⟨r1, r2, r3, r4⟩ := ints_all (K := K) (H := H) (is := r) fun x hx => h x (List.mem_cons_of_mem _ hx)
    obtain ⟨i1, i2, i3, i4⟩ := int_ok (K := K) (H := H) (i := o) (w := 3) (k := 0) (h o (List.mem_cons_self ..)) (by decide) (by decide)
    refine ⟨?_, ?_, ?_, ?_⟩
    · simp only [List.map_cons, RepAll]
      exact ⟨_, _, [], [], rfl, i1, r1, rfl⟩
    · simp only [List.map_cons, smallAll]
      exact ⟨i2, r2⟩
    · simp only [List.map_cons, wtAll, List.length_cons]
      omega
    · simp only [List.map_cons, depAll]
      omega
theorem rep_newT {K : PySem.W.Frag} {H : Hp} {p : Addr} {ds : List D} {xs : List V} {as : List Addr} (h : RepAll K H ds xs as) (np : H p = none) : Rep K (upd H p (.tup xs)) (.tup ds) (.ref p) (p :: as) := by
  simp only [Rep]
  exact ⟨p, xs, as, rfl, upd_same, h.same (same_new np), nmem h np, rfl⟩
theorem rep_snoc {K : PySem.W.Frag} {H : Hp} {dd : D} {x : V} {as : List Addr} (g : Rep K H dd x as) (sm : small dd) : ∀ {is : List Int}, (∀ o ∈ is, o.natAbs < 1000) → RepAll K H (is.map D.int ++ [dd]) (is.map V.int ++ [x]) as ∧ smallAll (is.map D.int ++ [dd]) ∧ wtAll (is.map D.int ++ [dd]) ≤ is.length * 6 + wt dd + 2 ∧ depAll (is.map D.int ++ [dd]) ≤ dep dd
  | [], _ => by
    refine ⟨?_, ?_, ?_, ?_⟩
    · simp only [List.map_nil, List.nil_append, RepAll]
      exact ⟨x, [], as, [], rfl, g, ⟨rfl, rfl⟩, by simp⟩
    · simp only [List.map_nil, List.nil_append, smallAll]
      exact ⟨sm, trivial⟩
    · simp only [List.map_nil, List.nil_append, wtAll]
      omega
    · simp only [List.map_nil, List.nil_append, depAll]
      omega
  | o :: r, h => by
    obtain ⟨r1, r2, r3, r4⟩ := rep_snoc (K := K) (H := H) g sm (is := r) fun y hy => h y (List.mem_cons_of_mem _ hy)
    obtain ⟨i1, i2, i3, i4⟩ := int_ok (K := K) (H := H) (i := o) (w := 3) (k := 0) (h o (List.mem_cons_self ..)) (by decide) (by decide)
    refine ⟨?_, ?_, ?_, ?_⟩
    · simp only [List.map_cons, List.cons_append]
      rw [RepAll]
      exact ⟨_, _, [], as, rfl, i1, r1, rfl⟩
    · simp only [List.map_cons, List.cons_append, smallAll]
      exact ⟨i2, r2⟩
    · simp only [List.map_cons, List.cons_append, wtAll, List.length_cons]
      omega
    · simp only [List.map_cons, List.cons_append, depAll]
      omega
section
variable {X : Cx} {p d : Addr} {W : Addr → Prop} {S : SH} {e e1 e2 : Expr} {es : List Expr} {w k w' m m' : Nat} {pos : Pos}
theorem k_gen {t : TE} (h : PE X e t) (ht : ∀ σ H Q, S σ H → (∀ (x : V) (H' : Hp), Dat X.K (UW p d W) w k H' x → S σ H' → Kp p d H H' → Q x H') → t σ H Q) : PE X e (tK X.K p d W S w k) := pe_weak h fun σ H Q q => ht σ H Q q.1 q.2
theorem k_at {t : TE} (h : PE X e t) (ht : ∀ σ H Q, S σ H → (∀ v dd, Rep X.K H dd v [] → small dd → wt dd ≤ w → dep dd ≤ k → Q v H) → t σ H Q) : PE X e (tK X.K p d W S w k) :=
  k_gen h fun σ H Q s q => ht σ H Q s fun v dd h1 h2 h3 h4 => q v H ⟨dd, [], h1, fun _ z => absurd z (by simp), h2, h3, h4⟩ s .refl
theorem k_int {i : Int} {t : TE} (h : PE X e t) (ht : ∀ σ H Q, Q (.int i) H → t σ H Q) (hi : i.natAbs < 10 ^ w := by decide +kernel) (hw : 0 < w := by decide) (hw2 : w ≤ 40 := by decide) : PE X e (tK X.K p d W S (w + 1) k) :=
  k_at h fun σ H Q _ q => ht σ H Q (by
    obtain ⟨h1, h2, h3, h4⟩ := int_ok (K := X.K) (H := H) (k := k) hi hw hw2
    exact q _ _ h1 h2 h3 h4)
theorem k_bl {t : TE} (h : PE X e t) (ht : ∀ σ H Q, S σ H → (∀ b, Q (.bl b) H) → t σ H Q) : PE X e (tK X.K p d W S 5 k) :=
  k_at h fun σ H Q hs q => ht σ H Q hs fun b => q _ (.bl b) (by simp [Rep]) (by simp only [small]) (by simp only [wt]; omega) (by simp only [dep]; omega)
theorem k_true {b : Bool} (h : PE X e (tC (.bl b))) : PE X e (tK X.K p d W S 5 k) := k_bl h fun σ H Q _ q => q b
theorem k_non (h : PE X e (tC .non)) : PE X e (tK X.K p d W S 4 k) :=
  k_at h fun σ H Q _ q => q .non .non (by simp [Rep]) (by simp only [small]) (by simp only [wt]; omega) (by simp only [dep]; omega)
theorem k_str {x : Str} (h : PE X e (tC (.str x))) (hw : (reprText x).length ≤ w := by decide +kernel) : PE X e (tK X.K p d W S w k) :=
  k_at h fun σ H Q _ q => q (.str x) (.str x) (by simp [Rep]) (by simp only [small]) (by simp only [wt]; omega) (by simp only [dep]; omega)
theorem k_dct (hS : SK p d W S) : PE X (.Dict [] [] pos) (tK X.K p d W S 2 (k + 1)) :=
  k_gen pe_dnewK fun σ H Q s q a na => q _ _ ⟨.dct, [a], by simp only [Rep]; exact ⟨a, rfl, upd_same, rfl⟩, fun b hb => by rw [List.mem_singleton.mp hb]; exact ⟨(hS.dk _ _ s).ne_none na, (hS.wk _ _ s).free _ na⟩, by simp only [small], by simp only [wt]; omega, by simp only [dep]; omega⟩ (hS.same s (same_new na)) (.of (same_new na))
theorem k_I (h : PE X e (tI p d S)) : PE X e (tK X.K p d W S 4 k) :=
  k_gen h fun σ H Q s q => ⟨s, fun i H' hi s' kp => by
    obtain ⟨h1, h2, h3, h4⟩ := int_ok (K := X.K) (H := H') (w := 3) (k := k) hi (by decide) (by decide)
    exact q _ _ ⟨_, [], h1, fun _ z => absurd z (by simp), h2, h3, h4⟩ s' kp⟩
theorem ks_nil : PA X [] (tKs X.K p d W S 0 k 0) := pa_weak pa_nil fun σ H Q q => q.2 [] [] [] H rfl (by simp [RepAll]) (fun _ h => absurd h (by simp)) (by simp only [smallAll]) (by simp only [wtAll]; omega) (by simp only [depAll]; omega) q.1 .refl
theorem ks_cons (ha : PE X e (tK X.K p d W S w k)) (hr : PA X es (tKs X.K p d W S w' k m)) (hs : starEach (e :: es) X.env = (false, eval e X.env) :: starEach es X.env := by rfl) : PA X (e :: es) (tKs X.K p d W S (w + 2 + w') k (m + 1)) :=
  pa_weak (pa_cons ha hr hs) fun σ H Q q => ⟨q.1, fun x H1 ⟨dd, as, h1, h2, h4, h5, h6⟩ s1 k1 => ⟨s1, fun xs ds bs H2 lm l1 l2 l4 l5 l6 s2 k2 =>
    q.2 (x :: xs) (dd :: ds) (as ++ bs) H2 (by rw [List.length_cons, lm]) (by simp only [RepAll]; exact ⟨x, xs, as, bs, rfl, h1.keep fun b hb y e => k2 b y e (h2 b hb).1.1 (h2 b hb).1.2, l1, rfl⟩) (fun a ha => (List.mem_append.mp ha).elim (h2 a) (l2 a)) (by simp only [smallAll]; exact ⟨h4, l4⟩) (by simp only [wtAll]; omega) (by simp only [depAll]; omega) s2 (k1.trans k2)⟩⟩
theorem k_tup {x1 : Nat} (hS : SK p d W S) (h : PA X es (tKs X.K p d W S w k m)) (hw : w ≤ 10000000 := by decide) : PE X (.Tuple es x1 pos) (tK X.K p d W S (w + 3) (k + 1)) :=
  k_gen (pe_tup h) fun σ H Q s q => ⟨s, fun xs ds as H1 hm h1 h2 h4 h5 h6 s1 k1 => ⟨wlen h1 (by omega), fun a na =>
    q (.ref a) _ ⟨.tup ds, a :: as, by simp only [Rep]; exact ⟨a, xs, as, rfl, upd_same, h1.same (same_new na), nmem h1 na, rfl⟩, fun b hb => (List.mem_cons.mp hb).elim (fun z => by rw [z]; exact ⟨(hS.dk _ _ s1).ne_none na, (hS.wk _ _ s1).free _ na⟩) (h2 b), by simp only [small]; exact h4, by simp only [wt]; omega, by simp only [dep]; omega⟩ (hS.same s1 (same_new na)) (k1.trans (.of (same_new na)))⟩⟩
theorem k_lst (hS : SK p d W S) (h : PA X es (tKs X.K p d W S w k m)) (hw : w ≤ 10000000 := by decide) : PE X (.List es pos) (tK X.K p d W S (w + 3) (k + 1)) :=
  k_gen (pe_lst h) fun σ H Q s q => ⟨s, fun xs ds as H1 hm h1 h2 h4 h5 h6 s1 k1 => ⟨wlen h1 (by omega), fun a na =>
    q (.ref a) _ ⟨.lst ds, a :: as, by simp only [Rep]; exact ⟨a, xs, as, rfl, upd_same, h1.same (same_new na), nmem h1 na, rfl⟩, fun b hb => (List.mem_cons.mp hb).elim (fun z => by rw [z]; exact ⟨(hS.dk _ _ s1).ne_none na, (hS.wk _ _ s1).free _ na⟩) (h2 b), by simp only [small]; exact h4, by simp only [wt]; omega, by simp only [dep]; omega⟩ (hS.same s1 (same_new na)) (k1.trans (.of (same_new na)))⟩⟩
theorem kl_nil : PA X [] (tKl X.K p d W S w k 0) := pa_weak pa_nil fun σ H Q q => q.2 [] H rfl (fun _ h => absurd h (by simp)) q.1 .refl
theorem kl_cons {k' : Nat} (ha : PE X e (tK X.K p d W S w' k')) (hr : PA X es (tKl X.K p d W S w k m)) (hw : w' ≤ w := by decide) (hk : k' ≤ k := by decide) (hs : starEach (e :: es) X.env = (false, eval e X.env) :: starEach es X.env := by rfl) : PA X (e :: es) (tKl X.K p d W S w k (m + 1)) :=
  pa_weak (pa_cons ha hr hs) fun σ H Q q => ⟨q.1, fun x H1 hx s1 k1 => ⟨s1, fun xs H2 lm hxs s2 k2 => q.2 (x :: xs) H2 (by rw [List.length_cons, lm]) (fun y hy => (List.mem_cons.mp hy).elim (fun z => by rw [z]; exact (hx.kp k2).le hw hk) (hxs y)) s2 (k1.trans k2)⟩⟩
theorem it_one {x1 : Nat} (hS : SK p d W S) (h : PE X e (tI p d S)) (hs : starEach [e] X.env = (false, eval e X.env) :: starEach [] X.env := by rfl) : PE X (.Tuple [e] x1 pos) (tIT p d S 1) :=
  pe_weak (pe_tup (pa_cons h pa_nil hs)) fun σ H Q q => ⟨q.1, fun i H1 hi s1 k1 => ⟨by show 1 ≤ sizeLine; decide, fun a na => q.2 a [i] _ upd_same (fun o ho => by rw [List.mem_singleton.mp ho]; exact hi) (Nat.le_refl 1) (hS.same s1 (same_new na)) (k1.trans (.of (same_new na)))⟩⟩
theorem it_nil {x1 : Nat} (hS : SK p d W S) : PE X (.Tuple [] x1 pos) (tIT p d S 0) :=
  pe_weak (pe_tup pa_nil) fun σ H Q q => ⟨Nat.zero_le _, fun a na => q.2 a [] _ upd_same (fun o ho => absurd ho (by simp)) (Nat.le_refl 0) (hS.same q.1 (same_new na)) (.of (same_new na))⟩
theorem it_cat (hS : SK p d W S) (h1 : PE X e1 (tIT p d S m)) (h2 : PE X e2 (tIT p d S m')) (hm : m + m' ≤ 1000000 := by decide) : PE X (.BinOp e1 .Add e2 pos) (tIT p d S (m + m')) :=
  pe_weak (pe_op (r := rCatA X.K) op_catA h1 h2) fun σ H Q q => ⟨q.1, fun q1 is1 H1 a1 b1 l1 s1 k1 => ⟨s1, fun q2 is2 H2 a2 b2 l2 s2 k2 => by
    have a12 := k2 _ _ a1 ((hS.dk _ _ s1).tne a1).1 ((hS.dk _ _ s1).tne a1).2
    refine ⟨q1, q2, _, _, rfl, rfl, SqT.of a12, SqT.of a2, by rw [List.length_map, List.length_map, sizeLine_eq]; omega, fun z => ?_, fun _ z => ?_, fun _ _ c nc => ?_⟩
    · exact q.2 q2 is2 H2 a2 b2 (by omega) s2 (k1.trans k2)
    · exact q.2 q1 is1 H2 a12 b1 (by omega) s2 (k1.trans k2)
    · exact q.2 c (is1 ++ is2) _ (by rw [upd_same, List.map_append]) (fun o ho => (List.mem_append.mp ho).elim (b1 o) (b2 o)) (by rw [List.length_append]; omega) (hS.same s2 (same_new nc)) ((k1.trans k2).trans (.of (same_new nc)))⟩⟩
theorem it_cut {lo hi : Option Expr} {tl th : TO} {l u : Option Int} {p2 : Pos} (hS : SK p d W S) (h : PE X e (tIT p d S m)) (hl : PO X lo tl) (hh : PO X hi th) (rl : ∀ σ H Q, Q l H → tl σ H Q) (rh : ∀ σ H Q, Q u H → th σ H Q) : PE X (.Subscript e (.Slice lo hi none p2) pos) (tIT p d S m) :=
  pe_weak (pe_slice sl_tupA h hl hh) fun σ H Q q => ⟨q.1, fun q1 is H1 a1 b1 l1 s1 k1 => rl _ _ _ (rh _ _ _ ⟨q1, _, rfl, SqT.of a1, fun _ => q.2 q1 is H1 a1 b1 l1 s1 k1, fun _ c nc => by
    obtain ⟨js, ej, sj⟩ : ∃ js : List Int, cutV (is.map V.int) l u = js.map V.int ∧ (∀ o ∈ js, o ∈ is) ∧ js.length ≤ is.length := by
      refine ⟨(is.drop (HT.sIx (is.map V.int).length 0 l)).take (HT.sIx (is.map V.int).length (is.map V.int).length u - HT.sIx (is.map V.int).length 0 l), ?_, fun o ho => List.mem_of_mem_drop (List.mem_of_mem_take ho), ?_⟩
      · unfold cutV
        rw [List.map_take, List.map_drop]
      · rw [List.length_take, List.length_drop]
        omega
    exact q.2 c js _ (by rw [upd_same, ej]) (fun o ho => b1 o (sj.1 o ho)) (by omega) (hS.same s1 (same_new nc)) (k1.trans (.of (same_new nc)))⟩)⟩
theorem it_rev {kk : Nat} {p1 p2 p3 : Pos} (hS : SK p d W S) (h : PE X e (tIT p d S m)) : PE X (.Subscript e (.Slice none none (some (.UnaryOp .USub (.Constant (.int 1) kk p1) p2)) p3) pos) (tIT p d S m) :=
  pe_weak (pe_revT h) fun σ H Q q => ⟨q.1, fun q1 is H1 a1 b1 l1 s1 k1 => ⟨q1, _, rfl, SqT.of a1, fun c nc => q.2 c is.reverse _ (by rw [upd_same, List.map_reverse]) (fun o ho => b1 o (List.mem_reverse.mp ho)) (by rw [List.length_reverse]; exact l1) (hS.same s1 (same_new nc)) (k1.trans (.of (same_new nc)))⟩⟩
theorem k_it (hS : SK p d W S) (h : PE X e (tIT p d S m)) : PE X e (tK X.K p d W S (m * 6 + 3) (k + 1)) :=
  k_gen h fun σ H Q s q => ⟨s, fun a is H1 a1 b1 l1 s1 k1 => by
    obtain ⟨r1, r2, r3, r4⟩ := ints_all (K := X.K) (H := H1) b1
    exact q _ _ ⟨.tup (is.map D.int), [a], by simp only [Rep]; exact ⟨a, _, [], rfl, a1, r1, by simp, rfl⟩, fun b hb => by rw [List.mem_singleton.mp hb]; exact ⟨(hS.dk _ _ s1).tne a1, (hS.wk _ _ s1).tup _ _ a1⟩, by simp only [small]; exact r2, by simp only [wt]; omega, by simp only [dep]; omega⟩ s1 k1⟩
/-- a tuple of whole numbers and one thing more -/
theorem k_cat1 {x1 : Nat} {pos' : Pos} (hS : SK p d W S) (h1 : PE X e1 (tIT p d S m)) (h2 : PE X e2 (tK X.K p d W S w k)) (hs : starEach [e2] X.env = (false, eval e2 X.env) :: starEach [] X.env := by rfl) (hm : m ≤ 100000 := by decide) : PE X (.BinOp e1 .Add (.Tuple [e2] x1 pos) pos') (tK X.K p d W S (m * 6 + w + 5) (k + 1)) :=
  k_gen (pe_op (r := rCatA X.K) op_catA h1 (pe_tup (pa_cons h2 pa_nil hs))) fun σ H Q s q => ⟨s, fun q1 is H1 a1 b1 l1 s1 k1 => ⟨s1, fun x H2 ⟨dd, as, g1, g2, g3, g4, g5⟩ s2 k2 => ⟨by show 1 ≤ sizeLine; decide, fun T nT => by
    have a12 := k2 _ _ a1 ((hS.dk _ _ s1).tne a1).1 ((hS.dk _ _ s1).tne a1).2
    have sT : Same H2 (upd H2 T (.tup [x])) := same_new nT
    have sST := hS.same s2 sT
    refine ⟨q1, T, _, _, rfl, rfl, SqT.of (sT _ _ a12), SqT.of upd_same, by rw [List.length_map, sizeLine_eq]; simp only [List.length_cons, List.length_nil]; omega, fun z => ?_, fun _ z => (nomatch z), fun _ _ c nc => ?_⟩
    · have ei : is = [] := by simpa using z
      obtain ⟨r1, r2, r3, r4⟩ := rep_snoc g1 g3 (is := []) fun _ h => absurd h (by simp)
      refine q _ _ ⟨.tup ([].map D.int ++ [dd]), T :: as, rep_newT r1 nT, fun b hb => (List.mem_cons.mp hb).elim (fun z => by rw [z]; exact ⟨(hS.dk _ _ s2).ne_none nT, (hS.wk _ _ s2).free _ nT⟩) (g2 b), by simp only [small]; exact r2, ?_, ?_⟩ sST ((k1.trans k2).trans (.of sT))
      · simp only [wt]
        simp only [List.length_nil] at r3
        omega
      · simp only [dep]
        omega
    · obtain ⟨r1, r2, r3, r4⟩ := rep_snoc (g1.same sT) g3 b1
      refine q _ _ ⟨.tup (is.map D.int ++ [dd]), c :: as, rep_newT r1 nc, fun b hb => (List.mem_cons.mp hb).elim (fun z => by rw [z]; exact ⟨(hS.dk _ _ sST).ne_none nc, (hS.wk _ _ sST).free _ nc⟩) (g2 b), by simp only [small]; exact r2, ?_, ?_⟩ (hS.same sST (same_new nc)) (((k1.trans k2).trans (.of sT)).trans (.of (same_new nc)))
      · simp only [wt]
        omega
      · simp only [dep]
        omega⟩⟩⟩
end
end Sw
namespace Sw
open PySem PySem.Spec PyProof.Rows L2
section
variable {X : Cx} {CX : CXT} {k : Nat} {f : Addr} {fd : FuncData} {ps ks : List Str} {sp : Sp} {E : XK} {x : Str} {p pos : Pos} {kws : List Keyword} {tk : TA} {g : List Value → List Value → List Value} {gV : List V → List V → List V}
/-- f(k = v): words alone -/
theorem pe_callW (F : FnOk X.prog X.w X.K X.mg X.base CX k f fd ps sp) (hr : Room k X.A) (hg : Gl X x) (hm : X.mg x = some (.ref f)) (hk : PySem.W.keepIn X.K (.ref f) = true) (hb : KBinds X.K fd ps ks g gV) (hx : Passes CX X E)
    (hkw : PK X kws tk) (hall : (backToKw pos (keywordEach kws X.env)).all (·.1.isSome) = true := by rfl) (hks : (backToKw pos (keywordEach kws X.env)).filterMap (·.1) = ks := by rfl)
    (hdb : (x == ("__debug__" : Str)) = false := by decide)
    (hpl : ((backTo pos (starEach [] X.env)).any (·.1) || (backToKw pos (keywordEach kws X.env)).any (·.1.isNone)) = false := by rfl) :
    PE X (.Call (.Name x p) [] kws pos) (fun σ H Q => tk σ H fun zs H2 => sp (gV [] zs) H2 Q E) := by
  refine ⟨fun pins s σ H Q I h => wpAny_Call_Name_kw (ld_glob I hg hm ?_ hdb)⟩
  refine PySem.W.callWith_KW0 (first := []) (h₀ := X.base) I.ok.mod.kin hk hall (thn (hkw.run pos pins s σ H _ I h) fun ws s2 ⟨zs, H2, I2, rz, q2⟩ => ⟨I2.kIn, ?_⟩) hpl
  rw [hks]
  exact run_fnk (us := []) F hr hb hx I2 .nil rz q2
end
/-- a new list of two things -/
theorem rep_pair {K : PySem.W.Frag} {H : Hp} {L : Addr} {r r' : D} {v v' : V} {bs bs' : List Addr} (h : Rep K H r v bs) (h' : Rep K H r' v' bs') (nL : H L = none) : ∃ as, Rep K (upd H L (.lst [v, v'])) (.lst [r, r']) (.ref L) as := by
  have ra : RepAll K H [r, r'] [v, v'] (bs ++ (bs' ++ [])) := by
    rw [RepAll]
    refine ⟨_, _, bs, bs' ++ [], rfl, h, ?_, rfl⟩
    rw [RepAll]
    exact ⟨_, _, bs', [], rfl, h', by simp [RepAll], rfl⟩
  refine ⟨L :: (bs ++ (bs' ++ [])), ?_⟩
  rw [Rep]
  exact ⟨L, _, _, rfl, upd_same, ra.same (same_new nL), nmem ra nL, rfl⟩
theorem same_str {x y : Str} (h : x = y) : (!decide (V.str x = V.str y)) = false := by
  rw [h, decide_eq_true rfl]
  rfl
def spLaw (K : PySem.W.Frag) : Sp := fun vs H Q _ => ∃ (a : Addr) (ns : List Int), vs = [.ref a] ∧ SqL K H a (ns.map V.int) ∧ ns.length ≤ 63 ∧ ∀ H', Q (.bl true) H'
section
variable {P : Program} {w : World} {K : PySem.W.Frag} {mg : Str → Option Value} {base : Heap}
/-- one call of a def of the text, what is around it given -/
theorem run_def {x qual : Str} {st : Stmt} {f : Addr} {fd : FuncData} {N ps : List Str} {k : Nat} {A : Around} {outer : List Env} {s : Shared} {H : Hp} {args : Args} {us : List Value} {vs : List V} {Q : VK} {E : XK} (F : Fun K x qual st f fd) (S : FnScope N ps (defScope st))
    (rm : Room (k + 1) A) (ev : Env0 P w K mg base A outer s H) (hb : BindsTo s fd args (ps.zip us)) (rv : Vals vs us) (hl : vs.length = ps.length)
    (body : ∀ cdv : Value, ∃ t, PSs (cxOf CX0 P w K mg base N qual (defScope st) f cdv A outer s H E).nox (defBody st) t ∧ t { nx := fun _ H' => Q .non H', rt := Q } (start N vs) H) :
    codeAny (model P w) A (.call (.ref f) args) (CR CX0 outer P w H s Q E) s := by
  obtain ⟨oc, od, kV, doc, pm, an, cdv, ct, osl, rfl, lk, hcd⟩ := F.ex
  have kin : K.In s.heap := ev.mod.kin.keeps fun b o z => (ev.bs b o z).1
  have nolim : s.heap.NoLimit := ev.mod.nolimit.keeps fun b o z => (ev.bs b o z).1
  have kinds : ∀ y ∈ ps.zip us, (defScope st).names.lookup y.1 = some .local ∨ ((defScope st).names.lookup y.1 = some .cell ∧ ((cellsFrom (s.heap.objs.size + 1) (defScope st).names []).lookup y.1).isSome = true) := by
    rintro ⟨n, v⟩ hy
    exact (S.par n (List.of_mem_zip hy).1).elim .inl fun q => .inr ⟨q, PySem.W.cellsFrom_some _ _ _ (.inl q)⟩
  refine codeAny_call_function rm.depth (kin _ _ lk) rfl S.co S.gen rfl (PySem.W.codeRec_of kin hcd) (hb _ _ _ _ (wpAny_newFunctionEnv_cells S.kind kinds fun env he s1 ic => ?_))
  subst he
  obtain ⟨t, ht, hq⟩ := body cdv
  have inv := inv_start S rm.hd ev hl rv ic (CX := CX0) (P := P) (w := w) (E := E)
  refine ⟨nolim.keeps ic.toInCall.keep, codeAny_func (wpAny_mono (ht.nox.run [] s1 (start N vs) H _ inv hq) (fun fl s' hs => ?_) fun _ _ hs => hs)⟩
  cases fl with
  | next =>
    obtain ⟨_, H', J, q⟩ := hs
    exact ⟨V.non, H', J.os, J.bare, J.base, J.hok, (rfl : RelV V.non Value.none), q⟩
  | ret u =>
    obtain ⟨v, _, H', J, ru, q⟩ := hs
    exact ⟨v, H', J.os, J.bare, J.base, J.hok, ru, q⟩
  | brk =>
    obtain ⟨_, _, _, q⟩ := hs
    cases q
  | cont =>
    obtain ⟨_, _, _, q⟩ := hs
    cases q
end
/-- the script alone is known -/
def scriptH (a : Addr) (o : Obj) (ns : List Int) : Hp := fun b => if b = a then some (.frz o (.lst (ns.map V.int))) else none
theorem scriptH_at {a : Addr} {o : Obj} {ns : List Int} : scriptH a o ns a = some (.frz o (.lst (ns.map V.int))) := if_pos rfl
theorem scriptH_ne {a b : Addr} {o : Obj} {ns : List Int} (h : b ≠ a) : scriptH a o ns b = none := if_neg h
/-- the law's call, at the heap behind the top -/
theorem call_law {P : Program} {w : World} {K : PySem.W.Frag} {mg mb : Str → Option Value} {fa a : Addr} {s₁ : Shared} {vs : List Value} {ns : List Int} (kin : K.In s₁.heap) (hmg : s₁.heap.Ns mainGlobals mg) (hmb : s₁.heap.Ns builtinsNs mb)
    (hboot : ∀ x : Str, x ≠ "__name__" → mb x = bootBuiltins x) (nolim : s₁.heap.NoLimit) (hgen : s₁.gens = #[])
    (ha : s₁.heap.get? a = some { cls := .type "list", data := .seq vs.toArray }) (hi : IntsAre vs ns) (hlen : ns.length ≤ 63)
    (run : ∀ (base : Heap) (H : Hp), K.In base → base.Ns mainGlobals mg → Env0 P w K mg base callerA [] s₁ H → SqL K H a (ns.map V.int) →
      codeAny (model P w) callerA (.call (.ref fa) ⟨[.ref a], []⟩) (CR CX0 [] P w H s₁ (fun v _ => v = .bl true) fun _ _ _ => False) s₁) :
    codeAny (model P w) callerA (.call (.ref fa) ⟨[.ref a], []⟩) (fun r s' => r = .ok (.ret (.bool true)) ∧ OldK s₁.heap s'.heap ∧ s'.os = s₁.os ∧ AllBare s'.gens) s₁ := by
  have rv := vals_ints hi
  have le63 : ns.length ≤ sizeLine := by
    rw [sizeLine_eq]
    omega
  have go : ∀ H : Hp, (∀ b, H b ≠ none → b = a ∧ K.lookup a = none ∧ H a = some (.frz { cls := .type "list", data := .seq vs.toArray } (.lst (ns.map V.int)))) → SqL K H a (ns.map V.int) →
      codeAny (model P w) callerA (.call (.ref fa) ⟨[.ref a], []⟩) (fun r s' => r = .ok (.ret (.bool true)) ∧ OldK s₁.heap s'.heap ∧ s'.os = s₁.os ∧ AllBare s'.gens) s₁ := by
    intro H only sq
    have plain : ∀ {b : Addr} {o : Obj} {es : Array DictEntry} {ep : Nat}, s₁.heap.get? b = some o → o.data = .dict es ep → H b = none := by
      intro b o es ep e dd
      refine Classical.byContradiction fun q => ?_
      obtain ⟨rfl, _⟩ := only b q
      rw [ha] at e
      cases e
      exact nomatch dd
    have spaces : ∀ {b : Addr} {m : Str → Option Value}, s₁.heap.Ns b m → (hidT s₁.heap H).Ns b m := by
      rintro b m ⟨o, es, ep, e, dd, r⟩
      exact ⟨o, es, ep, hidT_get e (plain e dd), dd, r⟩
    have kin' : K.In (hidT s₁.heap H) := by
      intro b o e
      refine hidT_get (kin b o e) (Classical.byContradiction fun q => ?_)
      obtain ⟨rfl, n, _⟩ := only b q
      rw [n] at e
      cases e
    have hok : HOk P w H s₁.heap := by
      intro b u e
      obtain ⟨rfl, _, q⟩ := only b (by rw [e]; exact fun z => nomatch z)
      rw [q] at e
      cases e
      exact ⟨ha, by rw [List.length_map]; exact le63, vs, _, rv, ha⟩
    obtain ⟨ml, l1, l2⟩ := nolim
    have ev : Env0 P w K mg (hidT s₁.heap H) callerA [] s₁ H :=
      ⟨rfl, ⟨kin', spaces hmg, ⟨mb, spaces hmb, hboot⟩, ⟨ml, spaces l1, l2⟩⟩, fun _ _ z => of_hidT z, Nat.le_of_eq (hidT_size _ _), trivial, fun b z => (by cases z), hok, .of_eq hgen⟩
    refine codeAny_mono (run _ H kin' (spaces hmg) ev sq) fun r s' hr => ?_
    rcases r with e | fl
    · exact False.elim hr
    rcases fl with _ | _ | _ | u
    all_goals first | exact False.elim hr | skip
    obtain ⟨v, H', os, bare, un, hok', ru, rfl⟩ := hr
    obtain rfl : u = Value.bool true := ru
    refine ⟨rfl, OldK.of_keep fun b o e => ?_, os, bare⟩
    cases q : H b with
    | none => exact un.keep b o e q (fun z => by cases z) (fun z => by simp at z)
    | some y =>
      obtain ⟨rfl, _, q2⟩ := only b (by rw [q]; exact fun z => nomatch z)
      have old := (hok _ _ q2).1
      have new := (hok' _ _ (un.frzs _ _ _ q2)).1
      rw [e] at old
      cases old
      exact new
  cases z : K.lookup a with
  | none =>
    refine go (scriptH a { cls := .type "list", data := .seq vs.toArray } ns) (fun b q => ?_) (.inl (.inr ⟨_, scriptH_at⟩))
    by_cases e : b = a
    · exact ⟨e, z, scriptH_at⟩
    · exact absurd (scriptH_ne e) q
  | some o =>
    have e := kin a o z
    rw [ha] at e
    cases e
    exact go (fun _ => none) (fun _ q => absurd rfl q) (.inr ⟨_, vs.toArray, _, z, rfl, rfl, rfl, by rw [List.size_toArray, hi.length]; exact le63, by simpa using rv⟩)
/-- a def of the text stands behind the top by its name -/
def Has (K : PySem.W.Frag) (mg : Str → Option Value) (x : Str) (st : Stmt) : Prop := ∃ f fd, Fun K x x st f fd ∧ mg x = some (.ref f)
section
variable {P : Program} {w : World} {K : PySem.W.Frag} {mg : Str → Option Value} {h : Heap}
theorem has_mk {x : Str} {st : Stmt} {f : Addr} {oc kV dc pm cd ct : Value} {od an : Option Addr} {sl : Array (Option Value)} (X : K.In h) (G : h.Ns mainGlobals mg) (a : PySem.W.nsIn K mainGlobals x = some (some (.ref f)))
    (l : K.lookup f = some ⟨oc, od, .func (PySem.W.fnOf x x (defArgs st) (defBody st) (defScope st) .none kV dc pm an cd ct), sl⟩) (c : PySem.W.codeIn K cd x = true) (k : PySem.W.keepIn K (.ref f) = true) : Has K mg x st :=
  ⟨f, _, fun_mk l c k, PySem.W.mg_of X G a⟩
/-- the def that it is: one promise, from the def's own theorem -/
theorem Has.own {base : Heap} {k : Nat} {x : Str} {st : Stmt} {ps : List Str} {sp : Sp} (hs : Has K mg x st) (ok : ∀ f fd, Fun K x x st f fd → FnOk P w K mg base CX0 k f fd ps sp)
    (b : ∀ (kV doc pm : Value) (an : Option Addr) (cdv ct : Value) (us : List Value), us.length = ps.length → bindArgs (PySem.W.fnOf x x (defArgs st) (defBody st) (defScope st) .none kV doc pm an cdv ct) ⟨us, []⟩ = pure (ps.zip us)) : Own P w K mg base k x ps sp := by
  obtain ⟨f, fd, F, m⟩ := hs
  exact ⟨f, fd, ok f fd F, m, F.kp, F.binds b⟩
/-- the end of the row, from what the top has written -/
theorem walk_law {l : PySem.W.OpenLaw} {q : Program} {loose : List Str} {XP : (Str → Option Value) → Heap → Prop} {YP : World → Heap → Prop} {d : DefRec} {K : Params → PySem.W.Frag} (hn : l.most = some 63) (hdf : d.params.defaults = [])
    (hY : ∀ (w : World) (h : Heap), YP w h → (K w.params).In h)
    (F : ∀ (w : World) (mg : Str → Option Value) (fa : Addr) (h : Heap), (K w.params).In h → h.Ns mainGlobals mg → mg d.name = some (.ref fa) →
      ∀ (base : Heap) (s₁ : Shared) (H : Hp) (a : Addr) (ns : List Int), Env0 l.prog w (K w.params) mg base callerA [] s₁ H → SqL (K w.params) H a (ns.map V.int) → ns.length ≤ 63 →
        codeAny (model l.prog w) callerA (.call (.ref fa) ⟨[.ref a], []⟩) (CR CX0 [] l.prog w H s₁ (fun v _ => v = .bl true) fun _ _ _ => False) s₁) :
    PySem.W.WalkO q loose XP YP l.row.toRowW d [] (fun f vs => PySem.call f vs) := by
  refine Att.attach_call hn hdf fun w s₀ s₁ mg mb fa o pm cd doc a vs ns G Y _ _ _ hmg hobj hints hlen hg => ?_
  exact call_law (hY w _ Y) G.T.g G.T.b G.T.builtins G.T.nolimit hg hobj hints hlen fun base H _ _ ev sq => F w mg fa _ (hY w _ Y) G.T.g hmg base s₁ H a ns ev sq hlen
end
end Sw
namespace Sw
open PySem L2
/-- a statement kept to what it is to do, for whatever i stands for -/
def tCutI {ι : Type} (J J' : ι → L2.St → Hp → Prop) : TS := fun D σ H => ∃ i, J i σ H ∧ ∀ σ' H', J' i σ' H' → D.nx σ' H'
theorem ps_cutI {ι : Type} {X : Cx} {st : Stmt} {t : TS} (J J' : ι → L2.St → Hp → Prop) (h : PS X st t) (hJ : ∀ i D σ H, J i σ H → (∀ σ' H', J' i σ' H' → D.nx σ' H') → t D σ H) : PS X st (tCutI J J') :=
  ⟨fun pins s σ H D I q => by
    obtain ⟨i, a, b⟩ := q
    exact h.run pins s σ H D I (hJ i D σ H a b)⟩
theorem int_at {os : List Int} {i : Nat} {x : V} (h : (os.map V.int)[i]? = some x) : ∃ z, os[i]? = some z ∧ x = .int z := by
  rw [List.getElem?_map] at h
  cases q : os[i]? with
  | none => rw [q] at h; cases h
  | some z => rw [q] at h; exact ⟨z, rfl, (Option.some.inj h).symm⟩
end Sw
namespace Sw
open PySem PySem.Spec PyProof.Rows L2
/-! ### defs that call repr: what is around them guards nothing -/
structure FnG (P : Program) (w : World) (K : PySem.W.Frag) (mg : Str → Option Value) (base : Heap) (k : Nat) (f : Addr) (fd : FuncData) (ps : List Str) (sp : Sp) : Prop where
  len : ∀ vs H Q E, sp vs H Q E → vs.length = ps.length
  run : ∀ (A : Around) (outer : List Env) (s : Shared) (H : Hp) (args : Args) (us : List Value) (vs : List V) (Q : VK) (E : XK), Room k A → A.guards = some [] → Env0 P w K mg base A outer s H → BindsTo s fd args (ps.zip us) → Vals vs us → sp vs H Q E →
    codeAny (model P w) A (.call (.ref f) args) (CR CX0 outer P w H s Q E) s
section
variable {P : Program} {w : World} {K : PySem.W.Frag} {mg : Str → Option Value} {base : Heap}
theorem Fun.okG {x qual : Str} {st : Stmt} {f : Addr} {fd : FuncData} {N ps : List Str} {k : Nat} {sp : Sp} (F : Fun K x qual st f fd) (S : FnScope N ps (defScope st)) (len : ∀ vs H Q E, sp vs H Q E → vs.length = ps.length)
    (walk : ∀ (cdv : Value) (A : Around) (outer : List Env) (s : Shared) (H : Hp) (vs : List V) (Q : VK) (E : XK), Room k (A.deeper (envOfC qual (defScope st) s.heap.objs.size f cdv)) → (A.deeper (envOfC qual (defScope st) s.heap.objs.size f cdv)).guards = some [] → sp vs H Q E →
      ∃ t, PSs (cxOf CX0 P w K mg base N qual (defScope st) f cdv A outer s H E).nox (defBody st) t ∧ t { nx := fun _ H' => Q .non H', rt := Q } (start N vs) H) : FnG P w K mg base (k + 1) f fd ps sp :=
  ⟨len, fun A outer s H args us vs Q E hr hg ev hb rv h => run_def F S hr ev hb rv (len _ _ _ _ h) fun cdv => walk cdv A outer s H vs Q E (hr.deeper _) hg h⟩
/-- such a def of one's own, by its name -/
structure OwnG (P : Program) (w : World) (K : PySem.W.Frag) (mg : Str → Option Value) (base : Heap) (k : Nat) (x : Str) (ps : List Str) (sp : Sp) : Prop where
  ex : ∃ f fd, FnG P w K mg base k f fd ps sp ∧ mg x = some (.ref f) ∧ PySem.W.keepIn K (.ref f) = true ∧ Binds K fd ps []
theorem Has.ownG {x : Str} {st : Stmt} {k : Nat} {ps : List Str} {sp : Sp} (h : Has K mg x st) (ok : ∀ f fd, Fun K x x st f fd → FnG P w K mg base k f fd ps sp)
    (b : ∀ (kV doc pm : Value) (an : Option Addr) (cdv ct : Value) (us : List Value), us.length = ps.length → bindArgs (PySem.W.fnOf x x (defArgs st) (defBody st) (defScope st) .none kV doc pm an cdv ct) ⟨us, []⟩ = pure (ps.zip us)) : OwnG P w K mg base k x ps sp := by
  obtain ⟨f, fd, F, m⟩ := h
  exact ⟨f, fd, ok f fd F, m, F.kp, F.binds b⟩
end
section
variable {X : Cx} {k : Nat} {f : Addr} {fd : FuncData} {ps : List Str} {sp : Sp} {E : XK} {x : Str} {p pos : Pos} {e : Expr} {es : List Expr} {t : TA}
theorem pe_callG (F : FnG X.prog X.w X.K X.mg X.base k f fd ps sp) (hr : Room k X.A) (hgd : X.A.guards = some []) (hg : Gl X x) (hm : X.mg x = some (.ref f)) (hk : PySem.W.keepIn X.K (.ref f) = true) (hb : Binds X.K fd ps []) (hx : Passes CX0 X E)
    (ha : PA X (e :: es) t) (hdb : (x == ("__debug__" : Str)) = false := by decide) (he : starEach (e :: es) X.env = (false, eval e X.env) :: starEach es X.env := by rfl) (hpl : (backTo pos (starEach es X.env)).any (·.1) = false := by rfl) :
    PE X (.Call (.Name x p) (e :: es) [] pos) (tCall sp [] E t) := by
  refine ⟨fun pins s σ H Q I h => wpAny_Call_Name_kw (ld_glob I hg hm ?_ hdb)⟩
  refine PySem.W.callWith_K (h₀ := X.base) I.ok.mod.kin hk (thn (ha.run pos pins s σ H _ I h) fun us s1 ⟨vs, H1, I1, r, q⟩ => ⟨I1.kIn, ?_⟩) he hpl
  have q : sp (vs ++ []) H1 Q E := q
  rw [List.append_nil] at q
  have hl : us.length = ps.length := by
    rw [← r.length]
    exact F.len _ _ _ _ q
  have b := hb s1 us I1.kIn (by rw [List.append_nil]; exact hl)
  rw [List.append_nil] at b
  refine wpAny_call (codeAny_mono (F.run X.A X.stack s1 H1 ⟨us, []⟩ us vs Q E hr hgd I1.env0 b r q) fun r s' hq => ?_)
  rcases r with e | fl
  · exact hx pins σ H1 s1 e s' I1 hq
  rcases fl with _ | _ | _ | u
  all_goals first | exact hq.elim | skip
  exact I1.after hq
/-- repr(t), t a tuple of data -/
def rReprT (K : PySem.W.Frag) : List V → Hp → VK → Prop := fun xs H Q => ∃ x ds as, xs = [x] ∧ Rep K H (.tup ds) x as ∧ smallAll ds ∧ wtAll ds ≤ 10000000 ∧ depAll ds ≤ 30 ∧ Q (.str (shown (.tup ds))) H
theorem call_reprT {X : Cx} {k : Nat} (hr : Room k X.A) (hg : X.A.guards = some []) : CallR X (.builtin "repr") (rReprT X.K) := by
  intro pins s σ H xs us Q I r h
  obtain ⟨x, ds, as, rfl, hd, sm, z, dp, q⟩ := h
  obtain ⟨u, rfl, hu⟩ := vals1 r
  have un := hr.units
  have hz : wt (.tup ds) ≤ sizeLine := by
    rw [sizeLine_eq]
    simp only [wt]
    omega
  have hsh : (tupleText (shownAll ds)).length ≤ sizeLine := by
    have h1 := shown_wt (.tup ds)
    simp only [shown] at h1
    omega
  simp only [Rep] at hd
  obtain ⟨a, ys, bs, rfl, ha, ra, na, rfl⟩ := hd
  cases (show u = Value.ref a from hu)
  obtain ⟨_, its, rv, o, h1, h2, n, h3⟩ := (show ObjOk X.prog X.w H s.heap a (.tup ys) from I.hok a _ ha)
  have kr := RepAll.shows I.hok I.kIn ra rv sm (by simp only [wt] at hz; omega) (depAll ds) (Nat.le_refl _)
  have hT : s.TypeIs (.ref a) "tuple" := ⟨o, h1, h2⟩
  simp only [shown] at q
  refine call_repr_slot (by omega) hT PySem.F.slot_tuple_repr ?_
  exact call_tuple_reprK (h₀ := s.heap) (d := depAll ds) h1 h2 h3 na (by simpa using kr) (g := []) hg (fun b _ => Clear.nil b) (by show X.A.units + 1 + _ < cLine; omega) (fun _ _ e => e) (fun h' u tk hk => ⟨_, _, rfl, .str _, H, I.kept (t' := tk) hk, ⟨_, rfl⟩, q⟩) hsh
end
end Sw
namespace Sw
open PySem PySem.Spec PyProof.Rows L2
/-- no error -/
def noX : D → Bool
  | .exc _ _ _ => false
  | _ => true
/-- repr(x), x of any plain kind -/
def rReprD (K : PySem.W.Frag) : List V → Hp → VK → Prop := fun xs H Q => ∃ x dd as, xs = [x] ∧ Rep K H dd x as ∧ noX dd = true ∧ small dd ∧ wt dd ≤ 10000000 ∧ dep dd ≤ 30 ∧ Q (.str (shown dd)) H
theorem call_reprD {X : Cx} {k : Nat} (hr : Room k X.A) (hg : X.A.guards = some []) : CallR X (.builtin "repr") (rReprD X.K) := by
  intro pins s σ H xs us Q I r h
  obtain ⟨x, dd, as, rfl, hd, nx, sm, z, dp, q⟩ := h
  have un := hr.units
  have dict : ∀ (a : Addr) (kvs : List (Key × V)) (ks : List Key) (ds : List D) (bs : List Addr), x = .ref a → H a = some (.dK kvs) → kvs.map Prod.fst = ks → RepAll X.K H ds (kvs.map Prod.snd) bs → a ∉ bs → (∀ k ∈ ks, keyOk k) → smallAll ds → keysWt ks + wtAll ds + 2 ≤ 10000000 → depAll ds ≤ 30 →
      Q (.str (dictText (entTxt ks (shownAll ds)))) H → wpAny (model X.prog X.w) X.A (call (.builtin "repr") us) (EP X pins σ Q) X.xe s := by
    intro a kvs ks ds bs ex ha ek ra na ok sm z dp q
    subst ex
    obtain ⟨u, rfl, hu⟩ := vals1 r
    cases (show u = Value.ref a from hu)
    obtain ⟨_, hs, vs, kv, o, es, ep, h1, h2, h3, h4⟩ := (show ObjOk X.prog X.w H s.heap a (.dK kvs) from I.hok a _ ha)
    have pr : Pairs (mixKind X.prog X.w) es.toList vs := h4.2.1
    obtain ⟨us2, rv, eu, ky⟩ := kv_vals kv pr
    have kr := RepAll.shows I.hok I.kIn ra rv sm (by rw [sizeLine_eq]; omega) (depAll ds) (Nat.le_refl _)
    rw [ek] at ky
    rw [eu] at kr
    have hsh : (dictText (entTxt ks (shownAll ds))).length ≤ sizeLine := by
      have h1 := dictText_len (entTxt ks (shownAll ds))
      obtain ⟨h2, h3⟩ := entTxt_len ks (shownAll ds)
      have h4 := shownAll_wt ds
      rw [sizeLine_eq]
      omega
    refine call_repr_slot (by omega) ⟨o, h1, h2.1⟩ PySem.F.slot_dict_repr ?_
    exact call_dict_reprK (h₀ := s.heap) (d := depAll ds) h1 h2.1 h3 hs na (ents_of ky ok kr) (g := []) hg (fun b _ => Clear.nil b) (by show X.A.units + 1 + _ < cLine; omega) (fun _ _ e => e) (fun h' u tk hk => ⟨_, _, rfl, .str _, H, I.kept (t' := tk) hk, ⟨_, rfl⟩, q⟩) hsh
  cases dd with
  | non =>
    simp only [Rep] at hd
    obtain ⟨rfl, rfl⟩ := hd
    obtain ⟨u, rfl, hu⟩ := vals1 r
    cases (show u = Value.none from hu)
    exact PySem.P.repr_of_none ⟨.str _, H, I.tok _, ⟨_, rfl⟩, q⟩
  | bl b =>
    simp only [Rep] at hd
    obtain ⟨rfl, rfl⟩ := hd
    obtain ⟨u, rfl, hu⟩ := vals1 r
    cases (show u = Value.bool b from hu)
    exact PySem.P.repr_of_bool ⟨.str _, H, I.tok _, ⟨_, rfl⟩, q⟩
  | int i =>
    simp only [Rep] at hd
    obtain ⟨rfl, rfl⟩ := hd
    obtain ⟨u, rfl, t, rfl⟩ := vals1 r
    exact PySem.P.repr_of_int (by simpa only [small] using sm) ⟨.str _, H, I.tok _, ⟨_, rfl⟩, q⟩
  | str y =>
    simp only [Rep] at hd
    obtain ⟨rfl, rfl⟩ := hd
    obtain ⟨u, rfl, hu⟩ := vals1 r
    obtain ⟨t, rfl⟩ := (show ∃ t, u = Value.str y t from hu)
    simp only [wt] at z
    exact PySem.P.repr_of_str ⟨.str _, H, I.tok _, ⟨_, rfl⟩, q⟩ (by rw [sizeLine_eq]; omega)
  | tup ds => exact call_reprT hr hg pins s σ H _ us Q I r ⟨x, ds, as, rfl, hd, by simpa only [small] using sm, by simp only [wt] at z; omega, by simp only [dep] at dp; omega, q⟩
  | lst ds => exact call_repr hr hg pins s σ H _ us Q I r ⟨x, ds, as, rfl, hd, by simpa only [small] using sm, by simp only [wt] at z; omega, by simp only [dep] at dp; omega, q⟩
  | dct =>
    simp only [Rep] at hd
    obtain ⟨a, ex, ha, ea⟩ := hd
    have e0 : dictText (entTxt [] (shownAll [])) = ("{}" : Str) := by decide +kernel
    exact dict a [] [] [] [] ex ha rfl (by simp [RepAll]) (by simp) (fun _ h => absurd h (by simp)) (by simp [smallAll]) (by simp [keysWt, wtAll]) (by simp [depAll]) (by rw [e0]; exact q)
  | dx ks ds =>
    simp only [Rep] at hd
    obtain ⟨a, kvs, bs, ex, ha, ek, ra, na, ea⟩ := hd
    simp only [small] at sm
    simp only [wt] at z
    simp only [dep] at dp
    exact dict a kvs ks ds bs ex ha ek ra na sm.1 sm.2 z (by omega) q
  | exc C n m => cases nx
end Sw
namespace Sw
open PySem PySem.Spec PyProof.Rows L2
/-! ### things of all kinds, drawn -/
/-- data, no error -/
def DatN (K : PySem.W.Frag) (U : Addr → Prop) (w k : Nat) (H : Hp) (x : V) : Prop := ∃ dd as, Rep K H dd x as ∧ (∀ a ∈ as, U a) ∧ small dd ∧ wt dd ≤ w ∧ dep dd ≤ k ∧ noX dd = true
theorem DatN.dat {K : PySem.W.Frag} {U : Addr → Prop} {w k : Nat} {H : Hp} {x : V} (h : DatN K U w k H x) : Dat K U w k H x := by
  obtain ⟨dd, as, h1, h2, h3, h4, h5, h6⟩ := h
  exact ⟨dd, as, h1, h2, h3, h4, h5⟩
theorem Dat.plain {K : PySem.W.Frag} {U : Addr → Prop} {w k : Nat} {H : Hp} {x : V} (h : Dat K U w k H x) (hk : k ≤ 2) : DatN K U w k H x := by
  obtain ⟨dd, as, h1, h2, h3, h4, h5⟩ := h
  refine ⟨dd, as, h1, h2, h3, h4, h5, ?_⟩
  cases dd with
  | exc C n m => simp only [dep] at h5; omega
  | _ => rfl
theorem DatN.kp {K : PySem.W.Frag} {U : Addr → Prop} {p d : Addr} {w k : Nat} {H H' : Hp} {x : V} (h : DatN K U w k H x) (o : ∀ a, U a → Off p d a) (s : Kp p d H H') : DatN K U w k H' x := by
  obtain ⟨dd, as, h1, h2, h3⟩ := h
  exact ⟨dd, as, h1.keep fun b hb y e => s b y e (o b (h2 b hb)).1 (o b (h2 b hb)).2, h2, h3⟩
theorem DatN.same {K : PySem.W.Frag} {U : Addr → Prop} {w k : Nat} {H H' : Hp} {x : V} (h : DatN K U w k H x) (s : Same H H') : DatN K U w k H' x := by
  obtain ⟨dd, as, h1, h2, h3⟩ := h
  exact ⟨dd, as, h1.same s, h2, h3⟩
theorem DatN.imp {K : PySem.W.Frag} {U U' : Addr → Prop} {w k w' k' : Nat} {H : Hp} {x : V} (h : DatN K U w k H x) (u : ∀ a, U a → U' a) (hw : w ≤ w') (hk : k ≤ k') : DatN K U' w' k' H x := by
  obtain ⟨dd, as, h1, h2, h3, h4, h5, h6⟩ := h
  exact ⟨dd, as, h1, fun a ha => u a (h2 a ha), h3, by omega, by omega, h6⟩
/-- no list stood there -/
def WN (H : Hp) (a : Addr) : Prop := ∀ xs, H a ≠ some (.lst xs)
def wTh : Nat → Nat
  | 0 => 40
  | n + 1 => 6 * wTh n + 40
def kTh (n : Nat) : Nat := 2 * n + 1
abbrev sThing : Stmt := top 41
abbrev stTh (i : Nat) : Stmt := (defBody sThing).getD i sThing
abbrev nThing : List Str := ["deck", "deep", "plain", "inner", "nth"]
theorem scThing : FnScope nThing ["deck", "deep"] (defScope sThing) := ⟨rfl, rfl, rfl, by decide +kernel, rfl, by decide +kernel, by decide +kernel⟩
def spThing (K : PySem.W.Frag) (n : Nat) : Sp := fun vs H Q _ => ∃ p d : Addr, vs = [.ref p, .int n] ∧ Deck H p d 63 ∧ ∀ (x : V) (H' : Hp), Deck H' p d 63 → Kp p d H H' → DatN K (UW p d (WN H)) (wTh n) (kTh n) H' x → Q x H'
/-- what is called again: nothing, or the thing one level less deep -/
def spLess (K : PySem.W.Frag) : Nat → Sp
  | 0 => fun _ _ _ _ => False
  | n + 1 => spThing K n
theorem spLess_len {K : PySem.W.Frag} {n : Nat} : ∀ vs H Q E, spLess K n vs H Q E → vs.length = (["deck", "deep"] : List Str).length := fun vs H Q E h => by
  cases n with
  | zero => exact h.elim
  | succ n =>
    obtain ⟨p, d, rfl, _⟩ := h
    rfl
def SThg (p d : Addr) (H0 : Hp) : SH := fun _ H => Deck H p d 63 ∧ Kp p d H0 H
theorem wn_ok {p d : Addr} {H0 H : Hp} (D0 : Deck H0 p d 63) (D : Deck H p d 63) (s : Kp p d H0 H) : WOk (WN H0) H := by
  refine ⟨fun a e xs z => ?_, fun a zs e xs z => ?_⟩
  · have n := D.ne_none e
    rw [s _ _ z n.1 n.2] at e
    cases e
  · have n := D.tne e
    rw [s _ _ z n.1 n.2] at e
    cases e
theorem sk_thg {p d : Addr} {H0 : Hp} (D0 : Deck H0 p d 63) : SK p d (WN H0) (SThg p d H0) :=
  ⟨fun σ H h => wn_ok D0 h.1 h.2, fun σ H h => h.1, fun σ H H' h D' k => ⟨D', h.2.trans k⟩⟩
section
variable (K : PySem.W.Frag) (p d : Addr) (n : Nat) (H0 : Hp)
def JTh0 (σ : L2.St) (H : Hp) : Prop := σ = [some (.ref p), some (.int n), none, none, none] ∧ Deck H p d 63 ∧ Kp p d H0 H
def JTh1 (σ : L2.St) (H : Hp) : Prop := ∃ (pl : Addr) (xs : List V), σ = [some (.ref p), some (.int n), some (.ref pl), none, none] ∧ Deck H p d 63 ∧ Kp p d H0 H ∧ H pl = some (.lst xs) ∧ xs.length = 16 ∧ pl ≠ d ∧ ∀ x ∈ xs, Dat K (UW p d (WN H0)) 40 1 H x
def JTh2 (σ : L2.St) (H : Hp) : Prop := ∃ (s2 s4 : Option V) (L : Addr) (ys : List V), σ = [some (.ref p), some (.int n), s2, some (.ref L), s4] ∧ Deck H p d 63 ∧ Kp p d H0 H ∧ H L = some (.lst ys) ∧ ys.length ≤ 3 ∧ L ≠ d ∧ WN H0 L ∧ ∀ y ∈ ys, DatN K (fun a => UW p d (WN H0) a ∧ a ≠ L) (wTh (n - 1)) (kTh (n - 1)) H y
end
theorem kl1 {X : Cx} {p d : Addr} {W : Addr → Prop} {S : SH} {w k w' m : Nat} {e : Expr} {es : List Expr} (ha : PE X e (tK X.K p d W S w' k)) (hr : PA X es (tKl X.K p d W S w k m)) (hw : w' ≤ w := by decide) (hs : starEach (e :: es) X.env = (false, eval e X.env) :: starEach es X.env := by rfl) : PA X (e :: es) (tKl X.K p d W S w k (m + 1)) := kl_cons ha hr hw (Nat.le_refl k) hs
section
variable {P : Program} {w : World} {K : PySem.W.Frag} {mg : Str → Option Value} {base : Heap}
variable {f : Addr} {cdv : Value} {A : Around} {outer : List Env} {s : Shared} {HH : Hp} {E : XK}
theorem th_0 {p d : Addr} {n : Nat} {H0 : Hp} (D0 : Deck H0 p d 63) (hr : Room (n + 2) (A.deeper (envOfC "_law_thing" (defScope sThing) s.heap.objs.size f cdv))) :
    PS (cxOf CX0 P w K mg base nThing "_law_thing" (defScope sThing) f cdv A outer s HH E).nox (stTh 0) (tCut (JTh0 p d n H0) (JTh1 K p d n H0)) := by
  have SK0 := sk_thg D0
  refine ps_cut (ps_set (i := 2) scThing.nd rfl (.inl rfl) (pe_lst (kl1 (W := WN H0) (p := p) (d := d) (S := SThg p d H0) (w := 40) (k := 1) (k_non pe_non) <| kl1 (k_true pe_bl) <| kl1 (k_true pe_bl) <| kl1 (k_int (w := 3) pe_int fun _ _ _ q => q) <| kl1 (k_int (w := 3) pe_int fun _ _ _ q => q) <|
    kl1 (k_int (w := 3) (i := -1) (pe_un un_neg pe_int) fun _ _ _ q => ⟨_, rfl, q⟩) <| kl1 (k_int (w := 31) (i := 10 ^ 30) (pe_op op_pow pe_int pe_int) fun _ _ _ q => ⟨10, 30, rfl, rfl, ⟨by decide, by decide, by decide⟩, q⟩) <| kl1 (k_str (w := 40) pe_str) <| kl1 (k_str (w := 40) pe_str) <| kl1 (k_str (w := 40) pe_str) <|
    kl1 (k_tup SK0 ks_nil) <| kl1 (k_lst SK0 ks_nil) <| kl1 (k_dct SK0) <| kl1 (k_tup SK0 (ks_cons (k_int (w := 3) pe_int fun _ _ _ q => q) <| ks_cons (k_int (w := 3) pe_int fun _ _ _ q => q) <| ks_cons (k_int (w := 3) pe_int fun _ _ _ q => q) ks_nil)) <|
    kl1 (k_tup SK0 (ks_cons (k_str (w := 10) pe_str) <| ks_cons (k_int (w := 3) pe_int fun _ _ _ q => q) ks_nil)) <| kl1 (k_int (w := 3) pe_int fun _ _ _ q => q) kl_nil))) ?_
  rintro D σ H ⟨rfl, D1, k1⟩ nx
  refine ⟨⟨D1, k1⟩, fun xs H' hl hx s1 kk => ⟨by show _ ≤ sizeLine; rw [hl]; decide, fun a na => nx _ _ ⟨a, xs, rfl, s1.1.same (same_new na), s1.2.trans (.of (same_new na)), upd_same, hl, (s1.1.ne_none na).2, fun x hx' => (hx x hx').kp (.of (same_new na))⟩⟩⟩
theorem wn_off {p d : Addr} {H0 H : Hp} {L : Addr} {zs : List V} (D0 : Deck H0 p d 63) (k : Kp p d H0 H) (hL : H L = some (.lst zs)) {a : Addr} (h : UW p d (WN H) a) : UW p d (WN H0) a ∧ a ≠ L := by
  refine ⟨⟨h.1, fun xs z => h.2 xs (k _ _ z h.1.1 h.1.2)⟩, fun z => h.2 zs (by rw [z]; exact hL)⟩
theorem th_2 {p d : Addr} {n : Nat} {H0 : Hp} (D0 : Deck H0 p d 63) (B : NoNames mg) (hr : Room (n + 2) (A.deeper (envOfC "_law_thing" (defScope sThing) s.heap.objs.size f cdv)))
    (OD : Own P w K mg base 1 "_law_draw" ["deck", "many"] spDraw) (OL : Own P w K mg base (n + 2) "_law_thing" ["deck", "deep"] (spLess K n)) :
    PS (cxOf CX0 P w K mg base nThing "_law_thing" (defScope sThing) f cdv A outer s HH E).nox (stTh 2) (tCut (fun σ H => n ≠ 0 ∧ JTh1 K p d n H0 σ H) (JTh2 K p d n H0)) := by
  obtain ⟨fD, fdD, GD, mD, kD, bD⟩ := OD.ex
  obtain ⟨fL, fdL, GL, mL, kL, bL⟩ := OL.ex
  have hr1 : Room 1 _ := hr.mono (by omega)
  refine ps_cut (ps_setLc (i := 3) (own := [("nth", 4)]) (g := gName 4) (tt := tYes) rfl scThing.nd rfl rfl (sw_true rfl rfl rfl (by decide +kernel))
    (pi_range1 (by rfl) B.range (pa_cons (pe_call GD hr1 rfl mD kD bD .nil pass0 (pa_cons (pv 0) (pa_cons pe_int pa_nil))) pa_nil)) (blkOk_by (own := [("nth", 4)]) (N := nThing) (sc := defScope sThing) (by decide +kernel))
    (fun _ _ _ _ _ => pg_name (i := 4) scThing.nd rfl (Or.inl rfl)) (fun _ _ _ _ _ => pts_nil) (fun _ _ _ _ _ => pe_call GL hr rfl mL kL bL .nil pass0 (pa_cons (pv 0) (pa_cons (pe_op op_sub (pv 1) pe_int) pa_nil)))) ?_
  rintro D σ H ⟨hn, pl, xs, rfl, D1, k1, hpl, hl, hd, hx⟩ nx
  refine ⟨_, rfl, p, d, 4, rfl, D1, by decide, fun r H2 r0 r1 r2 D2 k2 => ⟨r, rfl, by omega, by have := r1 (by decide); omega, fun L nL => ?_⟩⟩
  have r1 := r1 (by decide)
  have gL : Same H2 (upd H2 L (.lst [])) := same_new nL
  have oL := D2.ne_none nL
  have k02 : Kp p d H0 H2 := k1.trans k2
  have fL0 : H0 L = none := D0.free k02 nL D2
  refine lc_it walk_range (fun j H' => Deck H' p d 63 ∧ Kp p d H2 H' ∧ ∃ ys, H' L = some (.lst ys) ∧ ys.length = j ∧ ∀ y ∈ ys, DatN K (fun a => UW p d (WN H0) a ∧ a ≠ L) (wTh (n - 1)) (kTh (n - 1)) H' y)
    ⟨D2.same gL, .of gL, [], upd_same, rfl, fun _ h => absurd h (by simp)⟩ (fun _ _ _ _ => trivial) ?_ ?_
  · rintro j x Ha Hb hj ⟨Da, ka, ys, h2, ly, dy⟩ ⟨rfl, rfl⟩
    refine ⟨rfl, ?_⟩
    dsimp only [tYes]
    rw [if_pos rfl]
    obtain ⟨m, rfl⟩ : ∃ m, n = m + 1 := ⟨n - 1, by omega⟩
    refine ⟨_, rfl, _, rfl, _, _, rfl, rfl, ?_⟩
    refine ⟨p, d, ?_, Da, fun y HY DY kY dat => ?_⟩
    · show [V.ref p, V.int (((m + 1 : Nat) : Int) - 1)] = [V.ref p, V.int (m : Int)]
      rw [show ((m + 1 : Nat) : Int) - 1 = (m : Int) by omega]
    have h2Y := kY _ _ h2 oL.1 oL.2
    have k0a := k02.trans ka
    refine ⟨ys, h2Y, by rw [ly, sizeLine_eq]; omega, DY.upd oL.1 oL.2, fun c o e q1 q2 => ?_, ys ++ [y], upd_same, by rw [List.length_append, ly]; rfl, fun z hz => ?_⟩
    · rw [upd_ne (ne_of_none e nL)]
      exact kY _ _ (ka _ _ e q1 q2) q1 q2
    · have dz : DatN K (fun a => UW p d (WN H0) a ∧ a ≠ L) (wTh m) (kTh m) HY z := by
        rcases List.mem_append.mp hz with q | q
        · exact (dy z q).kp (fun a h => h.1.1) kY
        · rw [List.mem_singleton.mp q]
          exact dat.imp (fun a h => wn_off D0 k0a h2 h) (Nat.le_refl _) (Nat.le_refl _)
      obtain ⟨dd, as, l1, l2, l3⟩ := dz
      exact ⟨dd, as, l1.keep fun b hb o e => by
        rw [upd_ne (l2 b hb).2]
        exact e, l2, l3⟩
  · rintro Ha ⟨Da, ka, ys, h2, ly, dy⟩
    refine nx _ _ ⟨_, _, L, ys, rfl, Da, k02.trans ka, h2, by omega, oL.2, (fun xs z => by rw [fL0] at z; cases z), dy⟩
def dxK (L T : Addr) : List (Key × V) := [(.inr "a", .ref L), (.inl 3, .ref T)]
theorem dxK_new (L T : Addr) : mergeK [] (dxK L T) = dxK L T := by
  show putK (putK [] (Sum.inr "a" : Key) (.ref L)) (Sum.inl 3 : Key) (.ref T) = _
  have e1 : putK ([] : List (Key × V)) (Sum.inr "a" : Key) (.ref L) = [((Sum.inr "a" : Key), .ref L)] := by simp [putK]
  rw [e1]
  unfold putK dxK
  rw [if_neg (by simp)]
  rfl
theorem DatN.live {U : Addr → Prop} {w k : Nat} {H : Hp} {x : V} (h : DatN K U w k H x) : DatN K (fun a => U a ∧ H a ≠ none) w k H x := by
  obtain ⟨dd, as, h1, h2, h3⟩ := h
  exact ⟨dd, as, h1, fun a ha => ⟨h2 a ha, fun z => by
    obtain ⟨o, e⟩ := h1.tracked a ha
    rw [e] at z
    cases z⟩, h3⟩
theorem dat_seq {U : Addr → Prop} {w k : Nat} {H : Hp} {L : Addr} {ys : List V} (hL : H L = some (.lst ys) ∨ H L = some (.tup ys)) (dy : ∀ y ∈ ys, DatN K (fun a => U a ∧ a ≠ L) w k H y) (l3 : ys.length ≤ 3) (uL : U L) : DatN K U (6 * w + 40) (k + 2) H (.ref L) := by
  obtain ⟨ds, as, r1, r2, r3, r4, r5⟩ := dats_rep fun y hy => (dy y hy).dat
  have b1 : ys.length * (w + 2) ≤ 3 * (w + 2) := Nat.mul_le_mul_right _ l3
  have nL : L ∉ as := fun z => (r2 L z).2 rfl
  have us : ∀ a ∈ L :: as, U a := fun a ha => by
    rcases List.mem_cons.mp ha with z | z
    · rw [z]; exact uL
    · exact (r2 a z).1
  rcases hL with hL | hL
  · refine ⟨.lst ds, L :: as, ?_, us, by simpa only [small] using r3, by simp only [wt]; omega, by simp only [dep]; omega, rfl⟩
    rw [Rep]
    exact ⟨L, ys, as, rfl, hL, r1, nL, rfl⟩
  · refine ⟨.tup ds, L :: as, ?_, us, by simpa only [small] using r3, by simp only [wt]; omega, by simp only [dep]; omega, rfl⟩
    rw [Rep]
    exact ⟨L, ys, as, rfl, hL, r1, nL, rfl⟩
theorem rep_dx2 {U : Addr → Prop} {w k : Nat} {H : Hp} {q L T : Addr} {ys : List V} (hq : H q = some (.dK (dxK L T))) (hL : H L = some (.lst ys)) (hT : H T = some (.tup ys)) (dy : ∀ y ∈ ys, DatN K (fun a => U a ∧ a ≠ L ∧ a ≠ T ∧ a ≠ q) w k H y) (l3 : ys.length ≤ 3)
    (uq : U q) (uL : U L) (uT : U T) (qL : q ≠ L) (qT : q ≠ T) : DatN K U (6 * w + 40) (k + 2) H (.ref q) := by
  obtain ⟨ds, as, r1, r2, r3, r4, r5⟩ := dats_rep fun y hy => (dy y hy).dat
  have b1 : ys.length * (w + 2) ≤ 3 * (w + 2) := Nat.mul_le_mul_right _ l3
  have nL : L ∉ as := fun z => (r2 L z).2.1 rfl
  have nT : T ∉ as := fun z => (r2 T z).2.2.1 rfl
  have nq : q ∉ as := fun z => (r2 q z).2.2.2 rfl
  have rl : Rep K H (.lst ds) (.ref L) (L :: as) := by
    rw [Rep]
    exact ⟨L, ys, as, rfl, hL, r1, nL, rfl⟩
  have rt : Rep K H (.tup ds) (.ref T) (T :: as) := by
    rw [Rep]
    exact ⟨T, ys, as, rfl, hT, r1, nT, rfl⟩
  have kw : keysWt [.inr "a", .inl 3] = 8 := by decide +kernel
  refine ⟨.dx [.inr "a", .inl 3] [.lst ds, .tup ds], q :: ((L :: as) ++ ((T :: as) ++ [])), ?_, fun a ha => ?_, ?_, ?_, ?_, rfl⟩
  · rw [Rep]
    refine ⟨q, _, _, rfl, hq, rfl, ?_, ?_, rfl⟩
    · show RepAll K H [.lst ds, .tup ds] [.ref L, .ref T] _
      rw [RepAll]
      refine ⟨_, _, _, _, rfl, rl, ?_, rfl⟩
      rw [RepAll]
      exact ⟨_, _, _, _, rfl, rt, by simp [RepAll], rfl⟩
    · simp only [List.append_nil, List.mem_append, List.mem_cons, not_or]
      exact ⟨⟨qL, nq⟩, qT, nq⟩
  · simp only [List.append_nil, List.mem_append, List.mem_cons] at ha
    rcases ha with z | (z | z) | (z | z)
    · rw [z]; exact uq
    · rw [z]; exact uL
    · exact (r2 a z).1
    · rw [z]; exact uT
    · exact (r2 a z).1
  · simp only [small, smallAll]
    refine ⟨fun kk hk => ?_, r3, r3, trivial⟩
    rcases List.mem_cons.mp hk with z | z
    · rw [z]
      show (reprText "a").length ≤ sizeLine
      decide +kernel
    · rw [List.mem_singleton.mp z]
      show ((3 : Int)).natAbs.log2 < 1920
      decide +kernel
  · simp only [wt, wtAll]
    rw [kw]
    omega
  · simp only [dep, depAll]
    omega
theorem ok_thing_step {fd : FuncData} {n : Nat} (F : Fun K "_law_thing" "_law_thing" sThing f fd) (B : NoNames mg) (OD : Own P w K mg base 1 "_law_draw" ["deck", "many"] spDraw) (OP : Own P w K mg base 2 "_law_pick" ["deck", "items"] spPick)
    (OL : Own P w K mg base (n + 2) "_law_thing" ["deck", "deep"] (spLess K n)) : FnOk P w K mg base CX0 (n + 3) f fd ["deck", "deep"] (spThing K n) := by
  have OD' := OD
  obtain ⟨fD, fdD, GD, mD, kD, bD⟩ := OD.ex
  obtain ⟨fP, fdP, GP, mP, kP, bP⟩ := OP.ex
  refine F.ok scThing (fun vs H Q E h => ?_) (fun cdv A outer s H vs Q E hr h => ?_)
  · obtain ⟨p, d, rfl, _⟩ := h
    rfl
  · obtain ⟨p, d, rfl, D0, k⟩ := h
    have hr1 : Room 1 _ := hr.mono (by omega)
    have hr2 : Room 2 _ := hr.mono (by omega)
    refine ⟨_, pss_cons (th_0 D0 hr) <|
      pss_cons (ps_if (PW.pt (pw_or (pt_cmpR op_eq (pv 1) pe_int (nomark _)) (pw_or1 (pt_cmpR op_gt (pe_call GD hr1 rfl mD kD bD .nil pass0 (pa_cons (pv 0) (pa_cons pe_int pa_nil))) pe_int (nomark _)))))
        (pss_one (ps_ret (pe_call GP hr2 rfl mP kP bP .nil pass0 (pa_cons (pv 0) (pa_cons (pv 2) pa_nil))))) pss_nil) <|
      pss_cons (th_2 D0 B hr OD' OL) <|
      pss_one (ps_ret (pe_call GP hr2 rfl mP kP bP .nil pass0 (pa_cons (pv 0) (pa_cons (pe_lst (pa_cons (pv 3) (pa_cons (pe_callTy call_tuple_of (by rfl) B.tuple (by decide +kernel) (pa_cons (pv 3) pa_nil))
        (pa_cons (pe_disp (pps_cons pe_str (pv 3) (pps_cons pe_int (pe_callTy call_tuple_of (by rfl) B.tuple (by decide +kernel) (pa_cons (pv 3) pa_nil)) pps_nil)) (by rfl) (by rfl) (fun z => by cases z) (by decide)) pa_nil)))) pa_nil)))), ?_⟩
    refine ⟨⟨rfl, D0, .refl⟩, fun σ1 H1 h1 => ?_⟩
    obtain ⟨pl, xs, rfl, D1, k1, hpl, hl, hd, hx⟩ := h1
    have w40 : 40 ≤ wTh n := by
      cases n with
      | zero => exact Nat.le_refl 40
      | succ n =>
        show 40 ≤ 6 * wTh n + 40
        omega
    have k1n : 1 ≤ kTh n := by unfold kTh; omega
    have xn : xs ≠ [] := fun z => by rw [z] at hl; cases hl
    have pick : ∀ H2 : Hp, Deck H2 p d 63 → Kp p d H1 H2 → spPick [.ref p, .ref pl] H2 Q E := fun H2 D2 k2 =>
      ⟨p, d, pl, xs, rfl, D2, k2 _ _ hpl (D1.kne hpl) hd, hd, xn, by omega, fun x H3 hx3 D3 k3 =>
        k x H3 D3 ((k1.trans k2).trans k3) ((((hx x hx3).plain (by decide)).kp (fun a h => h.1) (k2.trans k3)).imp (fun _ h => h) w40 k1n)⟩
    refine ⟨_, rfl, rfl, _, rfl, ite2 (fun _ => iteT ⟨_, rfl, _, rfl, pick H1 D1 .refl⟩) (fun hc => ?_)⟩
    have hn : n ≠ 0 := fun z => hc (by rw [z]; rfl)
    refine ⟨_, rfl, p, d, 3, rfl, D1, by decide, fun r H2 r0 r1 r2 D2 k2 => ⟨_, _, rfl, rfl, _, rfl, ?_⟩⟩
    refine ite2 (fun _ => ⟨_, rfl, _, rfl, pick H2 D2 k2⟩) (fun _ => ?_)
    refine ⟨⟨hn, pl, xs, rfl, D2, k1.trans k2, k2 _ _ hpl (D1.kne hpl) hd, hl, hd, fun x hx' => (hx x hx').kp k2⟩, fun σ3 H3 h3 => ?_⟩
    obtain ⟨s2, s4, L, ys, rfl, D3, k3, hL, ly, Ld, wL, dy⟩ := h3
    obtain ⟨m, rfl⟩ : ∃ m, n = m + 1 := ⟨n - 1, by omega⟩
    have Lp := D3.kne hL
    refine ⟨_, rfl, _, rfl, _, rfl, L, ys, rfl, .inl ⟨SqL.of hL, fun T1 nT1 => ?_⟩⟩
    have sT1 : Same H3 (upd H3 T1 (.tup ys)) := same_new nT1
    intro q nq
    have sq := same_new (o := .dK []) nq
    refine ⟨_, rfl, _, rfl, L, ys, rfl, .inl ⟨SqL.of (sq _ _ (sT1 _ _ hL)), fun T2 nT2 => ?_⟩⟩
    have qT2 : q ≠ T2 := fun z => by
      rw [← z, upd_same] at nT2
      cases nT2
    have nq1 : H3 q = none := sT1.free nq
    have nT2a : upd H3 T1 (.tup ys) T2 = none := sq.free nT2
    have nT2b : H3 T2 = none := sT1.free nT2a
    refine ⟨by rw [upd_ne qT2, upd_same], dxK L T2, rfl, by show 2 ≤ 15; decide, ?_⟩
    rw [dxK_new]
    have q1 : q ≠ T1 := fun z => by
      rw [z, upd_same] at nq
      cases nq
    have t12 : T1 ≠ T2 := fun z => by
      rw [← z, upd_ne q1.symm, upd_same] at nT2
      cases nT2
    have qL : q ≠ L := fun z => by rw [z, hL] at nq1; cases nq1
    have T1L : T1 ≠ L := fun z => by rw [z, hL] at nT1; cases nT1
    have T2L : T2 ≠ L := fun z => by rw [z, hL] at nT2b; cases nT2b
    have e1 : (upd (upd (upd (upd H3 T1 (.tup ys)) q (.dK [])) T2 (.tup ys)) q (.dK (dxK L T2))) q = some (.dK (dxK L T2)) := upd_same
    have e2 : (upd (upd (upd (upd H3 T1 (.tup ys)) q (.dK [])) T2 (.tup ys)) q (.dK (dxK L T2))) L = some (.lst ys) := by rw [upd_ne qL.symm, upd_ne T2L.symm, upd_ne qL.symm, upd_ne T1L.symm]; exact hL
    have e3 : (upd (upd (upd (upd H3 T1 (.tup ys)) q (.dK [])) T2 (.tup ys)) q (.dK (dxK L T2))) T1 = some (.tup ys) := by rw [upd_ne q1.symm, upd_ne t12, upd_ne q1.symm, upd_same]
    have e4 : (upd (upd (upd (upd H3 T1 (.tup ys)) q (.dK [])) T2 (.tup ys)) q (.dK (dxK L T2))) T2 = some (.tup ys) := by rw [upd_ne qT2.symm, upd_same]
    have s4 : Same H3 (upd (upd (upd (upd H3 T1 (.tup ys)) q (.dK [])) T2 (.tup ys)) q (.dK (dxK L T2))) := fun b o e => by
      rw [upd_ne (ne_of_none e nq1), upd_ne (ne_of_none e nT2b), upd_ne (ne_of_none e nq1), upd_ne (ne_of_none e nT1)]
      exact e
    generalize (upd (upd (upd (upd H3 T1 (.tup ys)) q (.dK [])) T2 (.tup ys)) q (.dK (dxK L T2))) = H4 at e1 e2 e3 e4 s4
    have uN : ∀ a, H3 a = none → UW p d (WN H) a := fun a e => ⟨D3.ne_none e, (wn_ok D0 D3 k3).free a e⟩
    have dy4 : ∀ y ∈ ys, DatN K (fun a => (UW p d (WN H) a ∧ a ≠ L) ∧ H3 a ≠ none) (wTh m) (kTh m) H4 y := fun y hy => ((dy y hy).live).same s4
    have g1 : DatN K (UW p d (WN H)) (wTh (m + 1)) (kTh (m + 1)) H4 (.ref L) := dat_seq (.inl e2) (fun y hy => (dy4 y hy).imp (fun a h => h.1) (Nat.le_refl _) (Nat.le_refl _)) ly ⟨⟨Lp, Ld⟩, wL⟩
    have g2 : DatN K (UW p d (WN H)) (wTh (m + 1)) (kTh (m + 1)) H4 (.ref T1) := dat_seq (.inr e3) (fun y hy => (dy4 y hy).imp (fun a h => ⟨h.1.1, fun z => h.2 (by rw [z]; exact nT1)⟩) (Nat.le_refl _) (Nat.le_refl _)) ly (uN _ nT1)
    have g3 : DatN K (UW p d (WN H)) (wTh (m + 1)) (kTh (m + 1)) H4 (.ref q) := rep_dx2 e1 e2 e4 (fun y hy => (dy4 y hy).imp (fun a h => ⟨h.1.1, h.1.2, fun z => h.2 (by rw [z]; exact nT2b), fun z => h.2 (by rw [z]; exact nq1)⟩) (Nat.le_refl _) (Nat.le_refl _)) ly (uN _ nq1) ⟨⟨Lp, Ld⟩, wL⟩ (uN _ nT2b) qL qT2
    refine ⟨by show 3 ≤ sizeLine; decide, fun l nl => ?_⟩
    have s5 := s4.trans (same_new (o := .lst [.ref L, .ref T1, .ref q]) nl)
    refine ⟨p, d, l, [.ref L, .ref T1, .ref q], rfl, D3.same s5, upd_same, (D3.ne_none (s4.free nl)).2, by simp, by show 3 < 1000000; decide, fun x H6 hx6 D6 k6 => k x H6 D6 ((k3.trans (.of s5)).trans k6) ?_⟩
    have fin : ∀ y, DatN K (UW p d (WN H)) (wTh (m + 1)) (kTh (m + 1)) H4 y → DatN K (UW p d (WN H)) (wTh (m + 1)) (kTh (m + 1)) H6 y := fun y h => (h.same (same_new nl)).kp (fun a h => h.1) k6
    simp only [List.mem_cons, List.not_mem_nil, or_false] at hx6
    rcases hx6 with rfl | rfl | rfl
    · exact fin _ g1
    · exact fin _ g2
    · exact fin _ g3
theorem own_thing {fd : FuncData} (F : Fun K "_law_thing" "_law_thing" sThing f fd) (m : mg "_law_thing" = some (.ref f)) (b : Binds K fd ["deck", "deep"] []) (B : NoNames mg) (OD : Own P w K mg base 1 "_law_draw" ["deck", "many"] spDraw) (OP : Own P w K mg base 2 "_law_pick" ["deck", "items"] spPick) :
    ∀ n, Own P w K mg base (n + 3) "_law_thing" ["deck", "deep"] (spThing K n)
  | 0 => ⟨f, fd, ok_thing_step F B OD OP ⟨f, fd, ⟨fun _ _ _ _ h => h.elim, fun _ _ _ _ _ _ _ _ _ _ _ _ _ h => h.elim⟩, m, F.kp, b⟩, m, F.kp, b⟩
  | n + 1 => ⟨f, fd, ok_thing_step F B OD OP (own_thing F m b B OD OP n), m, F.kp, b⟩
end
end Sw
namespace Sw
open PySem PySem.Spec PyProof.Rows PySem.W PySem.HandSPX
open Builtin Builtin.ObjectAttr
/-! ### an own error's class called with words: __new__ passes them by, __init__ takes them -/
section
variable {M : Model} {O : Around} {EE : Value → Shared → Prop} {m : Heap} {gs : Array GenState} {dr : Drawn} {tk : Nat} {so : OsState} {ws : List (Str × Value)} {us : List Value}
variable {nm qn : Str} {oC oN : Addr} {bs bm bmB : List Value} {hd : Bool} {sn : List Str} {sub : List Value} {ab : Bool} {col : Option Bool} {dd : Option Addr} {k0 k1 k2 k3 k5 : Option Value} {B newId initId : String}
theorem kw_check_new (FF : ExcBaseFacts B newId initId bmB) (same : ∀ X : String, bm.contains (.type X) = bmB.contains (.type X)) {Q : Unit → Shared → Prop}
    (look : m.get? oC = some (excClassObj nm qn oC oN bs bm hd sn sub ab col dd k0 k1 k2 k3 k5 newId)) (q : Q () ⟨m, gs, dr, tk, so⟩) : wpAny M O (checkBuiltinCall newId ⟨.ref oC :: us, ws⟩) Q EE ⟨m, gs, dr, tk, so⟩ := by
  have above : (Value.ref oC :: bm).contains (.type B) = true := by
    rw [List.contains_cons, same, FF.hasB]
    exact Bool.or_true _
  have star := FF.noStar
  simp only [checkBuiltinCall, FF.newKind, FF.newSplit, FF.newRow]
  repeat (first | refine wpAny_loadPart_at look ?_ | (refine wpAny_isSubtype_exc look ?_; rw [above]) | refine wpAny_staticBase_exc look ?_ | refine wpAny_madeBy_exc look ?_ | simp only [bne_self_eq_false, Bool.false_eq_true, if_false] | wp_step)
  exact q
theorem kw_check_call {Q : Unit → Shared → Prop} (look : m.get? oC = some (excClassObj nm qn oC oN bs bm hd sn sub ab col dd k0 k1 k2 k3 k5 newId)) (q : Q () ⟨m, gs, dr, tk, so⟩) :
    wpAny M O (checkBuiltinCall "type.__call__" ⟨.ref oC :: us, ws⟩) Q EE ⟨m, gs, dr, tk, so⟩ := by
  have above := tc_sub
  have ty : (⟨m, gs, dr, tk, so⟩ : Shared).TypeIs (.ref oC) "type" := ⟨_, look, rfl⟩
  simp only [checkBuiltinCall, tc_kind, tc_split]
  repeat (any_goals (first | assumption | with_reducible refine wpAny_loadPart_at look ?_ | with_reducible refine wpAny_onRaise ?_ | with_reducible refine wpAny_map ?_ | wp_step))
end
section
variable {PP : Program} {ww : World} {O : Around} {EE : Value → Shared → Prop} {RR : Result → Shared → Prop} {m : Heap} {gs : Array GenState} {dr : Drawn} {tk : Nat} {so : OsState} {ws : List (Str × Value)} {us : List Value}
variable {nm qn : Str} {oC oN : Addr} {bs bm bmB : List Value} {hd : Bool} {sn : List Str} {sub : List Value} {ab : Bool} {col : Option Bool} {dd : Option Addr} {k0 k1 k2 k3 k5 : Option Value} {B newId initId : String}
theorem kw_new (FF : ExcBaseFacts B newId initId bmB) (same : ∀ X : String, bm.contains (.type X) = bmB.contains (.type X))
    (look : m.get? oC = some (excClassObj nm qn oC oN bs bm hd sn sub ab col dd k0 k1 k2 k3 k5 newId))
    (q : RR (.ok (.ret (.ref (m.objs.size + 1)))) ⟨(m.push (kdv_tup us)).push (excO oC m.objs.size), gs, dr, tk, so⟩) (few : us.length ≤ sizeLine) :
    codeAny (model PP ww) O (.builtin newId ⟨.ref oC :: us, ws⟩) RR ⟨m, gs, dr, tk, so⟩ := by
  have hends := FF.ends
  have a1 : (Value.ref oC :: bm).contains (.type B) = true := by
    rw [List.contains_cons, same, FF.hasB]
    exact Bool.or_true _
  have a2 : (Value.ref oC :: bm).contains (.type "AttributeError") = false := by
    rw [List.contains_cons, same, FF.noAttr]
    rfl
  have a3 : (Value.ref oC :: bm).contains (.type "NameError") = false := by
    rw [List.contains_cons, same, FF.noName]
    rfl
  refine codeAny_builtinAt FF.entry ?_
  unfold Builtin.«BaseException.__new__»; refine PyProof.Rows.wpAt_bind ?_
  show PyProof.Rows.wpAt _ _ _ (stack >>= _) _ _ ⟨m, gs, dr, tk, so⟩
  refine PyProof.Rows.wpAt_bind (PyProof.Rows.wpAt_stack fun _ _ => wpAt_of_wpAny ?_)
  wp_walk
  refine wpAt_of_wpAny ?_
  rw [FF.owner]
  repeat (first | with_reducible refine wpAny_madeHere_exc FF.canon look ?_ | with_reducible refine wpAny_loadPart_at look ?_ | (with_reducible refine wpAny_isSubtype_exc look ?_; first | rw [a1] | rw [a2] | rw [a3]) | wp_step)
  show RR _ _
  rw [Heap.size_push]
  exact q
theorem kw_type_call (FF : ExcBaseFacts B newId initId bmB) (same : ∀ X : String, bm.contains (.type X) = bmB.contains (.type X)) {oI : Addr} {Q : Fin → Shared → Prop}
    (look : m.get? oC = some (excClassObj nm qn oC oN bs bm hd sn sub ab col dd k0 k1 k2 k3 k5 newId))
    (own : Looks (model PP ww) m (typeLookup (.ref oC) "__init__") (some (.ref oI))) (bound : ∀ v, Looks (model PP ww) m (bindSpecial (.ref oI) v) (.ref oI, [v])) (few : us.length ≤ sizeLine)
    (q : codeAny (model PP ww) O (.call (.ref oI) ⟨.ref (m.objs.size + 1) :: us, ws⟩)
      (fun r z => match r with
        | .ok (.ret v) => v = .none ∧ Q (.done (.ret (.ref (m.objs.size + 1)))) z
        | .ok _ => False
        | .error e => EE e z) ⟨(m.push (kdv_tup us)).push (excO oC m.objs.size), gs, dr, tk, so⟩) :
    wpAny (model PP ww) O (Builtin.«type.__call__» ⟨.ref oC :: us, ws⟩) Q EE ⟨m, gs, dr, tk, so⟩ := by
  repeat (first | with_reducible refine wpAny_loadPart_at look ?_ | with_reducible refine wpAny_madeBy_exc look ?_ | wp_step)
  refine codeAny_call_builtin_code (Code.quiet_builtin _ FF.quiet) (kw_check_new FF same look ?_)
  refine kw_new FF same look ?_ few
  show wpAny _ O _ _ _ _
  have stay : ∀ b o, m.get? b = some o → ((m.push (kdv_tup us)).push (excO oC m.objs.size)).get? b = some o := fun b o e => Heap.get?_push_of_some _ (Heap.get?_push_of_some _ e)
  have look2 := stay _ _ look
  have there : ((m.push (kdv_tup us)).push (excO oC m.objs.size)).get? (m.objs.size + 1) = some (excO oC m.objs.size) := by heap_get
  have selfIn : (Value.ref oC :: bm).contains (.ref oC) = true := by simp
  have own2 := own.keeps stay
  have bound2 := (bound (.ref (m.objs.size + 1))).keeps stay
  unfold isInstance
  repeat (first | with_reducible refine wpAny_loadPart_at there ?_ | (with_reducible refine wpAny_isSubtype_exc look2 ?_; rw [selfIn]) | wp_step)
  show wpAny _ O (typeLookup (.ref oC) _) _ _ _
  refine own2.at ?_
  refine wpAny_holding (wpAny_bind (bound2.at ?_))
  refine wpAny_bind (wpAny_call (codeAny_mono q fun r z y => ?_))
  rcases r with e | (v | _ | _ | _) <;> first | exact y | exact y.elim | skip
  obtain ⟨rfl, y⟩ := y
  first
    | exact wpAny_pure (wpAny_pure y)
    | (wp_walk; exact y)
theorem kw_call (FF : ExcBaseFacts B newId initId bmB) (same : ∀ X : String, bm.contains (.type X) = bmB.contains (.type X)) {oI : Addr}
    (look : m.get? oC = some (excClassObj nm qn oC oN bs bm hd sn sub ab col dd k0 k1 k2 k3 k5 newId))
    (own : Looks (model PP ww) m (typeLookup (.ref oC) "__init__") (some (.ref oI))) (bound : ∀ v, Looks (model PP ww) m (bindSpecial (.ref oI) v) (.ref oI, [v])) (few : us.length ≤ sizeLine)
    (q : codeAny (model PP ww) (O.under (.builtin "type.__call__" ⟨.ref oC :: us, ws⟩)) (.call (.ref oI) ⟨.ref (m.objs.size + 1) :: us, ws⟩) (InitBack (m.objs.size + 1) RR) ⟨(m.push (kdv_tup us)).push (excO oC m.objs.size), gs, dr, tk, so⟩) :
    codeAny (model PP ww) O (.call (.ref oC) ⟨us, ws⟩) RR ⟨m, gs, dr, tk, so⟩ := by
  have g1 := tc_lookup
  have g2 := tc_bind (.ref oC)
  have ty : (⟨m, gs, dr, tk, so⟩ : Shared).TypeIs (.ref oC) "type" := ⟨_, look, rfl⟩
  refine codeAny_of_tree ?_
  show wpAny _ O.in1 (callAny (.ref oC) _) _ _ ⟨m, gs, dr, tk, so⟩
  repeat (any_goals (first | assumption | with_reducible refine wpAny_loadPart_at look ?_ | wp_step))
  refine ⟨rfl, ?_⟩
  refine codeAny_call_builtin_at (Code.quiet_builtin _ (by decide +kernel)) entry_typeCall (kw_check_call look (kw_type_call FF same look own bound few ?_))
  refine codeAny_mono q fun r z y => ?_
  rcases r with e | (v | _ | _ | _) <;> exact y
end
end Sw
namespace Sw
open PySem PySem.Spec PyProof.Rows L2
/-- at a: an error of the class at C, v its field fld -/
def XM (C : Addr) (fld : Str) (v : V) (H : Hp) (a : Addr) : Prop := ∃ t dx, H a = some (xV C t (some dx) a) ∧ H dx = some (.xd [(fld, v)])
theorem XM.same {C a : Addr} {fld : Str} {v : V} {H H' : Hp} (h : XM C fld v H a) (s : ∀ b o, H b = some o → H' b = some o) : XM C fld v H' a := by
  obtain ⟨t, dx, e1, e2⟩ := h
  exact ⟨t, dx, s _ _ e1, s _ _ e2⟩
abbrev madeArgs (kw : Bool) (prm : Str) (u : Value) : Args := match kw with
  | true => ⟨[], [(prm, u)]⟩
  | false => ⟨[u], []⟩
section
variable {X : Cx} {pins : List (Addr × Obj)} {σ : L2.St} {H : Hp} {s : Shared} {x : Str} {e : Expr} {te : TE} {p pos : Pos} {C fI : Addr} {msg fld prm file : Str}
theorem xm_code (kw : Bool) (T : XCls X.K C) (F : XInit X.K C fI msg fld prm file) (hr : Room 1 X.A) (hs : X.mg "super" = none)
    (hfile : ((X.prog.main.file : Str) == file) = true) (htop : (X.prog.main.scope.names.lookup ("super" : Str)).isSome = false) {v : V} {u : Value} {RR : Result → Shared → Prop} (I1 : Inv X pins σ H s) (rv : RelV v u)
    (q : ∀ a H' s', H a = none → Same H H' → XM C fld v H' a → Inv X pins σ H' s' → RR (.ok (.ret (.ref a))) s') :
    codeAny (model X.prog X.w) X.A (.call (.ref C) (madeArgs kw prm u)) RR s := by
  obtain ⟨nm, qn, N, bs, bm, sn, sub, ab, col, dd, k0, k1, k2, k3, k5, hC, hbm⟩ := T.cls
  obtain ⟨us, ws, eA, eI, few⟩ : ∃ us ws, madeArgs kw prm u = ⟨us, ws⟩ ∧ (∀ a, initArgs kw prm a u = ⟨a :: us, ws⟩) ∧ us.length ≤ sizeLine := by
    cases kw
    · exact ⟨[u], [], rfl, fun _ => rfl, by show 1 ≤ sizeLine; rw [sizeLine_eq]; omega⟩
    · exact ⟨[], [(prm, u)], rfl, fun _ => rfl, Nat.zero_le _⟩
  rw [eA]
  obtain ⟨hp, g, dr, tk, os⟩ := s
  have kk : ∀ b o, hp.get? b = some o → ((hp.push (PySem.W.kdv_tup us)).push (PySem.HandSPX.excO C hp.objs.size)).get? b = some o := fun b o e => Heap.get?_push_of_some _ (Heap.get?_push_of_some _ e)
  have there : ((hp.push (PySem.W.kdv_tup us)).push (PySem.HandSPX.excO C hp.objs.size)).get? (hp.objs.size + 1) = some (xRec C none hp.objs.size) := by
    show _ = some (PySem.HandSPX.excO C hp.objs.size)
    heap_get
  have na : hp.get? (hp.objs.size + 1) = none := Heap.get?_none_of_le (Nat.le_succ _)
  have kin := I1.kIn
  obtain ⟨mb, hb1, hb2⟩ := I1.mod.blt
  refine kw_call PySem.F.excBase_ValueError (fun Y => PySem.HandSPX.refsVE_contains Y bm hbm) (kin _ _ hC) (PySem.W.looks_findIn kin F.fi) (fun self => PySem.W.bind_fn kin self F.ty) few ?_
  rw [← eI (.ref (hp.objs.size + 1))]
  refine init_code T F (kin.keeps kk) (mg := X.mg) (mb := mb) (hr.make C us ws).depth (I1.nolimit.keeps kk) ((I1.mod.glob.keeps I1.bk).keeps kk) ((hb1.keeps I1.bk).keeps kk) hs ((hb2 _ (by decide)).trans boot_super) hfile htop there ?_ fun h' tk' t1 dx k4 nt1 ne e1 e2 nd da dt en => ?_
  · cases z : X.K.lookup (hp.objs.size + 1) with
    | none => rfl
    | some o =>
      rw [kin _ _ z] at na
      cases na
  · have k5 : ∀ b o, hp.get? b = some o → h'.get? b = some o := fun b o e => k4 b o (fun z => by
      rw [z, na] at e
      cases e) (kk b o e)
    have nt0 : hp.get? t1 = none := by
      cases z : hp.get? t1 with
      | none => rfl
      | some o =>
        rw [kk _ _ z] at nt1
        cases nt1
    have nd0 : hp.get? dx = none := by
      cases z : hp.get? dx with
      | none => rfl
      | some o =>
        rw [kk _ _ z] at nd
        cases nd
    obtain ⟨tm, e3⟩ := e2
    refine ⟨rfl, q (hp.objs.size + 1) _ _ (I1.hok.gone na) ?_ ?_ (laid3 (t' := tk') (o := xV C t1 (some dx) (hp.objs.size + 1)) (u := .tup [.str msg]) (v := .xd [(fld, v)]) I1 k5 na nt0 nd0 ne da dt (xV_ok e1) ⟨?_, [.str msg tm], .cons ⟨tm, rfl⟩ .nil, ⟨_, e3, rfl, _, rfl⟩⟩ ?_)⟩
    · exact ((same_new (I1.hok.gone nd0)).trans (same_new (by rw [upd_ne (Ne.symm dt)]; exact I1.hok.gone nt0))).trans (same_new (by rw [upd_ne (Ne.symm ne), upd_ne (Ne.symm da)]; exact I1.hok.gone na))
    · exact ⟨t1, dx, upd_same, by rw [upd_ne da, upd_ne dt, upd_same]⟩
    · show 1 ≤ sizeLine
      rw [sizeLine_eq]
      omega
    · refine ⟨_, en, fun f => ?_⟩
      exact relO_put (fs := []) (mA := fun _ => none) rv (fun g => True.intro) f
/-- C(e): its field is e's value -/
theorem pe_xmd (T : XCls X.K C) (F : XInit X.K C fI msg fld prm file) (hr : Room 1 X.A) (hg : Gl X x) (hm : X.mg x = some (.ref C)) (hs : X.mg "super" = none)
    (hfile : ((X.prog.main.file : Str) == file) = true) (htop : (X.prog.main.scope.names.lookup ("super" : Str)).isSome = false) (he : PE X e te)
    (hst : starEach [e] X.env = (false, eval e X.env) :: starEach [] X.env := by rfl) (hdb : (x == ("__debug__" : Str)) = false := by decide) :
    PE X (.Call (.Name x p) [e] [] pos) (fun σ H Q => te σ H fun v H1 => ∀ a H2, H1 a = none → Same H1 H2 → XM C fld v H2 a → Q (.ref a) H2) := by
  refine ⟨fun pins s σ H Q I h => ?_⟩
  refine wpAny_Call_Name_kw (ld_glob I hg hm ?_ hdb)
  refine PySem.W.callWith_K (h₀ := X.base) I.ok.mod.kin T.kp ?_ hst (by rfl)
  rw [hst]
  show wpAny _ _ (spliced ((false, eval e X.env) :: backTo pos (starEach [] X.env))) _ _ s
  refine Calls.spliced_cons (thn (he.run pins s σ H _ I h) fun u s1 ⟨v, H1, I1, r1, q1⟩ => ?_)
  refine Calls.spliced_nil ⟨I1.kIn, ?_⟩
  show wpAny _ _ (call (.ref C) [u]) _ _ _
  exact wpAny_call (xm_code (kw := false) T F hr hs hfile htop I1 r1 fun a H' s' na sm xm J => ⟨.ref a, H', J, rfl, q1 a H' na sm xm⟩)
/-- C(prm=e) -/
theorem pe_xmw {kws : List Keyword} {tk : TA} (T : XCls X.K C) (F : XInit X.K C fI msg fld prm file) (hr : Room 1 X.A) (hg : Gl X x) (hm : X.mg x = some (.ref C)) (hs : X.mg "super" = none)
    (hfile : ((X.prog.main.file : Str) == file) = true) (htop : (X.prog.main.scope.names.lookup ("super" : Str)).isSome = false) (hkw : PK X kws tk)
    (hall : (backToKw pos (keywordEach kws X.env)).all (·.1.isSome) = true := by rfl) (hks : (backToKw pos (keywordEach kws X.env)).filterMap (·.1) = [prm] := by rfl) (hdb : (x == ("__debug__" : Str)) = false := by decide)
    (hpl : ((backTo pos (starEach [] X.env)).any (·.1) || (backToKw pos (keywordEach kws X.env)).any (·.1.isNone)) = false := by rfl) :
    PE X (.Call (.Name x p) [] kws pos) (fun σ H Q => tk σ H fun vs H1 => ∃ v, vs = [v] ∧ ∀ a H2, H1 a = none → Same H1 H2 → XM C fld v H2 a → Q (.ref a) H2) := by
  refine ⟨fun pins s σ H Q I h => wpAny_Call_Name_kw (ld_glob I hg hm ?_ hdb)⟩
  refine PySem.W.callWith_KW0 (first := []) (h₀ := X.base) I.ok.mod.kin T.kp hall (thn (hkw.run pos pins s σ H _ I h) fun us s2 ⟨zs, H2, I2, rz, v, ez, q2⟩ => ⟨I2.kIn, ?_⟩) hpl
  subst ez
  obtain ⟨u, rfl, hu⟩ := vals1 rz
  rw [hks]
  exact wpAny_call (xm_code (kw := true) T F hr hs hfile htop I2 hu fun a H' s' na sm xm J => ⟨.ref a, H', J, rfl, q2 a H' na sm xm⟩)
/-- e.n, of such an error -/
theorem pe_xmf {n : Str} (T : XfC X.K C) (hno : PySem.W.findIn X.K (.ref C) n = some none) (he : PE X e te) (hb : attributeBase e n X.env (eval e X.env) = eval e X.env := by rfl) :
    PE X (.Attribute e n pos) (fun σ H Q => te σ H fun y H1 => ∃ a v, y = .ref a ∧ XM C n v H1 a ∧ Q v H1) := by
  refine ⟨fun pins s σ H Q I h => ?_⟩
  refine attr_of hb (thn (he.run pins s σ H _ I h) fun u s1 ⟨y, H1, I1, ry, a, v, ey, xm, q⟩ => ?_)
  subst ey
  obtain rfl : u = Value.ref a := ry
  obtain ⟨t, dx, e1, e2⟩ := xm
  have ha := xV_at I1.hok e1
  have hx : ObjOk X.prog X.w H1 s1.heap dx (.xd [(n, v)]) := I1.hok dx _ e2
  obtain ⟨mA, hns, hr⟩ := hx
  obtain ⟨od, ho, hl⟩ := lookIn_ns hns
  obtain ⟨u, hu, ru⟩ := RelO.some_of (v := v) (o := mA n) (by
    have := hr n
    rw [lookup_put, if_pos rfl] at this
    exact this)
  have J : PySem.W.InstAt s1.heap a (xRec C (some dx) t) C (some od) := ⟨ha, rfl, rfl, ho⟩
  exact HandSPX.exc_get I1.kIn J T.ga T.gg T.exC (PySem.W.findObj_own T.hdC hno rfl (by rw [hl, hu])) (handed_of ru) ⟨v, H1, I1.tok _, ru, q⟩
end
end Sw
namespace Sw
open PySem L2
abbrev sBetween : Stmt := top 23
theorem scBetween : FnScope ["value", "least", "most"] ["value", "least", "most"] (defScope sBetween) := ⟨rfl, rfl, rfl, by decide +kernel, rfl, by decide +kernel, by decide +kernel⟩
section
variable {P : Program} {w : World} {K : PySem.W.Frag} {mg : Str → Option Value} {base : Heap}
theorem ok_between {f : Addr} {fd : FuncData} (F : Fun K "is_integer_between" "is_integer_between" sBetween f fd) (B : NoNames mg) : FnOk P w K mg base CX0 1 f fd ["value", "least", "most"] (spBetween K) := by
  refine F.ok scBetween (fun vs H Q E h => ?_) (fun cdv A outer s H vs Q E hr h => ?_)
  · obtain ⟨x, d, as, lo, hi, rfl, _⟩ := h
    rfl
  · obtain ⟨x, d, as, lo, hi, rfl, hd, k⟩ := h
    refine ⟨_, pss_cons (ps_if (PW.pt (pw_or (pt_val (pe_isi (i := 0) (TN := "bool") rfl (Or.inl rfl) (by decide) (by decide) B.isi B.bool rfl rfl (by decide +kernel) (by decide) (by decide)))
        (pw_or1 (pt_not (pt_val (pe_isi (i := 0) (TN := "int") rfl (Or.inl rfl) (by decide) (by decide) B.isi B.int rfl rfl (by decide +kernel) (by decide) (by decide))))))) (pss_one (ps_ret pe_bl)) pss_nil)
      (pss_one (ps_ret (pe_chain op_le op_le (pv 1) (pv 0) (pv 2)))), ?_⟩
    refine ⟨_, rfl, x, d, as, "bool", rfl, by decide, hd, _, rfl, ?_⟩
    have no : isT "bool" d = true → isWhole lo hi d = false := fun e => by cases d <;> simp_all [isT, isWhole]
    have no2 : isT "bool" d = false → isT "int" d = false → isWhole lo hi d = false := fun e e2 => by cases d <;> simp_all [isT, isWhole]
    have yes : isT "bool" d = false → isT "int" d = true → ∃ i, d = .int i := fun e e2 => by cases d <;> first | exact ⟨_, rfl⟩ | (simp_all [isT])
    cases e1 : isT "bool" d with
    | true =>
      refine iteT (iteT ?_)
      rw [no e1] at k
      exact k
    | false =>
      refine iteF ⟨_, rfl, x, d, as, "int", rfl, by decide, hd, _, rfl, ?_⟩
      cases e2 : isT "int" d with
      | false =>
        refine iteT ?_
        rw [no2 e1 e2] at k
        exact k
      | true =>
        refine iteF ?_
        obtain ⟨i, rfl⟩ := yes e1 e2
        simp only [Rep] at hd
        obtain ⟨rfl, rfl⟩ := hd
        refine ⟨_, rfl, _, rfl, _, _, rfl, rfl, _, rfl, ?_⟩
        refine ite2 (fun z => ?_) (fun z => ?_)
        · refine ⟨_, rfl, _, _, rfl, rfl, ?_⟩
          simp only [isWhole] at k
          rw [z] at k
          exact k
        · simp only [isWhole] at k
          rw [Bool.eq_false_iff.mpr z] at k
          exact k
end
end Sw
namespace Sw
open PySem PySem.Spec PyProof.Rows L2
/-! ### raise C() -/
section
variable {X : Cx} {C : Addr} {bmB : List Value} {B newId initId : String}
theorem pmk_own0 {x : Str} {p pos : Pos} (F : ExcBaseFacts B newId initId bmB) (q : PySem.W.excIn X.K C bmB newId = true) (gC : X.mg x = some (.ref C)) (kC : PySem.W.keepIn X.K (.ref C) = true) (r : Raises X (.ref C)) (hg : Gl X x)
    (hdb : (x == ("__debug__" : Str)) = false := by decide) : PMk X (.Call (.Name x p) [] [] pos) (fun _ H Q => Q (.ref C) none H) := by
  intro pins s σ H Q I h
  refine wpAny_Call_Name_kw (ld_glob I hg gC ?_ hdb)
  refine PySem.W.callWith_K0 (first := []) I.kIn kC ?_
  show wpAny _ _ (call (.ref C) []) _ _ _
  obtain ⟨bm, N, nm, qn, bs, hdct, sn, sub, ab, col, dd, k0, k1, k2, k3, k5, mN, hC, hN, hni, T⟩ := exc_obj I.kIn q
  exact wpAny_call_exc_subT F T hC hN hni (fun h' e hm => mk_of I hm r h (I.hok.gone hm.new)) (by show 0 ≤ sizeLine; omega)
end
end Sw
namespace Sw
open PySem PySem.Spec PyProof.Rows L2
/-! ### an own error x without __init__, under the error y of the package: raised, caught, asked -/
structure UErr (K : PySem.W.Frag) (mg : Str → Option Value) (x y : Str) (C S : Addr) : Prop where
  mx : mg x = some (.ref C)
  my : mg y = some (.ref S)
  made : PySem.W.excIn K C [.type "ValueError", .type "Exception", .type "BaseException", .type "object"] "ValueError.__new__" = true
  kC : PySem.W.keepIn K (.ref C) = true
  base : PySem.W.subIn K (.ref C) (.type "BaseException") = some true
  ty : PySem.W.typeIn K (.ref C) = some (.type "type")
  self : PySem.W.subIn K (.ref C) (.ref C) = some true
  ex : ExcC K C
  sub : PySem.W.kitOne K (.ref C) (.ref S) = some true
theorem UErr.raises {X : Cx} {x y : Str} {C S : Addr} (U : UErr X.K X.mg x y C S) : Raises X (.ref C) := raises_own U.base U.ty
theorem UErr.takes {K : PySem.W.Frag} {mg : Str → Option Value} {x y : Str} {C S : Addr} (U : UErr K mg x y C S) : PySem.W.exmOne K (.ref C) (.ref C) = some true := PySem.W.exm_ref U.base U.ex.hd U.ty U.self
theorem UErr.mk0 {X : Cx} {x y : Str} {C S : Addr} {p pos : Pos} (U : UErr X.K X.mg x y C S) (hg : Gl X x) (hdb : (x == ("__debug__" : Str)) = false := by decide) : PMk X (.Call (.Name x p) [] [] pos) (fun _ H Q => Q (.ref C) none H) :=
  pmk_own0 PySem.F.excBase_ValueError U.made U.mx U.kC U.raises hg hdb
section
variable {X : Cx} {CX : CXT} {k : Nat} {f : Addr} {fd : FuncData} {ps ks : List Str} {sp : Sp} {E : L2.St → XK} {x : Str} {p pos : Pos} {kws : List Keyword} {tk : TA} {g : List Value → List Value → List Value} {gV : List V → List V → List V}
/-- f(k = v) in a try: what it may let out is wished for at the slots -/
theorem pe_callWS (F : FnOk X.prog X.w X.K X.mg X.base CX k f fd ps sp) (hr : Room k X.A) (hg : Gl X x) (hm : X.mg x = some (.ref f)) (hk : PySem.W.keepIn X.K (.ref f) = true) (hb : KBinds X.K fd ps ks g gV) (hx : ∀ σ, PassesAt CX X σ (E σ))
    (hkw : PK X kws tk) (hall : (backToKw pos (keywordEach kws X.env)).all (·.1.isSome) = true := by rfl) (hks : (backToKw pos (keywordEach kws X.env)).filterMap (·.1) = ks := by rfl)
    (hdb : (x == ("__debug__" : Str)) = false := by decide)
    (hpl : ((backTo pos (starEach [] X.env)).any (·.1) || (backToKw pos (keywordEach kws X.env)).any (·.1.isNone)) = false := by rfl) :
    PE X (.Call (.Name x p) [] kws pos) (fun σ H Q => tk σ H fun zs H2 => sp (gV [] zs) H2 Q (E σ)) := by
  refine ⟨fun pins s σ H Q I h => wpAny_Call_Name_kw (ld_glob I hg hm ?_ hdb)⟩
  refine PySem.W.callWith_KW0 (first := []) (h₀ := X.base) I.ok.mod.kin hk hall (thn (hkw.run pos pins s σ H _ I h) fun ws s2 ⟨zs, H2, I2, rz, q2⟩ => ⟨I2.kIn, ?_⟩) hpl
  rw [hks]
  have r2 := hb.rel (us := []) .nil rz
  have hl : (g [] ws).length = ps.length := by
    rw [← r2.length]
    exact F.len _ _ _ _ q2
  refine wpAny_call (codeAny_mono (F.run X.A X.stack s2 H2 ⟨[], ks.zip ws⟩ (g [] ws) (gV [] zs) Q (E σ) hr I2.env0 (hb.to s2 [] ws I2.kIn hl) r2 q2) fun r s' hq => ?_)
  rcases r with e | fl
  · exact hx σ pins H2 s2 e s' I2 hq
  rcases fl with _ | _ | _ | u
  all_goals first | exact hq.elim | skip
  exact I2.after hq
end
end Sw
namespace Sw
open PySem PySem.Spec PyProof.Rows L2 PySem.W
theorem good_mk {K : Frag} {C : Addr} {nm q n : Str} {N : Addr} {bs bm : List Value} {hd : Bool} {sn : List Str} {sub : List Value} {ab : Bool} {col : Option Bool} {dd : Option Addr} {m0 m1 m2 m3 m5 : Option Value} {nw : String}
    (xL : K.lookup C = some (excClassObj nm q C N bs bm hd sn sub ab col dd m0 m1 m2 m3 m5 nw)) (e : exN nm = n) (len : n.length ≤ 60)
    (rp : findIn K (.ref C) "__repr__" = some (some (.builtin "BaseException.__repr__"))) (sb : subIn K (.ref C) (.type "BaseException") = some true) (ga : findIn K (.ref C) "__getattribute__" = some (some (.builtin "BaseException.__getattribute__")))
    (gt : findIn K (.ref C) "__getattr__" = some none) (ca : findIn K (.ref C) "__class__" = some (some (.builtin "object.__class__"))) (cn : specialIn K (.builtin "object.__class__") "__get__" = some (some (.builtin "getset_descriptor.__get__")))
    (ct : takesIn K (.builtin "object.__class__") = some true) (mo : mroIn K C (.type "object") = some true) (ni : subIn K (.ref C) (.type "int") = some false) (nb : subIn K (.ref C) (.type "bool") = some false) (nt : subIn K (.ref C) (.type "tuple") = some false)
    (ns : subIn K (.ref C) (.type "str") = some false) (nl : subIn K (.ref C) (.type "list") = some false) (nd : subIn K (.ref C) (.type "dict") = some false) : XGood K C n := by
  have h : ∃ cd, clsIn K C = some cd ∧ cd.name = nm := by
    unfold clsIn
    rw [xL]
    exact ⟨_, rfl, rfl⟩
  obtain ⟨cd, h1, h2⟩ := h
  rw [← h2] at e
  exact ⟨⟨cd, h1, e⟩, len, rp, sb, ga, gt, ca, cn, ct, mo, ni, nb, nt, ns, nl, nd⟩
theorem init_mk {K : Frag} {C fI : Addr} {msg fld prm file qual : Str} {j : Nat} {p0 p1 p2 p3 p4 p5 p6 p7 p8 p9 : Pos} {params : Arguments} {dV kV doc pm ct oc ccl cl : Value} {an od cdd cld : Option Addr} {osl ccs csl : Array (Option Value)} {cc cda : Addr} {vs : Array Value} {tf : Tok} {ar : Arg}
    (l : K.lookup fI = some ⟨oc, od, .func (ksFn "__init__" qual params (initBody msg fld prm j p0 p1 p2 p3 p4 p5 p6 p7 p8 p9) (initScope prm) dV kV doc pm an (.ref cda) ct cc), osl⟩)
    (c : codeIn K (.ref cda) qual = true) (lc : K.lookup cda = some ⟨ccl, cdd, .fields vs, ccs⟩) (hv : vs[2]? = some (.str file tf)) (lcc : K.lookup cc = some ⟨cl, cld, .cell (some (.ref C)), csl⟩) (hl : (p2.endLine == p4.line) = true)
    (ha : (params.posonlyargs ++ params.args).head? = some ar) (har : ar.arg = "self")
    (hb : ∀ (kw : Bool) (a u : Value), bindArgs (ksFn "__init__" qual params (initBody msg fld prm j p0 p1 p2 p3 p4 p5 p6 p7 p8 p9) (initScope prm) dV kV doc pm an (.ref cda) ct cc) (initArgs kw prm a u) = pure [(("self" : Str), a), (prm, u)])
    (pn : ¬ prm = "self") (pc : ¬ prm = "__class__") (ps : ¬ prm = "super") (pd : (prm == ("__debug__" : Str)) = false) (su : ks_superIn K C C "__init__" = some (some (.builtin "ValueError.__init__"))) (sub : subIn K (.ref C) (.type "ValueError") = some true)
    (self : mroIn K C (.ref C) = some true) (nf : findIn K (.ref C) fld = some none) (ty : typeIn K (.ref fI) = some (.type "function")) (fi : findIn K (.ref C) "__init__" = some (some (.ref fI))) : XInit K C fI msg fld prm file :=
  ⟨⟨qual, j, p0, p1, p2, p3, p4, p5, p6, p7, p8, p9, params, dV, kV, doc, pm, ct, oc, ccl, cl, an, od, cdd, cld, osl, ccs, csl, cc, cda, vs, tf, ar, l, c, lc, hv, lcc, hl, ha, har, hb⟩, pn, pc, ps, pd, su, sub, self, nf, ty, fi⟩
end Sw
namespace Sw
open PySem PySem.Spec PyProof.Rows L2 PySem.W
theorem uerr_mk {K : Frag} {mg : Str → Option Value} {h : Heap} {x y : Str} {C S : Addr} (X : K.In h) (G : h.Ns mainGlobals mg) (aC : nsIn K mainGlobals x = some (some (.ref C))) (aS : nsIn K mainGlobals y = some (some (.ref S)))
    (made : excIn K C [.type "ValueError", .type "Exception", .type "BaseException", .type "object"] "ValueError.__new__" = true) (kC : keepIn K (.ref C) = true) (base : subIn K (.ref C) (.type "BaseException") = some true)
    (ty : typeIn K (.ref C) = some (.type "type")) (self : subIn K (.ref C) (.ref C) = some true)
    (e1 : findIn K (.ref C) "__getattribute__" = some (some (.builtin "BaseException.__getattribute__"))) (e2 : findIn K (.ref C) "__getattr__" = some none) (e4 : hasDictIn K C = true)
    (e5 : findIn K (.ref C) "__class__" = some (some (.builtin "object.__class__"))) (e6 : specialIn K (.builtin "object.__class__") "__get__" = some (some (.builtin "getset_descriptor.__get__"))) (e7 : takesIn K (.builtin "object.__class__") = some true)
    (e8 : mroIn K C (.type "object") = some true) (sub : kitOne K (.ref C) (.ref S) = some true) : ∃ C S, UErr K mg x y C S :=
  ⟨C, S, mg_of X G aC, mg_of X G aS, made, kC, base, ty, self, ⟨e1, e2, base, e4, e5, e6, e7, e8⟩, sub⟩
/-- a def of one parameter: by place, and by its word -/
structure Own1 (P : Program) (w : World) (K : PySem.W.Frag) (mg : Str → Option Value) (base : Heap) (k : Nat) (x p1 : Str) (sp : Sp) : Prop where
  ex : ∃ f fd, FnOk P w K mg base CX0 k f fd [p1] sp ∧ mg x = some (.ref f) ∧ PySem.W.keepIn K (.ref f) = true ∧ Binds K fd [p1] [] ∧ KBinds K fd [p1] [p1] (· ++ ·) (· ++ ·)
section
variable {P : Program} {w : World} {K : PySem.W.Frag} {mg : Str → Option Value} {base : Heap}
theorem Has.own1 {k : Nat} {x p1 : Str} {st : Stmt} {sp : Sp} (hs : Has K mg x st) (ok : ∀ f fd, Fun K x x st f fd → FnOk P w K mg base CX0 k f fd [p1] sp)
    (b : ∀ (kV doc pm : Value) (an : Option Addr) (cdv ct : Value) (us : List Value), us.length = ([p1] : List Str).length → bindArgs (PySem.W.fnOf x x (defArgs st) (defBody st) (defScope st) .none kV doc pm an cdv ct) ⟨us, []⟩ = pure (([p1] : List Str).zip us))
    (b1 : ∀ (kV doc pm : Value) (an : Option Addr) (cdv ct u : Value), bindArgs (PySem.W.fnOf x x (defArgs st) (defBody st) (defScope st) .none kV doc pm an cdv ct) ⟨[], ([p1] : List Str).zip [u]⟩ = pure (([p1] : List Str).zip [u]))
    (b2 : ∀ (kV doc pm : Value) (an : Option Addr) (cdv ct u : Value), bindArgs (PySem.W.fnOf x x (defArgs st) (defBody st) (defScope st) .none kV doc pm an cdv ct) ⟨[u], ([p1] : List Str).zip []⟩ = pure (([p1] : List Str).zip [u])) : Own1 P w K mg base k x p1 sp := by
  obtain ⟨f, fd, F, m⟩ := hs
  refine ⟨f, fd, ok f fd F, m, F.kp, F.binds b, ?_⟩
  obtain ⟨oc, od, kV, doc, pm, an, cdv, ct, osl, rfl, lk, hcd⟩ := F.ex
  refine ⟨fun s us ws _ hl => ?_, fun r q => r.append q⟩
  match us, ws, hl with
  | [], [u], _ => exact .of_eq (b1 kV doc pm an cdv ct u)
  | [u], [], _ => exact .of_eq (b2 kV doc pm an cdv ct u)
end
section
variable {P : Program} {w : World} {K : Frag} {mg : Str → Option Value} {h : Heap}
theorem xe_mk {C fI : Addr} {x msg fld file nm q : Str} {N : Addr} {bs bm : List Value} {sn : List Str} {sub : List Value} {ab : Bool} {col : Option Bool} {dd : Option Addr} {m0 m1 m2 m3 m5 : Option Value} (X : K.In h) (G : h.Ns mainGlobals mg)
    (F : XInit K C fI msg fld fld file) (aC : nsIn K mainGlobals x = some (some (.ref C))) (xL : K.lookup C = some (excClassObj nm q C N bs bm true sn sub ab col dd m0 m1 m2 m3 m5 "ValueError.__new__")) (hbm : PySem.HandSPX.refsVE bm = true)
    (sa : findIn K (.ref C) "__setattr__" = some (some (.builtin "object.__setattr__"))) (opq : nsIn K cStatics "thirdparty.any" = some none) (kp : keepIn K (.ref C) = true)
    (hf : ((P.main.file : Str) == file) = true) (ht : (P.main.scope.names.lookup ("super" : Str)).isSome = false) (g : XGood K C x) : XE P K mg x msg fld :=
  ⟨⟨C, fI, file, ⟨⟨nm, q, N, bs, bm, sn, sub, ab, col, dd, m0, m1, m2, m3, m5, xL, hbm⟩, sa, opq, kp⟩, F, mg_of X G aC, hf, ht, g⟩⟩
theorem xu_mk {C : Addr} {x : Str} (X : K.In h) (G : h.Ns mainGlobals mg) (a : nsIn K mainGlobals x = some (some (.ref C))) (e : excIn K C [.type "ValueError", .type "Exception", .type "BaseException", .type "object"] "ValueError.__new__" = true) (k : keepIn K (.ref C) = true) (g : XGood K C x) : XU K mg x :=
  ⟨⟨C, _, "ValueError", _, _, PySem.F.excBase_ValueError, e, k, mg_of X G a, g⟩⟩
end
/-- by its one word -/
theorem kb_one {K : Frag} {x p1 : Str} {st : Stmt} {f : Addr} {fd : FuncData} (F : Fun K x x st f fd)
    (b1 : ∀ (kV doc pm : Value) (an : Option Addr) (cdv ct u : Value), bindArgs (fnOf x x (defArgs st) (defBody st) (defScope st) .none kV doc pm an cdv ct) ⟨[], ([p1] : List Str).zip [u]⟩ = pure (([p1] : List Str).zip [u]))
    (b2 : ∀ (kV doc pm : Value) (an : Option Addr) (cdv ct u : Value), bindArgs (fnOf x x (defArgs st) (defBody st) (defScope st) .none kV doc pm an cdv ct) ⟨[u], ([p1] : List Str).zip []⟩ = pure (([p1] : List Str).zip [u])) : KBinds K fd [p1] [p1] (· ++ ·) (· ++ ·) := by
  obtain ⟨oc, od, kV, doc, pm, an, cdv, ct, osl, rfl, lk, hcd⟩ := F.ex
  refine ⟨fun s us ws _ hl => ?_, fun r q => r.append q⟩
  match us, ws, hl with
  | [], [u], _ => exact .of_eq (b1 kV doc pm an cdv ct u)
  | [u], [], _ => exact .of_eq (b2 kV doc pm an cdv ct u)
end Sw
namespace Sw
open PySem PySem.Spec PyProof.Rows L2
/-! ### the package's errors, told by their classes -/
/-- what stands above an error ahead of its own class -/
def aboveX (S : Addr) : List Value := [.ref S, .type "ValueError", .type "Exception", .type "BaseException", .type "object"]
/-- x is the class at C, straight under the class at S -/
structure KC (K : PySem.W.Frag) (mg : Str → Option Value) (x : Str) (C S : Addr) : Prop where
  m : mg x = some (.ref C)
  cls : ∃ cd, PySem.W.clsIn K C = some cd ∧ exN cd.name = x ∧ cd.mro = .ref C :: aboveX S
  ty : PySem.W.typeIn K (.ref C) = some (.type "type")
  ex : ExcC K C
/-- the class above -/
structure KS (K : PySem.W.Frag) (mg : Str → Option Value) (S : Addr) : Prop where
  m : mg "SwapError" = some (.ref S)
  cls : ∃ cd, PySem.W.clsIn K S = some cd ∧ exN cd.name = "SwapError"
  ty : PySem.W.typeIn K (.ref S) = some (.type "type")
/-- one without __init__ -/
structure KU (K : PySem.W.Frag) (mg : Str → Option Value) (x : Str) (C S : Addr) : Prop extends KC K mg x C S where
  made : PySem.W.excIn K C [.type "ValueError", .type "Exception", .type "BaseException", .type "object"] "ValueError.__new__" = true
  kC : PySem.W.keepIn K (.ref C) = true
/-- one whose __init__ keeps its argument as fld -/
structure KI (P : Program) (K : PySem.W.Frag) (mg : Str → Option Value) (x fld : Str) (C S : Addr) : Prop extends KC K mg x C S where
  T : XCls K C
  ini : ∃ (fI : Addr) (msg file : Str), XInit K C fI msg fld fld file ∧ ((P.main.file : Str) == file) = true
  top : (P.main.scope.names.lookup ("super" : Str)).isSome = false
theorem sub_mro {K : PySem.W.Frag} {C S : Addr} {cd : ClassData} {b : Value} (h1 : PySem.W.clsIn K C = some cd) (h2 : cd.mro = .ref C :: aboveX S) : PySem.W.subIn K (.ref C) b = some ((Value.ref C :: aboveX S).contains b) := by
  show PySem.W.mroIn K C b = _
  unfold PySem.W.mroIn
  rw [h1, Option.bind_some, h2]
  rfl
theorem KC.kit {K : PySem.W.Frag} {mg : Str → Option Value} {x y : Str} {C C' S S' : Addr} (h : KC K mg x C S) (g : KC K mg y C' S') (s : KS K mg S) (hy : y ≠ "SwapError") : PySem.W.kitOne K (.ref C) (.ref C') = some (decide (y = x)) := by
  obtain ⟨cd, h1, h2, h3⟩ := h.cls
  obtain ⟨cd', g1, g2, g3⟩ := g.cls
  obtain ⟨cs, s1, s2⟩ := s.cls
  unfold PySem.W.kitOne PySem.W.kitCls
  by_cases e : C' = C
  · subst e
    rw [h1] at g1
    cases g1
    rw [if_pos (by simp), decide_eq_true (h2.symm.trans g2).symm]
  · have nx : y ≠ x := fun z => by
      obtain h0 := h.m
      rw [← z, g.m] at h0
      exact e (Value.ref.inj (Option.some.inj h0))
    have nS : C' ≠ S := fun z => by
      rw [z, s1] at g1
      cases g1
      exact hy (g2.symm.trans s2)
    have nb : (Value.ref C == Value.ref C') = false := by
      simpa using fun z : C = C' => e z.symm
    rw [nb, if_neg Bool.false_ne_true, decide_eq_false nx]
    dsimp only
    rw [g1, g.ty]
    rw [if_pos (by simp), sub_mro h1 h3]
    refine congrArg some ?_
    have q : ¬ (Value.ref C' ∈ Value.ref C :: aboveX S) := fun z => by
      unfold aboveX at z
      simp only [List.mem_cons, List.not_mem_nil, or_false, reduceCtorEq] at z
      rcases z with z | z
      · exact e (Value.ref.inj z)
      · exact nS (Value.ref.inj z)
    simpa using q
theorem KC.kitS {K : PySem.W.Frag} {mg : Str → Option Value} {x : Str} {C S : Addr} (h : KC K mg x C S) (s : KS K mg S) : PySem.W.kitOne K (.ref C) (.ref S) = some true := by
  obtain ⟨cd, h1, h2, h3⟩ := h.cls
  obtain ⟨cs, s1, s2⟩ := s.cls
  unfold PySem.W.kitOne PySem.W.kitCls
  by_cases e : (Value.ref C == Value.ref S) = true
  · rw [if_pos e]
  · rw [if_neg e]
    dsimp only
    rw [s1, s.ty, if_pos (by simp), sub_mro h1 h3]
    refine congrArg some ?_
    unfold aboveX
    simp
theorem KC.kitV {K : PySem.W.Frag} {mg : Str → Option Value} {x : Str} {C S : Addr} (h : KC K mg x C S) : PySem.W.kitOne K (.ref C) (.type "ValueError") = some true := by
  obtain ⟨cd, h1, h2, h3⟩ := h.cls
  unfold PySem.W.kitOne PySem.W.kitCls
  rw [if_neg (show ¬ ((Value.ref C == Value.type "ValueError") = true) from Bool.false_ne_true)]
  show (if PySem.W.kitMeta "ValueError" = true then _ else _) = _
  rw [if_pos (by decide +kernel), sub_mro h1 h3]
  refine congrArg some ?_
  unfold aboveX
  simp
theorem KC.xf {K : PySem.W.Frag} {mg : Str → Option Value} {x : Str} {C S : Addr} (h : KC K mg x C S) : XfC K C := ⟨h.ex.hg, h.ex.hk, h.ex.hs, h.ex.hd⟩
/-- at a: an error of the class at C -/
def XI (H : Hp) (C a : Addr) : Prop := ∃ t d, H a = some (xV C t d a) ∧ ∀ dx, d = some dx → ∃ fs, H dx = some (.xd fs)
theorem XI.same {H H' : Hp} {C a : Addr} (h : XI H C a) (s : Same H H') : XI H' C a := by
  obtain ⟨t, d, e1, e2⟩ := h
  exact ⟨t, d, s _ _ e1, fun dx z => by
    obtain ⟨fs, e⟩ := e2 dx z
    exact ⟨fs, s _ _ e⟩⟩
theorem XM.xi {H : Hp} {C a : Addr} {fld : Str} {v : V} (h : XM C fld v H a) : XI H C a := by
  obtain ⟨t, dx, e1, e2⟩ := h
  exact ⟨t, some dx, e1, fun dy z => by cases z; exact ⟨_, e2⟩⟩
/-- isinstance(e, c), e such an error -/
def rIsX (K : PySem.W.Frag) : List V → Hp → VK → Prop := fun xs H Q => ∃ (a C : Addr) (c : V) (cv : Value) (b : Bool), xs = [.ref a, c] ∧ XI H C a ∧ ExcC K C ∧ (∀ u, RelV c u → u = cv) ∧ PySem.W.kitOne K (.ref C) cv = some b ∧ Q (.bl b) H
theorem call_isX {X : Cx} : CallR X (.builtin "isinstance") (rIsX X.K) := by
  intro pins s σ H xs us Q I r h
  obtain ⟨a, C, c, cv, b, rfl, ⟨t, d, ha, hd⟩, G, hcv, e, q⟩ := h
  obtain ⟨u1, u2, rfl, r1, r2⟩ := vals2 r
  cases (show u1 = Value.ref a from r1)
  obtain rfl := hcv _ r2
  have h1 := xV_at I.hok ha
  obtain ⟨cd, hc, _⟩ := PySem.W.any_some G.hd
  have fin : ∀ od, PySem.W.InstAt s.heap a (xRec C d t) C od → wpAny (model X.prog X.w) X.A (call (.builtin "isinstance") [.ref a, u2]) (EP X pins σ Q) X.xe s := fun od J =>
    PySem.W.kia_one (PySem.W.kitx_exc (od := od) (by rw [hc]; rfl) G.hg G.hk G.hs G.ha G.hn G.ht G.hm) I.kIn J e (fun z => nomatch z) fun tk => ⟨.bl b, H, I.tok tk, rfl, q⟩
  cases d with
  | none => exact fin none ⟨h1, rfl, rfl, trivial⟩
  | some dx =>
    obtain ⟨fs, hx⟩ := hd dx rfl
    obtain ⟨mA, ⟨o, es, ep, ho, _⟩, _⟩ := (show ObjOk X.prog X.w H s.heap dx (.xd fs) from I.hok dx _ hx)
    exact fin (some o) ⟨h1, rfl, rfl, ho⟩
/-- all twelve, in the law's order -/
structure Twelve (P : Program) (K : PySem.W.Frag) (mg : Str → Option Value) (S : Addr) (c : Nat → Addr) : Prop where
  s : KS K mg S
  u0 : KU K mg "Unfit" (c 0) S
  u1 : KU K mg "BadText" (c 1) S
  u2 : KU K mg "Apart" (c 2) S
  i3 : KI P K mg "Barred" "paper" (c 3) S
  i4 : KI P K mg "NoWay" "entries" (c 4) S
  i5 : KI P K mg "BadNet" "error" (c 5) S
  i6 : KI P K mg "BadStanding" "error" (c 6) S
  u7 : KU K mg "TooManyEdits" (c 7) S
  u8 : KU K mg "NothingToUndo" (c 8) S
  u9 : KU K mg "NothingToRedo" (c 9) S
  i10 : KI P K mg "NoVersion" "given" (c 10) S
  i11 : KI P K mg "BadLog" "place" (c 11) S
def xNames : List Str := ["Unfit", "BadText", "Apart", "Barred", "NoWay", "BadNet", "BadStanding", "TooManyEdits", "NothingToUndo", "NothingToRedo", "NoVersion", "BadLog"]
theorem Twelve.kc {P : Program} {K : PySem.W.Frag} {mg : Str → Option Value} {S : Addr} {c : Nat → Addr} (T : Twelve P K mg S c) : ∀ {i : Nat} {x : Str}, xNames[i]? = some x → KC K mg x (c i) S
  | 0, _, rfl => T.u0.toKC
  | 1, _, rfl => T.u1.toKC
  | 2, _, rfl => T.u2.toKC
  | 3, _, rfl => T.i3.toKC
  | 4, _, rfl => T.i4.toKC
  | 5, _, rfl => T.i5.toKC
  | 6, _, rfl => T.i6.toKC
  | 7, _, rfl => T.u7.toKC
  | 8, _, rfl => T.u8.toKC
  | 9, _, rfl => T.u9.toKC
  | 10, _, rfl => T.i10.toKC
  | 11, _, rfl => T.i11.toKC
  | _ + 12, _, h => by cases h
end Sw
namespace Sw
open PySem PySem.Spec PyProof.Rows L2
/-! ### of which classes, what is kept, one of each -/
abbrev sMarks : Stmt := top 44
theorem scMarks : FnScope ["own", "found"] ["own"] (defScope sMarks) := ⟨rfl, rfl, rfl, by decide +kernel, rfl, by decide +kernel, by decide +kernel⟩
abbrev sKept : Stmt := top 42
theorem scKept : FnScope ["thing", "found"] ["thing"] (defScope sKept) := ⟨rfl, rfl, rfl, by decide +kernel, rfl, by decide +kernel, by decide +kernel⟩
abbrev sClasses : Stmt := top 43
theorem scClasses : FnScope ["thing", "found"] ["thing"] (defScope sClasses) := ⟨rfl, rfl, rfl, by decide +kernel, rfl, by decide +kernel, by decide +kernel⟩
theorem names_inj {i j : Nat} {x : Str} (h : xNames[i]? = some x) (g : xNames[j]? = some x) : i = j := by
  have nd : xNames.Nodup := by decide +kernel
  exact nodup_ix nd h g
theorem names_ne {i : Nat} {x : Str} (h : xNames[i]? = some x) : x ≠ "SwapError" := fun z => by
  have q : x ∈ xNames := List.mem_of_getElem? h
  rw [z] at q
  exact absurd q (by decide +kernel)
section
variable {P : Program} {w : World} {K : PySem.W.Frag} {mg : Str → Option Value} {base : Heap} {S : Addr} {c : Nat → Addr}
/-- isinstance(own, x) -/
theorem pe_mark {X : Cx} {a : Addr} {i j : Nat} {x y : Str} {e : Expr} {p1 p2 p3 : Pos} (T : Twelve P X.K X.mg S c) (hj : xNames[j]? = some y) (hi : xNames[i]? = some x) (he : PE X e (tVar 0)) (hgi : Gl X "isinstance") (bi : X.mg "isinstance" = none) (hg : Gl X y) (hdb : (y == ("__debug__" : Str)) = false)
    (hs1 : starEach [e, .Name y p3] X.env = (false, eval e X.env) :: starEach [.Name y p3] X.env := by rfl) (hs2 : starEach [.Name y p3] X.env = (false, eval (.Name y p3) X.env) :: starEach [] X.env := by rfl) (hpl : (backTo p1 (starEach [.Name y p3] X.env)).any (·.1) = false := by rfl) :
    PE X (.Call (.Name "isinstance" p2) [e, .Name y p3] [] p1) (fun σ H Q => (σ[0]? = some (some (.ref a)) ∧ XI H (c i) a) ∧ Q (.bl (decide (j = i))) H) := by
  refine pe_weak (pe_callB call_isX hgi bi (by decide +kernel) (pa_cons he (pa_cons (pe_glob (v := .ref (c j)) hg (T.kc hj).m rfl (hd := hdb)) pa_nil hs2) hs1) (he := hs1) (hpl := hpl)) fun σ H Q q => ?_
  obtain ⟨⟨e0, xi⟩, q⟩ := q
  refine ⟨_, e0, a, c i, .ref (c j), .ref (c j), decide (j = i), rfl, xi, (T.kc hi).ex, fun u r => r, ?_, q⟩
  rw [(T.kc hi).kit (T.kc hj) T.s (names_ne hj)]
  refine congrArg some ?_
  by_cases z : j = i
  · subst z
    rw [hj] at hi
    cases hi
    rw [decide_eq_true rfl, decide_eq_true rfl]
  · rw [decide_eq_false z, decide_eq_false fun q => z (names_inj (by rw [← q]; exact hj) hi)]
def marksV (i : Nat) : List V := (List.range 12).map fun j => V.bl (decide (j = i))
def spMarks (c : Nat → Addr) : Sp := fun vs H Q _ => ∃ (a : Addr) (i : Nat) (x : Str), vs = [.ref a] ∧ xNames[i]? = some x ∧ XI H (c i) a ∧ ∀ (l : Addr) (H' : Hp), Same H H' → H l = none → H' l = some (.lst (marksV i)) → Q (.ref l) H'
theorem ok_marks {f : Addr} {fd : FuncData} (F : Fun K "_law_marks" "_law_marks" sMarks f fd) (B : NoNames mg) (T : Twelve P K mg S c) : FnOk P w K mg base CX0 1 f fd ["own"] (spMarks c) := by
  refine F.ok scMarks (fun vs H Q E h => ?_) (fun cdv A outer s H vs Q E hr h => ?_)
  · obtain ⟨a, i, x, rfl, _⟩ := h
    rfl
  · obtain ⟨a, i, x, rfl, hi, xi, k⟩ := h
    refine ⟨_, pss_cons (ps_set (i := 1) scMarks.nd rfl (.inl rfl) (pe_lst (pa_cons (pe_mark (a := a) (j := 0) T rfl hi (pv 0) (by rfl) B.isi (by rfl) (by decide +kernel)) (pa_cons (pe_mark (a := a) (j := 1) T rfl hi (pv 0) (by rfl) B.isi (by rfl) (by decide +kernel))
        (pa_cons (pe_mark (a := a) (j := 2) T rfl hi (pv 0) (by rfl) B.isi (by rfl) (by decide +kernel)) (pa_cons (pe_mark (a := a) (j := 3) T rfl hi (pv 0) (by rfl) B.isi (by rfl) (by decide +kernel)) pa_nil)))))) <|
      pss_cons (ps_set (i := 1) scMarks.nd rfl (.inl rfl) (pe_op op_cat (pv 1) (pe_lst (pa_cons (pe_mark (a := a) (j := 4) T rfl hi (pv 0) (by rfl) B.isi (by rfl) (by decide +kernel)) (pa_cons (pe_mark (a := a) (j := 5) T rfl hi (pv 0) (by rfl) B.isi (by rfl) (by decide +kernel))
        (pa_cons (pe_mark (a := a) (j := 6) T rfl hi (pv 0) (by rfl) B.isi (by rfl) (by decide +kernel)) pa_nil)))))) <|
      pss_cons (ps_set (i := 1) scMarks.nd rfl (.inl rfl) (pe_op op_cat (pv 1) (pe_lst (pa_cons (pe_mark (a := a) (j := 7) T rfl hi (pv 0) (by rfl) B.isi (by rfl) (by decide +kernel)) (pa_cons (pe_mark (a := a) (j := 8) T rfl hi (pv 0) (by rfl) B.isi (by rfl) (by decide +kernel))
        (pa_cons (pe_mark (a := a) (j := 9) T rfl hi (pv 0) (by rfl) B.isi (by rfl) (by decide +kernel)) pa_nil)))))) <|
      pss_one (ps_ret (pe_op op_cat (pv 1) (pe_lst (pa_cons (pe_mark (a := a) (j := 10) T rfl hi (pv 0) (by rfl) B.isi (by rfl) (by decide +kernel)) (pa_cons (pe_mark (a := a) (j := 11) T rfl hi (pv 0) (by rfl) B.isi (by rfl) (by decide +kernel)) pa_nil))))), ?_⟩
    refine ⟨⟨rfl, xi⟩, ⟨rfl, xi⟩, ⟨rfl, xi⟩, ⟨rfl, xi⟩, by show 4 ≤ sizeLine; decide, fun l1 n1 => ?_⟩
    have s1 := same_new (o := .lst [.bl (decide (0 = i)), .bl (decide (1 = i)), .bl (decide (2 = i)), .bl (decide (3 = i))]) n1
    have x1 := xi.same s1
    refine ⟨_, rfl, ⟨rfl, x1⟩, ⟨rfl, x1⟩, ⟨rfl, x1⟩, by show 3 ≤ sizeLine; decide, fun l2 n2 => ?_⟩
    have s2 := s1.trans (same_new (o := .lst [.bl (decide (4 = i)), .bl (decide (5 = i)), .bl (decide (6 = i))]) n2)
    have e1 := (same_new (o := .lst [.bl (decide (4 = i)), .bl (decide (5 = i)), .bl (decide (6 = i))]) n2) _ _ upd_same
    refine ⟨l1, l2, _, _, rfl, rfl, e1, upd_same, by show 4 + 3 ≤ sizeLine; decide, fun l3 n3 => ?_⟩
    have s3 := s2.trans (same_new (o := .lst ([.bl (decide (0 = i)), .bl (decide (1 = i)), .bl (decide (2 = i)), .bl (decide (3 = i))] ++ [.bl (decide (4 = i)), .bl (decide (5 = i)), .bl (decide (6 = i))])) n3)
    have x3 := xi.same s3
    refine ⟨_, rfl, ⟨rfl, x3⟩, ⟨rfl, x3⟩, ⟨rfl, x3⟩, by show 3 ≤ sizeLine; decide, fun l4 n4 => ?_⟩
    have s4 := s3.trans (same_new (o := .lst [.bl (decide (7 = i)), .bl (decide (8 = i)), .bl (decide (9 = i))]) n4)
    have e3 := (same_new (o := .lst [.bl (decide (7 = i)), .bl (decide (8 = i)), .bl (decide (9 = i))]) n4) _ _ upd_same
    refine ⟨l3, l4, _, _, rfl, rfl, e3, upd_same, by show 7 + 3 ≤ sizeLine; decide, fun l5 n5 => ?_⟩
    have s5 := s4.trans (same_new (o := .lst (([.bl (decide (0 = i)), .bl (decide (1 = i)), .bl (decide (2 = i)), .bl (decide (3 = i))] ++ [.bl (decide (4 = i)), .bl (decide (5 = i)), .bl (decide (6 = i))]) ++ [.bl (decide (7 = i)), .bl (decide (8 = i)), .bl (decide (9 = i))])) n5)
    have x5 := xi.same s5
    refine ⟨_, rfl, ⟨rfl, x5⟩, ⟨rfl, x5⟩, by show 2 ≤ sizeLine; decide, fun l6 n6 => ?_⟩
    have s6 := s5.trans (same_new (o := .lst [.bl (decide (10 = i)), .bl (decide (11 = i))]) n6)
    have e5 := (same_new (o := .lst [.bl (decide (10 = i)), .bl (decide (11 = i))]) n6) _ _ upd_same
    refine ⟨l5, l6, _, _, rfl, rfl, e5, upd_same, by show 10 + 2 ≤ sizeLine; decide, fun l7 n7 => ?_⟩
    exact k l7 _ (s6.trans (same_new n7)) (s6.free n7) upd_same
/-- x(own).fld, of the thing in the first slot -/
theorem pe_keptP {X : Cx} {v : V} {C S : Addr} {x fld : Str} {e : Expr} {p1 p2 p3 : Pos} (T : KI X.prog X.K X.mg x fld C S) (hr : Room 1 X.A) (hg : Gl X x) (bs : X.mg "super" = none) (hdb : (x == ("__debug__" : Str)) = false) (he : PE X e (tVar 0))
    (hst : starEach [e] X.env = (false, eval e X.env) :: starEach [] X.env := by rfl) (hb : attributeBase (.Call (.Name x p1) [e] [] p2) fld X.env (eval (.Call (.Name x p1) [e] [] p2) X.env) = eval (.Call (.Name x p1) [e] [] p2) X.env := by rfl) :
    PE X (.Attribute (.Call (.Name x p1) [e] [] p2) fld p3) (fun σ H Q => σ[0]? = some (some v) ∧ ∀ H', Same H H' → Q v H') := by
  obtain ⟨fI, msg, file, F, hf⟩ := T.ini
  refine pe_weak (pe_xmf T.toKC.xf F.nf (pe_xmd T.T F hr hg T.m bs hf T.top he hst hdb) hb) fun σ H Q q => ?_
  exact ⟨v, q.1, fun a H2 _ s xm => ⟨a, v, rfl, xm, q.2 H2 s⟩⟩
/-- x(fld=own).fld -/
theorem pe_keptW {X : Cx} {v : V} {C S : Addr} {x fld : Str} {kws : List Keyword} {p1 p2 p3 : Pos} (T : KI X.prog X.K X.mg x fld C S) (hr : Room 1 X.A) (hg : Gl X x) (bs : X.mg "super" = none) (hdb : (x == ("__debug__" : Str)) = false) (hkw : PK X kws (tCons (tVar 0) tNil))
    (hall : (backToKw p2 (keywordEach kws X.env)).all (·.1.isSome) = true := by rfl) (hks : (backToKw p2 (keywordEach kws X.env)).filterMap (·.1) = [fld] := by rfl)
    (hpl : ((backTo p2 (starEach [] X.env)).any (·.1) || (backToKw p2 (keywordEach kws X.env)).any (·.1.isNone)) = false := by rfl)
    (hb : attributeBase (.Call (.Name x p1) [] kws p2) fld X.env (eval (.Call (.Name x p1) [] kws p2) X.env) = eval (.Call (.Name x p1) [] kws p2) X.env := by rfl) :
    PE X (.Attribute (.Call (.Name x p1) [] kws p2) fld p3) (fun σ H Q => σ[0]? = some (some v) ∧ ∀ H', Same H H' → Q v H') := by
  obtain ⟨fI, msg, file, F, hf⟩ := T.ini
  refine pe_weak (pe_xmf T.toKC.xf F.nf (pe_xmw T.T F hr hg T.m bs hf T.top hkw hall hks hdb hpl) hb) fun σ H Q q => ?_
  exact ⟨v, q.1, v, rfl, fun a H2 _ s xm => ⟨a, v, rfl, xm, q.2 H2 s⟩⟩
def spKept : Sp := fun vs H Q _ => ∃ v : V, vs = [v] ∧ ∀ (l : Addr) (H' : Hp), Same H H' → H l = none → H' l = some (.lst (List.replicate 12 v)) → Q (.ref l) H'
theorem ok_kept {f : Addr} {fd : FuncData} (F : Fun K "_law_kept" "_law_kept" sKept f fd) (bs : mg "super" = none) (T : Twelve P K mg S c) : FnOk P w K mg base CX0 2 f fd ["thing"] spKept := by
  refine F.ok scKept (fun vs H Q E h => ?_) (fun cdv A outer s H vs Q E hr1 h => ?_)
  · obtain ⟨v, rfl, _⟩ := h
    rfl
  · obtain ⟨v, rfl, k⟩ := h
    refine ⟨_, pss_cons (ps_set (i := 1) scKept.nd rfl (.inl rfl) (pe_lst (pa_cons (pe_keptP (v := v) T.i3 hr1 (by rfl) bs (by decide +kernel) (pv 0)) (pa_cons (pe_keptW (v := v) T.i3 hr1 (by rfl) bs (by decide +kernel) (pk_cons (pv 0) pk_nil)) (pa_cons (pe_keptP (v := v) T.i4 hr1 (by rfl) bs (by decide +kernel) (pv 0)) (pa_cons (pe_keptW (v := v) T.i4 hr1 (by rfl) bs (by decide +kernel) (pk_cons (pv 0) pk_nil)) pa_nil)))))) <|
      pss_cons (ps_set (i := 1) scKept.nd rfl (.inl rfl) (pe_op op_cat (pv 1) (pe_lst (pa_cons (pe_keptP (v := v) T.i5 hr1 (by rfl) bs (by decide +kernel) (pv 0)) (pa_cons (pe_keptW (v := v) T.i5 hr1 (by rfl) bs (by decide +kernel) (pk_cons (pv 0) pk_nil)) (pa_cons (pe_keptP (v := v) T.i6 hr1 (by rfl) bs (by decide +kernel) (pv 0)) pa_nil)))))) <|
      pss_cons (ps_set (i := 1) scKept.nd rfl (.inl rfl) (pe_op op_cat (pv 1) (pe_lst (pa_cons (pe_keptW (v := v) T.i6 hr1 (by rfl) bs (by decide +kernel) (pk_cons (pv 0) pk_nil)) (pa_cons (pe_keptP (v := v) T.i10 hr1 (by rfl) bs (by decide +kernel) (pv 0)) (pa_cons (pe_keptW (v := v) T.i10 hr1 (by rfl) bs (by decide +kernel) (pk_cons (pv 0) pk_nil)) pa_nil)))))) <|
      pss_one (ps_ret (pe_op op_cat (pv 1) (pe_lst (pa_cons (pe_keptP (v := v) T.i11 hr1 (by rfl) bs (by decide +kernel) (pv 0)) (pa_cons (pe_keptW (v := v) T.i11 hr1 (by rfl) bs (by decide +kernel) (pk_cons (pv 0) pk_nil)) pa_nil))))), ?_⟩
    refine ⟨rfl, fun A1 t1 => ⟨rfl, fun A2 t2 => ⟨rfl, fun A3 t3 => ⟨rfl, fun A4 t4 => ⟨by show 4 ≤ sizeLine; decide, fun l1 n1 => ?_⟩⟩⟩⟩⟩
    have s1 := (((t1.trans t2).trans t3).trans t4).trans (same_new (o := .lst [v, v, v, v]) n1)
    refine ⟨_, rfl, rfl, fun B1 u1 => ⟨rfl, fun B2 u2 => ⟨rfl, fun B3 u3 => ⟨by show 3 ≤ sizeLine; decide, fun l2 n2 => ?_⟩⟩⟩⟩
    have m2 := ((u1.trans u2).trans u3).trans (same_new (o := .lst [v, v, v]) n2)
    have s2 := s1.trans m2
    refine ⟨l1, l2, _, _, rfl, rfl, m2 _ _ upd_same, upd_same, by show 4 + 3 ≤ sizeLine; decide, fun l3 n3 => ?_⟩
    have s3 := s2.trans (same_new (o := .lst ([v, v, v, v] ++ [v, v, v])) n3)
    refine ⟨_, rfl, rfl, fun B1 u1 => ⟨rfl, fun B2 u2 => ⟨rfl, fun B3 u3 => ⟨by show 3 ≤ sizeLine; decide, fun l4 n4 => ?_⟩⟩⟩⟩
    have m4 := ((u1.trans u2).trans u3).trans (same_new (o := .lst [v, v, v]) n4)
    have s4 := s3.trans m4
    refine ⟨l3, l4, _, _, rfl, rfl, m4 _ _ upd_same, upd_same, by show 7 + 3 ≤ sizeLine; decide, fun l5 n5 => ?_⟩
    have s5 := s4.trans (same_new (o := .lst (([v, v, v, v] ++ [v, v, v]) ++ [v, v, v])) n5)
    refine ⟨_, rfl, rfl, fun B1 u1 => ⟨rfl, fun B2 u2 => ⟨by show 2 ≤ sizeLine; decide, fun l6 n6 => ?_⟩⟩⟩
    have m6 := (u1.trans u2).trans (same_new (o := .lst [v, v]) n6)
    have s6 := s5.trans m6
    refine ⟨l5, l6, _, _, rfl, rfl, m6 _ _ upd_same, upd_same, by show 10 + 2 ≤ sizeLine; decide, fun l7 n7 => ?_⟩
    exact k l7 _ (s6.trans (same_new n7)) (s6.free n7) upd_same
/-- x() -/
theorem pe_bareX {X : Cx} {C S : Addr} {x : Str} {p1 p2 : Pos} (T : KU X.K X.mg x C S) (hg : Gl X x) (hdb : (x == ("__debug__" : Str)) = false) : PE X (.Call (.Name x p1) [] [] p2) (fun σ H Q => ∀ a H', H a = none → Same H H' → XI H' C a → Q (.ref a) H') := by
  refine pe_weak (pe_xmk0 (k := 0) PySem.F.excBase_ValueError T.made T.kC hg T.m hdb) fun σ H Q q a t1 na nt ne => ?_
  have s := (same_new (o := .tup []) nt).trans (same_new (o := xV C t1 none a) (by rw [upd_ne (Ne.symm ne)]; exact na))
  exact q a _ na s ⟨t1, none, upd_same, fun dx z => nomatch z⟩
/-- x(own) -/
theorem pe_newX {X : Cx} {v : V} {C S : Addr} {x fld : Str} {e : Expr} {p1 p2 : Pos} {i : Nat} (T : KI X.prog X.K X.mg x fld C S) (hr : Room 1 X.A) (hg : Gl X x) (bs : X.mg "super" = none) (hdb : (x == ("__debug__" : Str)) = false) (he : PE X e (tVar i))
    (hst : starEach [e] X.env = (false, eval e X.env) :: starEach [] X.env := by rfl) : PE X (.Call (.Name x p1) [e] [] p2) (fun σ H Q => σ[i]? = some (some v) ∧ ∀ a H', H a = none → Same H H' → XM C fld v H' a → Q (.ref a) H') := by
  obtain ⟨fI, msg, file, F, hf⟩ := T.ini
  exact pe_weak (pe_xmd T.T F hr hg T.m bs hf T.top he hst hdb) fun σ H Q q => ⟨v, q.1, q.2⟩
def spClasses (c : Nat → Addr) : Sp := fun vs H Q _ => ∃ v : V, vs = [v] ∧ ∀ (l : Addr) (as : List Addr) (H' : Hp), Same H H' → H l = none → H' l = some (.lst (as.map V.ref)) → as.length = 12 → (∀ i a, as[i]? = some a → XI H' (c i) a) → Q (.ref l) H'
theorem ok_classes {f : Addr} {fd : FuncData} (F : Fun K "_law_classes" "_law_classes" sClasses f fd) (bs : mg "super" = none) (T : Twelve P K mg S c) : FnOk P w K mg base CX0 2 f fd ["thing"] (spClasses c) := by
  refine F.ok scClasses (fun vs H Q E h => ?_) (fun cdv A outer s H vs Q E hr1 h => ?_)
  · obtain ⟨v, rfl, _⟩ := h
    rfl
  · obtain ⟨v, rfl, k⟩ := h
    refine ⟨_, pss_cons (ps_set (i := 1) scClasses.nd rfl (.inl rfl) (pe_lst (pa_cons (pe_bareX T.u0 (by rfl) (by decide +kernel)) (pa_cons (pe_bareX T.u1 (by rfl) (by decide +kernel)) (pa_cons (pe_bareX T.u2 (by rfl) (by decide +kernel)) (pa_cons (pe_newX (v := v) T.i3 hr1 (by rfl) bs (by decide +kernel) (pv 0)) (pa_cons (pe_newX (v := v) T.i4 hr1 (by rfl) bs (by decide +kernel) (pv 0)) (pa_cons (pe_newX (v := v) T.i5 hr1 (by rfl) bs (by decide +kernel) (pv 0)) (pa_cons (pe_newX (v := v) T.i6 hr1 (by rfl) bs (by decide +kernel) (pv 0)) pa_nil))))))))) <|
      pss_one (ps_ret (pe_op op_cat (pv 1) (pe_lst (pa_cons (pe_bareX T.u7 (by rfl) (by decide +kernel)) (pa_cons (pe_bareX T.u8 (by rfl) (by decide +kernel)) (pa_cons (pe_bareX T.u9 (by rfl) (by decide +kernel)) (pa_cons (pe_newX (v := v) T.i10 hr1 (by rfl) bs (by decide +kernel) (pv 0)) (pa_cons (pe_newX (v := v) T.i11 hr1 (by rfl) bs (by decide +kernel) (pv 0)) pa_nil)))))))), ?_⟩
    refine fun a0 A0 _ t0 x0 a1 A1 _ t1 x1 a2 A2 _ t2 x2 => ⟨rfl, fun a3 A3 _ t3 x3 => ⟨rfl, fun a4 A4 _ t4 x4 => ⟨rfl, fun a5 A5 _ t5 x5 => ⟨rfl, fun a6 A6 _ t6 x6 => ⟨by show 7 ≤ sizeLine; decide, fun l1 n1 => ?_⟩⟩⟩⟩⟩
    have tl := same_new (o := .lst [.ref a0, .ref a1, .ref a2, .ref a3, .ref a4, .ref a5, .ref a6]) n1
    have r6 := tl
    have r5 := t6.trans r6
    have r4 := t5.trans r5
    have r3 := t4.trans r4
    have r2 := t3.trans r3
    have r1 := t2.trans r2
    have r0 := t1.trans r1
    have s1 := t0.trans r0
    refine ⟨_, rfl, fun a7 A7 _ t7 x7 a8 A8 _ t8 x8 a9 A9 _ t9 x9 => ⟨rfl, fun aa Aa _ ta xa => ⟨rfl, fun ab Ab _ tb xb => ⟨by show 5 ≤ sizeLine; decide, fun l2 n2 => ?_⟩⟩⟩⟩
    have tm := same_new (o := .lst [.ref a7, .ref a8, .ref a9, .ref aa, .ref ab]) n2
    have qa := tb.trans tm
    have q9 := ta.trans qa
    have q8 := t9.trans q9
    have q7 := t8.trans q8
    have q6 := t7.trans q7
    refine ⟨l1, l2, _, _, rfl, rfl, q6 _ _ upd_same, upd_same, by show 7 + 5 ≤ sizeLine; decide, fun l3 n3 => ?_⟩
    have z := same_new (o := .lst ([.ref a0, .ref a1, .ref a2, .ref a3, .ref a4, .ref a5, .ref a6] ++ [.ref a7, .ref a8, .ref a9, .ref aa, .ref ab])) n3
    have s2 := s1.trans q6
    refine k l3 [a0, a1, a2, a3, a4, a5, a6, a7, a8, a9, aa, ab] _ (s2.trans z) (s2.free n3) upd_same rfl fun i a e => ?_
    rcases i with _ | _ | _ | _ | _ | _ | _ | _ | _ | _ | _ | _ | i
    · cases e; exact x0.same (r0.trans (q6.trans z))
    · cases e; exact x1.same (r1.trans (q6.trans z))
    · cases e; exact x2.same (r2.trans (q6.trans z))
    · cases e; exact x3.xi.same (r3.trans (q6.trans z))
    · cases e; exact x4.xi.same (r4.trans (q6.trans z))
    · cases e; exact x5.xi.same (r5.trans (q6.trans z))
    · cases e; exact x6.xi.same (r6.trans (q6.trans z))
    · cases e; exact x7.same (q7.trans z)
    · cases e; exact x8.same (q8.trans z)
    · cases e; exact x9.same (q9.trans z)
    · cases e; exact xa.xi.same (qa.trans z)
    · cases e; exact xb.xi.same (tm.trans z)
    · simp at e
end
end Sw
namespace Sw
open PySem PySem.Spec PyProof.Rows L2 SX
/-! ### numbers in texts, ends -/
abbrev sNumIn : Stmt := top 33
abbrev sEndsIn : Stmt := top 32
theorem scNumIn : FnScope ["word", "number"] ["word"] (defScope sNumIn) := ⟨rfl, rfl, rfl, by decide +kernel, rfl, by decide +kernel, by decide +kernel⟩
theorem scEndsIn : FnScope ["word", "v", "_", "w"] ["word"] (defScope sEndsIn) := ⟨rfl, rfl, rfl, by decide +kernel, rfl, by decide +kernel, by decide +kernel⟩
/-- the decimal of a number, by signs -/
def figs (i : Nat) : List Nat := (Str.ofString (toString (i : Int))).cps.toList
theorem figs_S (i : Nat) : Str.ofString (toString (i : Int)) = S (figs i) := (S_tl _).symm
/-- the number from 0 to 12 that a text is in decimal -/
def numL (l : List Nat) : Option Nat := (List.range 13).find? fun i => decide (figs i = l)
def numV : Option Nat → V
  | none => .non
  | some i => .int (i : Int)
def numD : Option Nat → D
  | none => .non
  | some i => .int (i : Int)
theorem numL_some {l : List Nat} {i : Nat} (h : numL l = some i) : figs i = l ∧ i ≤ 12 := by
  have h1 := List.find?_some h
  have h2 := List.mem_of_find?_eq_some h
  have h3 := List.mem_range.mp h2
  exact ⟨of_decide_eq_true h1, by omega⟩
theorem figs_inj : ∀ i, i < 13 → ∀ j, j < 13 → figs i = figs j → i = j := by decide +kernel
theorem numL_figs {i : Nat} (h : i ≤ 12) : numL (figs i) = some i := by
  cases e : numL (figs i) with
  | none =>
    have := List.find?_eq_none.mp e i (List.mem_range.mpr (by omega))
    exact absurd (decide_eq_true rfl) this
  | some j =>
    obtain ⟨h1, h2⟩ := numL_some e
    rw [figs_inj j (by omega) i (by omega) h1]
/-- both numbers of a word -/
def endsL (l : List Nat) : Option Nat × Option Nat := match TL.par [62] [] l with
  | some (p, q) => (numL p, numL q)
  | none => (numL l, numL [])
section
variable {P : Program} {w : World} {K : PySem.W.Frag} {mg : Str → Option Value} {base : Heap}
def spNumIn : Sp := fun vs H Q _ => ∃ l : List Nat, vs = [.str (S l)] ∧ Q (numV (numL l)) H
theorem ok_numIn {f : Addr} {fd : FuncData} (F : Fun K "number_in" "number_in" sNumIn f fd) (B : NoNames mg) (t : Tok) (mM : mg "MAX_STOPS" = some (.int 12 t)) : FnOk P w K mg base CX0 1 f fd ["word"] spNumIn := by
  refine F.ok scNumIn (fun vs H Q E h => ?_) (fun cdv A outer s H vs Q E hr h => ?_)
  · obtain ⟨l, rfl, _⟩ := h
    rfl
  · obtain ⟨l, rfl, k⟩ := h
    refine ⟨_, pss_cons (ps_for PassesOwn.never rfl (pi_range1 (by rfl) B.range (pa_cons (pe_op op_add (pe_glob (v := .int 12) rfl mM ⟨_, rfl⟩) pe_int) pa_nil)) (pg_name (i := 1) scNumIn.nd rfl (.inl rfl))
        (pss_one (ps_if (pt_cmpR op_eq (pe_callTy call_str_int (by rfl) B.str (by decide +kernel) (pa_cons (pv 1) pa_nil)) (pv 0) (nomark _)) (pss_one (ps_ret (pv 1))) pss_nil))) <|
      pss_one (ps_ret pe_non), ?_⟩
    refine ⟨_, _, rfl, rfl, 13, rfl, by decide, by decide, for_range (lo := 0) (n := 13) (fun i σ H' => ∃ s1, σ = [some (.str (S l)), s1] ∧ H = H' ∧ ∀ j, j < i → figs j ≠ l)
      ⟨none, rfl, rfl, fun j hj => absurd hj (Nat.not_lt_zero _)⟩ ?_ ?_⟩
    · rintro i σ H' hi ⟨s1, rfl, rfl, no⟩
      rw [Int.zero_add]
      refine ⟨_, rfl, _, rfl, ?_, _, rfl, rfl, _, rfl, ?_⟩
      · rw [Int.natAbs_natCast]
        exact Nat.lt_of_le_of_lt (Nat.log2_le_self i) (by omega)
      have e : (decide (V.str (Str.ofString (toString (i : Int))) = V.str (S l))) = decide (figs i = l) := by
        rw [figs_S]
        by_cases h : figs i = l
        · rw [decide_eq_true h, decide_eq_true (by rw [h])]
        · rw [decide_eq_false h, decide_eq_false (fun z => h (S_inj (V.str.inj z)))]
      rw [e]
      refine ite2 (fun y => ?_) (fun y => ?_)
      · have y : figs i = l := of_decide_eq_true y
        refine ⟨_, rfl, ?_⟩
        rw [← y, numL_figs (by omega)] at k
        exact k
      · refine ⟨_, rfl, rfl, fun j hj => ?_⟩
        by_cases z : j = i
        · rw [z]
          exact fun q => y (decide_eq_true q)
        · exact no j (by omega)
    · rintro σ H' ⟨s1, rfl, rfl, no⟩
      have e : numL l = none := List.find?_eq_none.mpr fun i hi z => no i (List.mem_range.mp hi) (of_decide_eq_true z)
      rw [e] at k
      exact k
def spEndsIn : Sp := fun vs H Q _ => ∃ l : List Nat, vs = [.str (S l)] ∧ l.length ≤ 10000000 ∧ ∀ p H', Same H H' → H' p = some (.tup [numV (endsL l).1, numV (endsL l).2]) → Q (.ref p) H'
theorem ok_endsIn {f : Addr} {fd : FuncData} (F : Fun K "ends_in" "ends_in" sEndsIn f fd) (O : Own P w K mg base 1 "number_in" ["word"] spNumIn) : FnOk P w K mg base CX0 2 f fd ["word"] spEndsIn := by
  obtain ⟨fN, fdN, GN, mN, kN, bN⟩ := O.ex
  refine F.ok scEndsIn (fun vs H Q E h => ?_) (fun cdv A outer s H vs Q E hr h => ?_)
  · obtain ⟨l, rfl, _⟩ := h
    rfl
  · obtain ⟨l, rfl, hl, k⟩ := h
    refine ⟨_, pss_cons (ps_asg (pe_partition (pv 0) pe_str) (pg_tup (by rfl) (pgs_cons (pg_name (i := 1) scEndsIn.nd rfl (.inl rfl)) (pgs_cons (pg_name (i := 2) scEndsIn.nd rfl (.inl rfl)) (pgs_cons (pg_name (i := 3) scEndsIn.nd rfl (.inl rfl)) pgs_nil))))) <|
      pss_one (ps_ret (pe_tup (pa_cons (pe_call GN hr rfl mN kN bN .nil pass0 (pa_cons (pv 1) pa_nil)) (pa_cons (pe_call GN hr rfl mN kN bN .nil pass0 (pa_cons (pv 3) pa_nil)) pa_nil)))), ?_⟩
    obtain ⟨p1, p2, p3, ep, e1, e2⟩ : ∃ p1 p2 p3 : List Nat, Txt.partition (S l) (S [62]) = (S p1, S p2, S p3) ∧ numL p1 = (endsL l).1 ∧ numL p3 = (endsL l).2 := by
      unfold endsL
      cases e : TL.par [62] [] l with
      | none => exact ⟨l, [], [], partition_none (by decide) e, rfl, rfl⟩
      | some x => exact ⟨x.1, [62], x.2, partition_some (by decide) e, rfl, rfl⟩
    refine ⟨_, rfl, ⟨_, rfl⟩, S l, S [62], rfl, rfl, by decide, by rw [S_len, sizeLine_eq]; omega, fun p np => ?_⟩
    rw [ep]
    have s1 : Same H (upd H p (.tup [.str (S p1), .str (S p2), .str (S p3)])) := same_new np
    refine ⟨p, _, rfl, SqT.of upd_same, rfl, _, _, rfl, _, _, rfl, _, _, rfl, rfl, ?_⟩
    refine ⟨_, rfl, p1, rfl, _, rfl, p3, rfl, by show 2 ≤ sizeLine; decide, fun q nq => ?_⟩
    rw [e1, e2]
    exact k q _ (s1.trans (same_new nq)) upd_same
end
end Sw
namespace Sw
open PySem L2
abbrev sPair : Stmt := top 24
theorem scPair : FnScope ["value"] ["value"] (defScope sPair) := ⟨rfl, rfl, rfl, by decide +kernel, rfl, by decide +kernel, by decide +kernel⟩
section
variable {P : Program} {w : World} {K : PySem.W.Frag} {mg : Str → Option Value} {base : Heap}
theorem ok_pair {f : Addr} {fd : FuncData} (F : Fun K "is_pair" "is_pair" sPair f fd) (B : NoNames mg) : FnOk P w K mg base CX0 1 f fd ["value"] (spPair K) := by
  refine F.ok scPair (fun vs H Q E h => ?_) (fun cdv A outer s H vs Q E hr h => ?_)
  · obtain ⟨x, d, as, rfl, _⟩ := h
    rfl
  · obtain ⟨x, d, as, rfl, hd, k⟩ := h
    refine ⟨_, pss_one (ps_ret (pe_and (pe_isi (i := 0) (TN := "tuple") rfl (Or.inl rfl) (by decide) (by decide) B.isi B.tuple rfl rfl (by decide +kernel) (by decide) (by decide))
      (pe_one (pe_cmpR op_eq (pe_callB call_len_seq (by rfl) B.len PySem.boot_len (pa_cons (pv 0) pa_nil)) pe_int (nomark _))))), ?_⟩
    refine ⟨_, rfl, x, d, as, "tuple", rfl, by decide, hd, _, rfl, ?_⟩
    have no : isT "tuple" d = false → isPair d = false := fun e => by cases d <;> simp_all [isT, isPair]
    have yes : isT "tuple" d = true → ∃ ds, d = .tup ds := fun e => by cases d <;> first | exact ⟨_, rfl⟩ | (simp_all [isT])
    cases e : isT "tuple" d with
    | false =>
      refine iteF ?_
      rw [no e] at k
      exact k
    | true =>
      refine iteT ?_
      obtain ⟨ds, rfl⟩ := yes e
      simp only [Rep] at hd
      obtain ⟨a, xs, bs, rfl, ha, ra, na, rfl⟩ := hd
      refine ⟨_, rfl, a, xs, rfl, .inr (SqT.of ha), rfl, ?_⟩
      have hl := ra.len
      have ep : isPair (.tup ds) = decide (V.int (xs.length : Int) = V.int 2) := by
        match ds, hl with
        | [], hl => rw [hl]; rfl
        | [_], hl => rw [hl]; rfl
        | [_, _], hl => rw [hl]; rfl
        | _ :: _ :: _ :: r, hl =>
          rw [hl]
          show false = _
          refine (decide_eq_false fun z => ?_).symm
          have z2 : ((_ : Nat) : Int) = 2 := V.int.inj z
          simp only [List.length_cons] at z2
          omega
      rw [ep] at k
      exact k
end
end Sw
namespace Sw
open PySem L2
/-! ### is_stop -/
abbrev sStop : Stmt := top 28
theorem scStop : FnScope ["n", "value"] ["n", "value"] (defScope sStop) := ⟨rfl, rfl, rfl, by decide +kernel, rfl, by decide +kernel, by decide +kernel⟩
section
variable {P : Program} {w : World} {K : PySem.W.Frag} {mg : Str → Option Value} {base : Heap}
def isStop (n : Int) (d : D) : Bool := isWhole 0 (n - 1) d
def spStop (K : PySem.W.Frag) : Sp := fun vs H Q _ => ∃ (x : V) (d : D) (as : List Addr) (n : Int), vs = [.int n, x] ∧ Rep K H d x as ∧ Q (.bl (isStop n d)) H
theorem ok_stop {f : Addr} {fd : FuncData} (F : Fun K "is_stop" "is_stop" sStop f fd) (O : Own P w K mg base 1 "is_integer_between" ["value", "least", "most"] (spBetween K)) : FnOk P w K mg base CX0 2 f fd ["n", "value"] (spStop K) := by
  obtain ⟨fB, fdB, GB, mB, kB, bB⟩ := O.ex
  refine F.ok scStop (fun vs H Q E h => ?_) (fun cdv A outer s H vs Q E hr h => ?_)
  · obtain ⟨x, d, as, n, rfl, _⟩ := h
    rfl
  · obtain ⟨x, d, as, n, rfl, hd, k⟩ := h
    refine ⟨_, pss_one (ps_ret (pe_call GB hr rfl mB kB bB .nil pass0 (pa_cons (pv 1) (pa_cons pe_int (pa_cons (pe_op op_sub (pv 0) pe_int) pa_nil))))), ?_⟩
    exact ⟨_, rfl, _, rfl, _, _, rfl, rfl, x, d, as, 0, n - 1, rfl, hd, k⟩
end
end Sw
namespace Sw
open PySem PySem.Spec PyProof.Rows L2
abbrev sError : Stmt := top 26
abbrev sForm : Stmt := top 27
abbrev sArrow : Stmt := top 29
theorem scForm : FnScope ["value", "n", "arrows"] ["value"] (defScope sForm) := ⟨rfl, rfl, rfl, by decide +kernel, rfl, by decide +kernel, by decide +kernel⟩
theorem scArrow : FnScope ["n", "value", "v", "w"] ["n", "value"] (defScope sArrow) := ⟨rfl, rfl, rfl, by decide +kernel, rfl, by decide +kernel, by decide +kernel⟩
theorem scError : FnScope ["value", "n", "arrows", "spot", "arrow"] ["value"] (defScope sError) := ⟨rfl, rfl, rfl, by decide +kernel, rfl, by decide +kernel, by decide +kernel⟩
def isArrow (n : Int) : D → Bool
  | .tup [.int v, .int w] => (decide (0 ≤ v) && decide (v ≤ n - 1)) && (decide (0 ≤ w) && decide (w ≤ n - 1)) && !decide (v = w)
  | _ => false
def formOf : D → Option (Int × List D)
  | .tup [.int n, .tup as] => if 1 ≤ n ∧ n ≤ 12 then some (n, as) else none
  | _ => none
def twoInts : D → List Int
  | .tup [.int v, .int w] => [v, w]
  | _ => []
def leL (ns ms : List Int) : Bool := Ob.lexAt (fun j => decide (ns.getD j 0 = ms.getD j 0)) (fun j => decide (ns.getD j 0 ≤ ms.getD j 0)) (decide (ns.length ≤ ms.length)) 0 (min ns.length ms.length)
def BadAt (as : List D) (i : Nat) : Prop := ∃ x y, 0 < i ∧ as[i]? = some x ∧ as[i - 1]? = some y ∧ leL (twoInts x) (twoInts y) = true
inductive IsErr : D → D → Prop
  | form {d : D} (h : formOf d = none) : IsErr d (.str "form")
  | arrow {d x : D} {n : Int} {as : List D} {i : Nat} (h : formOf d = some (n, as)) (hx : as[i]? = some x) (hb : isArrow n x = false) (ha : ∀ (j : Nat) (y : D), j < i → as[j]? = some y → isArrow n y = true) : IsErr d (.tup [.str "arrow", .int i])
  | order {d : D} {n : Int} {as : List D} {i : Nat} (h : formOf d = some (n, as)) (ha : ∀ (j : Nat) (y : D), as[j]? = some y → isArrow n y = true) (hb : BadAt as i) (hl : ∀ j, j < i → ¬ BadAt as j) : IsErr d (.tup [.str "order", .int i])
  | fine {d : D} {n : Int} {as : List D} (h : formOf d = some (n, as)) (ha : ∀ (j : Nat) (y : D), as[j]? = some y → isArrow n y = true) (hl : ∀ j, ¬ BadAt as j) : IsErr d .non
theorem IsErr.det {d r r' : D} (h : IsErr d r) (h' : IsErr d r') : r = r' := by
  cases h with
  | form h =>
    cases h' with
    | form => rfl
    | arrow e => rw [h] at e; cases e
    | order e => rw [h] at e; cases e
    | fine e => rw [h] at e; cases e
  | @arrow x n as i h hx hb ha =>
    cases h' with
    | form e => rw [h] at e; cases e
    | @arrow x' n' as' i' e hx' hb' ha' =>
      rw [h] at e
      cases e
      rcases Nat.lt_trichotomy i i' with l | l | l
      · exact absurd (ha' i x l hx) (by rw [hb]; decide)
      · rw [l]
      · exact absurd (ha i' x' l hx') (by rw [hb']; decide)
    | order e ha' =>
      rw [h] at e
      cases e
      exact absurd (ha' i x hx) (by rw [hb]; decide)
    | fine e ha' =>
      rw [h] at e
      cases e
      exact absurd (ha' i x hx) (by rw [hb]; decide)
  | @order n as i h ha hb hl =>
    cases h' with
    | form e => rw [h] at e; cases e
    | @arrow x' n' as' i' e hx' hb' ha' =>
      rw [h] at e
      cases e
      exact absurd (ha i' x' hx') (by rw [hb']; decide)
    | @order n' as' i' e ha' hb' hl' =>
      rw [h] at e
      cases e
      rcases Nat.lt_trichotomy i i' with l | l | l
      · exact absurd hb (hl' i l)
      · rw [l]
      · exact absurd hb' (hl i' l)
    | fine e ha' hl' =>
      rw [h] at e
      cases e
      exact absurd hb (hl' i)
  | @fine n as h ha hl =>
    cases h' with
    | form e => rw [h] at e; cases e
    | @arrow x' n' as' i' e hx' hb' ha' =>
      rw [h] at e
      cases e
      exact absurd (ha i' x' hx') (by rw [hb']; decide)
    | @order n' as' i' e ha' hb' hl' =>
      rw [h] at e
      cases e
      exact absurd hb' (hl i')
    | fine => rfl
section
variable {P : Program} {w : World} {K : PySem.W.Frag} {mg : Str → Option Value} {base : Heap}
end
section
variable {P : Program} {w : World} {K : PySem.W.Frag} {mg : Str → Option Value} {base : Heap}
def spArrow (K : PySem.W.Frag) : Sp := fun vs H Q _ => ∃ (x : V) (d : D) (as : List Addr) (n : Int), vs = [.int n, x] ∧ Rep K H d x as ∧ Q (.bl (isArrow n d)) H
theorem arrow_pair {n : Int} {d : D} (h : isPair d = false) : isArrow n d = false := by
  cases d with
  | tup ds =>
    match ds, h with
    | [a, b], h => cases h
    | [], _ => rfl
    | [_], _ =>
      unfold isArrow
      split
      · rename_i e; cases e
      · rfl
    | _ :: _ :: _ :: _, _ =>
      unfold isArrow
      split
      · rename_i e; cases e
      · rfl
  | _ => rfl
theorem stop_int {n : Int} {d : D} (h : isStop n d = true) : ∃ i, d = .int i := by
  cases d <;> first | exact ⟨_, rfl⟩ | (cases h)
theorem arrow_two {n : Int} {a b : D} : isArrow n (.tup [a, b]) = true ↔ ∃ v w, a = .int v ∧ b = .int w ∧ isStop n a = true ∧ isStop n b = true ∧ ¬ v = w := by
  constructor
  · intro h
    cases a with
    | int v =>
      cases b with
      | int w =>
        simp only [isArrow, Bool.and_eq_true, Bool.not_eq_true', decide_eq_true_eq, decide_eq_false_iff_not] at h
        exact ⟨v, w, rfl, rfl, by simp [isStop, isWhole, h.1.1.1, h.1.1.2], by simp [isStop, isWhole, h.1.2.1, h.1.2.2], h.2⟩
      | _ => cases h
    | _ => cases h
  · rintro ⟨v, w, rfl, rfl, h1, h2, h3⟩
    simp only [isStop, isWhole, Bool.and_eq_true, decide_eq_true_eq] at h1 h2
    simp [isArrow, h1.1, h1.2, h2.1, h2.2, h3]
theorem ok_arrow {f : Addr} {fd : FuncData} (F : Fun K "is_arrow" "is_arrow" sArrow f fd) (O1 : Own P w K mg base 1 "is_pair" ["value"] (spPair K)) (O2 : Own P w K mg base 2 "is_stop" ["n", "value"] (spStop K)) : FnOk P w K mg base CX0 3 f fd ["n", "value"] (spArrow K) := by
  obtain ⟨fP, fdP, GP, mP, kP, bP⟩ := O1.ex
  obtain ⟨fS, fdS, GS, mS, kS, bS⟩ := O2.ex
  refine F.ok scArrow (fun vs H Q E h => ?_) (fun cdv A outer s H vs Q E hr h => ?_)
  · obtain ⟨x, d, as, n, rfl, _⟩ := h
    rfl
  · obtain ⟨x, d, as, n, rfl, hd, k⟩ := h
    have hr1 : Room 1 _ := hr.mono (by decide)
    refine ⟨_, pss_cons (ps_if (pt_not (pt_val (pe_call GP hr1 rfl mP kP bP .nil pass0 (pa_cons (pv 1) pa_nil)))) (pss_one (ps_ret pe_bl)) pss_nil)
      (pss_cons (ps_asg (pv 1) (pg_tup (by rfl) (pgs_cons (pg_name (i := 2) scArrow.nd rfl (.inl rfl)) (pgs_cons (pg_name (i := 3) scArrow.nd rfl (.inl rfl)) pgs_nil))))
      (pss_one (ps_ret (pe_and (pe_call GS hr rfl mS kS bS .nil pass0 (pa_cons (pv 0) (pa_cons (pv 2) pa_nil))) (pe_and (pe_call GS hr rfl mS kS bS .nil pass0 (pa_cons (pv 0) (pa_cons (pv 3) pa_nil))) (pe_one (pe_cmpR op_ne (pv 2) (pv 3) (nomark _)))))))), ?_⟩
    refine ⟨_, rfl, x, d, as, rfl, hd, _, rfl, ?_⟩
    cases e : isPair d with
    | false =>
      refine iteT ?_
      rw [arrow_pair e] at k
      exact k
    | true =>
      refine iteF ?_
      obtain ⟨a, b, rfl⟩ := two_of e
      simp only [Rep, RepAll] at hd
      obtain ⟨p, xs, bs, rfl, hp, ⟨y, r, b1, c1, rfl, ha, ⟨z, r2, b2, c2, rfl, hb, ⟨rfl, rfl⟩, rfl⟩, rfl⟩, na, rfl⟩ := hd
      refine ⟨_, rfl, p, [y, z], rfl, SqT.of hp, rfl, y, [z], rfl, z, [], rfl, rfl, ?_⟩
      refine ⟨_, rfl, _, rfl, y, a, b1, n, rfl, ha, _, rfl, ?_⟩
      cases e1 : isStop n a with
      | false =>
        refine iteF ?_
        have : isArrow n (.tup [a, b]) = false := Bool.eq_false_iff.mpr fun h => by
          obtain ⟨v, w, _, _, h1, _⟩ := arrow_two.mp h
          rw [e1] at h1
          cases h1
        rw [this] at k
        exact k
      | true =>
        refine iteT ⟨_, rfl, _, rfl, z, b, b2, n, rfl, hb, _, rfl, ?_⟩
        cases e2 : isStop n b with
        | false =>
          refine iteF ?_
          have : isArrow n (.tup [a, b]) = false := Bool.eq_false_iff.mpr fun h => by
            obtain ⟨v, w, _, _, _, h1, _⟩ := arrow_two.mp h
            rw [e2] at h1
            cases h1
          rw [this] at k
          exact k
        | true =>
          obtain ⟨v, rfl⟩ := stop_int e1
          obtain ⟨w', rfl⟩ := stop_int e2
          simp only [Rep] at ha hb
          obtain ⟨rfl, rfl⟩ := ha
          obtain ⟨rfl, rfl⟩ := hb
          refine iteT ⟨_, rfl, _, rfl, rfl, ?_⟩
          have e3 : isArrow n (.tup [.int v, .int w']) = !decide (V.int v = V.int w') := by
            by_cases ev : v = w'
            · subst ev
              rw [decide_eq_true rfl]
              exact Bool.eq_false_iff.mpr fun h => by
                obtain ⟨_, _, e1, e2, _, _, h1⟩ := arrow_two.mp h
                cases e1
                cases e2
                exact h1 rfl
            · rw [decide_eq_false (fun z => ev (V.int.inj z))]
              exact arrow_two.mpr ⟨v, w', rfl, rfl, e1, e2, ev⟩
          rw [e3] at k
          exact k
end
section
variable {P : Program} {w : World} {K : PySem.W.Frag} {mg : Str → Option Value} {base : Heap}
def isForm (d : D) : Bool := (formOf d).isSome
theorem form_two {d : D} (h : isForm d = true) : ∃ n ds, d = .tup [.int n, .tup ds] ∧ formOf d = some (n, ds) ∧ 1 ≤ n ∧ n ≤ 12 := by
  unfold isForm formOf at h
  split at h
  · rename_i n ds
    split at h
    · rename_i hn
      refine ⟨n, ds, rfl, ?_, hn⟩
      simp [formOf, hn]
    · cases h
  · cases h
theorem form_of {d a b : D} (e : d = .tup [a, b]) : isForm d = (isWhole 1 12 a && isT "tuple" b) := by
  subst e
  cases a with
  | int n =>
    cases b with
    | tup ds =>
      by_cases h : 1 ≤ n ∧ n ≤ 12
      · simp [isForm, formOf, isWhole, isT, h]
      · have h2 : (decide (1 ≤ n) && decide (n ≤ 12)) = false := by
          refine Bool.eq_false_iff.mpr fun z => h ?_
          simpa using z
        simp [isForm, formOf, isWhole, isT, h, h2]
    | _ => simp [isForm, formOf, isWhole, isT]
  | _ => simp [isForm, formOf, isWhole, isT]
theorem form_pair {d : D} (h : isPair d = false) : isForm d = false := by
  refine Bool.eq_false_iff.mpr fun z => ?_
  obtain ⟨n, ds, rfl, _⟩ := form_two z
  cases h
def spForm (K : PySem.W.Frag) : Sp := fun vs H Q _ => ∃ (x : V) (d : D) (as : List Addr), vs = [x] ∧ Rep K H d x as ∧ Q (.bl (isForm d)) H
theorem ok_form {f : Addr} {fd : FuncData} (F : Fun K "has_net_form" "has_net_form" sForm f fd) (B : NoNames mg) (t : Tok) (mM : mg "MAX_STOPS" = some (.int 12 t))
    (O1 : Own P w K mg base 1 "is_pair" ["value"] (spPair K)) (O2 : Own P w K mg base 1 "is_integer_between" ["value", "least", "most"] (spBetween K)) : FnOk P w K mg base CX0 2 f fd ["value"] (spForm K) := by
  obtain ⟨fP, fdP, GP, mP, kP, bP⟩ := O1.ex
  obtain ⟨fB, fdB, GB, mB, kB, bB⟩ := O2.ex
  refine F.ok scForm (fun vs H Q E h => ?_) (fun cdv A outer s H vs Q E hr h => ?_)
  · obtain ⟨x, d, as, rfl, _⟩ := h
    rfl
  · obtain ⟨x, d, as, rfl, hd, k⟩ := h
    refine ⟨_, pss_cons (ps_if (pt_not (pt_val (pe_call GP hr rfl mP kP bP .nil pass0 (pa_cons (pv 0) pa_nil)))) (pss_one (ps_ret pe_bl)) pss_nil)
      (pss_cons (ps_asg (pv 0) (pg_tup (by rfl) (pgs_cons (pg_name (i := 1) scForm.nd rfl (.inl rfl)) (pgs_cons (pg_name (i := 2) scForm.nd rfl (.inl rfl)) pgs_nil))))
      (pss_one (ps_ret (pe_and (pe_call GB hr rfl mB kB bB .nil pass0 (pa_cons (pv 1) (pa_cons pe_int (pa_cons (pe_glob (v := .int 12) rfl mM ⟨_, rfl⟩) pa_nil))))
        (pe_one (pe_isi (i := 2) (TN := "tuple") rfl (Or.inl rfl) (by decide) (by decide) B.isi B.tuple rfl rfl (by decide +kernel) (by decide) (by decide))))))), ?_⟩
    refine ⟨_, rfl, x, d, as, rfl, hd, _, rfl, ?_⟩
    cases e : isPair d with
    | false =>
      refine iteT ?_
      rw [form_pair e] at k
      exact k
    | true =>
      refine iteF ?_
      obtain ⟨a, b, rfl⟩ := two_of e
      rw [form_of rfl] at k
      simp only [Rep, RepAll] at hd
      obtain ⟨p, xs, bs, rfl, hp, ⟨y, r, b1, c1, rfl, ha, ⟨z, r2, b2, c2, rfl, hb, ⟨rfl, rfl⟩, rfl⟩, rfl⟩, na, rfl⟩ := hd
      refine ⟨_, rfl, p, [y, z], rfl, SqT.of hp, rfl, y, [z], rfl, z, [], rfl, rfl, ?_⟩
      refine ⟨_, rfl, y, a, b1, 1, 12, rfl, ha, _, rfl, ?_⟩
      cases e1 : isWhole 1 12 a with
      | false =>
        refine iteF ?_
        rw [e1] at k
        exact k
      | true =>
        rw [e1] at k
        exact iteT ⟨_, rfl, z, b, b2, "tuple", rfl, by decide, hb, k⟩
theorem arrow_ints {n : Int} {d : D} (h : isArrow n d = true) : ∃ v w, d = .tup [.int v, .int w] := by
  unfold isArrow at h
  split at h
  · exact ⟨_, _, rfl⟩
  · cases h
theorem rep_two {H : Hp} {v w : Int} {x : V} {as : List Addr} (h : Rep K H (.tup [.int v, .int w]) x as) : ∃ a, x = .ref a ∧ SqT K H a (([v, w] : List Int).map V.int) := by
  simp only [Rep, RepAll] at h
  obtain ⟨p, xs, bs, rfl, hp, ⟨y, r, b1, c1, rfl, ⟨rfl, rfl⟩, ⟨z, r2, b2, c2, rfl, ⟨rfl, rfl⟩, ⟨rfl, rfl⟩, rfl⟩, rfl⟩, na, rfl⟩ := h
  exact ⟨p, rfl, SqT.of hp⟩
def spError (K : PySem.W.Frag) : Sp := fun vs H Q _ => ∃ (x : V) (d : D) (as : List Addr), vs = [x] ∧ Rep K H d x as ∧ wt d ≤ 10000000 ∧ ∀ (r : D) (v : V) (bs : List Addr) (H' : Hp), IsErr d r → Same H H' → Rep K H' r v bs → (∀ b ∈ bs, H b = none) → small r → wt r ≤ 100 → dep r ≤ 1 → Q v H'
theorem ok_error {f : Addr} {fd : FuncData} (F : Fun K "net_error" "net_error" sError f fd) (B : NoNames mg)
    (O1 : Own P w K mg base 2 "has_net_form" ["value"] (spForm K)) (O2 : Own P w K mg base 3 "is_arrow" ["n", "value"] (spArrow K)) : FnOk P w K mg base CX0 4 f fd ["value"] (spError K) := by
  obtain ⟨fF, fdF, GF, mF, kF, bF⟩ := O1.ex
  obtain ⟨fA, fdA, GA, mA, kA, bA⟩ := O2.ex
  refine F.ok scError (fun vs H Q E h => ?_) (fun cdv A outer s H vs Q E hr h => ?_)
  · obtain ⟨x, d, as, rfl, _⟩ := h
    rfl
  · obtain ⟨x, d, as, rfl, hd, hw, k⟩ := h
    have hr2 : Room 2 _ := hr.mono (by decide)
    refine ⟨_, pss_cons (ps_if (pt_not (pt_val (pe_call GF hr2 rfl mF kF bF .nil pass0 (pa_cons (pv 0) pa_nil)))) (pss_one (ps_ret pe_str)) pss_nil)
      (pss_cons (ps_asg (pv 0) (pg_tup (by rfl) (pgs_cons (pg_name (i := 1) scError.nd rfl (.inl rfl)) (pgs_cons (pg_name (i := 2) scError.nd rfl (.inl rfl)) pgs_nil))))
      (pss_cons (ps_for PassesOwn.never rfl (pi_enumT (by rfl) B.enumerate (pa_cons (pv 2) pa_nil)) (pg_tup rfl (pgs_cons (pg_name (i := 3) scError.nd rfl (.inl rfl)) (pgs_cons (pg_name (i := 4) scError.nd rfl (.inl rfl)) pgs_nil)))
        (pss_one (ps_if (pt_not (pt_val (pe_call GA hr rfl mA kA bA .nil pass0 (pa_cons (pv 1) (pa_cons (pv 4) pa_nil))))) (pss_one (ps_ret (pe_tup (pa_cons pe_str (pa_cons (pv 3) pa_nil))))) pss_nil)))
      (pss_cons (ps_for PassesOwn.never rfl (pi_range2 (by rfl) B.range (pa_cons pe_int (pa_cons (pe_callB call_len_seq (by rfl) B.len PySem.boot_len (pa_cons (pv 2) pa_nil)) pa_nil))) (pg_name (i := 3) scError.nd rfl (.inl rfl))
        (pss_one (ps_if (pt_cmpR (op_leT hr.units0) (pe_ix ix_tup (pv 2) (pv 3) (fun _ _ => rfl)) (pe_ix ix_tup (pv 2) (pe_op op_sub (pv 3) pe_int) (fun _ _ => rfl)) (nomark _)) (pss_one (ps_ret (pe_tup (pa_cons pe_str (pa_cons (pv 3) pa_nil))))) pss_nil)))
      (pss_one (ps_ret pe_non))))), ?_⟩
    refine ⟨_, rfl, x, d, as, rfl, hd, _, rfl, ?_⟩
    cases e : isForm d with
    | false =>
      refine iteT ?_
      have hf : formOf d = none := by
        unfold isForm at e
        cases q : formOf d with
        | none => rfl
        | some z => rw [q] at e; cases e
      exact k (.str "form") (.str "form") [] H (.form hf) (Same.refl H) (by simp [Rep]) (fun _ h => absurd h (by simp)) (by simp only [small]) (by simp only [wt]; decide +kernel) (by simp only [dep]; decide)
    | true =>
      refine iteF ?_
      obtain ⟨n, ds, rfl, hf, hn⟩ := form_two e
      simp only [Rep, RepAll] at hd
      obtain ⟨p, xs, bs, rfl, hp, ⟨y, r, b1, c1, rfl, ⟨rfl, rfl⟩, ⟨z, r2, b2, c2, rfl, ⟨a, ys, cs, rfl, ha, hds, na, rfl⟩, ⟨rfl, rfl⟩, rfl⟩, rfl⟩, nap, rfl⟩ := hd
      refine ⟨_, rfl, p, _, rfl, SqT.of hp, rfl, _, _, rfl, _, [], rfl, rfl, ?_⟩
      have hl := hds.len
      have hsz : ys.length ≤ sizeLine := by
        simp only [wt, wtAll] at hw
        have h2 := wt_len ds
        rw [hl, sizeLine_eq]
        omega
      refine ⟨_, rfl, a, ys, rfl, SqT.of ha, for_it walk_te (fun i σ H' => (∃ s3 s4, σ = [some (.ref p), some (.int n), some (.ref a), s3, s4]) ∧ Same H H' ∧ ∀ (j : Nat) (y : D), j < i → ds[j]? = some y → isArrow n y = true)
        ⟨⟨_, _, rfl⟩, Same.refl H, fun j y h => absurd h (Nat.not_lt_zero _)⟩ (fun i σ H' _ h => SqT.of (h.2.1 _ _ ha)) ?_ ?_⟩
      · rintro i x σ H1 H2 hi ⟨⟨s3, s4, rfl⟩, s1, q⟩ ⟨T, x1, x2, rfl, nT, rfl, e1, e2⟩
        obtain rfl : V.int (i : Nat) = x1 := Option.some.inj e1
        refine ⟨T, [.int (i : Nat), x2], rfl, .inl (.inl upd_same), rfl, _, [x2], rfl, x2, [], rfl, rfl, ?_⟩
        have s2 : Same H (upd H1 T (.tup [.int (i : Nat), x2])) := s1.trans (same_new nT)
        obtain ⟨d2, b2, hd2, hr2', _⟩ := hds.at2 e2
        refine ⟨_, rfl, _, rfl, x2, d2, b2, n, rfl, hr2'.same s2, _, rfl, ?_⟩
        cases ea : isArrow n d2 with
        | true =>
          refine iteF ⟨⟨_, _, rfl⟩, s2, fun j y hj hy => ?_⟩
          rcases Nat.lt_succ_iff_lt_or_eq.mp hj with z | z
          · exact q j y z hy
          · subst z
            rw [hd2] at hy
            cases hy
            exact ea
        | false =>
          refine iteT ⟨_, rfl, by show 2 ≤ sizeLine; decide, fun p2 np2 => ?_⟩
          have hp2 : H p2 = none := s2.free np2
          have hlt : i ≤ sizeLine := Nat.le_trans (Nat.le_of_lt hi) hsz
          have hw := int_wt hlt
          refine k (.tup [.str "arrow", .int i]) _ _ _ (.arrow hf hd2 ea q) (s2.trans (same_new np2)) (rep_err np2) (fun b hb => ?_) ?_ ?_ ?_
          · obtain rfl := List.mem_singleton.mp hb
            exact hp2
          · simp only [small, smallAll]
            exact ⟨trivial, hw.2, trivial⟩
          · have : (reprText ("arrow" : Str)).length = 7 := by decide +kernel
            simp only [wt, wtAll, this]
            omega
          · simp only [dep, depAll]
            decide
      · rintro σ H1 ⟨⟨s3, s4, rfl⟩, s1, q⟩
        have qa : ∀ (j : Nat) (y : D), ds[j]? = some y → isArrow n y = true := fun j y hy => q j y (by rw [hl]; exact (List.getElem?_eq_some_iff.mp hy).1) hy
        have e0 : V.int ((ys.length : Nat) : Int) = V.int (ys.length : Int) := rfl
        have small62 : (ys.length : Int) < 2 ^ 62 := by
          rw [sizeLine_eq] at hsz
          omega
        refine ⟨_, rfl, a, ys, rfl, .inr (SqT.of (s1 _ _ ha)), 1, (ys.length : Int), rfl, ⟨by decide, by decide, by omega, small62⟩, for_range (lo := 1) (n := ((ys.length : Int) - 1).toNat)
          (fun i σ H' => (∃ s3 s4, σ = [some (.ref p), some (.int n), some (.ref a), s3, s4]) ∧ Same H H' ∧ ∀ j, j < i + 1 → ¬ BadAt ds j)
          ⟨⟨_, _, rfl⟩, s1, fun j hj hb => ?_⟩ ?_ ?_⟩
        · obtain ⟨_, _, h0, _⟩ := hb
          omega
        · rintro i σ H2 hi ⟨⟨s3, s4, rfl⟩, s2, ql⟩
          have hi1 : i + 1 < ys.length := by omega
          have hi0 : i < ys.length := by omega
          have g1 : ys[i + 1]? = some ys[i + 1] := List.getElem?_eq_getElem hi1
          have g0 : ys[i]? = some ys[i] := List.getElem?_eq_getElem hi0
          obtain ⟨d1, b1, hd1, r1, _⟩ := hds.at2 g1
          obtain ⟨d0, b0, hd0, r0, _⟩ := hds.at2 g0
          obtain ⟨v1, w1, rfl⟩ := arrow_ints (qa _ _ hd1)
          obtain ⟨v0, w0, rfl⟩ := arrow_ints (qa _ _ hd0)
          obtain ⟨a1, ea1, t1⟩ := rep_two (r1.same s2)
          obtain ⟨a0, ea0, t0⟩ := rep_two (r0.same s2)
          refine ⟨_, rfl, _, rfl, a, ys, _, _, rfl, rfl, SqT.of (s2 _ _ ha), at_of (j := i + 1) (by omega) g1, ?_⟩
          refine ⟨_, rfl, _, rfl, _, _, rfl, rfl, a, ys, _, _, rfl, rfl, SqT.of (s2 _ _ ha), at_of (j := i) (by omega) g0, ?_⟩
          refine ⟨a1, a0, [v1, w1], [v0, w0], ea1, ea0, t1, t0, _, rfl, ?_⟩
          refine ite2 (fun z => ?_) (fun z => ?_)
          · refine ⟨_, rfl, by show 2 ≤ sizeLine; decide, fun p2 np2 => ?_⟩
            have hp2 : H p2 = none := s2.free np2
            have ei : (1 : Int) + (i : Int) = ((i + 1 : Nat) : Int) := by omega
            have hw2 := int_wt (i := i + 1) (by omega)
            rw [ei]
            refine k (.tup [.str "order", .int ((i + 1 : Nat) : Int)]) _ _ _ (.order hf qa ⟨_, _, Nat.succ_pos i, hd1, hd0, z⟩ ql) (s2.trans (same_new np2)) (rep_err np2) (fun b hb => ?_) ?_ ?_ ?_
            · obtain rfl := List.mem_singleton.mp hb
              exact hp2
            · simp only [small, smallAll]
              exact ⟨trivial, hw2.2, trivial⟩
            · have : (reprText ("order" : Str)).length = 7 := by decide +kernel
              simp only [wt, wtAll, this]
              omega
            · simp only [dep, depAll]
              decide
          · refine ⟨⟨_, _, rfl⟩, s2, fun j hj hb => ?_⟩
            rcases Nat.lt_succ_iff_lt_or_eq.mp hj with y | y
            · exact ql j y hb
            · subst y
              obtain ⟨x', y', _, h1, h2, h3⟩ := hb
              rw [hd1] at h1
              cases h1
              rw [show i + 1 - 1 = i from rfl, hd0] at h2
              cases h2
              exact z h3
        · rintro σ H2 ⟨⟨s3, s4, rfl⟩, s2, ql⟩
          refine k .non .non [] H2 (.fine hf qa fun j hb => ?_) s2 (by simp [Rep]) (fun _ h => absurd h (by simp)) (by simp only [small]) (by simp only [wt]; decide) (by simp only [dep]; decide)
          obtain ⟨x', y', h0, h1, _⟩ := id hb
          have hj : j < ds.length := (List.getElem?_eq_some_iff.mp h1).1
          exact ql j (by omega) hb
end
end Sw
namespace Sw
open PySem PySem.Spec PyProof.Rows
/-! ### head, *rest = a list -/
section
variable {prog : Program} {w : World} {A : Around} {E : Value → Shared → Prop} {s : Shared}
theorem walk_rest {I l : Addr} {its : Array Value} (hh : A.handled = none) (hne : l ≠ I) (hs : 1 ≤ its.size) :
    WalksS prog w A I [I, l] [I] (fun a b => b = a) (its.size - 1) (fun i v => its[i + 1]? = some v) (fun i s => s.heap.IsListIter I l (i + 1) ∧ s.heap.IsList l its) where
  sub := fun b hb => by rw [List.mem_singleton.mp hb]; exact List.mem_cons_self
  grefl := fun _ => rfl
  gtrans := fun _ _ _ h1 h2 => h2.trans h1
  frame := fun i s h' tk st _ k => by
    obtain ⟨⟨o, ho, r⟩, ⟨o2, ho2, r2⟩⟩ := st
    exact ⟨⟨o, k I (by simp) _ ho, r⟩, ⟨o2, k l (by simp) _ ho2, r2⟩⟩
  item := fun i s Q E hi st hQ => by
    obtain ⟨h1, h2⟩ := st
    refine wpAny_pyNext_list_item h1 h2 (x := its[i + 1]) (by rw [Array.getElem?_eq_getElem (by omega)]) fun h' h3 h4 => ?_
    refine hQ _ _ (by rw [Array.getElem?_eq_getElem (by omega)]) ⟨h3, h2.extBut h4.extBut hne⟩ ⟨fun b o hb e => h4.extBut b o (fun z => hb (by rw [z]; exact List.mem_singleton.mpr rfl)) e, rfl, rfl, rfl, Nat.le_refl _⟩
  done := fun s Q E st hQ => by
    obtain ⟨h1, h2⟩ := st
    refine wpAny_pyNext_list_end hh h1 h2 (by rw [Array.getElem?_eq_none (by omega)]) fun h' h4 => ?_
    exact hQ _ ⟨fun b o hb e => h4 b o (fun z => hb (by rw [z]; exact List.mem_singleton.mpr rfl)) e, rfl, rfl, rfl, Nat.le_refl _⟩
  self := fun i s Q E st hQ => wpAny_pyIter_listiter st.1 hQ
theorem unpack_head {l : Addr} {v : Value} {vs : List Value} {targets : List (Bool × (Value → Sem Unit))} {Q : Unit → Shared → Prop} (hh : A.handled = none) (hl : s.heap.IsList l (v :: vs).toArray) (hz : vs.length ≤ sizeLine)
    (hn : targets.length = 2) (hstar : targets.findIdx? (·.1) = some 1)
    (h : ∀ (h' : Heap) (tk : Nat), (∀ b o, s.heap.get? b = some o → h'.get? b = some o) → wpAny (model prog w) A (assignInOrder (targets.map (·.2)) [v, .ref h'.objs.size]) Q E { s with heap := h'.push { cls := .type "list", data := .seq vs.toArray }, toks := tk }) :
    wpAny (model prog w) A (unpack (.ref l) targets) Q E s := by
  have hlt : l ≠ s.heap.objs.size := by obtain ⟨o, ho, _⟩ := hl; exact Nat.ne_of_lt (Heap.lt_size ho)
  unfold unpack
  rw [hn, hstar]
  refine wpAny_bind (wpAny_holding ?_)
  unfold unpackItems
  refine wpAny_bind ?_
  unfold notIterableAtAll
  refine wpAny_bind (wpAny_specialOf hl.typeIs F.slot_list_iter.lookup ?_)
  refine wpAny_pure ?_
  simp only [Bool.false_eq_true, if_false]
  refine wpAny_bind (wpAny_holding (wpAny_pyIter_list hl ?_))
  have hit0 : (s.heap.push { cls := .type "list_iterator", data := .fields #[.ref l, .int 0 0] }).IsListIter s.heap.objs.size l 0 := ⟨_, Heap.get?_push_size _ rfl, rfl, rfl⟩
  have hl0 := hl.push { cls := .type "list_iterator", data := .fields #[.ref l, .int 0 0] }
  have k0 : ∀ b o, s.heap.get? b = some o → (s.heap.push { cls := .type "list_iterator", data := .fields #[.ref l, .int 0 0] }).get? b = some o := fun b o e => Heap.get?_push_of_some _ e
  have z0 : (s.heap.push { cls := .type "list_iterator", data := .fields #[.ref l, .int 0 0] }).objs.size = s.heap.objs.size + 1 := Heap.size_push ..
  generalize (s.heap.push { cls := .type "list_iterator", data := .fields #[.ref l, .int 0 0] }) = h0 at hit0 hl0 k0 z0 ⊢
  refine wpAny_bind (wpAny_holding ?_)
  show wpAny _ _ (pyNext (.ref s.heap.objs.size) >>= _) _ _ _
  refine wpAny_bind (wpAny_pyNext_list_item hit0 hl0 (x := v) rfl fun h1 hit1 s1 => ?_)
  show wpAny _ _ (holding [v] (pure []) >>= _) _ _ _
  refine wpAny_bind (wpAny_holding (wpAny_pure ?_))
  refine wpAny_pure ?_
  rw [if_neg (by simp)]
  have hl1 := hl0.extBut s1.extBut hlt
  have szs : (v :: vs).toArray.size - 1 = vs.length := by simp
  have W := walk_rest (prog := prog) (w := w) (A := A.in1) (I := s.heap.objs.size) (l := l) (its := (v :: vs).toArray) hh hlt (by simp)
  rw [szs] at W
  have k1 : ∀ b o, s.heap.get? b = some o → h1.get? b = some o := fun b o e => s1.extBut b o (Nat.ne_of_lt (Heap.lt_size e)) (k0 b o e)
  refine wpAny_bind (wpAny_holding (wpAny_collect_iter (.inr (.inr (.inl rfl))) W (fun i s st => st.1.typeIs) ⟨hit1, hl1⟩ (fun b hb => ?_) (by simp) (fun s' acc mv ia => ?_) hz))
  · rcases List.mem_cons.mp hb with z | z
    · rw [z]
      obtain ⟨o, ho, _⟩ := hit1
      exact Heap.lt_size ho
    · rw [List.mem_singleton.mp z]
      obtain ⟨o, ho, _⟩ := hl1
      exact Heap.lt_size ho
  · have ea : acc.toList = vs := by
      refine List.ext_getElem? fun i => ?_
      obtain ⟨i1, i2⟩ := ia
      by_cases hi : i < vs.length
      · have e1 : acc[i]? = some acc[i] := by rw [Array.getElem?_eq_getElem (by omega)]
        have e2 := i2 i _ e1
        rw [Array.getElem?_toList, e1, ← e2]
        simp
      · rw [List.getElem?_eq_none (by rw [Array.length_toList]; omega), List.getElem?_eq_none (by omega)]
    rw [ea]
    rw [if_neg (by simp)]
    have k2 : ∀ b o, s.heap.get? b = some o → s'.heap.get? b = some o := fun b o e => mv.heap b o (fun z => Nat.ne_of_lt (Heap.lt_size e) (List.mem_singleton.mp z)) (k1 b o e)
    obtain ⟨hp, g, dr, tk, os⟩ := s'
    obtain ⟨_, g1, g2, g3, _⟩ := mv
    dsimp only at g1 g2 g3 k2
    subst g1
    subst g2
    subst g3
    refine wpAny_bind (wpAny_newList ?_ (by simpa using hz))
    refine wpAny_pure ?_
    rw [show (2 - 1 - 1 : Nat) = 0 from rfl, Nat.sub_zero, List.drop_length, List.take_length]
    exact h hp tk k2
end
end Sw
namespace Sw
open PySem PySem.Spec PyProof.Rows L2
section
variable {X : Cx} {pos : Pos}
/-- head, *rest = a list of one item or more: rest is a new list -/
def gHead (K : PySem.W.Frag) (t : TGs) : TG := fun v σ H Q => ∃ a x xs, v = .ref a ∧ SqL K H a (x :: xs) ∧ ∀ r, H r = none → t [x, .ref r] σ (upd H r (.lst xs)) Q
theorem pg_head {es : List Expr} {k : Nat} {t : TGs} (hc : X.calm = true) (h : PGs X es t)
    (hn : (assignEach es X.env).length = 2 := by rfl) (hst : (assignEach es X.env).findIdx? (·.1) = some 1 := by rfl) : PG X (.Tuple es k pos) (gHead X.K t) := by
  refine ⟨fun pins s σ H v u Q I r hw => ?_⟩
  obtain ⟨a, x, xs, e1, hq, hw⟩ := hw
  subst e1
  cases r
  obtain ⟨its, rv, hl, hz⟩ := I.list hq
  cases rv with
  | cons rx rr =>
    rw [arm_assign_Tuple]
    refine wpAny_bind (wpAny_standAt (unpack_head (I.ok.hd hc) hl.isList ?_ hn hst fun h' tk kp => ?_))
    · have := rr.length
      rw [List.length_cons] at hz
      omega
    · have I1 : Inv X pins σ H { s with heap := h', toks := tk } := I.kept (t' := tk) kp
      have I2 : Inv X pins σ (upd H h'.objs.size (.lst xs)) { s with heap := h'.push { cls := .type "list", data := .seq _ }, toks := tk } :=
        I1.laid (t' := tk) (fun b o e => Heap.get?_push_of_some _ e) (Nat.le_refl _) (show ObjOk X.prog X.w _ _ _ (.lst xs) from ⟨by rw [List.length_cons] at hz; omega, _, 0, rr, Heap.get?_push_size _ rfl⟩)
      exact h.run pins _ σ _ [x, .ref h'.objs.size] _ Q I2 (.cons rx (.cons (show RelV (.ref _) _ from rfl) .nil)) (hw _ (I1.hok.fresh (Nat.le_refl _)))
/-- (head, *rest) as targets: the starred one is assigned as its name is -/
theorem pgs_star {e : Expr} {p : Pos} {t : TG} (h1 : PG X e t) : PGs X [.Starred e p] (gCons t gNil) := by
  refine ⟨fun pins s σ H vs us Q I r h => ?_⟩
  obtain ⟨v, vr, e1, h⟩ := h
  subst e1
  cases r with
  | cons r rr =>
    show wpAny _ _ (assignInOrder (assign e X.env :: []) _) _ _ _
    refine assignInOrder_cons (thn (h1.run pins s σ H _ _ _ I r h) fun _ s1 ⟨σ1, H1, I1, q1⟩ => ?_)
    obtain ⟨e2, q1⟩ := q1
    subst e2
    cases rr
    exact assignInOrder_nil ⟨σ1, H1, I1, q1⟩
end
end Sw
namespace Sw
open PySem PySem.Spec PyProof.Rows L2 SX
/-! ### texts of nets -/
/-- the decimal of a whole number, by signs -/
def figsI (i : Int) : List Nat := (Str.ofString (toString i)).cps.toList
theorem figsI_S (i : Int) : Str.ofString (toString i) = S (figsI i) := (S_tl _).symm
def arrL (e : Int × Int) : List Nat := [32] ++ figsI e.1 ++ [62] ++ figsI e.2
def textL (n : Int) (ars : List (Int × Int)) : List Nat := figsI n ++ [58] ++ (ars.map arrL).flatten
theorem figs_len : ∀ i, i < 13 → (figs i).length ≤ 2 := by decide +kernel
theorem figsI_len {i : Int} (h : 0 ≤ i) (h2 : i < 13) : (figsI i).length ≤ 2 := by
  obtain ⟨k, rfl⟩ := Int.eq_ofNat_of_zero_le h
  exact figs_len k (by omega)
theorem ends58 (h : List Nat) : Txt.endswith (S h) (S [58]) = decide (h.getLast? = some 58) := by
  unfold Txt.endswith
  rw [StrLaws.subAt_eq, S_len, S_len]
  show (decide (0 + 1 ≤ h.length) && ((h.drop (h.length - 1)).take 1 == [58])) = _
  cases e : h.getLast? with
  | none =>
    have : h = [] := List.getLast?_eq_none_iff.mp e
    subst this
    rfl
  | some x =>
    obtain ⟨l, rfl⟩ := List.getLast?_eq_some_iff.mp e
    rw [List.length_append, List.length_singleton, Nat.add_sub_cancel, List.drop_left']
    · rw [show List.take 1 [x] = [x] from rfl, decide_eq_true (show 0 + 1 ≤ l.length + 1 by omega), Bool.true_and]
      by_cases z : x = 58
      · subst z
        rfl
      · rw [decide_eq_false (fun q => z (Option.some.inj q))]
        simp [z]
    · rfl
theorem cut1 (h : List Nat) : cutS (S h) none (some (-1)) = S h.dropLast := by
  unfold cutS
  show S (((S h).cps.toList.drop 0).take (((-1 : Int) + ((S h).length : Int)).toNat - 0)) = _
  rw [S_len, List.drop_zero, Nat.sub_zero]
  show S (h.take _) = _
  rw [List.dropLast_eq_take]
  congr 2
  omega
theorem joinL_nil : ∀ l : List (List Nat), TL.joinL [] l = l.flatten
  | [] => rfl
  | [p] => by
    show p = _
    simp
  | p :: q :: r => by
    show p ++ ([] ++ TL.joinL [] (q :: r)) = _
    rw [List.nil_append, joinL_nil (q :: r)]
    simp
end Sw
namespace Sw
open PySem PySem.Spec PyProof.Rows L2 SX
/-! ### read_net -/
abbrev sReadNet : Stmt := top 31
theorem scReadNet : FnScope ["value", "head", "words", "word", "net"] ["value"] (defScope sReadNet) := ⟨rfl, rfl, rfl, by decide +kernel, rfl, by decide +kernel, by decide +kernel⟩
def wordD (wd : List Nat) : D := .tup [numD (endsL wd).1, numD (endsL wd).2]
def netData (l : List Nat) : Option D := match TL.spl [32] 0 [] l with
  | [] => none
  | h :: ws => if h.getLast? = some 58 then some (.tup [numD (numL h.dropLast), .tup (ws.map wordD)]) else none
def Good (l : List Nat) (d : D) : Prop := netData l = some d ∧ IsErr d .non
theorem spl_cons : ∀ (l : List Nat) (k : Nat) (acc : List Nat), ∃ h ws, TL.spl [32] k acc l = h :: ws
  | [], k, acc => ⟨acc, [], TL.spl_nil _ _ _⟩
  | c :: r, 0, acc => by
    by_cases z : TL.pre [32] (c :: r) = true
    · rw [TL.spl_hit z]
      exact ⟨_, _, rfl⟩
    · show ∃ h ws, (if TL.pre [32] (c :: r) = true then acc :: TL.spl [32] ([32].length - 1) [] r else TL.spl [32] 0 (acc ++ [c]) r) = h :: ws
      rw [if_neg z]
      exact spl_cons r 0 _
  | c :: r, k + 1, acc => spl_cons r k acc
theorem spl_len (l : List Nat) : (TL.spl [32] 0 [] l).length ≤ l.length + 2 := by
  have := PyProof.Rows.split_le (S l) (S [32])
  rw [split_S (by decide) (by decide), List.length_map, S_len] at this
  exact this
theorem spl_part : ∀ (l : List Nat) (k : Nat) (acc : List Nat), ∀ p ∈ TL.spl [32] k acc l, p.length ≤ acc.length + l.length
  | [], k, acc, p, hp => by
    rw [TL.spl_nil] at hp
    rw [List.mem_singleton.mp hp]
    omega
  | c :: r, 0, acc, p, hp => by
    by_cases z : TL.pre [32] (c :: r) = true
    · rw [TL.spl_hit z] at hp
      rcases List.mem_cons.mp hp with e | e
      · rw [e]; omega
      · have := spl_part r _ _ p e
        rw [List.length_nil] at this
        rw [List.length_cons]
        omega
    · have hp : p ∈ (if TL.pre [32] (c :: r) = true then acc :: TL.spl [32] ([32].length - 1) [] r else TL.spl [32] 0 (acc ++ [c]) r) := hp
      rw [if_neg z] at hp
      have := spl_part r _ _ p hp
      rw [List.length_append, List.length_singleton] at this
      rw [List.length_cons]
      omega
  | c :: r, k + 1, acc, p, hp => by
    have := spl_part r k acc p hp
    rw [List.length_cons]
    omega
theorem num_wt {o : Option Nat} (h : ∀ i, o = some i → i ≤ 12) : small (numD o) ∧ wt (numD o) ≤ 4 ∧ dep (numD o) = 0 := by
  cases o with
  | none => exact ⟨trivial, by simp [numD, wt], by simp [numD, dep]⟩
  | some i =>
    have := h i rfl
    obtain ⟨_, i2, i3, i4⟩ := int_ok (K := default) (H := fun _ => none) (i := (i : Int)) (w := 3) (k := 0) (by omega) (by decide) (by decide)
    exact ⟨i2, i3, by simp [numD, dep]⟩
theorem endsL_le (l : List Nat) : (∀ i, (endsL l).1 = some i → i ≤ 12) ∧ ∀ i, (endsL l).2 = some i → i ≤ 12 := by
  unfold endsL
  split
  · exact ⟨fun i h => (numL_some (l := _) h).2, fun i h => (numL_some (l := _) h).2⟩
  · exact ⟨fun i h => (numL_some (l := l) h).2, fun i h => (numL_some (l := []) h).2⟩
theorem word_wt (wd : List Nat) : small (wordD wd) ∧ wt (wordD wd) ≤ 15 ∧ dep (wordD wd) ≤ 1 := by
  obtain ⟨a, b⟩ := endsL_le wd
  obtain ⟨a1, a2, a3⟩ := num_wt a
  obtain ⟨b1, b2, b3⟩ := num_wt b
  unfold wordD
  refine ⟨?_, ?_, ?_⟩
  · simp only [small, smallAll]
    exact ⟨a1, b1, trivial⟩
  · simp only [wt, wtAll]
    omega
  · simp only [dep, depAll]
    omega
theorem words_wt : ∀ ws : List (List Nat), smallAll (ws.map wordD) ∧ wtAll (ws.map wordD) ≤ ws.length * 17 ∧ depAll (ws.map wordD) ≤ 1
  | [] => ⟨by simp [smallAll], by simp [wtAll], by simp [depAll]⟩
  | wd :: r => by
    obtain ⟨h1, h2, h3⟩ := words_wt r
    obtain ⟨g1, g2, g3⟩ := word_wt wd
    refine ⟨?_, ?_, ?_⟩
    · rw [List.map_cons, smallAll]
      exact ⟨g1, h1⟩
    · rw [List.map_cons, wtAll, List.length_cons]
      omega
    · rw [List.map_cons, depAll]
      omega
section
variable {K : PySem.W.Frag} {H : Hp}
theorem num_rep (o : Option Nat) : Rep K H (numD o) (numV o) [] := by
  cases o <;> simp [numD, numV, Rep]
theorem repAll_nil : RepAll K H [] [] [] := by simp [RepAll]
theorem repAll_cat : ∀ {ds es : List D} {xs ys : List V} {as bs : List Addr}, RepAll K H ds xs as → RepAll K H es ys bs → RepAll K H (ds ++ es) (xs ++ ys) (as ++ bs)
  | [], es, xs, ys, as, bs, h, g => by
    simp only [RepAll] at h
    obtain ⟨rfl, rfl⟩ := h
    exact g
  | d :: ds, es, xs, ys, as, bs, h, g => by
    rw [RepAll] at h
    obtain ⟨x, r, b1, b2, rfl, h1, h2, rfl⟩ := h
    rw [List.cons_append, List.append_assoc]
    show RepAll K H (d :: (ds ++ es)) (x :: (r ++ ys)) _
    rw [RepAll]
    exact ⟨x, r ++ ys, b1, b2 ++ bs, rfl, h1, repAll_cat h2 g, rfl⟩
theorem repAll_one {d : D} {x : V} {as : List Addr} (h : Rep K H d x as) : RepAll K H [d] [x] as := by
  rw [RepAll]
  exact ⟨x, [], as, [], rfl, h, repAll_nil, (List.append_nil _).symm⟩
theorem word_rep {p : Addr} {wd : List Nat} (h : H p = some (.tup [numV (endsL wd).1, numV (endsL wd).2])) : Rep K H (wordD wd) (.ref p) [p] := by
  unfold wordD
  rw [Rep]
  refine ⟨p, _, [], rfl, h, ?_, by simp, rfl⟩
  rw [RepAll]
  exact ⟨_, _, [], [], rfl, num_rep _, repAll_one (num_rep _), rfl⟩
end
section
variable {P : Program} {w : World} {K : PySem.W.Frag} {mg : Str → Option Value} {base : Heap} {C S' : Addr}
def spReadNet (K : PySem.W.Frag) (C : Addr) : Sp := fun vs H Q E => ∃ (x : V) (d : D) (as : List Addr), vs = [x] ∧ Rep K H d x as ∧ (∀ l : List Nat, d = .str (S l) → l.length ≤ 100000) ∧
  ((∀ l dd, d = .str (S l) → ¬ Good l dd) → ∀ H', Same H H' → E (.ref C) none H') ∧
  (∀ l dd, d = .str (S l) → Good l dd → ∀ (q : Addr) (bs : List Addr) (H' : Hp), Same H H' → Rep K H' dd (.ref q) bs → Q (.ref q) H')
theorem ok_readNet {f : Addr} {fd : FuncData} (F : Fun K "read_net" "read_net" sReadNet f fd) (B : NoNames mg) (U : UErr K mg "BadText" "SwapError" C S')
    (ON : Own P w K mg base 1 "number_in" ["word"] spNumIn) (OE : Own P w K mg base 2 "ends_in" ["word"] spEndsIn) (OR : Own P w K mg base 4 "net_error" ["value"] (spError K)) : FnOk P w K mg base (L2.CX P w) 5 f fd ["value"] (spReadNet K C) := by
  obtain ⟨fN, fdN, GN, mN, kN, bN⟩ := ON.ex
  obtain ⟨fE, fdE, GE, mE, kE, bE⟩ := OE.ex
  obtain ⟨fR, fdR, GR, mR, kR, bR⟩ := OR.ex
  refine F.okX scReadNet (fun vs H Q E h => ?_) (fun cdv A outer s H vs Q E hr h => ?_)
  · obtain ⟨x, d, as, rfl, _⟩ := h
    rfl
  · obtain ⟨x, d, as, rfl, hd, hlen, k1, k2⟩ := h
    have hr1 : Room 1 _ := hr.mono (by decide)
    have hr2 : Room 2 _ := hr.mono (by decide)
    have hr4 : Room 4 _ := hr.mono (by decide)
    refine ⟨_, pss_cons (ps_if (pt_not (pt_val (pe_isi (i := 0) (TN := "str") rfl (Or.inl rfl) (by decide) (by decide) B.isi B.str rfl rfl (by decide +kernel) (by decide) (by decide)))) (pss_one (ps_raise rfl (takes_of rfl rfl rfl rfl) (U.mk0 rfl))) pss_nil) <|
      pss_cons (ps_asg (pe_split (pv 0) pe_str) (pg_head (by rfl) (pgs_cons (pg_name (i := 1) scReadNet.nd rfl (.inl rfl)) (pgs_star (pg_name (i := 2) scReadNet.nd rfl (.inl rfl)))))) <|
      pss_cons (ps_if (pt_not (pt_val (pe_m1 PySem.F.slot_str_endswith PySem.F.type_str_endswith mt_endswith (pv 1) pe_str rfl rfl rfl))) (pss_one (ps_raise rfl (takes_of rfl rfl rfl rfl) (U.mk0 rfl))) pss_nil) <|
      pss_cons (ps_set (i := 4) scReadNet.nd rfl (.inl rfl) (pe_tup (pa_cons (pe_call GN hr1 rfl mN kN bN .nil pass0 (pa_cons (pe_slice sl_str (pv 1) po_none (po_some (pe_un un_neg pe_int))) pa_nil))
        (pa_cons (pe_callTy call_tuple_of (by rfl) B.tuple (by decide +kernel) (pa_cons (pe_lc (own := [("word", 3)]) (g := gName 3) (tt := tYes) rfl scReadNet.nd (pi_list (pv 2)) (blkOk_by (own := [("word", 3)]) (N := ["value", "head", "words", "word", "net"]) (sc := defScope sReadNet) (by decide +kernel))
          (fun _ _ _ _ _ => pg_name (i := 3) scReadNet.nd rfl (Or.inl rfl)) (fun _ _ _ _ _ => pts_nil) (fun _ _ _ _ _ => pe_call GE hr2 rfl mE kE bE .nil pass0 (pa_cons (pv 3) pa_nil))) pa_nil)) pa_nil)))) <|
      pss_cons (ps_if (pt_cmpR op_notN (pe_call GR hr4 rfl mR kR bR .nil pass0 (pa_cons (pv 4) pa_nil)) pe_non (nomark _)) (pss_one (ps_raise rfl (takes_of rfl rfl rfl rfl) (U.mk0 rfl))) pss_nil) <|
      pss_one (ps_ret (pv 4)), ?_⟩
    refine ⟨_, rfl, x, d, as, "str", rfl, by decide, hd, _, rfl, ?_⟩
    cases e : isT "str" d with
    | false =>
      refine iteT (k1 (fun l dd z => ?_) H (Same.refl H))
      rw [z] at e
      cases e
    | true =>
      obtain ⟨z, rfl⟩ : ∃ z, d = .str z := by cases d <;> first | exact ⟨_, rfl⟩ | (cases e)
      simp only [Rep] at hd
      obtain ⟨rfl, rfl⟩ := hd
      obtain ⟨l, rfl⟩ : ∃ l, z = S l := ⟨z.cps.toList, (S_tl z).symm⟩
      have ll := hlen l rfl
      clear e hlen
      refine iteF ?_
      obtain ⟨hh, ws, ep⟩ := spl_cons l 0 []
      have le := spl_len l
      rw [ep, List.length_cons] at le
      have lp := spl_part l 0 []
      rw [ep] at lp
      have lh : hh.length ≤ l.length := by
        have := lp hh List.mem_cons_self
        rw [List.length_nil] at this
        omega
      refine ⟨_, rfl, ⟨_, rfl⟩, S l, S [32], rfl, rfl, by decide, by rw [S_len, sizeLine_eq]; omega, fun sp nsp => ?_⟩
      rw [split_S (by decide) (by decide), ep]
      have s1 : Same H (upd H sp (.lst (((hh :: ws).map S).map V.str))) := same_new nsp
      refine ⟨sp, .str (S hh), (ws.map S).map V.str, rfl, SqL.of upd_same, fun wl nwl => ⟨_, _, rfl, _, _, rfl, rfl, ?_⟩⟩
      have s2 := s1.trans (same_new (o := .lst ((ws.map S).map V.str)) nwl)
      have hwl : (upd (upd H sp (.lst (((hh :: ws).map S).map V.str))) wl (.lst ((ws.map S).map V.str))) wl = some (.lst ((ws.map S).map V.str)) := upd_same
      clear s1 nsp nwl
      generalize (upd (upd H sp (.lst (((hh :: ws).map S).map V.str))) wl (.lst ((ws.map S).map V.str))) = H1 at s2 hwl ⊢
      refine ⟨_, rfl, ⟨_, rfl⟩, S hh, S [58], rfl, rfl, _, rfl, ?_⟩
      rw [ends58]
      cases e5 : decide (hh.getLast? = some 58) with
      | false =>
        have ne := of_decide_eq_false e5
        refine iteT ?_
        show E (.ref C) none H1
        refine k1 (fun l' dd z gd => ?_) H1 s2
        obtain rfl := S_inj (D.str.inj z)
        have g1 := gd.1
        unfold netData at g1
        rw [ep] at g1
        dsimp only at g1
        rw [if_neg ne] at g1
        cases g1
      | true =>
        have ye := of_decide_eq_true e5
        refine iteF ?_
        have ed : netData l = some (.tup [numD (numL hh.dropLast), .tup (ws.map wordD)]) := by
          unfold netData
          rw [ep]
          dsimp only
          rw [if_pos ye]
        have dl : hh.dropLast.length ≤ 1000000 := by
          rw [List.length_dropLast]
          omega
        refine ⟨_, rfl, 1, rfl, -1, rfl, S hh, rfl, by rw [S_len, sizeLine_eq]; omega, ?_⟩
        rw [cut1]
        refine ⟨hh.dropLast, rfl, _, rfl, wl, rfl, ⟨_, SqL.of hwl⟩, fun D nD => ?_⟩
        have tk : ∀ {i : Nat} {wd : List Nat}, ws[i]? = some wd → (ws.map wordD).take (i + 1) = (ws.map wordD).take i ++ [wordD wd] := fun {i wd} h => by
          rw [List.take_add_one, List.getElem?_map, h]
          rfl
        refine lc_it (walk_list (xs := (ws.map S).map V.str)) (fun i H' => ∃ (ys : List V) (bs : List Addr), H' D = some (.lst ys) ∧ ys.length = i ∧ Same H1 H' ∧ RepAll K H' ((ws.map wordD).take i) ys bs ∧ D ∉ bs) ⟨[], [], upd_same, rfl, same_new nD, by rw [List.take_zero]; exact repAll_nil, by simp⟩ (fun i H' _ h => by obtain ⟨_, _, _, _, h, _⟩ := h; exact SqL.of (h _ _ hwl)) ?_ ?_
        · rintro i x Hb Ha hi ⟨ys, bs, h1, h2, h3, h4, h5⟩ ⟨rfl, ex⟩
          rw [List.length_map, List.length_map] at hi
          rw [List.getElem?_map, List.getElem?_map, List.getElem?_eq_getElem hi] at ex
          obtain rfl := Option.some.inj ex
          have hw : ws[i]? = some ws[i] := List.getElem?_eq_getElem hi
          have lw := lp ws[i] (List.mem_cons_of_mem _ (List.getElem_mem hi))
          rw [List.length_nil] at lw
          refine ⟨rfl, ?_⟩
          dsimp only [tYes]
          rw [if_pos rfl]
          refine ⟨_, rfl, ws[i], rfl, by omega, fun p H2 s2' hp => ?_⟩
          have hD := s2' _ _ h1
          have dp : D ≠ p := fun z => by
            rw [z, hp] at hD
            cases hD
          refine ⟨ys, hD, ?_, ys ++ [.ref p], bs ++ [p], upd_same, by rw [List.length_append, h2]; rfl, fun c o ec => ?_, ?_, ?_⟩
          · rw [h2, sizeLine_eq]
            omega
          · rw [upd_ne (ne_of_none ec nD)]
            exact s2' _ _ (h3 _ _ ec)
          · rw [tk hw]
            have k0 : ∀ c ∈ bs, ∀ o, Ha c = some o → upd H2 D (.lst (ys ++ [.ref p])) c = some o := fun c hc o ec => by
              rw [upd_ne (fun z => h5 (by rw [← z]; exact hc))]
              exact s2' _ _ ec
            refine repAll_cat (h4.keep k0) (repAll_one (word_rep ?_))
            rw [upd_ne dp.symm]
            exact hp
          · rw [List.mem_append, not_or]
            exact ⟨h5, fun z => dp (List.mem_singleton.mp z)⟩
        rintro Ha ⟨ys, bs, h1, h2, h3, h4, h5⟩
        rw [List.length_map, List.length_map] at h2 h4
        rw [List.take_of_length_le (by rw [List.length_map]; exact Nat.le_refl _)] at h4
        obtain ⟨w1, w2, w3⟩ := words_wt ws
        obtain ⟨m1, m2, m3⟩ := num_wt (o := numL hh.dropLast) fun i h => (numL_some h).2
        refine ⟨D, _, rfl, .inl ⟨SqL.of h1, fun T nT => ?_⟩⟩
        have sT : Same Ha (upd Ha T (.tup ys)) := same_new nT
        have rT : Rep K (upd Ha T (.tup ys)) (.tup (ws.map wordD)) (.ref T) (T :: bs) := by
          rw [Rep]
          exact ⟨T, ys, bs, rfl, upd_same, h4.same sT, nmem h4 nT, rfl⟩
        refine ⟨by show 2 ≤ sizeLine; decide, fun N nN => ?_⟩
        have sN : Same (upd Ha T (.tup ys)) (upd (upd Ha T (.tup ys)) N (.tup [numV (numL hh.dropLast), .ref T])) := same_new nN
        have r2 : RepAll K (upd Ha T (.tup ys)) [numD (numL hh.dropLast), .tup (ws.map wordD)] [numV (numL hh.dropLast), .ref T] ([] ++ (T :: bs)) := repAll_cat (repAll_one (num_rep _)) (repAll_one rT)
        have rN : Rep K (upd (upd Ha T (.tup ys)) N (.tup [numV (numL hh.dropLast), .ref T])) (.tup [numD (numL hh.dropLast), .tup (ws.map wordD)]) (.ref N) (N :: ([] ++ (T :: bs))) := by
          rw [Rep]
          exact ⟨N, _, _, rfl, upd_same, r2.same sN, nmem r2 nN, rfl⟩
        have sA := (s2.trans h3).trans (sT.trans sN)
        generalize (upd (upd Ha T (.tup ys)) N (.tup [numV (numL hh.dropLast), .ref T])) = HN at rN sA ⊢
        generalize edd : (Sw.D.tup [numD (numL hh.dropLast), Sw.D.tup (ws.map wordD)]) = dd at rN ed
        have wdd : wt dd ≤ 10000000 := by
          rw [← edd]
          simp only [wt, wtAll]
          omega
        refine ⟨_, rfl, .ref N, dd, _, rfl, rN, wdd, fun r v bs' H3 er s3 rv _ _ _ _ => ⟨rfl, _, rfl, ?_⟩⟩
        have only : ∀ l' d', Sw.D.str (S l) = .str (S l') → Good l' d' → d' = dd ∧ IsErr dd .non := fun l' d' z gd => by
          obtain rfl := S_inj (Sw.D.str.inj z)
          have := gd.1.symm.trans ed
          have e := Option.some.inj this
          rw [e] at gd
          exact ⟨e, gd.2⟩
        by_cases ez : r = .non
        · subst ez
          simp only [Rep] at rv
          obtain ⟨rfl, _⟩ := rv
          refine iteF ⟨_, rfl, ?_⟩
          exact k2 l dd rfl ⟨ed, er⟩ N _ H3 (sA.trans s3) (rN.same s3)
        · have nv : v ≠ .non := fun z => by
            rw [z] at rv
            cases er with
            | form h => simp [Rep] at rv
            | arrow h hx hb ha => simp [Rep] at rv
            | order h ha hb hl => simp [Rep] at rv
            | fine h ha hl => exact ez rfl
          rw [decide_eq_false nv]
          refine iteT ?_
          show E (.ref C) none H3
          exact k1 (fun l' d' z gd => ez (er.det (only l' d' z gd).2)) H3 (sA.trans s3)
end
end Sw
namespace Sw
/-! ### numbers of rows -/
def fac : Nat → Nat
  | 0 => 1
  | n + 1 => (n + 1) * fac n
theorem fac_pos : ∀ n, 0 < fac n
  | 0 => Nat.one_pos
  | n + 1 => Nat.mul_pos (Nat.succ_pos n) (fac_pos n)
/-- how many things of r are less than x -/
def less (x : Int) (r : List Int) : Nat := (r.filter fun y => decide (y < x)).length
/-- the number of a row, from the left -/
def rkAcc : Nat → List Int → Nat
  | acc, [] => acc
  | acc, x :: r => rkAcc (acc * (r.length + 1) + less x r) r
def rk : List Int → Nat
  | [] => 0
  | x :: r => less x r * fac r.length + rk r
theorem less_le (x : Int) (r : List Int) : less x r ≤ r.length := List.length_filter_le _ _
theorem rkAcc_eq : ∀ (r : List Int) (acc : Nat), rkAcc acc r = acc * fac r.length + rk r
  | [], acc => by simp [rkAcc, rk, fac]
  | x :: r, acc => by
    rw [rkAcc, rkAcc_eq r, rk]
    simp only [List.length_cons, fac]
    rw [Nat.add_mul, Nat.mul_assoc, Nat.add_assoc]
theorem rk_lt : ∀ r : List Int, rk r < fac r.length
  | [] => Nat.one_pos
  | x :: r => by
    have h := rk_lt r
    have h2 := less_le x r
    have h3 : less x r * fac r.length ≤ r.length * fac r.length := Nat.mul_le_mul_right _ h2
    simp only [rk, List.length_cons, fac, Nat.add_mul, Nat.one_mul]
    omega
/-- a row again: so many things of what is left are less -/
def unrk : List Int → Nat → Nat → List Int
  | _, 0, _ => []
  | left, m + 1, num => left.getD (num / fac m) 0 :: unrk (left.eraseIdx (num / fac m)) m (num % fac m)
/-- in an ascending list a thing stands behind just those that are less -/
theorem asc_at : ∀ {left : List Int} {x : Int} {i : Nat}, left.Pairwise (· < ·) → left[i]? = some x → less x left = i
  | [], x, i, _, h => by simp at h
  | y :: l, x, 0, hp, h => by
    obtain rfl : y = x := by simpa using h
    have h1 := (List.pairwise_cons.mp hp).1
    unfold less
    rw [List.filter_cons_of_neg (by simp), List.length_eq_zero_iff]
    refine List.filter_eq_nil_iff.mpr fun z hz => ?_
    have := h1 z hz
    simp only [decide_eq_true_eq]
    omega
  | y :: l, x, i + 1, hp, h => by
    obtain ⟨h1, h2⟩ := List.pairwise_cons.mp hp
    have h3 : l[i]? = some x := by simpa using h
    have := asc_at h2 h3
    have hy := h1 x (List.mem_of_getElem? h3)
    unfold less at this ⊢
    rw [List.filter_cons_of_pos (by simpa using hy), List.length_cons, this]
theorem less_perm {x : Int} {r s : List Int} (h : r.Perm s) : less x r = less x s := (h.filter _).length_eq
theorem less_self (x : Int) (r : List Int) : less x (x :: r) = less x r := by
  unfold less
  rw [List.filter_cons_of_neg (by simp)]
theorem erase_at : ∀ {l : List Int} {x : Int} {i : Nat}, l.Nodup → l[i]? = some x → l.eraseIdx i = l.erase x
  | [], x, i, _, h => by simp at h
  | y :: l, x, 0, hn, h => by
    obtain rfl : y = x := by simpa using h
    simp
  | y :: l, x, i + 1, hn, h => by
    obtain ⟨h1, h2⟩ := List.nodup_cons.mp hn
    have h3 : l[i]? = some x := by simpa using h
    have ne : ¬ y = x := fun z => h1 (z ▸ List.mem_of_getElem? h3)
    rw [List.eraseIdx_cons_succ, List.erase_cons_tail (by simpa using ne), erase_at h2 h3]
theorem asc_nodup {l : List Int} (h : l.Pairwise (· < ·)) : l.Nodup := List.Pairwise.imp (fun {a b} h => by omega) h
theorem unrk_rk : ∀ (row left : List Int), left.Pairwise (· < ·) → row.Perm left → unrk left row.length (rk row) = row
  | [], left, _, _ => rfl
  | x :: r, left, hp, pm => by
    have hx : x ∈ left := pm.mem_iff.mp (by simp)
    obtain ⟨i, hi, e⟩ := List.getElem_of_mem hx
    have ei : left[i]? = some x := by rw [List.getElem?_eq_getElem hi, e]
    have el : less x r = i := by
      rw [← less_self, less_perm pm]
      exact asc_at hp ei
    have hf := fac_pos r.length
    have hlt := rk_lt r
    have d1 : (i * fac r.length + rk r) / fac r.length = i := by
      rw [Nat.mul_comm, Nat.mul_add_div hf, Nat.div_eq_of_lt hlt, Nat.add_zero]
    have d2 : (i * fac r.length + rk r) % fac r.length = rk r := by
      rw [Nat.mul_comm, Nat.mul_add_mod, Nat.mod_eq_of_lt hlt]
    have pe : r.Perm (left.eraseIdx i) := by
      rw [erase_at (asc_nodup hp) ei]
      have := pm.erase x
      rwa [List.erase_cons_head] at this
    have ae : (left.eraseIdx i).Pairwise (· < ·) := hp.sublist (List.eraseIdx_sublist _ _)
    rw [List.length_cons, unrk, rk, el, d1, d2, unrk_rk r _ ae pe, List.getD_eq_getElem?_getD, ei]
    rfl
/-- by the law: what is left is looked through -/
def lawAcc : Nat → List Int → List Int → Nat
  | acc, _, [] => acc
  | acc, left, x :: r => lawAcc (acc * left.length + left.idxOf x) (left.erase x) r
theorem idx_less {left : List Int} {x : Int} (hp : left.Pairwise (· < ·)) (hx : x ∈ left) : left.idxOf x = less x left := by
  have h := List.idxOf_lt_length_iff.mpr hx
  exact (asc_at hp (by rw [List.getElem?_eq_getElem h, List.getElem_idxOf])).symm
theorem lawAcc_eq : ∀ (row left : List Int) (acc : Nat), left.Pairwise (· < ·) → row.Perm left → lawAcc acc left row = rkAcc acc row
  | [], left, acc, _, _ => rfl
  | x :: r, left, acc, hp, pm => by
    have hx : x ∈ left := pm.mem_iff.mp (by simp)
    have pe := pm.erase x
    rw [List.erase_cons_head] at pe
    rw [lawAcc, rkAcc, lawAcc_eq r _ _ (hp.sublist List.erase_sublist) pe, idx_less hp hx, ← less_perm pm, less_self, ← pm.length_eq, List.length_cons]
end Sw
namespace Sw
open PySem L2
/-! ### the numbers below m; whole numbers mixed; as data -/
/-- the numbers below m -/
def rgI (m : Nat) : List Int := (List.range m).map fun i => ((i : Nat) : Int)
theorem rgI_len (m : Nat) : (rgI m).length = m := by rw [rgI, List.length_map, List.length_range]
theorem rgV_rgI (m : Nat) : rgV 0 (m : Int) = (rgI m).map V.int := by
  unfold rgV rgI
  rw [List.map_map, Int.sub_zero, Int.toNat_natCast]
  refine List.map_congr_left fun i _ => ?_
  show V.int (0 + (i : Int)) = V.int (i : Int)
  rw [Int.zero_add]
theorem rgI_asc (m : Nat) : (rgI m).Pairwise (· < ·) := by
  unfold rgI
  refine List.pairwise_map.mpr (List.pairwise_lt_range.imp fun {a b} h => ?_)
  omega
theorem flat_ints (ns : List Int) : (ns.map V.int).all flatV = true := by
  refine List.all_eq_true.mpr fun x hx => ?_
  obtain ⟨n, _, rfl⟩ := List.mem_map.mp hx
  rfl
theorem rgI_mem {m : Nat} {x : Int} (h : x ∈ rgI m) : 0 ≤ x ∧ x < m := by
  obtain ⟨i, hi, rfl⟩ := List.mem_map.mp h
  have := List.mem_range.mp hi
  omega
theorem ints_rep {K : PySem.W.Frag} {H : Hp} : ∀ {os : List Int}, (∀ o ∈ os, 0 ≤ o ∧ o < 14) → RepAll K H (os.map D.int) (os.map V.int) [] ∧ smallAll (os.map D.int) ∧ wtAll (os.map D.int) ≤ os.length * 6 ∧ depAll (os.map D.int) = 0
  | [], _ => ⟨by simp [RepAll], by simp [smallAll], by simp [wtAll], by simp [depAll]⟩
  | o :: r, h => by
    obtain ⟨r1, r2, r3, r4⟩ := ints_rep (K := K) (H := H) (os := r) fun x hx => h x (List.mem_cons_of_mem _ hx)
    obtain ⟨h1, h2⟩ := h o (List.mem_cons_self ..)
    obtain ⟨i1, i2, i3, i4⟩ := int_ok (K := K) (H := H) (i := o) (w := 3) (k := 0) (by omega) (by decide) (by decide)
    refine ⟨?_, ?_, ?_, ?_⟩
    · simp only [List.map_cons, RepAll]
      exact ⟨_, _, [], [], rfl, i1, r1, rfl⟩
    · simp only [List.map_cons, smallAll]
      exact ⟨i2, r2⟩
    · simp only [List.map_cons, wtAll, List.length_cons]
      omega
    · simp only [List.map_cons, depAll]
      omega
end Sw
namespace Sw
open PySem PySem.Spec PyProof.Rows L2
/-! ### math.factorial -/
theorem fac_eq : ∀ n : Nat, Builtin.Math.factorialNat n = fac n
  | 0 => rfl
  | n + 1 => by
    rw [PySem.W.mc_fac_succ, fac_eq n, fac, Nat.mul_comm]
def rFac : List V → Hp → VK → Prop := fun vs H Q => ∃ n : Nat, vs = [.int n] ∧ n ≤ 20000 ∧ Q (.int (fac n : Nat)) H
theorem cr_fac {X : Cx} : CallR X (.builtin "math.factorial") rFac := by
  intro pins s σ H vs us Q I r h
  obtain ⟨n, rfl, hn, q⟩ := h
  obtain ⟨u, rfl, hu⟩ := vals1 r
  obtain ⟨t, rfl⟩ := (show ∃ t, u = Value.int (n : Nat) t from hu)
  refine PySem.W.mc_factorial (Int.natCast_nonneg n) (by omega) fun _ => ?_
  rw [Int.toNat_natCast, fac_eq]
  exact ⟨.int _, H, I.tok _, ⟨_, rfl⟩, q⟩
theorem fac_mono {a b : Nat} (h : a ≤ b) : fac a ≤ fac b := by
  induction h with
  | refl => exact Nat.le_refl _
  | step h ih => exact Nat.le_trans ih (Nat.le_mul_of_pos_left _ (Nat.succ_pos _))
theorem fac_12 : fac 12 = 479001600 := by decide +kernel
theorem fac_13 : fac 13 = 6227020800 := by decide +kernel
theorem rk_bd {r : List Int} (h : r.length ≤ 13) : rk r < 6227020800 := by
  have h1 := rk_lt r
  have h2 := fac_mono h
  rw [fac_13] at h2
  omega
/-- the numbers on the way -/
theorem rkAcc_step {os : List Int} {i : Nat} {x : Int} (h : os[i]? = some x) (acc : Nat) : rkAcc acc (os.drop i) = rkAcc (acc * (os.drop i).length + less x (os.drop i)) (os.drop (i + 1)) := by
  obtain ⟨hi, e⟩ := List.getElem?_eq_some_iff.mp h
  have ed : os.drop i = x :: os.drop (i + 1) := by rw [← e]; exact (List.getElem_cons_drop hi).symm
  rw [ed, rkAcc, less_self, List.length_cons]
theorem rkAcc_le : ∀ (r : List Int) (acc : Nat), acc ≤ rkAcc acc r
  | [], acc => Nat.le_refl _
  | x :: r, acc => by
    refine Nat.le_trans ?_ (rkAcc_le r _)
    exact Nat.le_trans (Nat.le_mul_of_pos_right _ (Nat.succ_pos _)) (Nat.le_add_right _ _)
/-- a standing as it stands -/
structure StandAt (n : Int) (H : Hp) (a b : Addr) (os : List Int) (st : Int) : Prop where
  a : H a = some (.tup [.ref b, .int st])
  b : H b = some (.tup (os.map V.int))
  len : (os.length : Int) = n + 1
  n1 : 1 ≤ n
  n2 : n ≤ 12
theorem StandAt.keep {n st : Int} {H H' : Hp} {a b : Addr} {os : List Int} (S : StandAt n H a b os st) (s : TupS H H') : StandAt n H' a b os st := ⟨s _ _ S.a, s _ _ S.b, S.len, S.n1, S.n2⟩
section
variable {P : Program} {w : World} {K : PySem.W.Frag} {mg : Str → Option Value} {base : Heap}
abbrev sRowAt : Stmt := top 36
theorem scRowAt : FnScope ["many", "number", "left", "row", "spot"] ["many", "number"] (defScope sRowAt) := ⟨rfl, rfl, rfl, by decide +kernel, rfl, by decide +kernel, by decide +kernel⟩
def spRowAt : Sp := fun vs H Q _ => ∃ m num : Nat, vs = [.int m, .int num] ∧ m ≤ 13 ∧ num < fac m ∧ ∀ (a : Addr) (H' : Hp), Same H H' → H' a = some (.tup ((unrk (rgI m) m num).map V.int)) → Q (.ref a) H'
theorem ok_rowAt {f : Addr} {fd : FuncData} (F : Fun K "row_at" "row_at" sRowAt f fd) (B : NoNames mg) (bd : mg "divmod" = none) (mF : mg "factorial" = some (.builtin "math.factorial")) : FnOk P w K mg base CX0 1 f fd ["many", "number"] spRowAt := by
  refine F.ok scRowAt (fun vs H Q E h => ?_) (fun cdv A outer s H vs Q E hr h => ?_)
  · obtain ⟨m, num, rfl, _⟩ := h
    rfl
  · obtain ⟨m, num, rfl, hm, hnum, k⟩ := h
    refine ⟨_, pss_cons (ps_set (i := 2) scRowAt.nd rfl (.inl rfl) (pe_listRg rfl (by rfl) B.list (prg_1 (by rfl) B.range (pv 0)))) <|
      pss_cons (ps_set (i := 3) scRowAt.nd rfl (.inl rfl) (pe_lst pa_nil)) <|
      pss_cons (ps_while PassesOwn.never (pt_truth (pv 2) (by intro _; rfl))
        (pss_cons (ps_asg (pe_callB call_divmod (by rfl) bd (by decide +kernel) (pa_cons (pv 1) (pa_cons (pe_callBfun cr_fac (by rfl) mF (pa_cons (pe_op op_sub (pe_callB call_len_seq (by rfl) B.len PySem.boot_len (pa_cons (pv 2) pa_nil)) pe_int) pa_nil)) pa_nil)))
          (pg_tup (by rfl) (pgs_cons (pg_name (i := 4) scRowAt.nd rfl (.inl rfl)) (pgs_cons (pg_name (i := 1) scRowAt.nd rfl (.inl rfl)) pgs_nil)))) <|
        pss_one (ps_expr (pe_bm PySem.F.plainAttrs_list PySem.F.slot_list_append PySem.F.type_list_append mt_append (pv 3) (pa_cons (pe_bm PySem.F.plainAttrs_list PySem.F.slot_list_pop PySem.F.type_list_pop mt_popAt (pv 2) (pa_cons (pv 4) pa_nil)) pa_nil))))) <|
      pss_one (ps_ret (pe_callTy call_tuple_of (by rfl) B.tuple (by decide +kernel) (pa_cons (pv 3) pa_nil))), ?_⟩
    refine ⟨_, rfl, (m : Int), rfl, RgOk.of_le (by decide) (by omega) (by decide) (by omega), fun l nl => ?_⟩
    rw [rgV_rgI]
    refine ⟨Nat.zero_le _, fun g ng => ?_⟩
    have s1 : Same H (upd H l (.lst ((rgI m).map V.int))) := same_new nl
    have ngl : g ≠ l := fun z => by
      rw [z, upd_same] at ng
      cases ng
    have s2 := s1.trans (same_new (o := .lst []) ng)
    have ng0 : H g = none := s1.free ng
    refine ⟨fun j σ H' => ∃ (ls fs : List Int) (nu : Nat) (s4 : Option V), σ = [some (.int m), some (.int nu), some (.ref l), some (.ref g), s4] ∧ ls.length = j ∧ j ≤ m ∧ Same H H' ∧ H' l = some (.lst (ls.map V.int)) ∧ H' g = some (.lst (fs.map V.int)) ∧ nu < fac ls.length ∧
      fs.length + ls.length = m ∧ fs ++ unrk ls ls.length nu = unrk (rgI m) m num, ⟨m, rgI m, [], num, none, rfl, rgI_len m, Nat.le_refl _, s2, by rw [upd_ne ngl.symm, upd_same], upd_same, by rw [rgI_len]; exact hnum, by rw [rgI_len]; exact Nat.zero_add _, by rw [rgI_len]; rfl⟩, ?_⟩
    rintro j σ H1 ⟨ls, fs, nu, s4, rfl, rfl, hj, s1, h1, h2, hn, hlen, hinv⟩
    refine ⟨_, rfl, _, .inl ⟨_, SqL.of h1, rfl⟩, ?_⟩
    cases ls with
    | nil =>
      refine iteF ?_
      rw [List.length_nil, unrk, List.append_nil] at hinv
      refine ⟨_, rfl, g, _, rfl, .inl ⟨SqL.of h2, fun c nc => ?_⟩⟩
      refine k c _ (s1.trans (same_new nc)) ?_
      rw [upd_same, hinv]
    | cons y0 r0 =>
      refine iteT ?_
      generalize els : y0 :: r0 = ls at *
      have pos : 0 < ls.length := by rw [← els]; exact Nat.succ_pos _
      obtain ⟨d, ed⟩ : ∃ d, ls.length = d + 1 := ⟨ls.length - 1, by omega⟩
      refine ⟨fun σ' H' => ∃ j', j' < ls.length ∧ ∃ (ls fs : List Int) (nu : Nat) (s4 : Option V), σ' = [some (.int m), some (.int nu), some (.ref l), some (.ref g), s4] ∧ ls.length = j' ∧ j' ≤ m ∧ Same H H' ∧ H' l = some (.lst (ls.map V.int)) ∧ H' g = some (.lst (fs.map V.int)) ∧ nu < fac ls.length ∧
        fs.length + ls.length = m ∧ fs ++ unrk ls ls.length nu = unrk (rgI m) m num, fun _ _ h => h, ?_⟩
      have fp := fac_pos d
      have f12 : fac d ≤ 479001600 := by
        rw [← fac_12]
        exact fac_mono (by omega)
      refine ⟨_, rfl, _, rfl, l, _, rfl, .inl (SqL.of h1), _, _, rfl, rfl, d, ?_, by omega, _, _, rfl, ⟨by omega, by omega⟩, fun p np => ?_⟩
      · rw [List.length_map, ed]
        have e1 : ((d + 1 : Nat) : Int) - 1 = (d : Int) := by omega
        exact congrArg (fun z => [V.int z]) e1
      have sp : Same H1 (upd H1 p (.tup [.int ((nu : Int) / (fac d : Nat)), .int ((nu : Int) % (fac d : Nat))])) := same_new np
      have q1 : (nu : Int) / (fac d : Nat) = ((nu / fac d : Nat) : Int) := (Int.natCast_ediv _ _).symm
      have q2 : (nu : Int) % (fac d : Nat) = ((nu % fac d : Nat) : Int) := (Int.natCast_emod _ _).symm
      rw [q1, q2] at sp ⊢
      have h1' := sp _ _ h1
      have h2' := sp _ _ h2
      have s1' := s1.trans sp
      refine ⟨p, _, rfl, SqT.of upd_same, rfl, _, [.int ((nu % fac d : Nat) : Int)], rfl, .int ((nu % fac d : Nat) : Int), [], rfl, rfl, ?_⟩
      generalize (upd H1 p (.tup [.int ((nu / fac d : Nat) : Int), .int ((nu % fac d : Nat) : Int)])) = H2 at sp h1' h2' s1' ⊢
      have lt : nu / fac d < ls.length := by
        rw [Nat.div_lt_iff_lt_mul fp, ed]
        rw [ed, fac] at hn
        exact hn
      have lg : l ≠ g := ngl.symm
      have nn : (0 : Int) ≤ ((nu / fac d : Nat) : Int) := Int.natCast_nonneg _
      have nl2 : ((nu / fac d : Nat) : Int) < (ls.length : Int) := Int.ofNat_lt.mpr lt
      refine ⟨_, rfl, .inl ⟨rfl, _, SqL.of h2'⟩, _, rfl, .inl ⟨rfl, _, SqL.of h1'⟩, _, rfl, l, _, _, nu / fac d, .int (ls[nu / fac d]'lt), rfl, rfl, h1', by omega, by omega, ?_, ?_, ?_⟩
      · exact PySem.seqIndex_of nn (by rw [List.length_map]; exact nl2)
      · rw [List.getElem?_map, List.getElem?_eq_getElem lt]
        rfl
      rw [erase_map]
      refine ⟨g, fs.map V.int, _, rfl, rfl, by rw [upd_ne ngl]; exact h2', by rw [List.length_map, sizeLine_eq]; omega, ?_⟩
      have le : (ls.eraseIdx (nu / fac d)).length = d := by
        rw [List.length_eraseIdx_of_lt lt]
        omega
      refine ⟨d, by rw [ed]; exact Nat.lt_succ_self d, ls.eraseIdx (nu / fac d), fs ++ [ls[nu / fac d]'lt], nu % fac d, _, rfl, le, Nat.le_trans (by rw [ed]; exact Nat.le_succ d) hj, fun b o e => ?_, by rw [upd_ne lg, upd_same], by rw [upd_same, List.map_append]; rfl, by rw [le]; exact Nat.mod_lt _ fp, by rw [le, List.length_append, List.length_singleton]; omega, ?_⟩
      · rw [upd_ne (ne_of_none e ng0), upd_ne (ne_of_none e nl)]
        exact s1' _ _ e
      · rw [ed, unrk, List.getD_eq_getElem?_getD, List.getElem?_eq_getElem lt] at hinv
        rw [le, List.append_assoc, ← hinv]
        rfl
end
end Sw
namespace Sw
open PySem PySem.Spec PyProof.Rows L2
/-! ### standing_at -/
abbrev sStAt : Stmt := top 35
theorem scStAt : FnScope ["n", "value", "number", "stop"] ["n", "value"] (defScope sStAt) := ⟨rfl, rfl, rfl, by decide +kernel, rfl, by decide +kernel, by decide +kernel⟩
section
variable {P : Program} {w : World} {K : PySem.W.Frag} {mg : Str → Option Value} {base : Heap} {C S : Addr}
/-- how many standings of n there are -/
def manyS (n : Int) : Int := n * (fac (n.toNat + 1) : Nat)
/-- the standing with a number -/
def stRow (n num : Int) : List Int := unrk (rgI (n.toNat + 1)) (n.toNat + 1) (num / n).toNat
def spStAt (K : PySem.W.Frag) (C : Addr) : Sp := fun vs H Q E => ∃ (n : Int) (x : V) (d : D) (as : List Addr), vs = [.int n, x] ∧ Rep K H d x as ∧ 1 ≤ n ∧ n ≤ 12 ∧
  (isWhole 0 (manyS n - 1) d = false → ∀ H', Same H H' → E (.ref C) none H') ∧ (∀ num : Int, d = .int num → 0 ≤ num → num < manyS n → ∀ (a b : Addr) (H' : Hp), Same H H' → StandAt n H' a b (stRow n num) (num % n) → Q (.ref a) H')
theorem unrk_len : ∀ (m : Nat) (left : List Int) (num : Nat), (unrk left m num).length = m
  | 0, _, _ => rfl
  | m + 1, left, num => by rw [unrk, List.length_cons, unrk_len m]
theorem many_ok {n num : Int} (n1 : 1 ≤ n) (h0 : 0 ≤ num) (h1 : num < manyS n) : (num / n).toNat < fac (n.toNat + 1) ∧ 0 ≤ num / n := by
  have hq : 0 ≤ num / n := Int.ediv_nonneg h0 (by omega)
  have hl : num / n < (fac (n.toNat + 1) : Nat) := by
    refine Int.ediv_lt_of_lt_mul (by omega) ?_
    unfold manyS at h1
    rw [Int.mul_comm]
    exact h1
  exact ⟨by omega, hq⟩
theorem ok_stAt {f : Addr} {fd : FuncData} (F : Fun K "standing_at" "standing_at" sStAt f fd) (B : NoNames mg) (bd : mg "divmod" = none) (mF : mg "factorial" = some (.builtin "math.factorial")) (U : UErr K mg "Unfit" "SwapError" C S)
    (O1 : Own P w K mg base 1 "is_integer_between" ["value", "least", "most"] (spBetween K)) (O2 : Own P w K mg base 1 "row_at" ["many", "number"] spRowAt) : FnOk P w K mg base (L2.CX P w) 2 f fd ["n", "value"] (spStAt K C) := by
  obtain ⟨fI, fdI, GI, mI, kI, bI⟩ := O1.ex
  obtain ⟨fR, fdR, GR, mR, kR, bR⟩ := O2.ex
  refine F.okX scStAt (fun vs H Q E h => ?_) (fun cdv A outer s H vs Q E hr h => ?_)
  · obtain ⟨n, x, d, as, rfl, _⟩ := h
    rfl
  · obtain ⟨n, x, d, as, rfl, hd, n1, n2, k1, k2⟩ := h
    refine ⟨_, pss_cons (ps_if (pt_not (pt_val (pe_call GI hr rfl mI kI bI .nil pass0 (pa_cons (pv 1) (pa_cons pe_int (pa_cons (pe_op op_sub (pe_op op_mul (pv 0) (pe_callBfun cr_fac (by rfl) mF (pa_cons (pe_op op_add (pv 0) pe_int) pa_nil))) pe_int) pa_nil))))))
        (pss_one (ps_raise rfl (takes_of rfl rfl rfl rfl) (U.mk0 rfl))) pss_nil) <|
      pss_cons (ps_asg (pe_callB call_divmod (by rfl) bd (by decide +kernel) (pa_cons (pv 1) (pa_cons (pv 0) pa_nil)))
        (pg_tup (by rfl) (pgs_cons (pg_name (i := 2) scStAt.nd rfl (.inl rfl)) (pgs_cons (pg_name (i := 3) scStAt.nd rfl (.inl rfl)) pgs_nil)))) <|
      pss_one (ps_ret (pe_tup (pa_cons (pe_call GR hr rfl mR kR bR .nil pass0 (pa_cons (pe_op op_add (pv 0) pe_int) (pa_cons (pv 2) pa_nil))) (pa_cons (pv 3) pa_nil)))), ?_⟩
    have en : ((n.toNat + 1 : Nat) : Int) = n + 1 := by omega
    refine ⟨_, rfl, _, rfl, _, rfl, _, _, rfl, rfl, n.toNat + 1, by rw [en], by omega, _, _, rfl, rfl, .inl ⟨by omega, by omega⟩, _, _, rfl, rfl, x, d, as, 0, manyS n - 1, rfl, hd, _, rfl, ?_⟩
    cases e : isWhole 0 (manyS n - 1) d with
    | false => exact iteT (k1 e H (Same.refl H))
    | true =>
      obtain ⟨num, rfl⟩ : ∃ i, d = .int i := by cases d <;> first | exact ⟨_, rfl⟩ | (cases e)
      simp only [isWhole, Bool.and_eq_true, decide_eq_true_eq] at e
      simp only [Rep] at hd
      obtain ⟨rfl, rfl⟩ := hd
      obtain ⟨m1, m2⟩ := many_ok n1 e.1 (by omega)
      refine iteF ⟨_, rfl, _, rfl, num, n, rfl, ⟨by omega, by omega⟩, fun p np => ?_⟩
      refine ⟨p, _, rfl, SqT.of upd_same, rfl, _, [.int (num % n)], rfl, .int (num % n), [], rfl, rfl, ?_⟩
      have s1 : Same H (upd H p (.tup [.int (num / n), .int (num % n)])) := same_new np
      refine ⟨_, rfl, _, _, rfl, rfl, _, rfl, n.toNat + 1, (num / n).toNat, ?_, by omega, m1, fun b H1 s2 hb => ⟨_, rfl, by show 2 ≤ sizeLine; decide, fun a na => ?_⟩⟩
      · rw [en, Int.toNat_of_nonneg m2]
        rfl
      · have s3 := (s1.trans s2).trans (same_new (o := .tup [.ref b, .int (num % n)]) na)
        refine k2 num rfl e.1 (by omega) a b _ s3 ⟨upd_same, same_new na _ _ hb, ?_, n1, n2⟩
        unfold stRow
        rw [unrk_len]
        omega
end
/-- the number of a standing, and the standing again -/
theorem num_back {n st : Int} {os : List Int} (n1 : 1 ≤ n) (pm : os.Perm (rgI (n.toNat + 1))) (h0 : 0 ≤ st) (h1 : st < n) : 0 ≤ (rk os : Nat) * n + st ∧ (rk os : Nat) * n + st < manyS n ∧ stRow n ((rk os : Nat) * n + st) = os ∧ ((rk os : Nat) * n + st) % n = st := by
  have hl : os.length = n.toNat + 1 := by rw [pm.length_eq, rgI_len]
  have lt := rk_lt os
  rw [hl] at lt
  have e1 : ((rk os : Nat) * n + st) / n = (rk os : Nat) := by
    rw [Int.add_comm, Int.add_mul_ediv_right _ _ (by omega), Int.ediv_eq_zero_of_lt h0 h1, Int.zero_add]
  have e2 : ((rk os : Nat) * n + st) % n = st := by
    rw [Int.add_comm, Int.add_mul_emod_self_right, Int.emod_eq_of_lt h0 h1]
  have p0 : 0 ≤ (rk os : Nat) * n := Int.mul_nonneg (Int.natCast_nonneg _) (by omega)
  refine ⟨by omega, ?_, ?_, e2⟩
  · unfold manyS
    have : ((rk os : Nat) + 1 : Int) * n ≤ (fac (n.toNat + 1) : Nat) * n := Int.mul_le_mul_of_nonneg_right (by omega) (by omega)
    rw [Int.add_mul, Int.one_mul] at this
    rw [Int.mul_comm n]
    omega
  · unfold stRow
    rw [e1, Int.toNat_natCast]
    have := unrk_rk os (rgI (n.toNat + 1)) (rgI_asc _) pm
    rw [hl] at this
    exact this
end Sw
namespace Sw
open PySem PySem.Spec PyProof.Rows L2
/-- a clause: the class that it names, what its suite does -/
abbrev Clause := Value × (Addr → Value → Option Addr → TS)
/-- behind a clause its name is gone -/
def ungone (i : Nat) (D : Ends) : Ends := { nx := fun z Z => D.nx (z.set i none) Z, rt := D.rt, bk := fun z Z => D.bk (z.set i none) Z, ct := fun z Z => D.ct (z.set i none) Z }
/-- what clauses with a name, one after the other, wish of an exception of the body -/
def wNamed (K : PySem.W.Frag) (i : Nat) (out : WX) (D : Ends) : List Clause → WX
  | [] => out
  | (c, ts) :: r => fun cls d z Z => ∃ b, PySem.W.exmOne K cls c = some b ∧ (b = true → ∀ a, Z a = none → ts a cls d (ungone i D) (z.set i (some (.ref a))) Z) ∧ (b = false → wNamed K i out D r cls d z Z)
inductive Clauses (X : Cx) (n : Str) : List ExceptHandler → List Clause → Prop
  | nil : Clauses X n [] []
  | cons {y : Str} {c : Value} {ts : Addr → Value → Option Addr → TS} {st : Stmt} {sts : List Stmt} {p1 p2 : Pos} {hds : List ExceptHandler} {l : List Clause} (nm : Names X y c)
      (suite : ∀ (a : Addr) (ob : Obj) (cls : Value) (d : Option Addr) (pn : List (Addr × Obj)), Zc cls d ob → (∃ fs, ob.data = .fields fs) → PSs (X.suite a ((a, ob) :: pn)) (st :: sts) (ts a cls d)) (r : Clauses X n hds l) :
      Clauses X n (.ExceptHandler (some (.Name y p1)) (some n) (st :: sts) p2 :: hds) ((c, ts) :: l)
section
variable {X : Cx} {n : Str} {i : Nat} {body : List Stmt} {first : ExceptHandler} {hds : List ExceptHandler} {l : List Clause} {pos : Pos} {tb : WX → TS} {out : WX}
theorem ps_try_named (eS : X.stack = X.env :: X.outer) (eF : X.env.frame = some X.env.locals) (nd : X.N.Nodup) (at_ : X.N[i]? = some n) (here : X.env.kindOf n = some .local) (tk : Takes X out)
    (hb : ∀ (W : WX) (pn : List (Addr × Obj)) (xe : Value → Shared → Prop), Takes (X.tr pn xe) W → PassesOwn (model X.prog X.w) X.A X.env xe → PSs (X.tr pn xe) body (tb W))
    (cl : Clauses X n (first :: hds) l) : PS X (.Try body (first :: hds) [] [] pos) (fun D z Z => tb (wNamed X.K i out D l) D z Z) := by
  refine ⟨fun pins s z Z D I q => ?_⟩
  have good := I.ok
  have fr : X.A.frames = some (X.env :: X.outer) := by rw [good.frames, eS]
  have seen : Loc X.env.scope n := .inl here
  refine wpAny_Try_except ?_
  refine wpAny_mono ((hb (wNamed X.K i out D l) (X.pn ++ pins) (fun e sa => wpAny (model X.prog X.w) X.A (noteFrame e X.env) (fun _ sb => wpAny (model X.prog X.w) X.A (setFlight e none) (fun _ sc =>
    wpAny (model X.prog X.w) X.A (handleBy e X.env (first :: hds)) (SP X pins D) X.xe sc) X.xe sb) X.xe sa) (fun _ sy caught => ?_) PassesOwn.looking).run [] s z Z D (I.toTry _) q) (fun f sd ended => ?_) (fun _ _ w => w)
  · obtain ⟨a, B, sI, pins2, z2, Z2, cls, d, rfl, IT, nb, up, sky, na, os, ag, wish⟩ := caught
    have I2 : Inv X pins z2 Z2 sI := IT.ofTry good
    have sky2 : Sky B (X.env :: X.outer) a (Zc cls d) X.env.locals sy.heap := by rw [← eS]; exact sky
    show wpAny _ X.A (noteFrame (.ref a) X.env) _ _ sy
    refine Sky.land Zc.steady fr eF sky2 fun hx fx ux => ?_
    have I3 : Inv X pins z2 Z2 { sy with heap := hx } := I2.landed nb fx.1 (up.trans ux) os ag
    obtain ⟨ob, fs, gx, zx, dx⟩ := fx.there
    have apart : a ∉ frs (X.env :: X.outer) := fun hm => by
      obtain ⟨_, o2, g2, no⟩ := fx.2.2.1.mem hm
      rw [gx] at g2
      cases g2
      exact no _ dx
    have nL : a ≠ X.env.locals := fun w => apart (List.mem_filterMap.mpr ⟨X.env, List.mem_cons_self, by rw [eF, w]⟩)
    have nF : a ∉ X.fs := fun hm => by
      obtain ⟨e, me, w⟩ := List.mem_filterMap.mp hm
      exact apart (List.mem_filterMap.mpr ⟨e, List.mem_cons_of_mem _ me, w⟩)
    have S3 := I3.suite gx dx na nL nF
    have each : ∀ {hs : List ExceptHandler} {cs : List Clause}, Clauses X n hs cs → wNamed X.K i out D cs cls d z2 Z2 → wpAny (model X.prog X.w) X.A (handleBy (.ref a) X.env hs) (SP X pins D) X.xe { sy with heap := hx } := by
      intro hs cs ok
      induction ok with
      | nil =>
        intro w
        refine wpAny_handleBy_nil ?_
        obtain ⟨c1, c2, c3, ob2, fs2, T, oT, ts', g2, zz, d2, f1, hr⟩ := id fx
        unfold PySem.passOn
        refine wpAny_bind (wpAny_field g2 d2 f1 ?_)
        rw [if_neg (show ¬ ((Value.ref T == .none) = true) from Bool.false_ne_true)]
        have fly : wpAny (model X.prog X.w) X.A (setFlight (.ref a) X.env.frame) (fun _ sz => wpAny (model X.prog X.w) X.A (throw (.ref a) : Sem Flow) (SP X pins D) X.xe sz) X.xe { sy with heap := hx } := by
          rw [eF]
          refine HandSPX.setFlight_upZ fx fun hy fy uy => wpAny_throw (tk _ _ ?_)
          exact ⟨a, B, sI, pins, z2, Z2, cls, d, rfl, I2, nb, (up.trans ux).trans uy, .inr (.inr (by rw [eS]; exact fy)), na, os, ag, w⟩
        first
          | exact wpAny_bind fly
          | exact wpAny_bind (wpAny_pure (wpAny_bind fly))
      | @cons y c ts st sts p1 p2 rest cs2 nm suite ok2 ih =>
        intro w
        obtain ⟨b, known, yes, no⟩ := w
        refine wpAny_handleBy_cons (codeAny_handlers_test ?_) (fun w => nomatch w)
        have kind : PySem.W.Looks (model X.prog X.w) hx (typeOf (.ref a)) cls := fun _ _ _ _ st w => wpAny_typeOf_ref (st _ _ gx) (by rw [zx.1]; exact w)
        have takes := PySem.W.exm_one (M := model X.prog X.w) I3.kIn kind known
        have ask : ∀ {Q : Value → Shared → Prop} {E : Value → Shared → Prop}, Q c { sy with heap := hx } → wpAny (model X.prog X.w) (X.A.mark (some (.ref a))) (eval (.Name y p1) X.env) Q E { sy with heap := hx } := fun {Q E} w => by
          obtain ⟨hg, db, m | ⟨m, v, nn⟩⟩ := nm
          · exact ld_glob (X := X.suite a ((a, ob) :: (X.pn ++ pins))) S3 hg m w db
          · exact ld_blt (X := X.suite a ((a, ob) :: (X.pn ++ pins))) S3 hg m v w nn db
        refine ask (takes.here ?_)
        cases b with
        | false => exact ih (no rfl)
        | true =>
          refine codeAny_handlers_suite_as ?_
          refine HandSPX.lands_againZ fx fun hy fy uy => ?_
          have I4 : Inv X pins z2 Z2 { sy with heap := hy } := I2.landed nb fy.1 ((up.trans ux).trans uy) os ag
          obtain ⟨ob4, fs4, g4, z4, d4⟩ := fy.there
          have S4 := I4.suite g4 d4 na nL nF
          refine store_ok (X := X.suite a ((a, ob4) :: (X.pn ++ pins))) (v := .ref a) S4 nd at_ seen rfl (fun s5 S5 => ?_) (.inr here)
          refine wpAny_mono ((suite a ob4 cls d (X.pn ++ pins) z4 ⟨_, d4⟩).run [] s5 _ Z2 _ S5 (yes rfl a na)) (fun f s6 ended => ?_) (fun _ _ w => False.elim w)
          have behind : ∀ {z6 : L2.St} {Z6 : Hp} {Q : Shared → Prop}, Inv (X.suite a ((a, ob4) :: (X.pn ++ pins))) [] z6 Z6 s6 → (∀ s7, Inv X pins (z6.set i none) Z6 s7 → Q s7) →
              wpAny (model X.prog X.w) X.A (do bindName X.env n .none; unbindBehindTheSuite X.env n p2) (fun _ s7 => Q s7) X.xe s6 := fun {z6 Z6 Q} S6 w => gone_ok (S6.unsuite good) nd at_ here w
          cases f with
          | ret u =>
            obtain ⟨v6, z6, Z6, S6, r6, w6⟩ := ended
            exact behind S6 fun s7 I7 => ⟨_, _, _, I7, r6, w6⟩
          | next =>
            obtain ⟨z6, Z6, S6, w6⟩ := ended
            exact behind S6 fun s7 I7 => ⟨_, _, I7, w6⟩
          | brk =>
            obtain ⟨z6, Z6, S6, w6⟩ := ended
            exact behind S6 fun s7 I7 => ⟨_, _, I7, w6⟩
          | cont =>
            obtain ⟨z6, Z6, S6, w6⟩ := ended
            exact behind S6 fun s7 I7 => ⟨_, _, I7, w6⟩
    exact each cl wish
  · cases f with
    | ret u =>
      obtain ⟨v, z2, Z2, IT, r, w⟩ := ended
      exact ⟨v, z2, Z2, IT.ofTry good, r, w⟩
    | next =>
      obtain ⟨z2, Z2, IT, w⟩ := ended
      exact wpAny_execs_nil ⟨z2, Z2, IT.ofTry good, w⟩
    | brk =>
      obtain ⟨z2, Z2, IT, w⟩ := ended
      exact ⟨z2, Z2, IT.ofTry good, w⟩
    | cont =>
      obtain ⟨z2, Z2, IT, w⟩ := ended
      exact ⟨z2, Z2, IT.ofTry good, w⟩
end
end Sw
namespace Sw
open PySem PySem.Spec PyProof.Rows L2 SX
/-! ### texts and numbers that are refused -/
abbrev sRefused : Stmt := top 45
theorem scRefused : FnScope ["value", "is_text", "slip"] ["value", "is_text"] (defScope sRefused) := ⟨rfl, rfl, rfl, by decide +kernel, rfl, by decide +kernel, by decide +kernel⟩
/-- no net at all -/
def noNet : Option D → Bool
  | none => true
  | some d => match formOf d with
    | none => true
    | some (n, as) => as.any fun y => !isArrow n y
theorem not_good {l : List Nat} (h : noNet (netData l) = true) (dd : D) : ¬ Good l dd := by
  rintro ⟨g1, g2⟩
  rw [g1] at h
  cases g2 with
  | @fine n as f ha hl =>
    unfold noNet at h
    dsimp only at h
    rw [f] at h
    dsimp only at h
    obtain ⟨y, hy, e⟩ := List.any_eq_true.mp h
    obtain ⟨j, hj, rfl⟩ := List.getElem_of_mem hy
    rw [ha j _ (List.getElem?_eq_getElem hj)] at e
    cases e
theorem KC.other {K : PySem.W.Frag} {mg : Str → Option Value} {x y : Str} {C C' S S' : Addr} (h : KC K mg x C S) (g : KC K mg y C' S') (s : KS K mg S) (hy : y ≠ "SwapError") (ne : y ≠ x) : PySem.W.exmOne K (.ref C) (.ref C') = some false := by
  refine PySem.W.exm_ref g.ex.hs g.ex.hd g.ty ?_
  have k := h.kit g s hy
  rw [decide_eq_false ne] at k
  obtain ⟨cd, h1, h2, h3⟩ := h.cls
  obtain ⟨cd', g1, g2, g3⟩ := g.cls
  unfold PySem.W.kitOne PySem.W.kitCls at k
  by_cases e : (Value.ref C == Value.ref C') = true
  · rw [if_pos e] at k
    cases k
  · rw [if_neg e] at k
    dsimp only at k
    rw [g1, g.ty, if_pos (by simp)] at k
    exact k
theorem KU.uerr {K : PySem.W.Frag} {mg : Str → Option Value} {x : Str} {C S : Addr} (h : KU K mg x C S) (s : KS K mg S) : UErr K mg x "SwapError" C S := by
  obtain ⟨cd, h1, h2, h3⟩ := h.cls
  exact ⟨h.m, s.m, h.made, h.kC, h.ex.hs, h.ty, by rw [sub_mro h1 h3]; simp, h.ex, h.toKC.kitS s⟩
theorem pss_ifX {X : Cx} {b : List Stmt} {t : TS} {p : Prop} (h : p → PSs X b t) : PSs X b (fun D σ H => p ∧ t D σ H) := ⟨fun pins s σ H D I q => (h q.1).run pins s σ H D I q.2⟩
theorem boot_VE : bootBuiltins "ValueError" = some (.type "ValueError") := by first | boot_by_name | rfl | kernel_rfl
section
variable {P : Program} {w : World} {K : PySem.W.Frag} {mg : Str → Option Value} {base : Heap} {S' : Addr} {c : Nat → Addr}
structure OwnX (P : Program) (w : World) (K : PySem.W.Frag) (mg : Str → Option Value) (base : Heap) (k : Nat) (x : Str) (ps : List Str) (sp : Sp) : Prop where
  ex : ∃ f fd, FnOk P w K mg base (L2.CX P w) k f fd ps sp ∧ mg x = some (.ref f) ∧ PySem.W.keepIn K (.ref f) = true ∧ Binds K fd ps []
def spRefused (K : PySem.W.Frag) : Sp := fun vs H Q _ => ∃ (x : V) (d : D) (as : List Addr) (b : Bool), vs = [x, .bl b] ∧ Rep K H d x as ∧ (∀ l : List Nat, d = .str (S l) → l.length ≤ 100000) ∧ (b = true → ∀ l dd, d = .str (S l) → ¬ Good l dd) ∧ (b = false → isWhole 0 (manyS 2 - 1) d = false) ∧ ∀ H', Same H H' → Q (.bl true) H'
theorem ok_refused {f : Addr} {fd : FuncData} (F : Fun K "_law_is_refused" "_law_is_refused" sRefused f fd) (B : NoNames mg) (bv : mg "ValueError" = none) (T : Twelve P K mg S' c)
    (OR : OwnX P w K mg base 5 "read_net" ["value"] (spReadNet K (c 1))) (OS : OwnX P w K mg base 2 "standing_at" ["n", "value"] (spStAt K (c 0))) : FnOk P w K mg base CX0 6 f fd ["value", "is_text"] (spRefused K) := by
  obtain ⟨fR, fdR, GR, mR, kR, bR⟩ := OR.ex
  obtain ⟨fS, fdS, GS, mS, kS, bS⟩ := OS.ex
  have U0 := T.u0.uerr T.s
  have U1 := T.u1.uerr T.s
  refine F.ok scRefused (fun vs H Q E h => ?_) (fun cdv A outer s H vs Q E hr h => ?_)
  · obtain ⟨x, d, as, b, rfl, _⟩ := h
    rfl
  · obtain ⟨x, d, as, b, rfl, hd, hlen, k1, k2, k⟩ := h
    have hr2 : Room 2 _ := hr.mono (by decide)
    refine ⟨_, pss_one (ps_try_named (i := 2) (out := fun _ _ _ _ => False) rfl rfl scRefused.nd rfl rfl takes0
      (fun W pn xe tk _ => pss_cons (ps_if (pt_val (pv 1)) (pss_one (ps_expr (pe_callS GR hr (by rfl) mR kR bR (fun σ => passAt tk σ) (pa_cons (pv 0) pa_nil)))) (pss_one (ps_expr (pe_callS GS hr2 (by rfl) mS kS bS (fun σ => passAt tk σ) (pa_cons pe_int (pa_cons (pv 0) pa_nil)))))) <|
        pss_one (ps_ret pe_bl))
      (.cons (ts := fun a cls d => _) ⟨rfl, by decide, .inl U1.mx⟩ (fun a oe cls d pn hz hf => pss_ifX (p := cls = .ref (c 1) ∧ d = none) fun pq => by
          obtain ⟨rfl, rfl⟩ := pq
          exact pss_one (ps_ret (pe_and (pv 1) (pe_and (pe_callB (call_isE U1.ex hz hf) (by rfl) B.isi (by decide +kernel) (pa_cons (pv 2) (pa_cons (pe_glob (v := .ref S') rfl U1.my rfl) pa_nil)))
            (pe_one (pe_callB (call_isE U1.ex hz hf) (by rfl) B.isi (by decide +kernel) (pa_cons (pv 2) (pa_cons (pe_bltn (v := .ty "ValueError") rfl bv boot_VE rfl) pa_nil)))))))) <|
        .cons (ts := fun a cls d => _) ⟨rfl, by decide, .inl U0.mx⟩ (fun a oe cls d pn hz hf => pss_ifX (p := cls = .ref (c 0) ∧ d = none) fun pq => by
          obtain ⟨rfl, rfl⟩ := pq
          exact pss_one (ps_ret (pe_and (pe_not (pv 1)) (pe_and (pe_callB (call_isE U0.ex hz hf) (by rfl) B.isi (by decide +kernel) (pa_cons (pv 2) (pa_cons (pe_glob (v := .ref S') rfl U0.my rfl) pa_nil)))
            (pe_one (pe_callB (call_isE U0.ex hz hf) (by rfl) B.isi (by decide +kernel) (pa_cons (pv 2) (pa_cons (pe_bltn (v := .ty "ValueError") rfl bv boot_VE rfl) pa_nil)))))))) .nil)), ?_⟩
    have ne01 : ("BadText" : Str) ≠ "Unfit" := by decide +kernel
    refine ⟨_, rfl, b, rfl, ?_⟩
    cases b with
    | true =>
      refine iteT ⟨_, rfl, x, d, as, rfl, hd, hlen, fun _ H' s1 => ?_, fun l dd e g => absurd g (k1 rfl l dd e)⟩
      refine ⟨true, U1.takes, fun _ a na => ⟨⟨rfl, rfl⟩, ?_⟩, fun q => nomatch q⟩
      refine ⟨_, rfl, true, rfl, iteT ⟨_, rfl, .ref S', .ref S', true, rfl, fun u r => r, U1.sub, true, rfl, iteT ⟨_, rfl, .ty "ValueError", .type "ValueError", true, rfl, fun u r => r, T.u1.toKC.kitV, ?_⟩⟩⟩
      exact k H' s1
    | false =>
      refine iteF ⟨_, rfl, 2, x, d, as, rfl, hd, by decide, by decide, fun _ H' s1 => ?_, fun num e m0 m1 => ?_⟩
      · refine ⟨false, T.u0.toKC.other T.u1.toKC T.s (by decide +kernel) ne01, (fun q => nomatch q), fun _ => ?_⟩
        refine ⟨true, U0.takes, fun _ a na => ⟨⟨rfl, rfl⟩, ?_⟩, fun q => nomatch q⟩
        refine ⟨_, rfl, false, rfl, true, rfl, iteT ⟨_, rfl, .ref S', .ref S', true, rfl, fun u r => r, U0.sub, true, rfl, iteT ⟨_, rfl, .ty "ValueError", .type "ValueError", true, rfl, fun u r => r, T.u0.toKC.kitV, ?_⟩⟩⟩
        exact k H' s1
      · have z := k2 rfl
        rw [e] at z
        simp only [isWhole, Bool.and_eq_false_iff, decide_eq_false_iff_not] at z
        omega
end
end Sw
namespace Sw
open PySem PySem.Spec PyProof.Rows L2
/-- xs != [], xs a list of whatever -/
def rNeNil (K : PySem.W.Frag) : R2 := fun x y H Q => ∃ a b xs, x = .ref a ∧ y = .ref b ∧ SqL K H a xs ∧ SqL K H b [] ∧ Q (.bl (!xs.isEmpty)) H
theorem op_neNil {X : Cx} (hu : X.A.units < cLine) : OpR X (compareOp .NotEq) (rNeNil X.K) := by
  intro pins s σ H x y v u Q I rx ry h
  obtain ⟨a, b, xs, rfl, rfl, ha, hb, q⟩ := h
  cases rx
  cases ry
  obtain ⟨its, r1, p1, _⟩ := I.list ha
  obtain ⟨it2, r2, p2, _⟩ := I.list hb
  cases r2
  cases r1 with
  | nil => exact SeqAt.RcNeAt.lists (e := fun _ => true) p1.isList p2.isList rfl hu (fun j h1 _ => absurd h1 (by simp)) _ _ _ _ ⟨.bl false, H, I, rfl, q⟩
  | cons r t => exact SeqAt.RcNeAt.lists_lengths p1.isList p2.isList (by simp) hu _ _ _ _ ⟨.bl true, H, I, rfl, q⟩
end Sw
namespace Sw
open PySem PySem.Spec PyProof.Rows L2
/-! ### the law of errors and bounds: one turn -/
abbrev sLawZ : Stmt := top 46
abbrev nLawZ : List Str := ["script", "deck", "turn", "thing", "other", "shown", "spot", "own", "two", "value", "seen", "place"]
theorem scLawZ : FnScope nLawZ ["script"] (defScope sLawZ) := ⟨rfl, rfl, rfl, by decide +kernel, rfl, by decide +kernel, by decide +kernel⟩
/-- the body of a loop -/
def loopBody : Stmt → List Stmt
  | .For _ _ b _ _ => b
  | _ => []
def stZ (i : Nat) : Stmt := (defBody sLawZ).getD i (.Pass ⟨0, 0, 0, 0⟩)
def tbZ (i : Nat) : Stmt := (loopBody (stZ 1)).getD i (.Pass ⟨0, 0, 0, 0⟩)
structure IxZ where
  sa : Addr
  p : Addr
  d : Addr
  t : Int
/-- two things, drawn -/
structure BT (K : PySem.W.Frag) (p d : Addr) (H : Hp) (v o : V) : Prop where
  dk : Deck H p d 63
  v : DatN K (Off p d) 12000 8 H v
  o : DatN K (Off p d) 12000 8 H o
theorem BT.same {K : PySem.W.Frag} {p d : Addr} {H H' : Hp} {v o : V} (b : BT K p d H v o) (s : Same H H') : BT K p d H' v o := ⟨b.dk.same s, b.v.same s, b.o.same s⟩
/-- a list of errors, each with its class, its field, what it holds -/
def Two (H : Hp) (tw : Addr) (l : List (Addr × Str × V)) : Prop := ∃ as : List Addr, H tw = some (.lst (as.map V.ref)) ∧ ∀ (k : Nat) (q : Addr × Str × V), l[k]? = some q → ∃ a, as[k]? = some a ∧ XM q.1 q.2.1 q.2.2 H a
theorem Two.same {H H' : Hp} {tw : Addr} {l : List (Addr × Str × V)} (h : Two H tw l) (s : Same H H') : Two H' tw l := by
  obtain ⟨as, e1, e2⟩ := h
  exact ⟨as, s _ _ e1, fun k q z => by
    obtain ⟨a, e3, e4⟩ := e2 k q z
    exact ⟨a, e3, e4.same s⟩⟩
section
variable (K : PySem.W.Frag) (c : Nat → Addr) (x : IxZ)
def JZ (σ : L2.St) (H : Hp) : Prop := ∃ s3 s4 s5 s6 s7 s8 s9 s10 s11 : Option V, σ = [some (.ref x.sa), some (.ref x.p), some (.int x.t), s3, s4, s5, s6, s7, s8, s9, s10, s11] ∧ Deck H x.p x.d 63
def JA (σ : L2.St) (H : Hp) : Prop := ∃ (v o : V) (s5 s6 s7 s8 s9 s10 s11 : Option V), σ = [some (.ref x.sa), some (.ref x.p), some (.int x.t), some v, some o, s5, s6, s7, s8, s9, s10, s11] ∧ BT K x.p x.d H v o
def JB (σ : L2.St) (H : Hp) : Prop := ∃ (v o : V) (dd : D) (as : List Addr) (s6 s7 s8 s9 s10 s11 : Option V), σ = [some (.ref x.sa), some (.ref x.p), some (.int x.t), some v, some o, some (.str (shown dd)), s6, s7, s8, s9, s10, s11] ∧ BT K x.p x.d H v o ∧ Rep K H dd v as ∧ noX dd = true ∧ small dd ∧ wt dd ≤ 12000 ∧ dep dd ≤ 8
def twoC (c : Nat → Addr) (v o : V) : List (Addr × Str × V) := [(c 3, "paper", v), (c 3, "paper", o), (c 4, "entries", o), (c 4, "entries", v), (c 5, "error", v), (c 5, "error", o)]
def twoD (c : Nat → Addr) (v o : V) : List (Addr × Str × V) := [(c 6, "error", o), (c 6, "error", v), (c 10, "given", v), (c 10, "given", o), (c 11, "place", o), (c 11, "place", v)]
end
def JT (K : PySem.W.Frag) (l : V → V → List (Addr × Str × V)) (x : IxZ) (σ : L2.St) (H : Hp) : Prop := ∃ (v o : V) (tw : Addr) (s5 s6 s7 s9 s10 s11 : Option V), σ = [some (.ref x.sa), some (.ref x.p), some (.int x.t), some v, some o, s5, s6, s7, some (.ref tw), s9, s10, s11] ∧ BT K x.p x.d H v o ∧ Two H tw (l v o)
/-- what the law calls -/
structure OwnsZ (P : Program) (w : World) (K : PySem.W.Frag) (mg : Str → Option Value) (base : Heap) (c : Nat → Addr) : Prop where
  deck : Own P w K mg base 1 "_law_deck" ["script"] (spDeck K)
  thing : ∀ n, Own P w K mg base (n + 3) "_law_thing" ["deck", "deep"] (spThing K n)
  kept : Own P w K mg base 2 "_law_kept" ["thing"] spKept
  classes : Own P w K mg base 2 "_law_classes" ["thing"] (spClasses c)
  marks : Own P w K mg base 1 "_law_marks" ["own"] (spMarks c)
  refused : Own P w K mg base 6 "_law_is_refused" ["value", "is_text"] (spRefused K)
section
variable {P : Program} {w : World} {K : PySem.W.Frag} {mg : Str → Option Value} {base : Heap} {S' : Addr} {c : Nat → Addr}
variable {f : Addr} {cdv : Value} {A : Around} {outer : List Env} {s : Shared} {H0 : Hp} {E : XK}
theorem z_0 (O : OwnsZ P w K mg base c) (hr : Room 6 (A.deeper (envOfC "law" (defScope sLawZ) s.heap.objs.size f cdv))) : PS (cxOf CX0 P w K mg base nLawZ "law" (defScope sLawZ) f cdv A outer s H0 E).nox (tbZ 0) (tCutI JZ (JA K)) := by
  obtain ⟨f3, fd3, G3, m3, k3, b3⟩ := (O.thing 3).ex
  obtain ⟨f2, fd2, G2, m2, k2, b2⟩ := (O.thing 2).ex
  refine ps_cutI JZ (JA K) (ps_par (i := 3) (j := 4) rfl scLawZ.nd rfl rfl (by decide) rfl rfl (pa_cons (pe_call G3 hr rfl m3 k3 b3 .nil pass0 (pa_cons (pv 1) (pa_cons pe_int pa_nil))) (pa_cons (pe_call G2 (hr.mono (by decide)) rfl m2 k2 b2 .nil pass0 (pa_cons (pv 1) (pa_cons pe_int pa_nil))) pa_nil)) (by rfl)) ?_
  rintro x D σ H ⟨s3, s4, s5, s6, s7, s8, s9, s10, s11, rfl, D0⟩ nx
  refine ⟨_, rfl, x.p, x.d, rfl, D0, fun v H1 D1 k1 dv => ⟨_, rfl, x.p, x.d, rfl, D1, fun o H2 D2 k2 do_ => ⟨_, _, rfl, nx _ _ ⟨v, o, _, _, _, _, _, _, _, rfl, D2, ?_, ?_⟩⟩⟩⟩
  · exact (dv.kp (fun a h => h.1) k2).imp (fun a h => h.1) (by decide) (by decide)
  · exact do_.imp (fun a h => h.1) (by decide) (by decide)
theorem z_1 (B : NoNames mg) (hr : Room 6 (A.deeper (envOfC "law" (defScope sLawZ) s.heap.objs.size f cdv))) (hgd : (A.deeper (envOfC "law" (defScope sLawZ) s.heap.objs.size f cdv)).guards = some []) : PS (cxOf CX0 P w K mg base nLawZ "law" (defScope sLawZ) f cdv A outer s H0 E).nox (tbZ 1) (tCutI (JA K) (JB K)) := by
  refine ps_cutI (JA K) (JB K) (ps_set (i := 5) scLawZ.nd rfl (.inr rfl) (pe_callB (call_reprD hr hgd) (by rfl) B.repr (by decide +kernel) (pa_cons (pv 3) pa_nil))) ?_
  rintro x D σ H ⟨v, o, s5, s6, s7, s8, s9, s10, s11, rfl, b⟩ nx
  obtain ⟨dd, as, r1, r2, r3, r4, r5, r6⟩ := b.v
  exact ⟨_, rfl, v, dd, as, rfl, r1, r6, r3, by omega, by omega, nx _ _ ⟨v, o, dd, as, _, _, _, _, _, _, rfl, b, r1, r6, r3, r4, r5⟩⟩
theorem z_2 (B : NoNames mg) (O : OwnsZ P w K mg base c) (hr : Room 6 (A.deeper (envOfC "law" (defScope sLawZ) s.heap.objs.size f cdv))) (hgd : (A.deeper (envOfC "law" (defScope sLawZ) s.heap.objs.size f cdv)).guards = some []) : PS (cxOf CX0 P w K mg base nLawZ "law" (defScope sLawZ) f cdv A outer s H0 E).nox (tbZ 2) (tCutI (JB K) (JA K)) := by
  obtain ⟨fK, fdK, GK, mK, kK, bK⟩ := O.kept.ex
  refine ps_cutI (JB K) (JA K) (ps_if (PW.pt (pw_or (pt_cmpR (op_neNil hr.units0) (pe_lc (own := [("own", 7)]) (g := gName 7) rfl scLawZ.nd (pi_list (pe_call GK (hr.mono (by decide)) rfl mK kK bK .nil pass0 (pa_cons (pv 3) pa_nil))) (blkOk_by (own := [("own", 7)]) (N := nLawZ) (sc := defScope sLawZ) (by decide +kernel))
      (fun _ _ _ _ _ => pg_name (i := 7) scLawZ.nd rfl (Or.inl rfl)) (fun s' H' C cl fp => pts_one (pt_cmpR op_ne (pe_callB (id := "repr") (r := rReprD K) (call_reprD hr hgd) (by rfl) B.repr (by decide +kernel) (pa_cons (pv 7) pa_nil)) (pv 5) (nomark _))) (fun _ _ _ _ _ => pe_int)) (pe_lst pa_nil) (nomark _))
    (pw_or1 (pt_cmpR op_ne (pe_callB (call_reprD hr hgd) (by rfl) B.repr (by decide +kernel) (pa_cons (pv 3) pa_nil)) (pv 5) (nomark _))))) (pss_one (ps_ret pe_bl)) pss_nil) ?_
  rintro x D σ H ⟨v, o, dd, as, s6, s7, s8, s9, s10, s11, rfl, b, r1, r6, r3, r4, r5⟩ nx
  obtain ⟨dk, dv, do_⟩ := b
  refine ⟨_, rfl, v, rfl, fun l H1 s1 nl hl => ⟨l, rfl, ⟨_, SqL.of hl⟩, fun D nD => ?_⟩⟩
  refine lc_it (walk_list (xs := List.replicate 12 v)) (fun i H' => H' D = some (.lst []) ∧ Same H1 H') ⟨upd_same, same_new nD⟩ (fun i H' _ h => SqL.of (h.2 _ _ hl)) ?_ ?_
  · rintro i y Hb Ha hj ⟨g1, g2⟩ ⟨rfl, ey⟩
    obtain rfl : y = v := List.eq_of_mem_replicate (List.mem_of_getElem? ey)
    refine ⟨rfl, ?_⟩
    refine ⟨_, rfl, y, dd, as, rfl, r1.same (s1.trans g2), r6, r3, by omega, by omega, _, rfl, rfl, _, rfl, ?_⟩
    rw [same_str rfl]
    exact iteF ⟨g1, g2⟩
  · rintro Ha ⟨g1, g2⟩
    refine ⟨Nat.zero_le _, fun q nq => ?_⟩
    have sq : Same Ha (upd Ha q (.lst [])) := same_new nq
    refine ⟨D, q, _, rfl, rfl, SqL.of (sq _ _ g1), SqL.of upd_same, _, rfl, ?_⟩
    refine iteF ?_
    have sm := s1.trans (g2.trans sq)
    refine ⟨_, rfl, v, dd, as, rfl, r1.same sm, r6, r3, by omega, by omega, _, rfl, rfl, _, rfl, ?_⟩
    rw [same_str rfl]
    exact iteF (nx _ _ ⟨v, o, _, _, _, _, _, _, _, rfl, dk.same sm, dv.same sm, do_.same sm⟩)
/-- isinstance(e, x), x above the class of the error e -/
theorem pe_isAbove {X : Cx} {j : Nat} {cv : V} {cu : Value} {y : Str} {e : Expr} {p1 p2 p3 : Pos} (hc : PE X (.Name y p3) (tC cv)) (hcu : ∀ u, RelV cv u → u = cu) (he : PE X e (tVar j)) (hgi : Gl X "isinstance") (bi : X.mg "isinstance" = none)
    (hs1 : starEach [e, .Name y p3] X.env = (false, eval e X.env) :: starEach [.Name y p3] X.env := by rfl) (hs2 : starEach [.Name y p3] X.env = (false, eval (.Name y p3) X.env) :: starEach [] X.env := by rfl) (hpl : (backTo p1 (starEach [.Name y p3] X.env)).any (·.1) = false := by rfl) :
    PE X (.Call (.Name "isinstance" p2) [e, .Name y p3] [] p1) (fun σ H Q => (∃ a C, σ[j]? = some (some (.ref a)) ∧ XI H C a ∧ ExcC X.K C ∧ PySem.W.kitOne X.K (.ref C) cu = some true) ∧ Q (.bl true) H) :=
  pe_weak (pe_callB call_isX hgi bi (by decide +kernel) (pa_cons he (pa_cons hc pa_nil hs2) hs1) (he := hs1) (hpl := hpl)) fun σ H Q q => by
    obtain ⟨⟨a, C, e0, xi, ex, kit⟩, q⟩ := q
    exact ⟨_, e0, a, C, cv, cu, true, rfl, xi, ex, hcu, kit, q⟩
theorem dp_marks {H : Hp} : ∀ bs : List Bool, DpAll K H (bs.map V.bl) (bs.map PyData.bool)
  | [] => .nil
  | b :: r => .cons (.bl b) (dp_marks r)
def marksB (i : Nat) : List Bool := (List.range 12).map fun j => decide (j = i)
theorem marks_V (i : Nat) : marksV i = (marksB i).map V.bl := by
  unfold marksV marksB
  rw [List.map_map]
  rfl
theorem marks_fine {i : Nat} (h : i < 12) : SeqAt.shaped (.list ((marksB i).map PyData.bool)) = true ∧ PyData.eqv (.list ((marksB i).map PyData.bool)) (.list ((marksB i).map PyData.bool)) = true := by
  have z : ∀ i : Fin 12, SeqAt.shaped (.list ((marksB i).map PyData.bool)) = true ∧ PyData.eqv (.list ((marksB i).map PyData.bool)) (.list ((marksB i).map PyData.bool)) = true := by decide +kernel
  exact z ⟨i, h⟩
theorem z_3 (B : NoNames mg) (bv : mg "ValueError" = none) (T : Twelve P K mg S' c) (O : OwnsZ P w K mg base c) (hr : Room 6 (A.deeper (envOfC "law" (defScope sLawZ) s.heap.objs.size f cdv))) : PS (cxOf CX0 P w K mg base nLawZ "law" (defScope sLawZ) f cdv A outer s H0 E).nox (tbZ 3) (tCutI (JA K) (JA K)) := by
  obtain ⟨fC, fdC, GC, mC, kC, bC⟩ := O.classes.ex
  obtain ⟨fM, fdM, GM, mM, kM, bM⟩ := O.marks.ex
  refine ps_cutI (JA K) (JA K) (ps_for PassesOwn.never rfl (pi_enum (by rfl) B.enumerate (pa_cons (pe_call GC (hr.mono (by decide)) rfl mC kC bC .nil pass0 (pa_cons (pv 3) pa_nil)) pa_nil)) (pg_tup rfl (pgs_cons (pg_name (i := 6) scLawZ.nd rfl (.inr rfl)) (pgs_cons (pg_name (i := 7) scLawZ.nd rfl (.inl rfl)) pgs_nil)))
    (pss_cons (ps_if (PW.pt (pw_or (pt_not (pt_val (pe_isAbove (j := 7) (pe_glob (v := .ref S') rfl T.s.m rfl) (fun u r => r) (pv 7) (by rfl) B.isi)))
      (pw_or1 (pt_not (pt_val (pe_isAbove (j := 7) (pe_bltn (v := .ty "ValueError") rfl bv boot_VE rfl) (fun u r => r) (pv 7) (by rfl) B.isi)))))) (pss_one (ps_ret pe_bl)) pss_nil) <|
    pss_one (ps_if (pt_cmpR (op_neD hr.units) (pe_call GM (hr.mono (by decide)) rfl mM kM bM .nil pass0 (pa_cons (pv 7) pa_nil))
      (pe_lc (own := [("place", 11)]) (g := gName 11) (tt := tYes) (te := tOp rEq (tVar 6) (tVar 11)) rfl scLawZ.nd (pi_range1 (by rfl) B.range (pa_cons pe_int pa_nil)) (blkOk_by (own := [("place", 11)]) (N := nLawZ) (sc := defScope sLawZ) (by decide +kernel))
        (fun _ _ _ _ _ => pg_name (i := 11) scLawZ.nd rfl (Or.inl rfl)) (fun _ _ _ _ _ => pts_nil) (fun _ _ _ _ _ => pe_cmpR op_eq (pv 6) (pv 11) (nomark _))) (nomark _)) (pss_one (ps_ret pe_bl)) pss_nil))) ?_
  rintro x D σ H ⟨v, o, s5, s6, s7, s8, s9, s10, s11, rfl, b⟩ nx
  refine ⟨_, rfl, v, rfl, fun l as H1 s1 nl hl la xs => ?_⟩
  have b1 := b.same s1
  clear b s1
  refine ⟨l, _, rfl, SqL.of hl, for_it walk_enum (fun j σ H' => (∃ s6 s7, σ = [some (.ref x.sa), some (.ref x.p), some (.int x.t), some v, some o, s5, s6, s7, s8, s9, s10, s11]) ∧ Same H1 H') ⟨⟨_, _, rfl⟩, Same.refl _⟩ (fun j σ H' _ q => SqL.of (q.2 _ _ hl)) ?_ ?_⟩
  · rintro j y σ H6 H7 hj ⟨⟨s6, s7, rfl⟩, s16⟩ ⟨q, x1, x2, rfl, nq, rfl, e1, e2⟩
    obtain rfl : V.int (j : Nat) = x1 := Option.some.inj e1
    rw [List.length_map, la] at hj
    have e2 : (as.map V.ref)[j]? = some x2 := e2
    rw [List.getElem?_map] at e2
    obtain ⟨a, ea, rfl⟩ := Option.map_eq_some_iff.mp e2
    refine ⟨q, _, rfl, SqT.of upd_same, rfl, _, _, rfl, _, _, rfl, rfl, ?_⟩
    have s17 : Same H1 (upd H6 q (.tup [.int (j : Nat), .ref a])) := s16.trans (same_new nq)
    generalize (upd H6 q (.tup [.int (j : Nat), .ref a])) = H7 at s17
    have xa := (xs j a ea).same s17
    obtain ⟨nm, hn⟩ : ∃ nm, xNames[j]? = some nm := ⟨xNames[j], List.getElem?_eq_getElem (by show j < 12; exact hj)⟩
    have kc := T.kc hn
    refine ⟨⟨a, c j, rfl, xa, kc.ex, kc.kitS T.s⟩, true, rfl, iteF ⟨⟨a, c j, rfl, xa, kc.ex, kc.kitV⟩, true, rfl, iteF ?_⟩⟩
    refine ⟨_, rfl, a, j, nm, rfl, hn, xa, fun r H8 s78 nr hr8 => ?_⟩
    refine ⟨12, rfl, by decide, by decide, fun L nL => ?_⟩
    have lm : (marksV j).length = 12 := by unfold marksV; rw [List.length_map, List.length_range]
    refine lc_it walk_range (fun i H' => H' L = some (.lst ((marksV j).take i)) ∧ Same H8 H') ⟨by rw [upd_same, List.take_zero], same_new nL⟩ (fun _ _ _ _ => trivial) ?_ ?_
    · rintro i z Hb Ha hi ⟨g1, g2⟩ ⟨rfl, rfl⟩
      have hi : i < 12 := hi
      refine ⟨rfl, ?_⟩
      dsimp only [tYes]
      rw [if_pos rfl]
      refine ⟨_, rfl, _, rfl, rfl, _, g1, by rw [List.length_take, lm, sizeLine_eq]; omega, ?_, fun b o e => ?_⟩
      · rw [upd_same]
        have em : (marksV j)[i]? = some (.bl (decide (i = j))) := by
          unfold marksV
          rw [List.getElem?_map, List.getElem?_range hi]
          rfl
        rw [List.take_add_one, em]
        have ed : decide (V.int (j : Nat) = V.int (0 + (i : Int))) = decide (i = j) := decide_eq_decide.mpr ⟨fun z => by have := V.int.inj z; omega, fun z => by rw [z, Int.zero_add]⟩
        rw [ed]
        rfl
      · rw [upd_ne (ne_of_none e nL)]
        exact g2 _ _ e
    · rintro Ha ⟨g1, g2⟩
      have g1 : Ha L = some (.lst (marksV j)) := by rw [g1, List.take_of_length_le (by rw [lm]; decide)]
      obtain ⟨sh, ev⟩ := marks_fine hj
      refine ⟨_, _, .lst (SqL.of (g2 _ _ hr8)) (by rw [marks_V]; exact dp_marks _), .lst (SqL.of g1) (by rw [marks_V]; exact dp_marks _), sh, sh, _, rfl, ?_⟩
      rw [ev]
      exact iteF ⟨⟨_, _, rfl⟩, s17.trans (s78.trans g2)⟩
  · rintro σ H6 ⟨⟨s6, s7, rfl⟩, s16⟩
    exact nx _ _ ⟨v, o, _, _, _, _, _, _, _, rfl, b1.same s16⟩
end
end Sw
namespace Sw
open PySem PySem.Spec PyProof.Rows L2
/-! ### two of each class hold each its own -/
section
variable {K : PySem.W.Frag}
theorem repAll_of {H : Hp} : ∀ {ps : List (V × D)}, (∀ q ∈ ps, ∃ as, Rep K H q.2 q.1 as) → ∃ as, RepAll K H (ps.map Prod.snd) (ps.map Prod.fst) as
  | [], _ => ⟨[], by simp [RepAll]⟩
  | q :: r, h => by
    obtain ⟨as, h1⟩ := h q List.mem_cons_self
    obtain ⟨bs, h2⟩ := repAll_of (ps := r) fun z hz => h z (List.mem_cons_of_mem _ hz)
    refine ⟨as ++ bs, ?_⟩
    simp only [List.map_cons]
    rw [RepAll]
    exact ⟨_, _, as, bs, rfl, h1, h2, rfl⟩
/-- a new list of such things -/
theorem rep_newL {H : Hp} {L : Addr} {ps : List (V × D)} (h : ∀ q ∈ ps, ∃ as, Rep K H q.2 q.1 as) (nL : H L = none) : ∃ as, Rep K (upd H L (.lst (ps.map Prod.fst))) (.lst (ps.map Prod.snd)) (.ref L) as := by
  obtain ⟨as, r⟩ := repAll_of h
  refine ⟨L :: as, ?_⟩
  rw [Rep]
  exact ⟨L, _, as, rfl, upd_same, r.same (same_new nL), nmem r nL, rfl⟩
/-- what two things are -/
structure Both (K : PySem.W.Frag) (H : Hp) (v o : V) (dv do_ : D) : Prop where
  rv : ∃ as, Rep K H dv v as
  ro : ∃ as, Rep K H do_ o as
  sv : small dv
  so : small do_
  wv : wt dv ≤ 12000
  wo : wt do_ ≤ 12000
  kv : dep dv ≤ 8
  ko : dep do_ ≤ 8
theorem Both.same {H H' : Hp} {v o : V} {dv do_ : D} (b : Both K H v o dv do_) (s : Same H H') : Both K H' v o dv do_ := by
  obtain ⟨⟨a1, r1⟩, ⟨a2, r2⟩, q1, q2, q3, q4, q5, q6⟩ := b
  exact ⟨⟨a1, r1.same s⟩, ⟨a2, r2.same s⟩, q1, q2, q3, q4, q5, q6⟩
theorem BT.both {p d : Addr} {H : Hp} {v o : V} (b : BT K p d H v o) : ∃ dv do_, Both K H v o dv do_ := by
  obtain ⟨dv, a1, r1, _, s1, w1, k1, _⟩ := b.v
  obtain ⟨d2, a2, r2, _, s2, w2, k2, _⟩ := b.o
  exact ⟨dv, d2, ⟨a1, r1⟩, ⟨a2, r2⟩, s1, s2, w1, w2, k1, k2⟩
/-- two[k].fld -/
theorem pe_held {X : Cx} {C : Addr} {k : Nat} {i : Int} {fld : Str} {e1 e2 : Expr} {p1 p2 : Pos} (xf : XfC X.K C) (no : PySem.W.findIn X.K (.ref C) fld = some none) (hi : i = (k : Int))
    (hix : PE X (.Subscript e1 e2 p1) (tOp (rIxL X.K) (tVar 8) (tC (.int i)))) (hb : attributeBase (.Subscript e1 e2 p1) fld X.env (eval (.Subscript e1 e2 p1) X.env) = eval (.Subscript e1 e2 p1) X.env := by rfl) :
    PE X (.Attribute (.Subscript e1 e2 p1) fld p2) (fun σ H Q => ∃ tw l v, σ[8]? = some (some (.ref tw)) ∧ Two H tw l ∧ l[k]? = some (C, fld, v) ∧ Q v H) :=
  pe_weak (pe_xmf xf no hix hb) fun σ H Q q => by
    obtain ⟨tw, l, v, e0, ⟨as, ea, each⟩, el, q⟩ := q
    obtain ⟨a, e3, xm⟩ := each k _ el
    exact ⟨_, e0, tw, _, i, .ref a, rfl, rfl, SqL.of ea, at_of (j := k) hi (by rw [List.getElem?_map, e3]; rfl), a, v, rfl, xm, q⟩
end
theorem KI.nf {P : Program} {K : PySem.W.Frag} {mg : Str → Option Value} {x fld : Str} {C S : Addr} (T : KI P K mg x fld C S) : PySem.W.findIn K (.ref C) fld = some none := by
  obtain ⟨fI, msg, file, F, hf⟩ := T.ini
  exact F.nf
section
variable {P : Program} {w : World} {K : PySem.W.Frag} {mg : Str → Option Value} {base : Heap} {S' : Addr} {c : Nat → Addr}
variable {f : Addr} {cdv : Value} {A : Around} {outer : List Env} {s : Shared} {H0 : Hp} {E : XK}
/-- x(own) -/
theorem pe_newR {X : Cx} {C S : Addr} {x fld : Str} {e : Expr} {p1 p2 : Pos} {i : Nat} (T : KI X.prog X.K X.mg x fld C S) (hr : Room 1 X.A) (hg : Gl X x) (bs : X.mg "super" = none) (hdb : (x == ("__debug__" : Str)) = false) (he : PE X e (tVar i))
    (hst : starEach [e] X.env = (false, eval e X.env) :: starEach [] X.env := by rfl) : PE X (.Call (.Name x p1) [e] [] p2) (fun σ H Q => ∃ v, σ[i]? = some (some v) ∧ ∀ a H', H a = none → Same H H' → XM C fld v H' a → Q (.ref a) H') := by
  obtain ⟨fI, msg, file, F, hf⟩ := T.ini
  exact pe_xmd T.T F hr hg T.m bs hf T.top he hst hdb
theorem two_of6 {H : Hp} {tw a0 a1 a2 a3 a4 a5 : Addr} {q0 q1 q2 q3 q4 q5 : Addr × Str × V} (h : H tw = some (.lst [.ref a0, .ref a1, .ref a2, .ref a3, .ref a4, .ref a5]))
    (x0 : XM q0.1 q0.2.1 q0.2.2 H a0) (x1 : XM q1.1 q1.2.1 q1.2.2 H a1) (x2 : XM q2.1 q2.2.1 q2.2.2 H a2) (x3 : XM q3.1 q3.2.1 q3.2.2 H a3) (x4 : XM q4.1 q4.2.1 q4.2.2 H a4) (x5 : XM q5.1 q5.2.1 q5.2.2 H a5) : Two H tw [q0, q1, q2, q3, q4, q5] := by
  refine ⟨[a0, a1, a2, a3, a4, a5], h, fun k q e => ?_⟩
  rcases k with _ | _ | _ | _ | _ | _ | k
  · cases e; exact ⟨a0, rfl, x0⟩
  · cases e; exact ⟨a1, rfl, x1⟩
  · cases e; exact ⟨a2, rfl, x2⟩
  · cases e; exact ⟨a3, rfl, x3⟩
  · cases e; exact ⟨a4, rfl, x4⟩
  · cases e; exact ⟨a5, rfl, x5⟩
  · simp at e
theorem z_4 (bs : mg "super" = none) (T : Twelve P K mg S' c) (hr : Room 6 (A.deeper (envOfC "law" (defScope sLawZ) s.heap.objs.size f cdv))) : PS (cxOf CX0 P w K mg base nLawZ "law" (defScope sLawZ) f cdv A outer s H0 E).nox (tbZ 4) (tCutI (JA K) (JT K (twoC c))) := by
  refine ps_cutI (JA K) (JT K (twoC c)) (ps_set (i := 8) scLawZ.nd rfl (.inl rfl) (pe_lst (pa_cons (pe_newR T.i3 (hr.mono (by decide)) (by rfl) bs (by decide +kernel) (pv 3)) (pa_cons (pe_newR T.i3 (hr.mono (by decide)) (by rfl) bs (by decide +kernel) (pv 4)) (pa_cons (pe_newR T.i4 (hr.mono (by decide)) (by rfl) bs (by decide +kernel) (pv 4)) (pa_cons (pe_newR T.i4 (hr.mono (by decide)) (by rfl) bs (by decide +kernel) (pv 3)) (pa_cons (pe_newR T.i5 (hr.mono (by decide)) (by rfl) bs (by decide +kernel) (pv 3)) (pa_cons (pe_newR T.i5 (hr.mono (by decide)) (by rfl) bs (by decide +kernel) (pv 4)) pa_nil)))))))) ?_
  rintro x EN σ H ⟨v, o, s5, s6, s7, s8, s9, s10, s11, rfl, b⟩ nx
  refine ⟨v, rfl, fun a0 A0 _ t0 x0 => ⟨o, rfl, fun a1 A1 _ t1 x1 => ⟨o, rfl, fun a2 A2 _ t2 x2 => ⟨v, rfl, fun a3 A3 _ t3 x3 => ⟨v, rfl, fun a4 A4 _ t4 x4 => ⟨o, rfl, fun a5 A5 _ t5 x5 => ⟨by show 6 ≤ sizeLine; decide, fun tw nt => ?_⟩⟩⟩⟩⟩⟩⟩
  have z := same_new (o := .lst [.ref a0, .ref a1, .ref a2, .ref a3, .ref a4, .ref a5]) nt
  have r4 := t5.trans z
  have r3 := t4.trans r4
  have r2 := t3.trans r3
  have r1 := t2.trans r2
  have r0 := t1.trans r1
  exact nx _ _ ⟨v, o, tw, _, _, _, _, _, _, rfl, b.same (t0.trans r0), two_of6 upd_same (x0.same r0) (x1.same r1) (x2.same r2) (x3.same r3) (x4.same r4) (x5.same z)⟩
theorem z_5 (B : NoNames mg) (T : Twelve P K mg S' c) (hr : Room 6 (A.deeper (envOfC "law" (defScope sLawZ) s.heap.objs.size f cdv))) (hgd : (A.deeper (envOfC "law" (defScope sLawZ) s.heap.objs.size f cdv)).guards = some []) : PS (cxOf CX0 P w K mg base nLawZ "law" (defScope sLawZ) f cdv A outer s H0 E).nox (tbZ 5) (tCutI (JT K (twoC c)) (JT K (twoC c))) := by
  refine ps_cutI (JT K (twoC c)) (JT K (twoC c)) (ps_if (pt_cmpR op_ne (pe_callB (call_repr hr hgd) (by rfl) B.repr (by decide +kernel) (pa_cons (pe_lst (pa_cons (pe_held (k := 0) T.i3.toKC.xf T.i3.nf rfl (pe_ix ix_list (pv 8) pe_int (fun _ _ => rfl))) (pa_cons (pe_held (k := 1) T.i3.toKC.xf T.i3.nf rfl (pe_ix ix_list (pv 8) pe_int (fun _ _ => rfl))) (pa_cons (pe_held (k := 2) T.i4.toKC.xf T.i4.nf rfl (pe_ix ix_list (pv 8) pe_int (fun _ _ => rfl))) (pa_cons (pe_held (k := 3) T.i4.toKC.xf T.i4.nf rfl (pe_ix ix_list (pv 8) pe_int (fun _ _ => rfl))) pa_nil))))) pa_nil))
    (pe_callB (call_repr hr hgd) (by rfl) B.repr (by decide +kernel) (pa_cons (pe_lst (pa_cons (pv 3) (pa_cons (pv 4) (pa_cons (pv 4) (pa_cons (pv 3) pa_nil))))) pa_nil)) (nomark _)) (pss_one (ps_ret pe_bl)) pss_nil) ?_
  rintro x EN σ H ⟨v, o, tw, s5, s6, s7, s9, s10, s11, rfl, b, two⟩ nx
  obtain ⟨dv, d2, q⟩ := b.both
  have all : ∀ {H' : Hp}, Same H H' → ∀ y ∈ ([(v, dv), (o, d2), (o, d2), (v, dv)] : List (V × D)), ∃ as, Rep K H' y.2 y.1 as := fun s y hy => by
    simp only [List.mem_cons, List.not_mem_nil, or_false] at hy
    rcases hy with rfl | rfl | rfl | rfl
    · exact (q.same s).rv
    · exact (q.same s).ro
    · exact (q.same s).ro
    · exact (q.same s).rv
  have w1 := q.wv
  have w2 := q.wo
  have e1 := q.kv
  have e2 := q.ko
  have sm : smallAll [dv, d2, d2, dv] := by simp only [smallAll]; exact ⟨q.sv, q.so, q.so, q.sv, trivial⟩
  have wm : wtAll [dv, d2, d2, dv] ≤ 10000000 := by simp only [wtAll]; omega
  have km : depAll [dv, d2, d2, dv] ≤ 30 := by simp only [depAll]; omega
  refine ⟨tw, _, _, rfl, two, rfl, ⟨tw, _, _, rfl, two, rfl, ⟨tw, _, _, rfl, two, rfl, ⟨tw, _, _, rfl, two, rfl, ⟨by show 4 ≤ sizeLine; decide, fun L1 n1 => ?_⟩⟩⟩⟩⟩
  obtain ⟨as1, r1⟩ := rep_newL (all (Same.refl H)) n1
  have s1 := same_new (o := .lst [v, o, o, v]) n1
  refine ⟨.ref L1, [dv, d2, d2, dv], as1, rfl, r1, sm, wm, km, ?_⟩
  refine ⟨_, rfl, ⟨_, rfl, ⟨_, rfl, ⟨_, rfl, ⟨by show 4 ≤ sizeLine; decide, fun L2 n2 => ?_⟩⟩⟩⟩⟩
  obtain ⟨as2, r2⟩ := rep_newL (all s1) n2
  refine ⟨.ref L2, [dv, d2, d2, dv], as2, rfl, r2, sm, wm, km, rfl, _, rfl, ?_⟩
  rw [same_str rfl]
  have s2 := s1.trans (same_new (o := .lst [v, o, o, v]) n2)
  exact iteF (nx _ _ ⟨v, o, tw, _, _, _, _, _, _, rfl, b.same s2, two.same s2⟩)
theorem z_6 (B : NoNames mg) (T : Twelve P K mg S' c) (hr : Room 6 (A.deeper (envOfC "law" (defScope sLawZ) s.heap.objs.size f cdv))) (hgd : (A.deeper (envOfC "law" (defScope sLawZ) s.heap.objs.size f cdv)).guards = some []) : PS (cxOf CX0 P w K mg base nLawZ "law" (defScope sLawZ) f cdv A outer s H0 E).nox (tbZ 6) (tCutI (JT K (twoC c)) (JT K (twoC c))) := by
  refine ps_cutI (JT K (twoC c)) (JT K (twoC c)) (ps_if (pt_cmpR op_ne (pe_callB (call_repr hr hgd) (by rfl) B.repr (by decide +kernel) (pa_cons (pe_lst (pa_cons (pe_held (k := 4) T.i5.toKC.xf T.i5.nf rfl (pe_ix ix_list (pv 8) pe_int (fun _ _ => rfl))) (pa_cons (pe_held (k := 5) T.i5.toKC.xf T.i5.nf rfl (pe_ix ix_list (pv 8) pe_int (fun _ _ => rfl))) pa_nil))) pa_nil))
    (pe_callB (call_repr hr hgd) (by rfl) B.repr (by decide +kernel) (pa_cons (pe_lst (pa_cons (pv 3) (pa_cons (pv 4) pa_nil))) pa_nil)) (nomark _)) (pss_one (ps_ret pe_bl)) pss_nil) ?_
  rintro x EN σ H ⟨v, o, tw, s5, s6, s7, s9, s10, s11, rfl, b, two⟩ nx
  obtain ⟨dv, d2, q⟩ := b.both
  have all : ∀ {H' : Hp}, Same H H' → ∀ y ∈ ([(v, dv), (o, d2)] : List (V × D)), ∃ as, Rep K H' y.2 y.1 as := fun s y hy => by
    simp only [List.mem_cons, List.not_mem_nil, or_false] at hy
    rcases hy with rfl | rfl
    · exact (q.same s).rv
    · exact (q.same s).ro
  have w1 := q.wv
  have w2 := q.wo
  have e1 := q.kv
  have e2 := q.ko
  have sm : smallAll [dv, d2] := by simp only [smallAll]; exact ⟨q.sv, q.so, trivial⟩
  have wm : wtAll [dv, d2] ≤ 10000000 := by simp only [wtAll]; omega
  have km : depAll [dv, d2] ≤ 30 := by simp only [depAll]; omega
  refine ⟨tw, _, _, rfl, two, rfl, ⟨tw, _, _, rfl, two, rfl, ⟨by show 2 ≤ sizeLine; decide, fun L1 n1 => ?_⟩⟩⟩
  obtain ⟨as1, r1⟩ := rep_newL (all (Same.refl H)) n1
  have s1 := same_new (o := .lst [v, o]) n1
  refine ⟨.ref L1, [dv, d2], as1, rfl, r1, sm, wm, km, ?_⟩
  refine ⟨_, rfl, ⟨_, rfl, ⟨by show 2 ≤ sizeLine; decide, fun L2 n2 => ?_⟩⟩⟩
  obtain ⟨as2, r2⟩ := rep_newL (all s1) n2
  refine ⟨.ref L2, [dv, d2], as2, rfl, r2, sm, wm, km, rfl, _, rfl, ?_⟩
  rw [same_str rfl]
  have s2 := s1.trans (same_new (o := .lst [v, o]) n2)
  exact iteF (nx _ _ ⟨v, o, tw, _, _, _, _, _, _, rfl, b.same s2, two.same s2⟩)
theorem z_7 (bs : mg "super" = none) (T : Twelve P K mg S' c) (hr : Room 6 (A.deeper (envOfC "law" (defScope sLawZ) s.heap.objs.size f cdv))) : PS (cxOf CX0 P w K mg base nLawZ "law" (defScope sLawZ) f cdv A outer s H0 E).nox (tbZ 7) (tCutI (JT K (twoC c)) (JT K (twoD c))) := by
  refine ps_cutI (JT K (twoC c)) (JT K (twoD c)) (ps_set (i := 8) scLawZ.nd rfl (.inl rfl) (pe_lst (pa_cons (pe_newR T.i6 (hr.mono (by decide)) (by rfl) bs (by decide +kernel) (pv 4)) (pa_cons (pe_newR T.i6 (hr.mono (by decide)) (by rfl) bs (by decide +kernel) (pv 3)) (pa_cons (pe_newR T.i10 (hr.mono (by decide)) (by rfl) bs (by decide +kernel) (pv 3)) (pa_cons (pe_newR T.i10 (hr.mono (by decide)) (by rfl) bs (by decide +kernel) (pv 4)) (pa_cons (pe_newR T.i11 (hr.mono (by decide)) (by rfl) bs (by decide +kernel) (pv 4)) (pa_cons (pe_newR T.i11 (hr.mono (by decide)) (by rfl) bs (by decide +kernel) (pv 3)) pa_nil)))))))) ?_
  rintro x EN σ H ⟨v, o, tw, s5, s6, s7, s9, s10, s11, rfl, b, _⟩ nx
  refine ⟨o, rfl, fun a0 A0 _ t0 x0 => ⟨v, rfl, fun a1 A1 _ t1 x1 => ⟨v, rfl, fun a2 A2 _ t2 x2 => ⟨o, rfl, fun a3 A3 _ t3 x3 => ⟨o, rfl, fun a4 A4 _ t4 x4 => ⟨v, rfl, fun a5 A5 _ t5 x5 => ⟨by show 6 ≤ sizeLine; decide, fun tw nt => ?_⟩⟩⟩⟩⟩⟩⟩
  have z := same_new (o := .lst [.ref a0, .ref a1, .ref a2, .ref a3, .ref a4, .ref a5]) nt
  have r4 := t5.trans z
  have r3 := t4.trans r4
  have r2 := t3.trans r3
  have r1 := t2.trans r2
  have r0 := t1.trans r1
  exact nx _ _ ⟨v, o, tw, _, _, _, _, _, _, rfl, b.same (t0.trans r0), two_of6 upd_same (x0.same r0) (x1.same r1) (x2.same r2) (x3.same r3) (x4.same r4) (x5.same z)⟩
theorem z_8 (B : NoNames mg) (T : Twelve P K mg S' c) (hr : Room 6 (A.deeper (envOfC "law" (defScope sLawZ) s.heap.objs.size f cdv))) (hgd : (A.deeper (envOfC "law" (defScope sLawZ) s.heap.objs.size f cdv)).guards = some []) : PS (cxOf CX0 P w K mg base nLawZ "law" (defScope sLawZ) f cdv A outer s H0 E).nox (tbZ 8) (tCutI (JT K (twoD c)) (JT K (twoD c))) := by
  refine ps_cutI (JT K (twoD c)) (JT K (twoD c)) (ps_if (pt_cmpR op_ne (pe_callB (call_repr hr hgd) (by rfl) B.repr (by decide +kernel) (pa_cons (pe_lst (pa_cons (pe_held (k := 0) T.i6.toKC.xf T.i6.nf rfl (pe_ix ix_list (pv 8) pe_int (fun _ _ => rfl))) (pa_cons (pe_held (k := 1) T.i6.toKC.xf T.i6.nf rfl (pe_ix ix_list (pv 8) pe_int (fun _ _ => rfl))) (pa_cons (pe_held (k := 2) T.i10.toKC.xf T.i10.nf rfl (pe_ix ix_list (pv 8) pe_int (fun _ _ => rfl))) (pa_cons (pe_held (k := 3) T.i10.toKC.xf T.i10.nf rfl (pe_ix ix_list (pv 8) pe_int (fun _ _ => rfl))) pa_nil))))) pa_nil))
    (pe_callB (call_repr hr hgd) (by rfl) B.repr (by decide +kernel) (pa_cons (pe_lst (pa_cons (pv 4) (pa_cons (pv 3) (pa_cons (pv 3) (pa_cons (pv 4) pa_nil))))) pa_nil)) (nomark _)) (pss_one (ps_ret pe_bl)) pss_nil) ?_
  rintro x EN σ H ⟨v, o, tw, s5, s6, s7, s9, s10, s11, rfl, b, two⟩ nx
  obtain ⟨dv, d2, q⟩ := b.both
  have all : ∀ {H' : Hp}, Same H H' → ∀ y ∈ ([(o, d2), (v, dv), (v, dv), (o, d2)] : List (V × D)), ∃ as, Rep K H' y.2 y.1 as := fun s y hy => by
    simp only [List.mem_cons, List.not_mem_nil, or_false] at hy
    rcases hy with rfl | rfl | rfl | rfl
    · exact (q.same s).ro
    · exact (q.same s).rv
    · exact (q.same s).rv
    · exact (q.same s).ro
  have w1 := q.wv
  have w2 := q.wo
  have e1 := q.kv
  have e2 := q.ko
  have sm : smallAll [d2, dv, dv, d2] := by simp only [smallAll]; exact ⟨q.so, q.sv, q.sv, q.so, trivial⟩
  have wm : wtAll [d2, dv, dv, d2] ≤ 10000000 := by simp only [wtAll]; omega
  have km : depAll [d2, dv, dv, d2] ≤ 30 := by simp only [depAll]; omega
  refine ⟨tw, _, _, rfl, two, rfl, ⟨tw, _, _, rfl, two, rfl, ⟨tw, _, _, rfl, two, rfl, ⟨tw, _, _, rfl, two, rfl, ⟨by show 4 ≤ sizeLine; decide, fun L1 n1 => ?_⟩⟩⟩⟩⟩
  obtain ⟨as1, r1⟩ := rep_newL (all (Same.refl H)) n1
  have s1 := same_new (o := .lst [o, v, v, o]) n1
  refine ⟨.ref L1, [d2, dv, dv, d2], as1, rfl, r1, sm, wm, km, ?_⟩
  refine ⟨_, rfl, ⟨_, rfl, ⟨_, rfl, ⟨_, rfl, ⟨by show 4 ≤ sizeLine; decide, fun L2 n2 => ?_⟩⟩⟩⟩⟩
  obtain ⟨as2, r2⟩ := rep_newL (all s1) n2
  refine ⟨.ref L2, [d2, dv, dv, d2], as2, rfl, r2, sm, wm, km, rfl, _, rfl, ?_⟩
  rw [same_str rfl]
  have s2 := s1.trans (same_new (o := .lst [o, v, v, o]) n2)
  exact iteF (nx _ _ ⟨v, o, tw, _, _, _, _, _, _, rfl, b.same s2, two.same s2⟩)
theorem z_9 (B : NoNames mg) (T : Twelve P K mg S' c) (hr : Room 6 (A.deeper (envOfC "law" (defScope sLawZ) s.heap.objs.size f cdv))) (hgd : (A.deeper (envOfC "law" (defScope sLawZ) s.heap.objs.size f cdv)).guards = some []) : PS (cxOf CX0 P w K mg base nLawZ "law" (defScope sLawZ) f cdv A outer s H0 E).nox (tbZ 9) (tCutI (JT K (twoD c)) (JT K (twoD c))) := by
  refine ps_cutI (JT K (twoD c)) (JT K (twoD c)) (ps_if (pt_cmpR op_ne (pe_callB (call_repr hr hgd) (by rfl) B.repr (by decide +kernel) (pa_cons (pe_lst (pa_cons (pe_held (k := 4) T.i11.toKC.xf T.i11.nf rfl (pe_ix ix_list (pv 8) pe_int (fun _ _ => rfl))) (pa_cons (pe_held (k := 5) T.i11.toKC.xf T.i11.nf rfl (pe_ix ix_list (pv 8) pe_int (fun _ _ => rfl))) pa_nil))) pa_nil))
    (pe_callB (call_repr hr hgd) (by rfl) B.repr (by decide +kernel) (pa_cons (pe_lst (pa_cons (pv 4) (pa_cons (pv 3) pa_nil))) pa_nil)) (nomark _)) (pss_one (ps_ret pe_bl)) pss_nil) ?_
  rintro x EN σ H ⟨v, o, tw, s5, s6, s7, s9, s10, s11, rfl, b, two⟩ nx
  obtain ⟨dv, d2, q⟩ := b.both
  have all : ∀ {H' : Hp}, Same H H' → ∀ y ∈ ([(o, d2), (v, dv)] : List (V × D)), ∃ as, Rep K H' y.2 y.1 as := fun s y hy => by
    simp only [List.mem_cons, List.not_mem_nil, or_false] at hy
    rcases hy with rfl | rfl
    · exact (q.same s).ro
    · exact (q.same s).rv
  have w1 := q.wv
  have w2 := q.wo
  have e1 := q.kv
  have e2 := q.ko
  have sm : smallAll [d2, dv] := by simp only [smallAll]; exact ⟨q.so, q.sv, trivial⟩
  have wm : wtAll [d2, dv] ≤ 10000000 := by simp only [wtAll]; omega
  have km : depAll [d2, dv] ≤ 30 := by simp only [depAll]; omega
  refine ⟨tw, _, _, rfl, two, rfl, ⟨tw, _, _, rfl, two, rfl, ⟨by show 2 ≤ sizeLine; decide, fun L1 n1 => ?_⟩⟩⟩
  obtain ⟨as1, r1⟩ := rep_newL (all (Same.refl H)) n1
  have s1 := same_new (o := .lst [o, v]) n1
  refine ⟨.ref L1, [d2, dv], as1, rfl, r1, sm, wm, km, ?_⟩
  refine ⟨_, rfl, ⟨_, rfl, ⟨by show 2 ≤ sizeLine; decide, fun L2 n2 => ?_⟩⟩⟩
  obtain ⟨as2, r2⟩ := rep_newL (all s1) n2
  refine ⟨.ref L2, [d2, dv], as2, rfl, r2, sm, wm, km, rfl, _, rfl, ?_⟩
  rw [same_str rfl]
  have s2 := s1.trans (same_new (o := .lst [o, v]) n2)
  exact iteF (nx _ _ ⟨v, o, tw, _, _, _, _, _, _, rfl, b.same s2, two.same s2⟩)
end
end Sw
namespace Sw
open PySem PySem.Spec PyProof.Rows L2
/-! ### the law of errors and bounds -/
/-- a value that is refused -/
inductive ItemR (H : Hp) : V → Prop
  | str {t : Str} (ok : PyData.strOk t = true) (h : ∀ l, t = SX.S l → noNet (netData l) = true ∧ l.length ≤ 100000) : ItemR H (.str t)
  | non : ItemR H .non
  | int (i : Int) (h : i.natAbs < 1000) : ItemR H (.int i)
  | bl (b : Bool) : ItemR H (.bl b)
  | lst {q : Addr} (h : H q = some (.lst [.int 2])) : ItemR H (.ref q)
theorem ItemR.same {H H' : Hp} {x : V} (h : ItemR H x) (s : Same H H') : ItemR H' x := by
  cases h with
  | str ok h => exact .str ok h
  | non => exact .non
  | int i h => exact .int i h
  | bl b => exact .bl b
  | lst h => exact .lst (s _ _ h)
theorem ItemR.rep {K : PySem.W.Frag} {H : Hp} {x : V} (h : ItemR H x) : ∃ d as, Rep K H d x as ∧ (∀ l, d = .str (SX.S l) → noNet (netData l) = true ∧ l.length ≤ 100000) := by
  cases h with
  | @str t ok h => exact ⟨.str t, [], by simp [Rep], fun l e => h l (D.str.inj e)⟩
  | non => exact ⟨.non, [], by simp [Rep], fun l e => nomatch e⟩
  | int i h => exact ⟨.int i, [], by simp [Rep], fun l e => nomatch e⟩
  | bl b => exact ⟨.bl b, [], by simp [Rep], fun l e => nomatch e⟩
  | @lst q h =>
    refine ⟨.lst [.int 2], [q], ?_, fun l e => nomatch e⟩
    rw [Rep]
    exact ⟨q, _, [], rfl, h, by simp [RepAll, Rep], by simp, rfl⟩
theorem ItemR.dp {K : PySem.W.Frag} {H : Hp} {x : V} (h : ItemR H x) : ∃ pd, Dp K H x pd ∧ SeqAt.shaped pd = true := by
  cases h with
  | @str t ok h => exact ⟨_, .str t, by simp [SeqAt.shaped, PyData.canLay0, PyData.depth, ok]⟩
  | non => exact ⟨_, .non, rfl⟩
  | int i h => exact ⟨_, .int i, rfl⟩
  | bl b => exact ⟨_, .bl b, rfl⟩
  | @lst q h => exact ⟨_, .lst (SqL.of h) (.cons (.int 2) .nil), rfl⟩
theorem S_len0 (l : List Nat) : (SX.S l).length = l.length := SX.S_len l
theorem text_no {t : Str} {l0 : List Nat} (e : t = SX.S l0) (h : noNet (netData l0) = true) (hl : l0.length ≤ 100000) : ∀ l, t = SX.S l → noNet (netData l) = true ∧ l.length ≤ 100000 := fun l z => by
  have q := SX.S_inj (z.symm.trans e)
  rw [q]
  exact ⟨h, hl⟩
section
variable {P : Program} {w : World} {K : PySem.W.Frag} {mg : Str → Option Value} {base : Heap} {S' : Addr} {c : Nat → Addr}
variable {f : Addr} {cdv : Value} {A : Around} {outer : List Env} {s : Shared} {H0 : Hp} {E : XK}
def JR (p : Addr × Addr) (σ : L2.St) (H : Hp) : Prop := ∃ s2 s3 s4 s5 s6 s7 s8 s9 s10 s11 : Option V, σ = [some (.ref p.1), some (.ref p.2), s2, s3, s4, s5, s6, s7, s8, s9, s10, s11]
theorem y_2 (B : NoNames mg) (O : OwnsZ P w K mg base c) (hr : Room 6 (A.deeper (envOfC "law" (defScope sLawZ) s.heap.objs.size f cdv))) : PS (cxOf CX0 P w K mg base nLawZ "law" (defScope sLawZ) f cdv A outer s H0 E).nox (stZ 2) (tCutI JR JR) := by
  obtain ⟨fR, fdR, GR, mR, kR, bR⟩ := O.refused.ex
  refine ps_cutI JR JR (ps_for PassesOwn.never rfl (pi_tup (pe_tup (pa_cons pe_str (pa_cons pe_str (pa_cons pe_str (pa_cons pe_str (pa_cons pe_non (pa_cons pe_int (pa_cons (pe_un un_neg pe_int) (pa_cons (pe_lst (pa_cons pe_int pa_nil)) (pa_cons pe_str (pa_cons pe_bl pa_nil)))))))))))) (pg_name (i := 9) scLawZ.nd rfl (.inl rfl))
    (pss_one (ps_if (PW.pt (pw_or (pt_not (pt_val (pe_call GR hr rfl mR kR bR .nil pass0 (pa_cons (pv 9) (pa_cons pe_bl pa_nil)))))
      (pw_or1 (pt_not (pt_val (pe_call GR hr rfl mR kR bR .nil pass0 (pa_cons (pe_ifExp (pt_cmpR (op_eqD hr.units) (pv 9) pe_int (nomark _)) pe_int (pe_lst (pa_cons (pv 9) pa_nil))) (pa_cons pe_bl pa_nil)))))))) (pss_one (ps_ret pe_bl)) pss_nil))) ?_
  rintro p EN σ H ⟨s2, s3, s4, s5, s6, s7, s8, s9, s10, s11, rfl⟩ nx
  refine ⟨_, rfl, by show 1 ≤ sizeLine; decide, fun q nq => ⟨by show 10 ≤ sizeLine; decide, fun T nT => ?_⟩⟩
  have sT := same_new (o := .tup [.str "", .str "3", .str "3:0>1", .str "2: 1>1", .non, .int 12, .int (-1), .ref q, .str "0:", .bl true]) nT
  have hq := sT _ _ (upd_same (H := H) (a := q) (o := .lst [.int 2]))
  have each : ∀ y ∈ ([.str "", .str "3", .str "3:0>1", .str "2: 1>1", .non, .int 12, .int (-1), .ref q, .str "0:", .bl true] : List V), ItemR (upd (upd H q (.lst [.int 2])) T (.tup [.str "", .str "3", .str "3:0>1", .str "2: 1>1", .non, .int 12, .int (-1), .ref q, .str "0:", .bl true])) y := fun y hy => by
    simp only [List.mem_cons, List.not_mem_nil, or_false] at hy
    rcases hy with rfl | rfl | rfl | rfl | rfl | rfl | rfl | rfl | rfl | rfl
    · exact .str (by decide +kernel) (text_no (l0 := []) rfl (by decide +kernel) (by decide))
    · exact .str (by decide +kernel) (text_no (l0 := [51]) rfl (by decide +kernel) (by decide))
    · exact .str (by decide +kernel) (text_no (l0 := [51, 58, 48, 62, 49]) rfl (by decide +kernel) (by decide))
    · exact .str (by decide +kernel) (text_no (l0 := [50, 58, 32, 49, 62, 49]) rfl (by decide +kernel) (by decide))
    · exact .non
    · exact .int 12 (by decide)
    · exact .int (-1) (by decide)
    · exact .lst hq
    · exact .str (by decide +kernel) (text_no (l0 := [48, 58]) rfl (by decide +kernel) (by decide))
    · exact .bl true
  have eT : (upd (upd H q (.lst [.int 2])) T (.tup [.str "", .str "3", .str "3:0>1", .str "2: 1>1", .non, .int 12, .int (-1), .ref q, .str "0:", .bl true])) T = some (.tup [.str "", .str "3", .str "3:0>1", .str "2: 1>1", .non, .int 12, .int (-1), .ref q, .str "0:", .bl true]) := upd_same
  generalize (upd (upd H q (.lst [.int 2])) T (.tup [.str "", .str "3", .str "3:0>1", .str "2: 1>1", .non, .int 12, .int (-1), .ref q, .str "0:", .bl true])) = H1 at each eT ⊢
  clear sT hq nq nT
  refine ⟨T, rfl, ⟨_, SqT.of eT⟩, for_it (walk_tup (xs := ([.str "", .str "3", .str "3:0>1", .str "2: 1>1", .non, .int 12, .int (-1), .ref q, .str "0:", .bl true] : List V))) (fun j σ H' => (∃ s9, σ = [some (.ref p.1), some (.ref p.2), s2, s3, s4, s5, s6, s7, s8, s9, s10, s11]) ∧ Same H1 H') ⟨⟨_, rfl⟩, Same.refl _⟩ (fun j σ H' _ h => SqT.of (h.2 _ _ eT)) ?_ ?_⟩
  · rintro j y σ H2 H3 hj ⟨⟨s9, rfl⟩, s12⟩ ⟨rfl, ey⟩
    have it := (each y (List.mem_of_getElem? ey)).same s12
    clear each ey hj
    obtain ⟨d, as, rd, tx⟩ := it.rep (K := K)
    refine ⟨_, rfl, ?_⟩
    refine ⟨y, d, as, true, rfl, rd, fun l e => (tx l e).2, fun _ l dd e => not_good (tx l e).1 dd, (fun z => nomatch z), fun H4 s24 => ⟨true, rfl, iteF ?_⟩⟩
    obtain ⟨pd, dp, sh⟩ := (it.same s24).dp (K := K)
    refine ⟨_, rfl, pd, .int 12, dp, .int 12, sh, by decide +kernel, _, rfl, ?_⟩
    cases eb : PyData.eqv pd (.int 12) with
    | true =>
      refine iteT ⟨.int 12, .int 12, [], false, rfl, by simp [Rep], (fun l e => nomatch e), (fun z => nomatch z), fun _ => by decide +kernel, fun H5 s45 => ⟨true, rfl, iteF ⟨⟨_, rfl⟩, s12.trans (s24.trans s45)⟩⟩⟩
    | false =>
      refine iteF ⟨_, rfl, by show 1 ≤ sizeLine; decide, fun L nL => ?_⟩
      obtain ⟨as2, r2⟩ := rep_newL (K := K) (ps := [(y, d)]) (fun z hz => by rw [List.mem_singleton.mp hz]; exact ⟨as, rd.same s24⟩) nL
      refine ⟨.ref L, .lst [d], as2, false, rfl, r2, (fun l e => nomatch e), (fun z => nomatch z), fun _ => rfl, fun H5 s45 => ⟨true, rfl, iteF ⟨⟨_, rfl⟩, s12.trans (s24.trans ((same_new nL).trans s45))⟩⟩⟩
  · rintro σ H2 ⟨⟨s9, rfl⟩, s12⟩
    exact nx _ _ ⟨_, _, _, _, _, _, _, _, _, _, rfl⟩
end
end Sw
namespace Sw
open PySem PySem.Spec PyProof.Rows L2
/-! ### the law, whole -/
def bnds : List Int := [12, 8, 4, 1000, 500, 10 ^ 30, 40]
theorem bnds_sm : smallAll (bnds.map D.int) := by
  simp only [bnds, List.map_cons, List.map_nil, smallAll, small]
  decide +kernel
theorem bnds_wt : wtAll (bnds.map D.int) ≤ 10000000 ∧ depAll (bnds.map D.int) ≤ 30 := by
  constructor
  · simp only [bnds, List.map_cons, List.map_nil, wtAll, wt]
    decide +kernel
  · simp [bnds, depAll, dep]
section
variable {P : Program} {w : World} {K : PySem.W.Frag} {mg : Str → Option Value} {base : Heap} {S' : Addr} {c : Nat → Addr}
theorem bnds_rep {H : Hp} {L : Addr} (nL : H L = none) : ∃ as, Rep K (upd H L (.lst (bnds.map V.int))) (.lst (bnds.map D.int)) (.ref L) as := by
  obtain ⟨as, r⟩ := rep_newL (K := K) (ps := bnds.map fun i => (V.int i, D.int i)) (fun q hq => by
    obtain ⟨i, _, rfl⟩ := List.mem_map.mp hq
    exact ⟨[], by simp [Rep]⟩) nL
  rw [List.map_map, List.map_map] at r
  exact ⟨as, r⟩
variable {f : Addr} {cdv : Value} {A : Around} {outer : List Env} {s : Shared} {E : XK}
theorem law_bodyZ (B : NoNames mg) (bs : mg "super" = none) (bv : mg "ValueError" = none) {t0 t1 t2 t3 t4 t5 t6 : Tok} (m0 : mg "MAX_STOPS" = some (.int 12 t0)) (m1 : mg "MAX_LED" = some (.int 8 t1)) (m2 : mg "MAX_FEW" = some (.int 4 t2)) (m3 : mg "MAX_RUN" = some (.int 1000 t3))
    (m4 : mg "MAX_LEGS" = some (.int 500 t4)) (m5 : mg "MAX_TIMES" = some (.int (10 ^ 30) t5)) (m6 : mg "MAX_EDITS" = some (.int 40 t6)) (T : Twelve P K mg S' c) (O : OwnsZ P w K mg base c) {H : Hp} {vs : List V} {Q : VK}
    (hr : Room 6 (A.deeper (envOfC "law" (defScope sLawZ) s.heap.objs.size f cdv))) (hgd : (A.deeper (envOfC "law" (defScope sLawZ) s.heap.objs.size f cdv)).guards = some []) (h : spLaw K vs H Q E) :
    ∃ t, PSs (cxOf CX0 P w K mg base nLawZ "law" (defScope sLawZ) f cdv A outer s H E).nox (defBody sLawZ) t ∧ t { nx := fun _ H' => Q .non H', rt := Q } (start nLawZ vs) H := by
  obtain ⟨fK, fdK, GK, mK, kK, bK⟩ := O.deck.ex
  obtain ⟨a, ns, rfl, hS, hl, k⟩ := h
  have hr1 : Room 1 _ := hr.mono (by decide)
  refine ⟨_, pss_cons (ps_set (i := 1) scLawZ.nd rfl (.inl rfl) (pe_call GK hr1 rfl mK kK bK .nil pass0 (pa_cons (pv 0) pa_nil))) <|
    pss_cons (ps_for PassesOwn.never rfl (pi_range1 (by rfl) B.range (pa_cons pe_int pa_nil)) (pg_name (i := 2) scLawZ.nd rfl (.inl rfl))
      (pss_cons (st := tbZ 0) (z_0 O hr) <| pss_cons (st := tbZ 1) (z_1 B hr hgd) <| pss_cons (st := tbZ 2) (z_2 B O hr hgd) <| pss_cons (st := tbZ 3) (z_3 B bv T O hr) <| pss_cons (st := tbZ 4) (z_4 bs T hr) <| pss_cons (st := tbZ 5) (z_5 B T hr hgd) <|
        pss_cons (st := tbZ 6) (z_6 B T hr hgd) <| pss_cons (st := tbZ 7) (z_7 bs T hr) <| pss_cons (st := tbZ 8) (z_8 B T hr hgd) <| pss_one (st := tbZ 9) (z_9 B T hr hgd))) <|
    pss_cons (st := stZ 2) (y_2 B O hr) <|
    pss_cons (ps_set (i := 10) scLawZ.nd rfl (.inl rfl) (pe_lst (pa_cons (pe_glob (v := .int 12) rfl m0 ⟨_, rfl⟩) (pa_cons (pe_glob (v := .int 8) rfl m1 ⟨_, rfl⟩) (pa_cons (pe_glob (v := .int 4) rfl m2 ⟨_, rfl⟩) (pa_cons (pe_glob (v := .int 1000) rfl m3 ⟨_, rfl⟩)
      (pa_cons (pe_glob (v := .int 500) rfl m4 ⟨_, rfl⟩) (pa_cons (pe_glob (v := .int (10 ^ 30)) rfl m5 ⟨_, rfl⟩) (pa_cons (pe_glob (v := .int 40) rfl m6 ⟨_, rfl⟩) pa_nil))))))))) <|
    pss_one (ps_ret (pe_cmpR op_eq (pe_callB (call_repr hr hgd) (by rfl) B.repr (by decide +kernel) (pa_cons (pv 10) pa_nil))
      (pe_callB (call_repr hr hgd) (by rfl) B.repr (by decide +kernel) (pa_cons (pe_lst (pa_cons pe_int (pa_cons pe_int (pa_cons pe_int (pa_cons pe_int (pa_cons pe_int (pa_cons (pe_op op_pow pe_int pe_int) (pa_cons pe_int pa_nil)))))))) pa_nil)) (nomark _))), ?_⟩
  refine ⟨_, rfl, a, ns, rfl, hS, hl, fun p d H1 s1 np nd D1 => ?_⟩
  refine ⟨12, rfl, by decide, by decide, for_range (lo := 0) (n := 12) (fun i σ H' => (∃ s2 s3 s4 s5 s6 s7 s8 s9 s10 s11, σ = [some (.ref a), some (.ref p), s2, s3, s4, s5, s6, s7, s8, s9, s10, s11]) ∧ Deck H' p d 63)
    ⟨⟨_, _, _, _, _, _, _, _, _, _, rfl⟩, D1⟩ ?_ ?_⟩
  · rintro i σ H4 hi ⟨⟨s2, s3, s4, s5, s6, s7, s8, s9, s10, s11, rfl⟩, D4⟩
    refine ⟨⟨a, p, d, 0 + (i : Int)⟩, ⟨s3, s4, s5, s6, s7, s8, s9, s10, s11, rfl, D4⟩, fun σ1 J1 h1 => ⟨_, h1, fun σ2 J2 h2 => ⟨_, h2, fun σ3 J3 h3 => ⟨_, h3, fun σ4 J4 h4 => ⟨_, h4, fun σ5 J5 h5 => ⟨_, h5, fun σ6 J6 h6 => ⟨_, h6, fun σ7 J7 h7 => ⟨_, h7, fun σ8 J8 h8 => ⟨_, h8, fun σ9 J9 h9 => ⟨_, h9, fun σA JA hA => ?_⟩⟩⟩⟩⟩⟩⟩⟩⟩⟩
    obtain ⟨v, o, tw, z5, z6, z7, z9, z10, z11, rfl, b, _⟩ := hA
    exact ⟨⟨_, _, _, _, _, _, _, _, _, _, rfl⟩, b.dk⟩
  · rintro σ H4 ⟨⟨s2, s3, s4, s5, s6, s7, s8, s9, s10, s11, rfl⟩, D4⟩
    refine ⟨(a, p), ⟨_, _, _, _, _, _, _, _, _, _, rfl⟩, ?_⟩
    rintro σ H5 ⟨s2, s3, s4, s5, s6, s7, s8, s9, s10, s11, rfl⟩
    refine ⟨by show 7 ≤ sizeLine; decide, fun L nL => ?_⟩
    obtain ⟨as, r1⟩ := bnds_rep (K := K) nL
    refine ⟨_, rfl, .ref L, bnds.map D.int, as, rfl, r1, bnds_sm, bnds_wt.1, bnds_wt.2, ?_⟩
    refine ⟨10, 30, rfl, rfl, ⟨by decide, by decide, by decide⟩, by show 7 ≤ sizeLine; decide, fun M nM => ?_⟩
    obtain ⟨as2, r2⟩ := bnds_rep (K := K) nM
    refine ⟨.ref M, bnds.map D.int, as2, rfl, r2, bnds_sm, bnds_wt.1, bnds_wt.2, rfl, ?_⟩
    rw [decide_eq_true rfl]
    exact k _
end
end Sw
namespace Sw
open PySem PySem.Spec PyProof.Rows L2 PySem.W
section
variable {P : Program} {K : Frag} {mg : Str → Option Value} {h : Heap}
theorem kc_mk {C S : Addr} {x nm q : Str} {N : Addr} {bs bm : List Value} {sn : List Str} {sub : List Value} {ab : Bool} {col : Option Bool} {dd : Option Addr} {m0 m1 m2 m3 m5 : Option Value} (X : K.In h) (G : h.Ns mainGlobals mg)
    (aC : nsIn K mainGlobals x = some (some (.ref C))) (xL : K.lookup C = some (excClassObj nm q C N bs bm true sn sub ab col dd m0 m1 m2 m3 m5 "ValueError.__new__")) (hbm : bm = aboveX S) (en : exN nm = x)
    (e1 : findIn K (.ref C) "__getattribute__" = some (some (.builtin "BaseException.__getattribute__"))) (e2 : findIn K (.ref C) "__getattr__" = some none) (e4 : hasDictIn K C = true)
    (e5 : findIn K (.ref C) "__class__" = some (some (.builtin "object.__class__"))) (e6 : specialIn K (.builtin "object.__class__") "__get__" = some (some (.builtin "getset_descriptor.__get__"))) (e7 : takesIn K (.builtin "object.__class__") = some true) : KC K mg x C S := by
  subst hbm
  have hcl : ∃ cd, clsIn K C = some cd ∧ cd.name = nm ∧ cd.mro = .ref C :: aboveX S := by
    unfold clsIn
    rw [xL]
    exact ⟨_, rfl, rfl, rfl⟩
  obtain ⟨cd, h1, h2, h3⟩ := hcl
  have ty : typeIn K (.ref C) = some (.type "type") := by
    show (K.lookup C).map (·.cls) = _
    rw [xL]
    rfl
  have above : ∀ T : String, (aboveX S).contains (.type T) = true → subIn K (.ref C) (.type T) = some true := fun T hT => by
    rw [sub_mro h1 h3, List.contains_cons, hT, Bool.or_true]
  have b1 : (aboveX S).contains (.type "BaseException") = true := by unfold aboveX; simp
  have b2 : (aboveX S).contains (.type "object") = true := by unfold aboveX; simp
  exact ⟨mg_of X G aC, ⟨cd, h1, by rw [h2]; exact en, h3⟩, ty, ⟨e1, e2, above _ b1, e4, e5, e6, e7, above _ b2⟩⟩
theorem ks_mk {S : Addr} {nm q : Str} {N : Addr} {bs bm : List Value} {sn : List Str} {sub : List Value} {ab : Bool} {col : Option Bool} {dd : Option Addr} {m0 m1 m2 m3 m5 : Option Value} (X : K.In h) (G : h.Ns mainGlobals mg)
    (aS : nsIn K mainGlobals "SwapError" = some (some (.ref S))) (xL : K.lookup S = some (excClassObj nm q S N bs bm true sn sub ab col dd m0 m1 m2 m3 m5 "ValueError.__new__")) (en : exN nm = "SwapError") : ∃ S, KS K mg S := by
  have hcl : ∃ cd, clsIn K S = some cd ∧ cd.name = nm := by
    unfold clsIn
    rw [xL]
    exact ⟨_, rfl, rfl⟩
  obtain ⟨cd, h1, h2⟩ := hcl
  refine ⟨S, mg_of X G aS, ⟨cd, h1, by rw [h2]; exact en⟩, ?_⟩
  show (K.lookup S).map (·.cls) = _
  rw [xL]
  rfl
theorem ku_mk {C S : Addr} {x : Str} (X : K.In h) (G : h.Ns mainGlobals mg)
    (aS : nsIn K mainGlobals "SwapError" = some (some (.ref S))) (k : KC K mg x C S) (made : excIn K C [.type "ValueError", .type "Exception", .type "BaseException", .type "object"] "ValueError.__new__" = true) (kC : keepIn K (.ref C) = true) : ∃ C S, KU K mg x C S ∧ mg "SwapError" = some (.ref S) :=
  ⟨C, S, ⟨k, made, kC⟩, mg_of X G aS⟩
theorem ki_mk {C S fI : Addr} {x fld msg file nm q : Str} {N : Addr} {bs bm : List Value} {sn : List Str} {sub : List Value} {ab : Bool} {col : Option Bool} {dd : Option Addr} {m0 m1 m2 m3 m5 : Option Value} (X : K.In h) (G : h.Ns mainGlobals mg)
    (aS : nsIn K mainGlobals "SwapError" = some (some (.ref S))) (k : KC K mg x C S) (F : XInit K C fI msg fld fld file) (xL : K.lookup C = some (excClassObj nm q C N bs bm true sn sub ab col dd m0 m1 m2 m3 m5 "ValueError.__new__")) (hbm : PySem.HandSPX.refsVE bm = true)
    (sa : findIn K (.ref C) "__setattr__" = some (some (.builtin "object.__setattr__"))) (opq : nsIn K cStatics "thirdparty.any" = some none) (kp : keepIn K (.ref C) = true)
    (hf : ((P.main.file : Str) == file) = true) (ht : (P.main.scope.names.lookup ("super" : Str)).isSome = false) : ∃ C S, KI P K mg x fld C S ∧ mg "SwapError" = some (.ref S) :=
  ⟨C, S, ⟨k, ⟨⟨nm, q, N, bs, bm, sn, sub, ab, col, dd, m0, m1, m2, m3, m5, xL, hbm⟩, sa, opq, kp⟩, ⟨fI, msg, file, F, hf⟩, ht⟩, mg_of X G aS⟩
end
theorem one_S {K : Frag} {mg : Str → Option Value} {S S' : Addr} (h : KS K mg S) (e : mg "SwapError" = some (.ref S')) : S' = S := Value.ref.inj (Option.some.inj (e.symm.trans h.m))
theorem run_k05 {P : Program} {w : World} {K : Frag} {mg : Str → Option Value} {base : Heap} {fa a : Addr} {s₁ : Shared} {H : Hp} {ns : List Int} {t0 t1 t2 t3 t4 t5 t6 : Tok} (B : NoNames mg) (bs : mg "super" = none) (bv : mg "ValueError" = none) (bd : mg "divmod" = none)
    (m0 : mg "MAX_STOPS" = some (.int 12 t0)) (m1 : mg "MAX_LED" = some (.int 8 t1)) (m2 : mg "MAX_FEW" = some (.int 4 t2)) (m3 : mg "MAX_RUN" = some (.int 1000 t3)) (m4 : mg "MAX_LEGS" = some (.int 500 t4)) (m5 : mg "MAX_TIMES" = some (.int (10 ^ 30) t5)) (m6 : mg "MAX_EDITS" = some (.int 40 t6)) (mF : mg "factorial" = some (.builtin "math.factorial"))
    (hS : ∃ S, KS K mg S) (x0 : ∃ C S, KU K mg "Unfit" C S ∧ mg "SwapError" = some (.ref S)) (x1 : ∃ C S, KU K mg "BadText" C S ∧ mg "SwapError" = some (.ref S)) (x2 : ∃ C S, KU K mg "Apart" C S ∧ mg "SwapError" = some (.ref S))
    (x3 : ∃ C S, KI P K mg "Barred" "paper" C S ∧ mg "SwapError" = some (.ref S)) (x4 : ∃ C S, KI P K mg "NoWay" "entries" C S ∧ mg "SwapError" = some (.ref S)) (x5 : ∃ C S, KI P K mg "BadNet" "error" C S ∧ mg "SwapError" = some (.ref S)) (x6 : ∃ C S, KI P K mg "BadStanding" "error" C S ∧ mg "SwapError" = some (.ref S))
    (x7 : ∃ C S, KU K mg "TooManyEdits" C S ∧ mg "SwapError" = some (.ref S)) (x8 : ∃ C S, KU K mg "NothingToUndo" C S ∧ mg "SwapError" = some (.ref S)) (x9 : ∃ C S, KU K mg "NothingToRedo" C S ∧ mg "SwapError" = some (.ref S))
    (xa : ∃ C S, KI P K mg "NoVersion" "given" C S ∧ mg "SwapError" = some (.ref S)) (xb : ∃ C S, KI P K mg "BadLog" "place" C S ∧ mg "SwapError" = some (.ref S))
    (hBetween : Has K mg "is_integer_between" sBetween) (hPair : Has K mg "is_pair" sPair) (hError : Has K mg "net_error" sError) (hForm : Has K mg "has_net_form" sForm) (hStop : Has K mg "is_stop" sStop) (hArrow : Has K mg "is_arrow" sArrow)
    (hReadNet : Has K mg "read_net" sReadNet) (hEndsIn : Has K mg "ends_in" sEndsIn) (hNumIn : Has K mg "number_in" sNumIn) (hStAt : Has K mg "standing_at" sStAt) (hRowAt : Has K mg "row_at" sRowAt)
    (hDeck : Has K mg "_law_deck" sDeck) (hDraw : Has K mg "_law_draw" sDraw) (hPick : Has K mg "_law_pick" sPick) (hThing : Has K mg "_law_thing" sThing) (hKept : Has K mg "_law_kept" sKept) (hClasses : Has K mg "_law_classes" sClasses) (hMarks : Has K mg "_law_marks" sMarks) (hRefused : Has K mg "_law_is_refused" sRefused)
    (hLaw : Has K mg "law" sLawZ) (hfa : mg "law" = some (.ref fa))
    (ev : Env0 P w K mg base callerA [] s₁ H) (sq : SqL K H a (ns.map V.int)) (hlen : ns.length ≤ 63) :
    codeAny (model P w) callerA (.call (.ref fa) ⟨[.ref a], []⟩) (CR CX0 [] P w H s₁ (fun v _ => v = .bl true) fun _ _ _ => False) s₁ := by
  obtain ⟨S, kS⟩ := hS
  obtain ⟨c0, S0, x0, e0⟩ := x0
  obtain ⟨c1, S1, x1, e1⟩ := x1
  obtain ⟨c2, S2, x2, e2⟩ := x2
  obtain ⟨c3, S3, x3, e3⟩ := x3
  obtain ⟨c4, S4, x4, e4⟩ := x4
  obtain ⟨c5, S5, x5, e5⟩ := x5
  obtain ⟨c6, S6, x6, e6⟩ := x6
  obtain ⟨c7, S7, x7, e7⟩ := x7
  obtain ⟨c8, S8, x8, e8⟩ := x8
  obtain ⟨c9, S9, x9, e9⟩ := x9
  obtain ⟨ca, Sa, xa, ea⟩ := xa
  obtain ⟨cb, Sb, xb, eb⟩ := xb
  obtain rfl := one_S kS e0
  obtain rfl := one_S kS e1
  obtain rfl := one_S kS e2
  obtain rfl := one_S kS e3
  obtain rfl := one_S kS e4
  obtain rfl := one_S kS e5
  obtain rfl := one_S kS e6
  obtain rfl := one_S kS e7
  obtain rfl := one_S kS e8
  obtain rfl := one_S kS e9
  obtain rfl := one_S kS ea
  obtain rfl := one_S kS eb
  have T : Twelve P K mg _ (fun i => [c0, c1, c2, c3, c4, c5, c6, c7, c8, c9, ca, cb].getD i 0) := ⟨kS, x0, x1, x2, x3, x4, x5, x6, x7, x8, x9, xa, xb⟩
  obtain ⟨f, fd, F, m⟩ := hLaw
  have e := hfa.symm.trans m
  cases e
  have O1 : Own P w K mg base 1 "is_integer_between" ["value", "least", "most"] (spBetween K) := hBetween.own (fun f fd F => ok_between F B) fun _ _ _ _ _ _ us hl => match us, hl with | [_, _, _], _ => rfl
  have O2 : Own P w K mg base 1 "is_pair" ["value"] (spPair K) := hPair.own (fun f fd F => ok_pair F B) fun _ _ _ _ _ _ us hl => match us, hl with | [_], _ => rfl
  have O3 : Own P w K mg base 2 "is_stop" ["n", "value"] (spStop K) := hStop.own (fun f fd F => ok_stop F O1) fun _ _ _ _ _ _ us hl => match us, hl with | [_, _], _ => rfl
  have O4 : Own P w K mg base 3 "is_arrow" ["n", "value"] (spArrow K) := hArrow.own (fun f fd F => ok_arrow F O2 O3) fun _ _ _ _ _ _ us hl => match us, hl with | [_, _], _ => rfl
  have O5 : Own P w K mg base 2 "has_net_form" ["value"] (spForm K) := hForm.own (fun f fd F => ok_form F B t0 m0 O2 O1) fun _ _ _ _ _ _ us hl => match us, hl with | [_], _ => rfl
  have O6 : Own P w K mg base 4 "net_error" ["value"] (spError K) := hError.own (fun f fd F => ok_error F B O5 O4) fun _ _ _ _ _ _ us hl => match us, hl with | [_], _ => rfl
  have N1 : Own P w K mg base 1 "number_in" ["word"] spNumIn := hNumIn.own (fun f fd F => ok_numIn F B t0 m0) fun _ _ _ _ _ _ us hl => match us, hl with | [_], _ => rfl
  have N2 : Own P w K mg base 2 "ends_in" ["word"] spEndsIn := hEndsIn.own (fun f fd F => ok_endsIn F N1) fun _ _ _ _ _ _ us hl => match us, hl with | [_], _ => rfl
  have SA : Own P w K mg base 1 "row_at" ["many", "number"] spRowAt := hRowAt.own (fun f fd F => ok_rowAt F B bd mF) fun _ _ _ _ _ _ us hl => match us, hl with | [_, _], _ => rfl
  obtain ⟨fR, fdR, FR, mR⟩ := hReadNet
  obtain ⟨fA, fdA, FA, mA⟩ := hStAt
  obtain ⟨fT, fdT, FT, mT⟩ := hThing
  have OR : OwnX P w K mg base 5 "read_net" ["value"] (spReadNet K c1) := ⟨fR, fdR, ok_readNet FR B (x1.uerr kS) N1 N2 O6, mR, FR.kp, FR.binds fun _ _ _ _ _ _ us hl => match us, hl with | [_], _ => rfl⟩
  have OS : OwnX P w K mg base 2 "standing_at" ["n", "value"] (spStAt K c0) := ⟨fA, fdA, ok_stAt FA B bd mF (x0.uerr kS) O1 SA, mA, FA.kp, FA.binds fun _ _ _ _ _ _ us hl => match us, hl with | [_, _], _ => rfl⟩
  have L1 : Own P w K mg base 1 "_law_deck" ["script"] (spDeck K) := hDeck.own (fun f fd F => ok_deck F B) fun _ _ _ _ _ _ us hl => match us, hl with | [_], _ => rfl
  have L2 : Own P w K mg base 1 "_law_draw" ["deck", "many"] spDraw := hDraw.own (fun f fd F => ok_draw F B) fun _ _ _ _ _ _ us hl => match us, hl with | [_, _], _ => rfl
  have L3 : Own P w K mg base 2 "_law_pick" ["deck", "items"] spPick := hPick.own (fun f fd F => ok_pick F B L2) fun _ _ _ _ _ _ us hl => match us, hl with | [_, _], _ => rfl
  have L4 := own_thing (P := P) (w := w) (base := base) FT mT (FT.binds fun _ _ _ _ _ _ us hl => match us, hl with | [_, _], _ => rfl) B L2 L3
  have L5 : Own P w K mg base 2 "_law_kept" ["thing"] spKept := hKept.own (fun f fd F => ok_kept F bs T) fun _ _ _ _ _ _ us hl => match us, hl with | [_], _ => rfl
  have L6 : Own P w K mg base 2 "_law_classes" ["thing"] (spClasses _) := hClasses.own (fun f fd F => ok_classes F bs T) fun _ _ _ _ _ _ us hl => match us, hl with | [_], _ => rfl
  have L7 : Own P w K mg base 1 "_law_marks" ["own"] (spMarks _) := hMarks.own (fun f fd F => ok_marks F B T) fun _ _ _ _ _ _ us hl => match us, hl with | [_], _ => rfl
  have L8 : Own P w K mg base 6 "_law_is_refused" ["value", "is_text"] (spRefused K) := hRefused.own (fun f fd F => ok_refused F B bv T OR OS) fun _ _ _ _ _ _ us hl => match us, hl with | [_, _], _ => rfl
  have rm : Room 7 callerA := ⟨rfl, by decide, by decide⟩
  refine run_def (us := [.ref a]) (vs := [.ref a]) (Q := fun v _ => v = .bl true) (E := fun _ _ _ => False) F scLawZ rm ev (F.binds (ps := ["script"]) (fun _ _ _ _ _ _ us hl => match us, hl with | [_], _ => rfl) s₁ [.ref a] ?_ rfl) (.cons rfl .nil) rfl fun cdv => ?_
  · exact ev.mod.kin.keeps fun b o z => (ev.bs b o z).1
  · exact law_bodyZ (Q := fun v _ => v = .bl true) B bs bv m0 m1 m2 m3 m4 m5 m6 T ⟨L1, L4, L5, L6, L7, L8⟩ (rm.deeper _) rfl ⟨a, ns, rfl, sq, hlen, fun _ => rfl⟩
end Sw
open PySem PySem.W PyProof.Rows
set_option maxHeartbeats 0 in
theorem PySem.Challenge.cw_swapstops_k05_errors_and_bounds_holds : PySem.Challenge.rw_swapstops_k05_errors_and_bounds.Holds := by
  w_on; o_law; k_head; (case hw => w_witness2)
  k_fill
  refine Sw.walk_law (l := PySem.Challenge.rw_swapstops_k05_errors_and_bounds) rfl rfl (fun w h Y => PySem.W.kIn_of Y) ?F
  case F =>
    intro w mg fa h KX G hmg base s₁ H a ns ev sq hlen
    refine' Sw.run_k05 ?qz0h ?qz1h ?qz2h ?qz3h ?qz4h ?qz5h ?qz6h ?qz7h ?qz8h ?qz9h ?qz10h ?qz11h ?qz12h ?qz13h ?qz14h ?qz15h ?qz16h ?qz17h ?qz18h ?qz19h ?qz20h ?qz21h ?qz22h ?qz23h ?qz24h ?qz25h ?qz26h ?qz27h ?qz28h ?qz29h ?qz30h ?qz31h ?qz32h ?qz33h ?qz34h ?qz35h ?qz36h ?qz37h ?qz38h ?qz39h ?qz40h ?qz41h ?qz42h ?qz43h ?qz44h hmg ev sq hlen
    case qz0h =>
      refine' ⟨PySem.W.mg_none_of KX G ?zn1, PySem.W.mg_none_of KX G ?zn2, PySem.W.mg_none_of KX G ?zn3, PySem.W.mg_none_of KX G ?zn4, PySem.W.mg_none_of KX G ?zn5, PySem.W.mg_none_of KX G ?zn6, PySem.W.mg_none_of KX G ?zn7, PySem.W.mg_none_of KX G ?zn8, PySem.W.mg_none_of KX G ?zn9, PySem.W.mg_none_of KX G ?zn10, PySem.W.mg_none_of KX G ?zn11, PySem.W.mg_none_of KX G ?zn12, PySem.W.mg_none_of KX G ?zn13, PySem.W.mg_none_of KX G ?zn14, PySem.W.mg_none_of KX G ?zn15⟩
      (case zn1 => k_is); (case zn2 => k_is); (case zn3 => k_is); (case zn4 => k_is); (case zn5 => k_is); (case zn6 => k_is); (case zn7 => k_is); (case zn8 => k_is); (case zn9 => k_is); (case zn10 => k_is); (case zn11 => k_is); (case zn12 => k_is); (case zn13 => k_is); (case zn14 => k_is); (case zn15 => k_is)
    case qz1h =>
      refine' PySem.W.mg_none_of KX G ?nn1
      (case nn1 => k_is)
    case qz2h =>
      refine' PySem.W.mg_none_of KX G ?nn2
      (case nn2 => k_is)
    case qz3h =>
      refine' PySem.W.mg_none_of KX G ?nn3
      (case nn3 => k_is)
    case qz4h =>
      refine' PySem.W.mg_of KX G ?mm4
      (case mm4 => k_is)
    case qz5h =>
      refine' PySem.W.mg_of KX G ?mm5
      (case mm5 => k_is)
    case qz6h =>
      refine' PySem.W.mg_of KX G ?mm6
      (case mm6 => k_is)
    case qz7h =>
      refine' PySem.W.mg_of KX G ?mm7
      (case mm7 => k_is)
    case qz8h =>
      refine' PySem.W.mg_of KX G ?mm8
      (case mm8 => k_is)
    case qz9h =>
      refine' PySem.W.mg_of KX G ?mm9
      (case mm9 => k_is)
    case qz10h =>
      refine' PySem.W.mg_of KX G ?mm10
      (case mm10 => k_is)
    case qz11h =>
      refine' PySem.W.mg_of KX G ?mm11
      (case mm11 => k_is)
    case qz12h =>
      refine' Sw.ks_mk KX G ?saS12 ?sxL12 ?sen12
      (case saS12 => k_is); (case sxL12 => k_is); (case sen12 => decide +kernel)
    case qz13h =>
      refine' Sw.ku_mk KX G ?uaSu13 ?uku13 ?umadeu13 ?ukCu13
      (case uaSu13 => k_is)
      case uku13 =>
        refine' Sw.kc_mk KX G ?kaCu13 ?kxLu13 ?kbmu13 ?kenu13 ?ke1u13 ?ke2u13 ?ke4u13 ?ke5u13 ?ke6u13 ?ke7u13
        (case kaCu13 => k_is); (case kxLu13 => k_is); (case kbmu13 => rfl); (case kenu13 => decide +kernel); (case ke1u13 => k_is); (case ke2u13 => k_is); (case ke4u13 => k_is); (case ke5u13 => k_is); (case ke6u13 => k_is); (case ke7u13 => k_is)
      (case umadeu13 => k_exc); (case ukCu13 => k_is)
    case qz14h =>
      refine' Sw.ku_mk KX G ?uaSu14 ?uku14 ?umadeu14 ?ukCu14
      (case uaSu14 => k_is)
      case uku14 =>
        refine' Sw.kc_mk KX G ?kaCu14 ?kxLu14 ?kbmu14 ?kenu14 ?ke1u14 ?ke2u14 ?ke4u14 ?ke5u14 ?ke6u14 ?ke7u14
        (case kaCu14 => k_is); (case kxLu14 => k_is); (case kbmu14 => rfl); (case kenu14 => decide +kernel); (case ke1u14 => k_is); (case ke2u14 => k_is); (case ke4u14 => k_is); (case ke5u14 => k_is); (case ke6u14 => k_is); (case ke7u14 => k_is)
      (case umadeu14 => k_exc); (case ukCu14 => k_is)
    case qz15h =>
      refine' Sw.ku_mk KX G ?uaSu15 ?uku15 ?umadeu15 ?ukCu15
      (case uaSu15 => k_is)
      case uku15 =>
        refine' Sw.kc_mk KX G ?kaCu15 ?kxLu15 ?kbmu15 ?kenu15 ?ke1u15 ?ke2u15 ?ke4u15 ?ke5u15 ?ke6u15 ?ke7u15
        (case kaCu15 => k_is); (case kxLu15 => k_is); (case kbmu15 => rfl); (case kenu15 => decide +kernel); (case ke1u15 => k_is); (case ke2u15 => k_is); (case ke4u15 => k_is); (case ke5u15 => k_is); (case ke6u15 => k_is); (case ke7u15 => k_is)
      (case umadeu15 => k_exc); (case ukCu15 => k_is)
    case qz16h =>
      refine' Sw.ki_mk KX G ?iaSi16 ?iki16 ?iFi16 ?ixLi16 ?ibmi16 ?isai16 ?iopqi16 ?ikpi16 ?ihfi16 ?ihti16
      (case iaSi16 => k_is)
      case iki16 =>
        refine' Sw.kc_mk KX G ?kaCi16 ?kxLi16 ?kbmi16 ?keni16 ?ke1i16 ?ke2i16 ?ke4i16 ?ke5i16 ?ke6i16 ?ke7i16
        (case kaCi16 => k_is); (case kxLi16 => k_is); (case kbmi16 => rfl); (case keni16 => decide +kernel); (case ke1i16 => k_is); (case ke2i16 => k_is); (case ke4i16 => k_is); (case ke5i16 => k_is); (case ke6i16 => k_is); (case ke7i16 => k_is)
      (case ixLi16 => k_is); (case ibmi16 => decide +kernel); (case isai16 => k_is); (case iopqi16 => k_is); (case ikpi16 => k_is)
      case iFi16 =>
        refine' Sw.init_mk ?yli16 ?yci16 ?ylci16 ?yhvi16 ?ylcci16 ?yhli16 ?yhai16 ?yhari16 ?yhbi16 ?ypni16 ?ypci16 ?ypsi16 ?ypdi16 ?ysui16 ?ysubi16 ?yselfi16 ?ynfi16 ?ytyi16 ?yfii16
        (case yfii16 => k_is); (case yli16 => k_is); (case yci16 => k_is); (case ylci16 => k_is); (case yhvi16 => rfl); (case ylcci16 => k_is)
        (case yhli16 => rfl); (case yhai16 => rfl); (case yhari16 => rfl); (case yhbi16 => exact fun kw _ _ => by cases kw <;> rfl)
        (case ypni16 => decide +kernel); (case ypci16 => decide +kernel); (case ypsi16 => decide +kernel); (case ypdi16 => decide +kernel)
        (case ysui16 => ks_is); (case ysubi16 => k_is); (case yselfi16 => first | rfl | k_is); (case ynfi16 => k_is); (case ytyi16 => k_is)
      (case ihfi16 => rfl); (case ihti16 => rfl)
    case qz17h =>
      refine' Sw.ki_mk KX G ?iaSi17 ?iki17 ?iFi17 ?ixLi17 ?ibmi17 ?isai17 ?iopqi17 ?ikpi17 ?ihfi17 ?ihti17
      (case iaSi17 => k_is)
      case iki17 =>
        refine' Sw.kc_mk KX G ?kaCi17 ?kxLi17 ?kbmi17 ?keni17 ?ke1i17 ?ke2i17 ?ke4i17 ?ke5i17 ?ke6i17 ?ke7i17
        (case kaCi17 => k_is); (case kxLi17 => k_is); (case kbmi17 => rfl); (case keni17 => decide +kernel); (case ke1i17 => k_is); (case ke2i17 => k_is); (case ke4i17 => k_is); (case ke5i17 => k_is); (case ke6i17 => k_is); (case ke7i17 => k_is)
      (case ixLi17 => k_is); (case ibmi17 => decide +kernel); (case isai17 => k_is); (case iopqi17 => k_is); (case ikpi17 => k_is)
      case iFi17 =>
        refine' Sw.init_mk ?yli17 ?yci17 ?ylci17 ?yhvi17 ?ylcci17 ?yhli17 ?yhai17 ?yhari17 ?yhbi17 ?ypni17 ?ypci17 ?ypsi17 ?ypdi17 ?ysui17 ?ysubi17 ?yselfi17 ?ynfi17 ?ytyi17 ?yfii17
        (case yfii17 => k_is); (case yli17 => k_is); (case yci17 => k_is); (case ylci17 => k_is); (case yhvi17 => rfl); (case ylcci17 => k_is)
        (case yhli17 => rfl); (case yhai17 => rfl); (case yhari17 => rfl); (case yhbi17 => exact fun kw _ _ => by cases kw <;> rfl)
        (case ypni17 => decide +kernel); (case ypci17 => decide +kernel); (case ypsi17 => decide +kernel); (case ypdi17 => decide +kernel)
        (case ysui17 => ks_is); (case ysubi17 => k_is); (case yselfi17 => first | rfl | k_is); (case ynfi17 => k_is); (case ytyi17 => k_is)
      (case ihfi17 => rfl); (case ihti17 => rfl)
    case qz18h =>
      refine' Sw.ki_mk KX G ?iaSi18 ?iki18 ?iFi18 ?ixLi18 ?ibmi18 ?isai18 ?iopqi18 ?ikpi18 ?ihfi18 ?ihti18
      (case iaSi18 => k_is)
      case iki18 =>
        refine' Sw.kc_mk KX G ?kaCi18 ?kxLi18 ?kbmi18 ?keni18 ?ke1i18 ?ke2i18 ?ke4i18 ?ke5i18 ?ke6i18 ?ke7i18
        (case kaCi18 => k_is); (case kxLi18 => k_is); (case kbmi18 => rfl); (case keni18 => decide +kernel); (case ke1i18 => k_is); (case ke2i18 => k_is); (case ke4i18 => k_is); (case ke5i18 => k_is); (case ke6i18 => k_is); (case ke7i18 => k_is)
      (case ixLi18 => k_is); (case ibmi18 => decide +kernel); (case isai18 => k_is); (case iopqi18 => k_is); (case ikpi18 => k_is)
      case iFi18 =>
        refine' Sw.init_mk ?yli18 ?yci18 ?ylci18 ?yhvi18 ?ylcci18 ?yhli18 ?yhai18 ?yhari18 ?yhbi18 ?ypni18 ?ypci18 ?ypsi18 ?ypdi18 ?ysui18 ?ysubi18 ?yselfi18 ?ynfi18 ?ytyi18 ?yfii18
        (case yfii18 => k_is); (case yli18 => k_is); (case yci18 => k_is); (case ylci18 => k_is); (case yhvi18 => rfl); (case ylcci18 => k_is)
        (case yhli18 => rfl); (case yhai18 => rfl); (case yhari18 => rfl); (case yhbi18 => exact fun kw _ _ => by cases kw <;> rfl)
        (case ypni18 => decide +kernel); (case ypci18 => decide +kernel); (case ypsi18 => decide +kernel); (case ypdi18 => decide +kernel)
        (case ysui18 => ks_is); (case ysubi18 => k_is); (case yselfi18 => first | rfl | k_is); (case ynfi18 => k_is); (case ytyi18 => k_is)
      (case ihfi18 => rfl); (case ihti18 => rfl)
    case qz19h =>
      refine' Sw.ki_mk KX G ?iaSi19 ?iki19 ?iFi19 ?ixLi19 ?ibmi19 ?isai19 ?iopqi19 ?ikpi19 ?ihfi19 ?ihti19
      (case iaSi19 => k_is)
      case iki19 =>
        refine' Sw.kc_mk KX G ?kaCi19 ?kxLi19 ?kbmi19 ?keni19 ?ke1i19 ?ke2i19 ?ke4i19 ?ke5i19 ?ke6i19 ?ke7i19
        (case kaCi19 => k_is); (case kxLi19 => k_is); (case kbmi19 => rfl); (case keni19 => decide +kernel); (case ke1i19 => k_is); (case ke2i19 => k_is); (case ke4i19 => k_is); (case ke5i19 => k_is); (case ke6i19 => k_is); (case ke7i19 => k_is)
      (case ixLi19 => k_is); (case ibmi19 => decide +kernel); (case isai19 => k_is); (case iopqi19 => k_is); (case ikpi19 => k_is)
      case iFi19 =>
        refine' Sw.init_mk ?yli19 ?yci19 ?ylci19 ?yhvi19 ?ylcci19 ?yhli19 ?yhai19 ?yhari19 ?yhbi19 ?ypni19 ?ypci19 ?ypsi19 ?ypdi19 ?ysui19 ?ysubi19 ?yselfi19 ?ynfi19 ?ytyi19 ?yfii19
        (case yfii19 => k_is); (case yli19 => k_is); (case yci19 => k_is); (case ylci19 => k_is); (case yhvi19 => rfl); (case ylcci19 => k_is)
        (case yhli19 => rfl); (case yhai19 => rfl); (case yhari19 => rfl); (case yhbi19 => exact fun kw _ _ => by cases kw <;> rfl)
        (case ypni19 => decide +kernel); (case ypci19 => decide +kernel); (case ypsi19 => decide +kernel); (case ypdi19 => decide +kernel)
        (case ysui19 => ks_is); (case ysubi19 => k_is); (case yselfi19 => first | rfl | k_is); (case ynfi19 => k_is); (case ytyi19 => k_is)
      (case ihfi19 => rfl); (case ihti19 => rfl)
    case qz20h =>
      refine' Sw.ku_mk KX G ?uaSu20 ?uku20 ?umadeu20 ?ukCu20
      (case uaSu20 => k_is)
      case uku20 =>
        refine' Sw.kc_mk KX G ?kaCu20 ?kxLu20 ?kbmu20 ?kenu20 ?ke1u20 ?ke2u20 ?ke4u20 ?ke5u20 ?ke6u20 ?ke7u20
        (case kaCu20 => k_is); (case kxLu20 => k_is); (case kbmu20 => rfl); (case kenu20 => decide +kernel); (case ke1u20 => k_is); (case ke2u20 => k_is); (case ke4u20 => k_is); (case ke5u20 => k_is); (case ke6u20 => k_is); (case ke7u20 => k_is)
      (case umadeu20 => k_exc); (case ukCu20 => k_is)
    case qz21h =>
      refine' Sw.ku_mk KX G ?uaSu21 ?uku21 ?umadeu21 ?ukCu21
      (case uaSu21 => k_is)
      case uku21 =>
        refine' Sw.kc_mk KX G ?kaCu21 ?kxLu21 ?kbmu21 ?kenu21 ?ke1u21 ?ke2u21 ?ke4u21 ?ke5u21 ?ke6u21 ?ke7u21
        (case kaCu21 => k_is); (case kxLu21 => k_is); (case kbmu21 => rfl); (case kenu21 => decide +kernel); (case ke1u21 => k_is); (case ke2u21 => k_is); (case ke4u21 => k_is); (case ke5u21 => k_is); (case ke6u21 => k_is); (case ke7u21 => k_is)
      (case umadeu21 => k_exc); (case ukCu21 => k_is)
    case qz22h =>
      refine' Sw.ku_mk KX G ?uaSu22 ?uku22 ?umadeu22 ?ukCu22
      (case uaSu22 => k_is)
      case uku22 =>
        refine' Sw.kc_mk KX G ?kaCu22 ?kxLu22 ?kbmu22 ?kenu22 ?ke1u22 ?ke2u22 ?ke4u22 ?ke5u22 ?ke6u22 ?ke7u22
        (case kaCu22 => k_is); (case kxLu22 => k_is); (case kbmu22 => rfl); (case kenu22 => decide +kernel); (case ke1u22 => k_is); (case ke2u22 => k_is); (case ke4u22 => k_is); (case ke5u22 => k_is); (case ke6u22 => k_is); (case ke7u22 => k_is)
      (case umadeu22 => k_exc); (case ukCu22 => k_is)
    case qz23h =>
      refine' Sw.ki_mk KX G ?iaSi23 ?iki23 ?iFi23 ?ixLi23 ?ibmi23 ?isai23 ?iopqi23 ?ikpi23 ?ihfi23 ?ihti23
      (case iaSi23 => k_is)
      case iki23 =>
        refine' Sw.kc_mk KX G ?kaCi23 ?kxLi23 ?kbmi23 ?keni23 ?ke1i23 ?ke2i23 ?ke4i23 ?ke5i23 ?ke6i23 ?ke7i23
        (case kaCi23 => k_is); (case kxLi23 => k_is); (case kbmi23 => rfl); (case keni23 => decide +kernel); (case ke1i23 => k_is); (case ke2i23 => k_is); (case ke4i23 => k_is); (case ke5i23 => k_is); (case ke6i23 => k_is); (case ke7i23 => k_is)
      (case ixLi23 => k_is); (case ibmi23 => decide +kernel); (case isai23 => k_is); (case iopqi23 => k_is); (case ikpi23 => k_is)
      case iFi23 =>
        refine' Sw.init_mk ?yli23 ?yci23 ?ylci23 ?yhvi23 ?ylcci23 ?yhli23 ?yhai23 ?yhari23 ?yhbi23 ?ypni23 ?ypci23 ?ypsi23 ?ypdi23 ?ysui23 ?ysubi23 ?yselfi23 ?ynfi23 ?ytyi23 ?yfii23
        (case yfii23 => k_is); (case yli23 => k_is); (case yci23 => k_is); (case ylci23 => k_is); (case yhvi23 => rfl); (case ylcci23 => k_is)
        (case yhli23 => rfl); (case yhai23 => rfl); (case yhari23 => rfl); (case yhbi23 => exact fun kw _ _ => by cases kw <;> rfl)
        (case ypni23 => decide +kernel); (case ypci23 => decide +kernel); (case ypsi23 => decide +kernel); (case ypdi23 => decide +kernel)
        (case ysui23 => ks_is); (case ysubi23 => k_is); (case yselfi23 => first | rfl | k_is); (case ynfi23 => k_is); (case ytyi23 => k_is)
      (case ihfi23 => rfl); (case ihti23 => rfl)
    case qz24h =>
      refine' Sw.ki_mk KX G ?iaSi24 ?iki24 ?iFi24 ?ixLi24 ?ibmi24 ?isai24 ?iopqi24 ?ikpi24 ?ihfi24 ?ihti24
      (case iaSi24 => k_is)
      case iki24 =>
        refine' Sw.kc_mk KX G ?kaCi24 ?kxLi24 ?kbmi24 ?keni24 ?ke1i24 ?ke2i24 ?ke4i24 ?ke5i24 ?ke6i24 ?ke7i24
        (case kaCi24 => k_is); (case kxLi24 => k_is); (case kbmi24 => rfl); (case keni24 => decide +kernel); (case ke1i24 => k_is); (case ke2i24 => k_is); (case ke4i24 => k_is); (case ke5i24 => k_is); (case ke6i24 => k_is); (case ke7i24 => k_is)
      (case ixLi24 => k_is); (case ibmi24 => decide +kernel); (case isai24 => k_is); (case iopqi24 => k_is); (case ikpi24 => k_is)
      case iFi24 =>
        refine' Sw.init_mk ?yli24 ?yci24 ?ylci24 ?yhvi24 ?ylcci24 ?yhli24 ?yhai24 ?yhari24 ?yhbi24 ?ypni24 ?ypci24 ?ypsi24 ?ypdi24 ?ysui24 ?ysubi24 ?yselfi24 ?ynfi24 ?ytyi24 ?yfii24
        (case yfii24 => k_is); (case yli24 => k_is); (case yci24 => k_is); (case ylci24 => k_is); (case yhvi24 => rfl); (case ylcci24 => k_is)
        (case yhli24 => rfl); (case yhai24 => rfl); (case yhari24 => rfl); (case yhbi24 => exact fun kw _ _ => by cases kw <;> rfl)
        (case ypni24 => decide +kernel); (case ypci24 => decide +kernel); (case ypsi24 => decide +kernel); (case ypdi24 => decide +kernel)
        (case ysui24 => ks_is); (case ysubi24 => k_is); (case yselfi24 => first | rfl | k_is); (case ynfi24 => k_is); (case ytyi24 => k_is)
      (case ihfi24 => rfl); (case ihti24 => rfl)
    case qz25h =>
      refine' Sw.has_mk KX G ?va1 ?vl1 ?vc1 ?vk1
      (case va1 => k_is); (case vl1 => k_is); (case vc1 => k_is); (case vk1 => k_is)
    case qz26h =>
      refine' Sw.has_mk KX G ?va2 ?vl2 ?vc2 ?vk2
      (case va2 => k_is); (case vl2 => k_is); (case vc2 => k_is); (case vk2 => k_is)
    case qz27h =>
      refine' Sw.has_mk KX G ?va3 ?vl3 ?vc3 ?vk3
      (case va3 => k_is); (case vl3 => k_is); (case vc3 => k_is); (case vk3 => k_is)
    case qz28h =>
      refine' Sw.has_mk KX G ?va4 ?vl4 ?vc4 ?vk4
      (case va4 => k_is); (case vl4 => k_is); (case vc4 => k_is); (case vk4 => k_is)
    case qz29h =>
      refine' Sw.has_mk KX G ?va5 ?vl5 ?vc5 ?vk5
      (case va5 => k_is); (case vl5 => k_is); (case vc5 => k_is); (case vk5 => k_is)
    case qz30h =>
      refine' Sw.has_mk KX G ?va6 ?vl6 ?vc6 ?vk6
      (case va6 => k_is); (case vl6 => k_is); (case vc6 => k_is); (case vk6 => k_is)
    case qz31h =>
      refine' Sw.has_mk KX G ?va7 ?vl7 ?vc7 ?vk7
      (case va7 => k_is); (case vl7 => k_is); (case vc7 => k_is); (case vk7 => k_is)
    case qz32h =>
      refine' Sw.has_mk KX G ?va8 ?vl8 ?vc8 ?vk8
      (case va8 => k_is); (case vl8 => k_is); (case vc8 => k_is); (case vk8 => k_is)
    case qz33h =>
      refine' Sw.has_mk KX G ?va9 ?vl9 ?vc9 ?vk9
      (case va9 => k_is); (case vl9 => k_is); (case vc9 => k_is); (case vk9 => k_is)
    case qz34h =>
      refine' Sw.has_mk KX G ?va10 ?vl10 ?vc10 ?vk10
      (case va10 => k_is); (case vl10 => k_is); (case vc10 => k_is); (case vk10 => k_is)
    case qz35h =>
      refine' Sw.has_mk KX G ?va11 ?vl11 ?vc11 ?vk11
      (case va11 => k_is); (case vl11 => k_is); (case vc11 => k_is); (case vk11 => k_is)
    case qz36h =>
      refine' Sw.has_mk KX G ?va12 ?vl12 ?vc12 ?vk12
      (case va12 => k_is); (case vl12 => k_is); (case vc12 => k_is); (case vk12 => k_is)
    case qz37h =>
      refine' Sw.has_mk KX G ?va13 ?vl13 ?vc13 ?vk13
      (case va13 => k_is); (case vl13 => k_is); (case vc13 => k_is); (case vk13 => k_is)
    case qz38h =>
      refine' Sw.has_mk KX G ?va14 ?vl14 ?vc14 ?vk14
      (case va14 => k_is); (case vl14 => k_is); (case vc14 => k_is); (case vk14 => k_is)
    case qz39h =>
      refine' Sw.has_mk KX G ?va15 ?vl15 ?vc15 ?vk15
      (case va15 => k_is); (case vl15 => k_is); (case vc15 => k_is); (case vk15 => k_is)
    case qz40h =>
      refine' Sw.has_mk KX G ?va16 ?vl16 ?vc16 ?vk16
      (case va16 => k_is); (case vl16 => k_is); (case vc16 => k_is); (case vk16 => k_is)
    case qz41h =>
      refine' Sw.has_mk KX G ?va17 ?vl17 ?vc17 ?vk17
      (case va17 => k_is); (case vl17 => k_is); (case vc17 => k_is); (case vk17 => k_is)
    case qz42h =>
      refine' Sw.has_mk KX G ?va18 ?vl18 ?vc18 ?vk18
      (case va18 => k_is); (case vl18 => k_is); (case vc18 => k_is); (case vk18 => k_is)
    case qz43h =>
      refine' Sw.has_mk KX G ?va19 ?vl19 ?vc19 ?vk19
      (case va19 => k_is); (case vl19 => k_is); (case vc19 => k_is); (case vk19 => k_is)
    case qz44h =>
      refine' Sw.has_mk KX G ?va20 ?vl20 ?vc20 ?vk20
      (case va20 => k_is); (case vl20 => k_is); (case vc20 => k_is); (case vk20 => k_is)
