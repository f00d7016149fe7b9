import PyProof.Rows.All
import Wide.All
import OpenK.AllK
import Wide.FinOn
import KE.KExcSuper
import HandS.ForExc
import HandS.ExcInit
import HandS.ExcValue
import KE.KExcStr
import PyProof.ReprReads
import PyProof.ReprLen
import PyProof.StrHeap
import HandS.Call
import HandS.IsInst
import KE.KExcIs
import HandS.ForMost
import HandS.Walk
import KE.GoesMore
import KE.GoesEnum
import PyProof.Draws
import HandS.TupLe
import HandS.SortRule
import HandS.Zip
import PyProof.EnumStmt
import PyProof.TableTree
import PyProof.FactsTree
import HandS.Conv
import HandS.WideBits
import HandS.Base
import HandS.Lambda
import HandS.WordsExc
import PyProof.NeKinds
import HandS.Wide
import HandS.Ends
import HandS.WordsDict
import HandS.WordsList
import KE.DataAny
import HandS.Gcd
import PyProof.TupleOfSeq
import HandS.Deep
import HandS.TupAny
import HandS.SortInts
import HandS.ExcOwn
import HandS.TryOnly
import KE.KMathGC
import HandS.ExcIs
import HandS.Star
import HandS.Style
import HandS.TupMul
import HandS.EndTab
import KE.KNestM
import PySem.Challenge.RW_swapstops_k19_names_spoilt
set_option Elab.async false
set_option linter.all false
set_option maxRecDepth 100000
set_option maxHeartbeats 4000000
namespace Sw
open PySem PySem.Spec PyProof.Rows PySem.W
/-- an exception's record -/
abbrev xRec (C : Addr) (d : Option Addr) (t : Addr) : Obj := { cls := .ref C, dict := d, data := .fields #[.ref t, .none, .none, .none, .bool false, .none] }
abbrev xTup (vs : List Value) : Obj := { cls := .type "tuple", data := .seq vs.toArray }
/-- what the written part says of an own exception's class over ValueError -/
structure XCls (K : Frag) (C : Addr) : Prop where
  cls : ∃ nm q N bs bm sn sub ab col dd k0 k1 k2 k3 k5, K.lookup C = some (excClassObj nm q C N bs bm true sn sub ab col dd k0 k1 k2 k3 k5 "ValueError.__new__") ∧ PySem.HandSPX.refsVE bm = true
  sa : findIn K (.ref C) "__setattr__" = some (some (.builtin "object.__setattr__"))
  opq : nsIn K cStatics "thirdparty.any" = some none
  kp : keepIn K (.ref C) = true
section
variable {P : Program} {w : World} {A : Around} {E : Value → Shared → Prop} {h : Heap} {g : Array GenState} {d : Drawn} {t : Nat} {os : OsState} {K : Frag} {C x : Addr}
/-- super().__init__ as it was bound, called: the args are laid anew -/
theorem bound_call (T : XCls K C) (X : K.In h) {u t0 : Addr} {dv : Option Addr} {rest : List Value} {Q : Value → Shared → Prop}
    (hu : h.get? u = some (kxs_mw "ValueError.__init__" x)) (hx : h.get? x = some (xRec C dv t0)) (hz : rest.length ≤ sizeLine)
    (hq : ∀ h' t1, (∀ b o, b ≠ x → h.get? b = some o → h'.get? b = some o) → h.get? t1 = none → t1 ≠ x → h'.get? x = some (xRec C dv t1) → h'.get? t1 = some (xTup rest) → Q .none ⟨h', g, d, t, os⟩) :
    wpAny (model P w) A (call (.ref u) rest) Q E ⟨h, g, d, t, os⟩ := by
  obtain ⟨nm, q, N, bs, bm, sn, sub, ab, col, dd, k0, k1, k2, k3, k5, hC, hbm⟩ := T.cls
  refine wpAny_call (codeAny_of_tree ?_)
  show wpAny _ A.in1 (callAny (.ref u) ⟨rest, []⟩) _ _ _
  simp only [callAny]
  refine wpAny_bind (wpAny_load hu ?_)
  simp only [kxs_mw, show (Value.type "method-wrapper" == Value.type "method" || Value.type "method-wrapper" == Value.type "builtin_function_or_method" || Value.type "method-wrapper" == Value.type "method-wrapper") = true by decide, if_true]
  refine KFB.if_so (by decide) ?_
  refine wpAny_bind (check_bound_init PySem.F.excBase_ValueError.toExcCallFacts (X _ _ hC) hx rfl ?_)
  refine wpAny_bind (wpAny_pure (wpAny_pure ?_))
  refine ⟨plainId_quiet PySem.F.excBase_ValueError.init.plain _, codeAny_builtin PySem.F.excBase_ValueError.initEntry ?_⟩
  refine exc_init_tree (cls := .ref C) (t0 := t0) (dv := dv) (c2 := .none) (c3 := .none) (b4 := .bool false) hx hz fun h' k e1 e2 => ?_
  refine hq h' h.objs.size k (Heap.get?_none_of_le (Nat.le_refl _)) (fun z => ?_) e1 e2
  rw [← z] at hx
  exact absurd (Heap.lt_size hx) (Nat.lt_irrefl _)
end
end Sw
namespace Sw
open PySem PySem.Spec PyProof.Rows PySem.W PySem.Calls
/-- the body that super().__init__(msg); self.fld = prm makes -/
abbrev initBody (msg fld prm : Str) (j : Nat) (p0 p1 p2 p3 p4 p5 p6 p7 p8 p9 : Pos) : List Stmt :=
  [.Expr (.Call (.Attribute (.Call (.Name "super" p0) [] [] p1) "__init__" p2) [.Constant (.str msg) j p3] [] p4) p5,
   .Assign [.Attribute (.Name "self" p6) fld p7] (.Name prm p8) p9]
theorem call_base {o : Expr} {name : Str} {apos pos : Pos} {e : Expr} {env : Env} (hl : (apos.endLine == pos.line) = true) (hs : starEach [e] env = [(false, eval e env)]) :
    eval (.Call (.Attribute o name apos) [e] [] pos) env = (do
      let ov ← attributeBase o name env (eval o env)
      standAt apos.atName
      let (f, first) ← holding [ov] (getMethod ov name (do return (← importBound o env).getD true))
      callWith pos f first (backTo pos (starEach [e] env)) []) := by
  have e2 : methodCallPos true o env apos pos = pure pos := by
    unfold methodCallPos
    rw [hl]
    rfl
  show (do
    let ov ← attributeBase o name env (eval o env)
    standAt apos.atName
    methodCall o name apos pos env ov 1 (backTo pos (starEach [e] env)) (backToKw pos (keywordEach [] env))) = _
  unfold methodCall
  rw [hs]
  show (do
    let ov ← attributeBase o name env (eval o env)
    standAt apos.atName
    let (f, first) ← holding [ov] (calleeOf true o env ov name)
    let callPos ← methodCallPos true o env apos pos
    callWith callPos f first (backTo pos [(false, eval e env)]) []) = _
  rw [e2]
  simp only [pure_bind]
  rfl
abbrev initScope (prm : Str) : Scope := { kind := .function, names := [(PySem.Str.ofString "self", .local), (prm, .local), (PySem.Str.ofString "__class__", .free), (PySem.Str.ofString "super", .globalImplicit)], isGenerator := false, isCoroutine := false, more := [] }
/-- the argument u by place, or by its word -/
abbrev initArgs (kw : Bool) (prm : Str) (a u : Value) : Args := match kw with
  | true => ⟨[a], [(prm, u)]⟩
  | false => ⟨[a, u], []⟩
/-- what the written part says of the def __init__ of such a class -/
structure XInit (K : Frag) (C fI : Addr) (msg fld prm file : Str) : Prop where
  ex : ∃ (qual : Str) (j : Nat) (p0 p1 p2 p3 p4 p5 p6 p7 p8 p9 : Pos) (params : Arguments) (dV kV doc pm ct oc ccl cl : Value) (an od cdd cld : Option Addr) (osl ccs csl : Array (Option Value)) (cc cda : Addr) (vs : Array Value) (tf : Tok) (ar : Arg),
    K.lookup fI = some ⟨oc, od, .func (ksFn "__init__" qual params (initBody msg fld prm j p0 p1 p2 p3 p4 p5 p6 p7 p8 p9) (initScope prm) dV kV doc pm an (.ref cda) ct cc), osl⟩ ∧
    codeIn K (.ref cda) qual = true ∧ K.lookup cda = some ⟨ccl, cdd, .fields vs, ccs⟩ ∧ vs[2]? = some (.str file tf) ∧ K.lookup cc = some ⟨cl, cld, .cell (some (.ref C)), csl⟩ ∧
    (p2.endLine == p4.line) = true ∧ (params.posonlyargs ++ params.args).head? = some ar ∧ ar.arg = "self" ∧
    (∀ (kw : Bool) (a u : Value), bindArgs (ksFn "__init__" qual params (initBody msg fld prm j p0 p1 p2 p3 p4 p5 p6 p7 p8 p9) (initScope prm) dV kV doc pm an (.ref cda) ct cc) (initArgs kw prm a u) = pure [(("self" : Str), a), (prm, u)])
  pn : ¬ prm = "self"
  pc : ¬ prm = "__class__"
  ps : ¬ prm = "super"
  pd : (prm == ("__debug__" : Str)) = false
  su : ks_superIn K C C "__init__" = some (some (.builtin "ValueError.__init__"))
  sub : subIn K (.ref C) (.type "ValueError") = some true
  self : mroIn K C (.ref C) = some true
  nf : findIn K (.ref C) fld = some none
  ty : typeIn K (.ref fI) = some (.type "function")
  fi : findIn K (.ref C) "__init__" = some (some (.ref fI))
section
variable {P : Program} {w : World} {A : Around} {E : Value → Shared → Prop} {h : Heap} {g : Array GenState} {d : Drawn} {t : Nat} {os : OsState} {K : Frag} {C x fI t0 : Addr} {mg mb : Str → Option Value} {u : Value} {msg fld prm file : Str}
theorem init_code {kw : Bool} (T : XCls K C) (F : XInit K C fI msg fld prm file) (X : K.In h) {R : Result → Shared → Prop}
    (hroom : A.depth < recursionLimit) (hlim : h.NoLimit) (hmg : h.Ns mainGlobals mg) (hmb : h.Ns builtinsNs mb) (hg : mg "super" = none) (hb : mb "super" = some (.type "super"))
    (hfile : ((P.main.file : Str) == file) = true) (htop : (P.main.scope.names.lookup ("super" : Str)).isSome = false)
    (hx : h.get? x = some (xRec C none t0)) (hxK : K.lookup x = none)
    (hq : ∀ h' tk t1 dx, (∀ b o, b ≠ x → h.get? b = some o → h'.get? b = some o) → h.get? t1 = none → t1 ≠ x → h'.get? x = some (xRec C (some dx) t1) → (∃ tm, h'.get? t1 = some (xTup [.str msg tm])) → h.get? dx = none → dx ≠ x → dx ≠ t1 → h'.Ns1 dx (fun y => if y = fld then some u else none) → R (.ok (.ret .none)) ⟨h', g, d, tk, os⟩) :
    codeAny (model P w) A (.call (.ref fI) (initArgs kw prm (.ref x) u)) R ⟨h, g, d, t, os⟩ := by
  obtain ⟨nm, q, N, bs, bm, sn, sub, ab, col, dd, k0, k1, k2, k3, k5, hC, hbm⟩ := T.cls
  obtain ⟨qual, j, p0, p1, p2, p3, p4, p5, p6, p7, p8, p9, params, dV, kV, doc, pm, ct, oc, ccl, cl, an, od, cdd, cld, osl, ccs, csl, cc, cda, vs, tf, ar, lk, hcd, hcda, hvs, hcc, hln, har, hself, hbind⟩ := F.ex
  have ne1 : (("__class__" : Str) == "self") = false := by decide
  have ne2 : (("super" : Str) == "self") = false := by decide
  have ne3 : (("super" : Str) == "__class__") = false := by decide
  have nb : ∀ {a b : Str}, ¬ b = a → (a == b) = false := fun h => beq_eq_false_iff_ne.mpr fun z => h z.symm
  have hsl : (initScope prm).names.lookup ("self" : Str) = some .local := by
    show List.lookup ("self" : Str) ((("self" : Str), NameKind.local) :: _) = _
    rw [List.lookup_cons_self]
  have hpl : (initScope prm).names.lookup prm = some .local := by
    show List.lookup prm ((("self" : Str), NameKind.local) :: (prm, NameKind.local) :: _) = _
    rw [List.lookup_cons, beq_eq_false_iff_ne.mpr F.pn, List.lookup_cons_self]
  have hcls : (initScope prm).names.lookup ("__class__" : Str) = some .free := by
    show List.lookup ("__class__" : Str) ((("self" : Str), NameKind.local) :: (prm, NameKind.local) :: (("__class__" : Str), NameKind.free) :: _) = _
    rw [List.lookup_cons, ne1, List.lookup_cons, nb F.pc, List.lookup_cons_self]
  have hsup : (initScope prm).names.lookup ("super" : Str) = some .globalImplicit := by
    show List.lookup ("super" : Str) ((("self" : Str), NameKind.local) :: (prm, NameKind.local) :: (("__class__" : Str), NameKind.free) :: (("super" : Str), NameKind.globalImplicit) :: _) = _
    rw [List.lookup_cons, ne2, List.lookup_cons, nb F.ps, List.lookup_cons, ne3, List.lookup_cons_self]
  have hncell : ∀ x ∈ (initScope prm).names, x.2 ≠ .cell := fun x hx => by
    simp at hx
    rcases hx with rfl | rfl | rfl | rfl <;> (intro z; cases z)
  have hk : (initScope prm).kind = .function := rfl
  have hcl : clsIn K C = some { name := nm, bases := bs, mro := .ref C :: bm, ns := N, qualname := q, hasDict := true, slotNames := sn, subclasses := sub, abstract := ab, collection := col, hasDel := false } := by unfold clsIn; rw [hC] <;> rfl
  have hCd : ∃ cd, h.get? C = some (excClassObj nm q C N bs bm true sn sub ab col dd k0 k1 k2 k3 k5 "ValueError.__new__") ∧ (excClassObj nm q C N bs bm true sn sub ab col dd k0 k1 k2 k3 k5 "ValueError.__new__").data = .cls cd := ⟨_, X _ _ hC, rfl⟩
  obtain ⟨cdC, hC1, hC2⟩ := hCd
  have hloc : ∀ y ∈ [(("self" : Str), Value.ref x), (prm, u)], (initScope prm).names.lookup y.1 = some .local := fun y hy => by
    rcases List.mem_cons.mp hy with rfl | hy
    · exact hsl
    · obtain rfl := List.mem_singleton.mp hy
      exact hpl
  refine ks_codeAny_call_defAt (fd := ksFn "__init__" qual params (initBody msg fld prm j p0 p1 p2 p3 p4 p5 p6 p7 p8 p9) (initScope prm) dV kV doc pm an (.ref cda) ct cc) (binds := [(("self" : Str), Value.ref x), (prm, u)]) hroom (X _ _ lk) rfl hlim (codeRec_of X hcd) rfl (.of_eq (hbind kw _ _)) hncell hloc (fun h1 hns k1 => ?_) rfl rfl hk
  have mp : ([(("self" : Str), Value.ref x), (prm, u)].reverse.lookup prm) = some u := by
    show List.lookup prm [(prm, u), (("self" : Str), Value.ref x)] = some u
    rw [List.lookup_cons_self]
  have ms : ([(("self" : Str), Value.ref x), (prm, u)].reverse.lookup ("self" : Str)) = some (.ref x) := by
    show List.lookup ("self" : Str) [(prm, u), (("self" : Str), Value.ref x)] = some (.ref x)
    have e : (("self" : Str) == prm) = false := beq_eq_false_iff_ne.mpr fun z => F.pn z.symm
    rw [List.lookup_cons, e, List.lookup_cons_self]
  -- super().__init__(msg)
  refine ks_wpAt_execs_cons (ks_wpAt_Expr_any (ks_wpAt_MethodCall ?_ (call_base hln rfl)))
  refine ks_wpAt_super_base (env := ksEnv qual (initScope prm) h.objs.size fI (.ref cda) cc) (ar := ar) hsup hcls (by decide) rfl (k1 _ _ (X _ _ lk)) rfl har rfl (k1 _ _ (X _ _ hcda)) rfl hvs hfile htop ?_
  refine ks_loadName_global hk hsup (loadGlobal_builtin (env := ksEnv qual (initScope prm) h.objs.size fI (.ref cda) cc) (hmg.keeps k1) hg (hmb.keeps k1) hb ⟨rfl, ?_⟩)
  refine wpAny_loadName_free hk hcls rfl ⟨_, k1 _ _ (X _ _ hcc), rfl⟩ ?_
  rw [hself]
  refine wpAny_loadName_local hk hsl hns ms ?_
  refine ks_wpAny_isType_cls (k1 _ _ hC1) hC2 ⟨rfl, ?_⟩
  have X1 : K.In h1 := X.keeps k1
  refine ks_wpAny_call_super (k1 _ _ hC1) hC2 (k1 _ _ hx) rfl (fun c e => by cases e) (looks_mroIn X1 F.self) (fun h2 eso k2 => ?_)
  have X2 : K.In h2 := X1.keeps k2
  have hx2 := k2 _ _ (k1 _ _ hx)
  have I2 : InstAt h2 x (xRec C none t0) C none := ⟨hx2, rfl, rfl, trivial⟩
  have hm := F.su
  unfold ks_superIn at hm
  rw [hcl] at hm
  refine kxs_getMethod kxs_ValueError eso (looks_opaque X2 T.opq) (l₀ := .ref C :: bm) ?_ rfl X2 hm (I2.type.andThen (looks_subIn X2 F.sub)) (ks_ne X2 I2 hcl) (by decide) ?_
  · exact fun A Q E s k q => wpAny_bind ((looks_clsIn X2 hcl) A _ E s k (wpAny_pure q))
  have k3 : ∀ b o, h2.get? b = some o → (h2.push (kxs_mw "ValueError.__init__" x)).get? b = some o := fun b o e => Heap.get?_push_of_some _ e
  have hu3 : (h2.push (kxs_mw "ValueError.__init__" x)).get? h2.objs.size = some (kxs_mw "ValueError.__init__" x) := Heap.get?_push_at rfl rfl
  refine kxs_callWith (i := "ValueError.__init__") (x := x) rfl (evalArgs_plain ?_)
  show wpAny _ _ (spliced ((false, eval (.Constant (.str msg) j p3) _) :: backTo p4 (starEach [] _))) _ _ _
  refine Calls.spliced_cons (Calls.Constant_str ?_)
  refine Calls.spliced_nil ⟨hu3, ?_⟩
  show wpAny _ _ (call (.ref h2.objs.size) [.str msg _]) _ _ _
  refine bound_call T (X2.keeps k3) hu3 (k3 _ _ hx2) (by show 1 ≤ sizeLine; rw [sizeLine_eq]; omega) fun h4 t1 k4 nt1 nx e1 e2 => ?_
  -- self.fld = prm
  have kAll : ∀ b o, b ≠ x → h.get? b = some o → h4.get? b = some o := fun b o hb e => k4 b o hb (k3 _ _ (k2 _ _ (k1 _ _ e)))
  have hLx : h.objs.size ≠ x := fun z => by
    rw [← z] at hx
    exact absurd (Heap.lt_size hx) (Nat.lt_irrefl _)
  have hns4 : h4.Ns h.objs.size fun z => List.lookup z [(("self" : Str), Value.ref x), (prm, u)].reverse := by
    obtain ⟨o, es, ep, ho, r⟩ := hns
    exact ⟨o, es, ep, k4 _ _ hLx (k3 _ _ (k2 _ _ ho)), r⟩
  have X4 : K.In h4 := fun b o e => kAll b o (fun z => by
    rw [z, hxK] at e
    cases e) (X _ _ e)
  refine ks_wpAt_execs_cons (wpAt_of_wpAny (plainObj_wpAny_Assign_Attribute ?_))
  refine wpAny_Name (wpAny_loadName_local hk hpl hns4 mp ?_) F.pd
  refine wpAny_Name (wpAny_loadName_local hk hsl hns4 ms ?_) (by decide)
  refine set_plain X4 (ox := xRec C none t1) (od := none) ⟨e1, rfl, rfl, trivial⟩ T.sa ?_
  refine PySem.HandSPX.exc_osa X4 e1 hcl (show PySem.HandSPX.refsVE (.ref C :: bm) = true from hbm) rfl F.nf (fun h5 tk' dx k5 dn dne hx5 hn5 => ?_)
  refine wpAt_of_wpAny (wpAny_pure ?_)
  have hn6 := hn5
  obtain ⟨oD, es, ep, hoD, hdD, _⟩ := hn5
  have e2' := k5 _ _ nx e2
  refine hq h5 tk' t1 dx (fun b o hb e => k5 b o hb (kAll b o hb e)) ?_ nx hx5 ⟨_, e2'⟩ ?_ dne (fun z => ?_) hn6
  rotate_left
  · cases e : h.get? dx with
    | none => rfl
    | some o =>
      have hb : dx ≠ x := dne
      exact absurd (Heap.lt_size (kAll _ _ hb e)) (Nat.not_lt.mpr dn)
  · rw [z, e2'] at hoD
    obtain rfl := Option.some.inj hoD
    cases hdD
  cases e : h.get? t1 with
  | none => rfl
  | some o =>
    rw [k3 _ _ (k2 _ _ (k1 _ _ e))] at nt1
    cases nt1
end
end Sw
namespace Sw
open PySem PySem.Spec PyProof.Rows L2
/-- an exception of the class at C that was made, its args at t -/
def xV (C t : Addr) (d : Option Addr) (a : Addr) : HO := .ext fun h => h.get? a = some (xRec C d t)
theorem xV_ok {P : Program} {w : World} {H : Hp} {h : Heap} {C t a : Addr} {d : Option Addr} (e : h.get? a = some (xRec C d t)) : ObjOk P w H h a (xV C t d a) :=
  ⟨e, ⟨_, e⟩, fun _ _ z k => k _ z⟩
theorem xV_at {P : Program} {w : World} {H : Hp} {h : Heap} {C t a : Addr} {d : Option Addr} (ok : HOk P w H h) (e : H a = some (xV C t d a)) : h.get? a = some (xRec C d t) := by
  have x : ObjOk P w H h a (.ext fun h => h.get? a = some (xRec C d t)) := ok a _ e
  exact x.1
section
variable {X : Cx} {pins : List (Addr × Obj)} {σ : L2.St} {H : Hp} {s : Shared}
/-- two new objects laid -/
theorem laid2 {h' : Heap} {a b : Addr} {o u : HO} {t' : Nat} (I : Inv X pins σ H s) (k : ∀ c v, s.heap.get? c = some v → h'.get? c = some v) (ha : s.heap.get? a = none) (hb : s.heap.get? b = none) (ne : b ≠ a)
    (new : ObjOk X.prog X.w (upd (upd H b u) a o) h' a o) (new2 : ObjOk X.prog X.w (upd (upd H b u) a o) h' b u) : Inv X pins σ (upd (upd H b u) a o) { s with heap := h', toks := t' } := by
  have na : H a = none := I.hok.gone ha
  have nb : H b = none := I.hok.gone hb
  have up : ∀ {c : Addr} {v : HO}, H c = some v → (upd (upd H b u) a o) c = some v := fun {c v} e => by
    rw [upd_ne (ne_of_none e na), upd_ne (ne_of_none e nb)]
    exact e
  have old : ∀ {c : Addr} {v : Obj}, s.heap.get? c = some v → c ≠ a ∧ c ≠ b := fun {c v} e => by
    constructor
    · intro z
      rw [z, ha] at e
      cases e
    · intro z
      rw [z, hb] at e
      cases e
  refine I.un ⟨fun c v e _ _ _ => k c v e, fun c v e _ _ _ => ⟨v.slots, k c v e⟩, fun c v e n _ => ?_, fun c v e _ => ⟨v, k c v e⟩, fun c xs e => up e, fun c v xs e => up e, fun c ps e => ⟨#[], by rw [up e]; simp⟩⟩ fun c v e => ?_
  · rw [upd_ne (old e).1, upd_ne (old e).2]
    exact n
  · by_cases ca : c = a
    · subst ca
      rw [upd_same] at e
      cases e
      exact new
    · by_cases cb : c = b
      · subst cb
        rw [upd_ne ca, upd_same] at e
        cases e
        exact new2
      · rw [upd_ne ca, upd_ne cb] at e
        exact (I.hok c v e).stay (fun d q _ z => k d q z) (fun d z => up z) fun d xs z => up z
/-- three -/
theorem laid3 {h' : Heap} {a b c : Addr} {o u v : HO} {t' : Nat} (I : Inv X pins σ H s) (k : ∀ x y, s.heap.get? x = some y → h'.get? x = some y) (ha : s.heap.get? a = none) (hb : s.heap.get? b = none) (hc : s.heap.get? c = none) (ne : b ≠ a) (ca : c ≠ a) (cb : c ≠ b)
    (new : ObjOk X.prog X.w (upd (upd (upd H c v) b u) a o) h' a o) (new2 : ObjOk X.prog X.w (upd (upd (upd H c v) b u) a o) h' b u) (new3 : ObjOk X.prog X.w (upd (upd (upd H c v) b u) a o) h' c v) : Inv X pins σ (upd (upd (upd H c v) b u) a o) { s with heap := h', toks := t' } := by
  have na : H a = none := I.hok.gone ha
  have nb : H b = none := I.hok.gone hb
  have nc : H c = none := I.hok.gone hc
  have up : ∀ {x : Addr} {y : HO}, H x = some y → (upd (upd (upd H c v) b u) a o) x = some y := fun {x y} e => by
    rw [upd_ne (ne_of_none e na), upd_ne (ne_of_none e nb), upd_ne (ne_of_none e nc)]
    exact e
  have old : ∀ {x : Addr} {y : Obj}, s.heap.get? x = some y → x ≠ a ∧ x ≠ b ∧ x ≠ c := fun {x y} e => by
    refine ⟨?_, ?_, ?_⟩
    · intro z
      rw [z, ha] at e
      cases e
    · intro z
      rw [z, hb] at e
      cases e
    · intro z
      rw [z, hc] at e
      cases e
  refine I.un ⟨fun x y e _ _ _ => k x y e, fun x y e _ _ _ => ⟨y.slots, k x y e⟩, fun x y e n _ => ?_, fun x y e _ => ⟨y, k x y e⟩, fun x xs e => up e, fun x y xs e => up e, fun x ps e => ⟨#[], by rw [up e]; simp⟩⟩ fun x y e => ?_
  · obtain ⟨z1, z2, z3⟩ := old e
    rw [upd_ne z1, upd_ne z2, upd_ne z3]
    exact n
  · by_cases xa : x = a
    · subst xa
      rw [upd_same] at e
      cases e
      exact new
    · by_cases xb : x = b
      · subst xb
        rw [upd_ne xa, upd_same] at e
        cases e
        exact new2
      · by_cases xc : x = c
        · subst xc
          rw [upd_ne xa, upd_ne xb, upd_same] at e
          cases e
          exact new3
        · rw [upd_ne xa, upd_ne xb, upd_ne xc] at e
          exact (I.hok x y e).stay (fun d q _ z => k d q z) (fun d z => up z) fun d xs z => up z
variable {e : Expr} {te : TE} {x : Str} {p pos : Pos} {C fI : Addr} {msg fld prm file : Str}
theorem boot_super : bootBuiltins "super" = some (.type "super") := by first | boot_by_name | rfl | kernel_rfl
/-- C(e), C an own class of errors whose __init__ says super().__init__(msg); self.fld = prm -/
theorem pe_xmk (T : XCls X.K C) (F : XInit X.K C fI msg fld prm file) (hr : Room 1 X.A) (hg : Gl X x) (hm : X.mg x = some (.ref C)) (hs : X.mg "super" = none)
    (hfile : ((X.prog.main.file : Str) == file) = true) (htop : (X.prog.main.scope.names.lookup ("super" : Str)).isSome = false) (he : PE X e te)
    (hst : starEach [e] X.env = (false, eval e X.env) :: starEach [] X.env := by rfl) (hdb : (x == ("__debug__" : Str)) = false := by decide) :
    PE X (.Call (.Name x p) [e] [] pos) (fun σ H Q => te σ H fun _ H1 => ∀ a t1 dx, H1 a = none → H1 t1 = none → H1 dx = none → t1 ≠ a → dx ≠ a → dx ≠ t1 → Q (.ref a) (upd (upd (upd H1 dx (.own a)) t1 (.tup [.str msg])) a (xV C t1 (some dx) a))) := by
  refine ⟨fun pins s σ H Q I h => ?_⟩
  obtain ⟨nm, q, N, bs, bm, sn, sub, ab, col, dd, k0, k1, k2, k3, k5, hC, hbm⟩ := T.cls
  refine wpAny_Call_Name_kw (ld_glob I hg hm ?_ hdb)
  refine PySem.W.callWith_K (h₀ := X.base) I.ok.mod.kin T.kp ?_ hst (by rfl)
  rw [hst]
  show wpAny _ _ (spliced ((false, eval e X.env) :: backTo pos (starEach [] X.env))) _ _ s
  refine Calls.spliced_cons (thn (he.run pins s σ H _ I h) fun u s1 ⟨v, H1, I1, r1, q1⟩ => ?_)
  refine Calls.spliced_nil ⟨I1.kIn, ?_⟩
  show wpAny _ _ (call (.ref C) [u]) _ _ _
  obtain ⟨hp, g, dr, tk, os⟩ := s1
  have kk : ∀ b o, hp.get? b = some o → ((hp.push (PySem.W.kdv_tup [u])).push (PySem.HandSPX.excO C hp.objs.size)).get? b = some o := fun b o e => Heap.get?_push_of_some _ (Heap.get?_push_of_some _ e)
  have hget : ((hp.push (PySem.W.kdv_tup [u])).push (PySem.HandSPX.excO C hp.objs.size)).get? (hp.objs.size + 1) = some (xRec C none hp.objs.size) := by
    show _ = some (PySem.HandSPX.excO C hp.objs.size)
    heap_get
  have na : hp.get? (hp.objs.size + 1) = none := Heap.get?_none_of_le (Nat.le_succ _)
  have kin := I1.kIn
  obtain ⟨mb, hb1, hb2⟩ := I1.mod.blt
  refine wpAny_call (PySem.HandSPX.call_own PySem.F.excBase_ValueError (fun Y => PySem.HandSPX.refsVE_contains Y bm hbm) (kin _ _ hC) (PySem.W.looks_findIn kin F.fi) (fun self => PySem.W.bind_fn kin self F.ty) (by show 1 ≤ sizeLine; rw [sizeLine_eq]; omega) ?_)
  refine init_code (kw := false) T F (kin.keeps kk) (mg := X.mg) (mb := mb) (hr.make C [u] []).depth (I1.nolimit.keeps kk) ((I1.mod.glob.keeps I1.bk).keeps kk) ((hb1.keeps I1.bk).keeps kk) hs ((hb2 _ (by decide)).trans boot_super) hfile htop hget ?_ fun h' tk' t1 dx k4 nt1 ne e1 e2 nd da dt en => ?_
  · cases z : X.K.lookup (hp.objs.size + 1) with
    | none => rfl
    | some o =>
      rw [kin _ _ z] at na
      cases na
  · have k5 : ∀ b o, hp.get? b = some o → h'.get? b = some o := fun b o e => k4 b o (fun z => by
      rw [z, na] at e
      cases e) (kk b o e)
    have nt0 : hp.get? t1 = none := by
      cases z : hp.get? t1 with
      | none => rfl
      | some o =>
        rw [kk _ _ z] at nt1
        cases nt1
    have nd0 : hp.get? dx = none := by
      cases z : hp.get? dx with
      | none => rfl
      | some o =>
        rw [kk _ _ z] at nd
        cases nd
    have eo : ∃ o, h'.get? dx = some o := by
      obtain ⟨oD, es, ep, hoD, _⟩ := en
      exact ⟨oD, hoD⟩
    obtain ⟨tm, e3⟩ := e2
    refine ⟨rfl, ⟨.ref (hp.objs.size + 1), _, laid3 (t' := tk') (o := xV C t1 (some dx) (hp.objs.size + 1)) (u := .tup [.str msg]) (v := .own (hp.objs.size + 1)) I1 k5 na nt0 nd0 ne da dt (xV_ok e1) ⟨?_, [.str msg tm], .cons ⟨tm, rfl⟩ .nil, ⟨_, e3, rfl, _, rfl⟩⟩ eo, rfl, q1 _ t1 dx (I1.hok.gone na) (I1.hok.gone nt0) (I1.hok.gone nd0) ne da dt⟩⟩
    show 1 ≤ sizeLine
    rw [sizeLine_eq]
    omega
/-- C(), C an own class of errors without __init__ -/
theorem pe_xmk0 {k : Nat} {bmB : List Value} {B newId initId : String} (F : ExcBaseFacts B newId initId bmB) (q : PySem.W.excIn X.K C bmB newId = true) (kC : PySem.W.keepIn X.K (.ref C) = true) (hg : Gl X x) (hm : X.mg x = some (.ref C))
    (hdb : (x == ("__debug__" : Str)) = false := by decide) :
    PE X (.Call (.Name x p) [] [] pos) (fun _ H Q => ∀ a t1, H a = none → H t1 = none → t1 ≠ a → Q (.ref a) (upd (upd H t1 (.tup [])) a (xV C t1 none a))) := by
  refine ⟨fun pins s σ H Q I h => ?_⟩
  refine wpAny_Call_Name_kw (ld_glob I hg hm ?_ hdb)
  refine PySem.W.callWith_K0 (first := []) I.kIn kC ?_
  show wpAny _ _ (call (.ref C) []) _ _ _
  obtain ⟨bm, N, nm, qn, bs, hdct, sn, sub, ab, col, dd, k0, k1, k2, k3, k5, mN, hC, hN, hni, T⟩ := exc_obj I.kIn q
  refine wpAny_call_exc_subT F T hC hN hni (fun h' a hm => ?_) (by show 0 ≤ sizeLine; omega)
  obtain ⟨t1, e1, nt, e2⟩ := hm.there
  have ne : t1 ≠ a := fun z => by
    rw [z, e1] at e2
    have e3 := Option.some.inj e2
    cases e3
  exact ⟨.ref a, _, laid2 (t' := s.toks) (o := xV C t1 none a) (u := .tup []) I hm.keeps hm.new nt ne (xV_ok e1) ⟨Nat.zero_le _, [], .nil, ⟨_, e2, rfl, _, rfl⟩⟩, rfl, h a t1 (I.hok.gone hm.new) (I.hok.gone nt) ne⟩
end
end Sw
namespace Sw
open PySem PySem.Spec PyProof.Rows PySem.W Builtin Builtin.BaseException
/-- how repr calls a class -/
def exN (nm : Str) : Str := ((nm.toString.cutAt '.').getLastD "")
/-- a class of errors, by what repr and isinstance ask -/
structure XGood (K : Frag) (C : Addr) (n : Str) : Prop where
  nm : ∃ cd, clsIn K C = some cd ∧ exN cd.name = n
  len : n.length ≤ 60
  rp : findIn K (.ref C) "__repr__" = some (some (.builtin "BaseException.__repr__"))
  sub : subIn K (.ref C) (.type "BaseException") = some true
  ga : findIn K (.ref C) "__getattribute__" = some (some (.builtin "BaseException.__getattribute__"))
  gt : findIn K (.ref C) "__getattr__" = some none
  ca : findIn K (.ref C) "__class__" = some (some (.builtin "object.__class__"))
  cn : specialIn K (.builtin "object.__class__") "__get__" = some (some (.builtin "getset_descriptor.__get__"))
  ct : takesIn K (.builtin "object.__class__") = some true
  mo : mroIn K C (.type "object") = some true
  ni : subIn K (.ref C) (.type "int") = some false
  nb : subIn K (.ref C) (.type "bool") = some false
  nt : subIn K (.ref C) (.type "tuple") = some false
  ns : subIn K (.ref C) (.type "str") = some false
  nl : subIn K (.ref C) (.type "list") = some false
  nd : subIn K (.ref C) (.type "dict") = some false
/-- the text of such an error, by its args (none or one text) -/
def xText (n : Str) : Option Str → Str
  | none => n ++ "()"
  | some m => n ++ "(" ++ reprText m ++ ")"
def xArgs : Option Str → List L2.V
  | none => []
  | some m => [.str m]
section
variable {prog : Program} {w : World} {A : Around} {E : Value → Shared → Prop} {s : Shared} {K : Frag} {C e t0 : Addr} {n : Str}
theorem typeNameWhole_C {M : Model} (G : XGood K C n) (x : ExcC K C e t0 s.heap) {Q : String → Shared → Prop} (h : ∀ nm : String, (((nm.cutAt '.').getLastD "" : String) : Str) = n → Q nm s) : wpAny M A (typeNameOfWhole (.ref e)) Q E s := by
  obtain ⟨cd, hc, hn⟩ := G.nm
  unfold typeNameOfWhole shownTypeOf
  refine wpAny_bind (wpAny_bind ((x.LT).here ?_))
  simp only [show (Value.ref C == Value.type "builtin_function_or_method") = false from rfl, Bool.false_eq_true, if_false]
  refine wpAny_pure ?_
  unfold typeNameWhole
  refine wpAny_bind ((looks_clsIn x.1 hc).here (wpAny_pure ?_))
  exact h _ hn
theorem bexcRepr_C (G : XGood K C n) (x : ExcC K C e t0 s.heap) (m : Option Str) {its : List Value} (hi : L2.Vals (xArgs m) its) (ht : s.heap.TupAt t0 its) (b : Nat) (hsz : b + (xText n m).length ≤ sizeLine)
    (g : List Code) (hg : A.guards = some g) (hcl : Clear g t0) (hu : A.units + 2 < cLine) {Q : Fin → Shared → Prop}
    (h : ∀ h' u tk, (∀ b o, s.heap.get? b = some o → h'.get? b = some o) → Q (.done (.ret (.str (xText n m) u))) { s with heap := h', toks := tk }) :
    wpAny (model prog w) A (Builtin.bexcReprAt b ⟨[.ref e], []⟩) Q E s := by
  unfold Builtin.bexcReprAt
  cases m with
  | some m =>
    cases hi with
    | cons r1 r2 =>
      cases r2
      obtain ⟨tk, rfl⟩ := r1
      have eP : (Str.ofString "(").length = 1 := by rw [PySem.ofString_length]; rfl
      have e1 : b + (n ++ Str.ofString "(" ++ reprText m ++ Str.ofString ")").length ≤ sizeLine := hsz
      have hsz2 : (n ++ Str.ofString "(" ++ reprText m ++ Str.ofString ")").length ≤ sizeLine := Nat.le_trans (Nat.le_add_left _ b) e1
      rw [strLen_append, strLen_append, strLen_append, eP] at e1
      have hsz1 : (reprText m).length ≤ sizeLine := by omega
      have hpile : b + (n.length + 1) ≤ sizeLine := by omega
      refine wpAny_bind (wpAny_pure ?_)
      refine wpAny_bind (typeNameWhole_C G x fun nm en => ?_)
      refine wpAny_bind (bexcArgs_C x ht ?_)
      show wpAny _ _ (rule "BaseException.__repr__.one-argument" >>= _) _ _ _
      refine wpAny_bind (wpAny_rule ?_)
      rw [en]
      refine wpAny_bind ?_
      rw [pyReprUnder_leaf (v := .str m tk) hpile (by intro a; nofun)]
      refine wpAny_pyRepr_str ?_ hsz1
      unfold retStr
      refine wpAny_bind (wpAny_mkStr (wpAny_pure ?_) hsz2)
      exact h s.heap _ _ fun _ _ e => e
  | none =>
    cases hi
    obtain ⟨ot, kk, hto, hc, hd⟩ := id ht
    have e1 : b + (n ++ Str.ofString "()").length ≤ sizeLine := hsz
    have e2 : (n ++ Str.ofString "()").length ≤ sizeLine := Nat.le_trans (Nat.le_add_left _ b) e1
    rw [strLen_append] at e1
    have e3 : (Str.ofString "()").length = 2 := by rw [PySem.ofString_length]; rfl
    have et : tupleText [] = ("()" : Str) := by decide +kernel
    refine wpAny_bind (wpAny_pure ?_)
    refine wpAny_bind (typeNameWhole_C G x fun nm en => ?_)
    refine wpAny_bind (bexcArgs_C x ht ?_)
    show wpAny _ _ (pyReprUnder (b + _) (.ref t0) >>= _) _ _ _
    rw [en]
    refine wpAny_bind ?_
    have hK := ReprK.tuple (prog := prog) (w := w) (as := []) (h₀ := s.heap) (d := 0) (a := t0) (o := ot) (items := #[]) (n := kk) (ts := []) hto hc hd (by simp) .nil
    refine hK (b + n.length) (by rw [et]; show b + n.length + (Str.ofString "()").length ≤ sizeLine; omega) A g E s _ hg (fun b hb => ?_) (by omega) (fun _ _ e => e) fun h' tk hk => ?_
    · obtain rfl := List.mem_singleton.mp hb
      exact hcl
    · rw [et]
      unfold retStr
      refine wpAny_bind (wpAny_mkStr (wpAny_pure ?_) e2)
      exact h h' _ _ hk
theorem reprUnder_C (G : XGood K C n) (x : ExcC K C e t0 s.heap) (m : Option Str) {its : List Value} (hi : L2.Vals (xArgs m) its) (ht : s.heap.TupAt t0 its) (b : Nat) (hsz : b + (xText n m).length ≤ sizeLine)
    (g : List Code) (hg : A.guards = some g) (hcl : Clear g t0) (hu : A.units + 3 < cLine) {Q : Value → Shared → Prop}
    (h : ∀ h' u tk, (∀ b o, s.heap.get? b = some o → h'.get? b = some o) → Q (.str (xText n m) u) { s with heap := h', toks := tk }) :
    wpAny (model prog w) A (pyReprObjUnder b (.ref e)) Q E s := by
  unfold pyReprObjUnder pyReprObjBy
  have hf : Looks (model prog w) s.heap (typeLookup (.ref C) "__repr__") (some (.builtin "BaseException.__repr__")) := looks_findIn x.1 G.rp
  have hb : bindSpecial (.builtin "BaseException.__repr__") (.ref e) = pure (.builtin "BaseException.__repr__", [.ref e]) := PySem.F.excStr_Exception.repr.bind _
  have hT : Looks (model prog w) s.heap (typeOf (.ref e)) (.ref C) := x.LT
  refine wpAny_bind (wpAny_cRoomFor (by omega) ?_)
  unfold specialOf
  refine wpAny_bind (wpAny_bind (hT.here (hf.here ?_)))
  have fin : wpAny (model prog w) A (call (.builtin "BaseException.__repr__.under") [.ref e, rawInt b]) (fun v s' => (∃ x u, v = .str x u) ∧ Q v s') E s := by
    refine wpAny_call (codeAny_call_builtin PySem.F.plain_bexc_repr_under PySem.F.entry_bexc_repr_under ?_)
    rw [PySem.F.check_bexc_repr_under]
    refine wpAny_pure ?_
    show wpAny _ _ (reprTwin "BaseException.__repr__" Builtin.bexcReprAt ⟨[.ref e, rawInt b], []⟩) _ _ _
    rw [reprTwin_eq]
    refine wpAny_bind ?_
    refine @PySem.W.check_slot (model prog w) _ _ s "BaseException.__repr__" "BaseException" "__repr__" (.ref e) [] [] _ (by decide +kernel) (by decide +kernel) (x.LI G.sub) (PySem.F.args_bexc_repr _) ?_
    refine bexcRepr_C (A := A.in1) G x m hi ht b hsz g hg hcl (by show A.units + 1 + 2 < cLine; omega) fun h' u tk hk => ?_
    exact ⟨⟨_, _, rfl⟩, h h' u tk hk⟩
  simp only [Option.isNone_some, Bool.false_eq_true, if_false]
  refine wpAny_bind ?_
  unfold callSpecialIfBoundBy? bindSpecialIfBound? specialOf
  refine wpAny_holding (wpAny_bind (wpAny_bind (wpAny_bind (hT.here (hf.here ?_)))))
  simp only [hb]
  have fin2 : wpAny (model prog w) A (call (.builtin "BaseException.__repr__.under") [.ref e, rawInt b] >>= fun v => pure (some v)) (fun r s' => wpAny (model prog w) A (match r with
      | some r => do if ← isInstance r (.type "str") then pure r else raiseError "TypeError" s!"__repr__ returned non-string (type {← typeNameOf r})"
      | none => unsupported "repr:special-get-raises") Q E s') E s := by
    refine wpAny_bind (wpAny_mono fin (fun v s' hv => ?_) fun _ _ z => z)
    obtain ⟨⟨y, u, rfl⟩, hq⟩ := hv
    exact wpAny_pure (wpAny_bind (wpAny_isInstance (T := "str") (b := true) rfl isSubtype_str_str (wpAny_pure hq)))
  refine wpAny_bind (wpAny_askSetting (wpAny_ite ?_))
  split
  · exact wpAny_bind (wpAny_pure (wpAny_pure fin2))
  · exact wpAny_tryCatch (wpAny_bind (wpAny_pure (wpAny_pure fin2)))
end
end Sw
namespace Sw
open PySem PySem.Spec PyProof.Rows L2
/-- a key of a dict, as repr shows it -/
def keyTxt : Key → Str
  | .inl i => toString i
  | .inr x => reprText x
def keyOk : Key → Prop
  | .inl i => i.natAbs.log2 < 1920
  | .inr x => (reprText x).length ≤ sizeLine
def entTxt : List Key → List Str → List Str
  | k :: ks, t :: ts => (keyTxt k ++ ": " ++ t) :: entTxt ks ts
  | _, _ => []
def keysWt : List Key → Nat
  | [] => 0
  | k :: ks => (keyTxt k).length + 2 + keysWt ks
/-- plain data, and errors of the package -/
inductive D where
  | non | bl (b : Bool) | int (i : Int) | str (x : Str) | tup (xs : List D) | lst (xs : List D) | dct | dx (ks : List Key) (ds : List D) | exc (C : Addr) (n : Str) (m : Option Str)
mutual
/-- the text that repr gives -/
def shown : D → Str
  | .non => "None"
  | .bl b => if b then "True" else "False"
  | .int i => toString i
  | .str x => reprText x
  | .tup xs => tupleText (shownAll xs)
  | .lst xs => listText (shownAll xs)
  | .dct => "{}"
  | .dx ks ds => dictText (entTxt ks (shownAll ds))
  | .exc _ n m => xText n m
def shownAll : List D → List Str
  | [] => []
  | d :: r => shown d :: shownAll r
end
mutual
/-- no shorter than the text -/
def wt : D → Nat
  | .non => 4
  | .bl _ => 5
  | .int i => (Str.ofString (toString i)).length
  | .str x => (reprText x).length
  | .tup xs => wtAll xs + 3
  | .lst xs => wtAll xs + 3
  | .dct => 2
  | .dx ks ds => keysWt ks + wtAll ds + 2
  | .exc _ n m => (xText n m).length
def wtAll : List D → Nat
  | [] => 0
  | d :: r => wt d + 2 + wtAll r
end
mutual
def dep : D → Nat
  | .tup xs => depAll xs + 1
  | .lst xs => depAll xs + 1
  | .dct => 1
  | .dx _ ds => depAll ds + 1
  | .exc _ _ _ => 3
  | _ => 0
def depAll : List D → Nat
  | [] => 0
  | d :: r => max (dep d) (depAll r)
end
mutual
/-- its ints can be written -/
def small : D → Prop
  | .int i => i.natAbs.log2 < 1920
  | .tup xs => smallAll xs
  | .lst xs => smallAll xs
  | .dx ks ds => (∀ k ∈ ks, keyOk k) ∧ smallAll ds
  | _ => True
def smallAll : List D → Prop
  | [] => True
  | d :: r => small d ∧ smallAll r
end
theorem dictText_len (ps : List Str) : (dictText ps).length ≤ (ps.map (·.length)).sum + 2 * ps.length + 2 := by
  have e : (dictText ps).length = 1 + (Str.join ", " ps).length + 1 := by
    unfold dictText
    rw [strLen_append, strLen_append]; rfl
  have h : (Str.join ", " ps).length ≤ (ps.map (·.length)).sum + ps.length * 2 := PySem.StrLaws.join_length_le ", " ps
  omega
theorem entTxt_len : ∀ (ks : List Key) (ts : List Str), ((entTxt ks ts).map (·.length)).sum ≤ keysWt ks + (ts.map (·.length)).sum ∧ (entTxt ks ts).length ≤ ts.length
  | [], ts => by simp [entTxt]
  | k :: ks, [] => by simp [entTxt]
  | k :: ks, t :: ts => by
    obtain ⟨h1, h2⟩ := entTxt_len ks ts
    have e2 : ((": " : String) : Str).length = 2 := rfl
    simp only [entTxt, keysWt, List.map_cons, List.sum_cons, List.length_cons]
    rw [strLen_append, strLen_append, e2]
    omega
mutual
theorem shown_wt : ∀ d : D, (shown d).length ≤ wt d
  | .non => by simp only [wt]; decide +kernel
  | .bl b => by cases b <;> (simp only [wt]; decide +kernel)
  | .int i => by simp only [shown, wt]; exact Nat.le_refl _
  | .str x => by simp only [shown, wt]; exact Nat.le_refl _
  | .tup xs => by
    have h := tupleText_len_le (shownAll xs)
    have h2 := shownAll_wt xs
    simp only [shown, wt]
    omega
  | .lst xs => by
    have h := listText_len_le (shownAll xs)
    have h2 := shownAll_wt xs
    simp only [shown, wt]
    omega
  | .dct => by simp only [wt]; decide +kernel
  | .dx ks ds => by
    have h := dictText_len (entTxt ks (shownAll ds))
    obtain ⟨h1, h3⟩ := entTxt_len ks (shownAll ds)
    have h2 := shownAll_wt ds
    simp only [shown, wt]
    omega
  | .exc _ n m => by simp only [shown, wt]; exact Nat.le_refl _
theorem shownAll_wt : ∀ xs : List D, ((shownAll xs).map (·.length)).sum + 2 * (shownAll xs).length ≤ wtAll xs
  | [] => by simp [shownAll, wtAll]
  | d :: r => by
    have h := shown_wt d
    have h2 := shownAll_wt r
    simp only [shownAll, wtAll, List.map_cons, List.sum_cons, List.length_cons]
    omega
end
theorem wt_mem : ∀ {xs : List D} {d : D}, d ∈ xs → wt d + 2 ≤ wtAll xs
  | x :: r, d, h => by
    simp only [wtAll]
    rcases List.mem_cons.mp h with e | e
    · rw [e]; omega
    · have := wt_mem e
      omega
theorem dep_mem : ∀ {xs : List D} {d : D}, d ∈ xs → dep d ≤ depAll xs
  | x :: r, d, h => by
    simp only [depAll]
    rcases List.mem_cons.mp h with e | e
    · rw [e]; exact Nat.le_max_left _ _
    · exact Nat.le_trans (dep_mem e) (Nat.le_max_right _ _)
theorem small_mem : ∀ {xs : List D} {d : D}, smallAll xs → d ∈ xs → small d
  | x :: r, d, s, h => by
    simp only [smallAll] at s
    rcases List.mem_cons.mp h with e | e
    · rw [e]; exact s.1
    · exact small_mem s.2 e
mutual
/-- in H the value v is the data d; as: the addresses of what it is made of -/
def Rep (K : PySem.W.Frag) (H : Hp) : D → V → List Addr → Prop
  | .non, v, as => v = .non ∧ as = []
  | .bl b, v, as => v = .bl b ∧ as = []
  | .int i, v, as => v = .int i ∧ as = []
  | .str x, v, as => v = .str x ∧ as = []
  | .tup ds, v, as => ∃ a xs bs, v = .ref a ∧ H a = some (.tup xs) ∧ RepAll K H ds xs bs ∧ a ∉ bs ∧ as = a :: bs
  | .lst ds, v, as => ∃ a xs bs, v = .ref a ∧ H a = some (.lst xs) ∧ RepAll K H ds xs bs ∧ a ∉ bs ∧ as = a :: bs
  | .dct, v, as => ∃ a, v = .ref a ∧ H a = some (.dK []) ∧ as = [a]
  | .dx ks ds, v, as => ∃ a kvs bs, v = .ref a ∧ H a = some (.dK kvs) ∧ kvs.map Prod.fst = ks ∧ RepAll K H ds (kvs.map Prod.snd) bs ∧ a ∉ bs ∧ as = a :: bs
  | .exc C n m, v, as => ∃ a t d, v = .ref a ∧ H a = some (xV C t d a) ∧ H t = some (.tup (xArgs m)) ∧ (∀ dx, d = some dx → H dx = some (.own a)) ∧ XGood K C n ∧ as = a :: t :: d.toList
def RepAll (K : PySem.W.Frag) (H : Hp) : List D → List V → List Addr → Prop
  | [], xs, as => xs = [] ∧ as = []
  | d :: ds, xs, as => ∃ x r bs cs, xs = x :: r ∧ Rep K H d x bs ∧ RepAll K H ds r cs ∧ as = bs ++ cs
end
section
variable {K : PySem.W.Frag} {H H' : Hp}
mutual
theorem Rep.keep : ∀ {d : D} {v : V} {as : List Addr}, Rep K H d v as → (∀ b ∈ as, ∀ o, H b = some o → H' b = some o) → Rep K H' d v as
  | .non, v, as, h, _ => by simpa only [Rep] using h
  | .bl _, v, as, h, _ => by simpa only [Rep] using h
  | .int _, v, as, h, _ => by simpa only [Rep] using h
  | .str _, v, as, h, _ => by simpa only [Rep] using h
  | .tup ds, v, as, h, k => by
    simp only [Rep] at h ⊢
    obtain ⟨a, xs, bs, e, ha, r, na, rfl⟩ := h
    exact ⟨a, xs, bs, e, k a (by simp) _ ha, RepAll.keep r fun b hb => k b (by simp [hb]), na, rfl⟩
  | .lst ds, v, as, h, k => by
    simp only [Rep] at h ⊢
    obtain ⟨a, xs, bs, e, ha, r, na, rfl⟩ := h
    exact ⟨a, xs, bs, e, k a (by simp) _ ha, RepAll.keep r fun b hb => k b (by simp [hb]), na, rfl⟩
  | .dct, v, as, h, k => by
    simp only [Rep] at h ⊢
    obtain ⟨a, e, ha, rfl⟩ := h
    exact ⟨a, e, k a (by simp) _ ha, rfl⟩
  | .dx ks ds, v, as, h, k => by
    simp only [Rep] at h ⊢
    obtain ⟨a, kvs, bs, e, ha, ek, r, na, rfl⟩ := h
    exact ⟨a, kvs, bs, e, k a (by simp) _ ha, ek, RepAll.keep r fun b hb => k b (by simp [hb]), na, rfl⟩
  | .exc C n m, v, as, h, k => by
    simp only [Rep] at h ⊢
    obtain ⟨a, t, d, e, ha, ht, hd, g, rfl⟩ := h
    exact ⟨a, t, d, e, k a (by simp) _ ha, k t (by simp) _ ht, fun dx z => k dx (by simp [z]) _ (hd dx z), g, rfl⟩
theorem RepAll.keep : ∀ {ds : List D} {xs : List V} {as : List Addr}, RepAll K H ds xs as → (∀ b ∈ as, ∀ o, H b = some o → H' b = some o) → RepAll K H' ds xs as
  | [], xs, as, h, _ => by simpa only [RepAll] using h
  | d :: ds, xs, as, h, k => by
    simp only [RepAll] at h ⊢
    obtain ⟨x, r, bs, cs, e, h1, h2, rfl⟩ := h
    exact ⟨x, r, bs, cs, e, Rep.keep h1 fun b hb => k b (by simp [hb]), RepAll.keep h2 fun b hb => k b (by simp [hb]), rfl⟩
end
mutual
/-- all of it is tracked -/
theorem Rep.tracked : ∀ {d : D} {v : V} {as : List Addr}, Rep K H d v as → ∀ b ∈ as, ∃ o, H b = some o
  | .non, v, as, h, b, hb => by simp only [Rep] at h; rw [h.2] at hb; cases hb
  | .bl _, v, as, h, b, hb => by simp only [Rep] at h; rw [h.2] at hb; cases hb
  | .int _, v, as, h, b, hb => by simp only [Rep] at h; rw [h.2] at hb; cases hb
  | .str _, v, as, h, b, hb => by simp only [Rep] at h; rw [h.2] at hb; cases hb
  | .tup ds, v, as, h, b, hb => by
    simp only [Rep] at h
    obtain ⟨a, xs, bs, e, ha, r, na, rfl⟩ := h
    rcases List.mem_cons.mp hb with z | z
    · exact ⟨_, z ▸ ha⟩
    · exact RepAll.tracked r b z
  | .lst ds, v, as, h, b, hb => by
    simp only [Rep] at h
    obtain ⟨a, xs, bs, e, ha, r, na, rfl⟩ := h
    rcases List.mem_cons.mp hb with z | z
    · exact ⟨_, z ▸ ha⟩
    · exact RepAll.tracked r b z
  | .dct, v, as, h, b, hb => by
    simp only [Rep] at h
    obtain ⟨a, e, ha, rfl⟩ := h
    obtain rfl := List.mem_singleton.mp hb
    exact ⟨_, ha⟩
  | .dx ks ds, v, as, h, b, hb => by
    simp only [Rep] at h
    obtain ⟨a, kvs, bs, e, ha, ek, r, na, rfl⟩ := h
    rcases List.mem_cons.mp hb with z | z
    · exact ⟨_, z ▸ ha⟩
    · exact RepAll.tracked r b z
  | .exc C n m, v, as, h, b, hb => by
    simp only [Rep] at h
    obtain ⟨a, t, d, e, ha, ht, hd, g, rfl⟩ := h
    rcases List.mem_cons.mp hb with z | z
    · exact ⟨_, z ▸ ha⟩
    · rcases List.mem_cons.mp z with z | z
      · exact ⟨_, z ▸ ht⟩
      · exact ⟨_, hd b (by simpa using z)⟩
theorem RepAll.tracked : ∀ {ds : List D} {xs : List V} {as : List Addr}, RepAll K H ds xs as → ∀ b ∈ as, ∃ o, H b = some o
  | [], xs, as, h, b, hb => by simp only [RepAll] at h; rw [h.2] at hb; cases hb
  | d :: ds, xs, as, h, b, hb => by
    simp only [RepAll] at h
    obtain ⟨x, r, bs, cs, e, h1, h2, rfl⟩ := h
    rcases List.mem_append.mp hb with z | z
    · exact Rep.tracked h1 b z
    · exact RepAll.tracked h2 b z
end
theorem RepAll.len : ∀ {ds : List D} {xs : List V} {as : List Addr}, RepAll K H ds xs as → xs.length = ds.length
  | [], xs, as, h => by
    simp only [RepAll] at h
    rw [h.1]
    rfl
  | d :: ds, xs, as, h => by
    simp only [RepAll] at h
    obtain ⟨x, r, bs, cs, e, h1, h2, _⟩ := h
    rw [e, List.length_cons, List.length_cons, RepAll.len h2]
theorem RepAll.at : ∀ {ds : List D} {xs : List V} {as : List Addr} {i : Nat} {d : D}, RepAll K H ds xs as → ds[i]? = some d → ∃ x bs, xs[i]? = some x ∧ Rep K H d x bs ∧ ∀ b ∈ bs, b ∈ as
  | [], xs, as, i, d, h, e => by simp at e
  | d :: ds, xs, as, 0, d', h, e => by
    simp only [RepAll] at h
    obtain ⟨x, r, bs, cs, rfl, h1, h2, rfl⟩ := h
    obtain rfl : d = d' := by simpa using e
    exact ⟨x, bs, rfl, h1, fun b hb => by simp [hb]⟩
  | d :: ds, xs, as, i + 1, d', h, e => by
    simp only [RepAll] at h
    obtain ⟨x, r, bs, cs, rfl, h1, h2, rfl⟩ := h
    obtain ⟨y, es, q1, q2, q3⟩ := RepAll.at (i := i) h2 (by simpa using e)
    exact ⟨y, es, by simpa using q1, q2, fun b hb => by simp [q3 b hb]⟩
theorem RepAll.at2 {ds : List D} {xs : List V} {as : List Addr} {i : Nat} {x : V} (h : RepAll K H ds xs as) (e : xs[i]? = some x) : ∃ d bs, ds[i]? = some d ∧ Rep K H d x bs ∧ ∀ b ∈ bs, b ∈ as := by
  have hl := h.len
  have hi : i < ds.length := by rw [← hl]; exact (List.getElem?_eq_some_iff.mp e).1
  obtain ⟨y, bs, q1, q2, q3⟩ := h.at (List.getElem?_eq_getElem hi)
  rw [e] at q1
  cases q1
  exact ⟨_, bs, List.getElem?_eq_getElem hi, q2, q3⟩
section
variable {P : Program} {w : World} {h : Heap}
/-- the keys of entries -/
inductive KeysAre : List Key → List DictEntry → Prop
  | nil : KeysAre [] []
  | cons {k : Key} {ks : List Key} {e : DictEntry} {es : List DictEntry} : keyIs k e.key = true → KeysAre ks es → KeysAre (k :: ks) (e :: es)
theorem kv_vals : ∀ {kvs : List (Key × V)} {vs : List (Key × Value)} {es : List DictEntry}, KV kvs vs → Pairs (mixKind P w) es vs → ∃ us, Vals (kvs.map Prod.snd) us ∧ us = es.map (·.val) ∧ KeysAre (kvs.map Prod.fst) es
  | _, _, _, .nil, pr => by
    cases pr
    exact ⟨[], .nil, rfl, .nil⟩
  | _, _, _, .cons r t, pr => by
    cases pr with
    | cons h1 h2 h3 =>
      obtain ⟨us, a, b, c⟩ := kv_vals t h3
      obtain ⟨r1, r2⟩ := r
      refine ⟨_ :: us, .cons r2 a, ?_, ?_⟩
      · rw [List.map_cons, ← b, h2]
      · rw [List.map_cons, r1]
        exact .cons h1 c
theorem key_shows {k : Key} {v : Value} (hk : keyIs k v = true) (ok : keyOk k) {as : List Addr} {d : Nat} : ReprK P w as h d v (keyTxt k) := by
  rcases keyIs_shape hk with ⟨i, t, rfl, e⟩ | ⟨x, t, rfl, e⟩
  · subst e
    exact ReprK.of_is (ReprIs.int t ok) _ _ _
  · subst e
    exact ReprK.of_is (ReprIs.str x t ok) _ _ _
theorem ents_of {as : List Addr} {d : Nat} : ∀ {ks : List Key} {es : List DictEntry} {ts : List Str}, KeysAre ks es → (∀ k ∈ ks, keyOk k) → ReprAllK P w as h d (es.map (·.val)) ts → ReprEntriesK P w as h d es (entTxt ks ts)
  | _, _, _, .nil, _, r => by
    generalize hq : ([] : List DictEntry).map (·.val) = q at r
    cases r with
    | nil => exact .nil
    | cons _ _ => cases hq
  | _, _, ts, .cons (k := k) (e := e) (es := es) hk t, ok, r => by
    generalize hq : (e :: es).map (·.val) = q at r
    cases r with
    | nil => cases hq
    | cons r1 r2 =>
      rw [List.map_cons] at hq
      obtain ⟨rfl, rfl⟩ := List.cons.inj hq
      exact .cons (key_shows hk (ok _ List.mem_cons_self)) r1 (ents_of t (fun k hk => ok k (List.mem_cons_of_mem _ hk)) r2)
mutual
/-- what stands there shows by its text -/
theorem Rep.shows (hok : HOk P w H h) (kin : K.In h) : ∀ {d : D} {v : V} {as : List Addr} {u : Value}, Rep K H d v as → RelV v u → small d → wt d ≤ sizeLine → ReprK P w as h (dep d) u (shown d)
  | .non, v, as, u, r, q, sm, z => by
    simp only [Rep] at r
    obtain ⟨rfl, rfl⟩ := r
    cases (show u = Value.none from q)
    exact ReprK.of_is ReprIs.none _ _ _
  | .bl b, v, as, u, r, q, sm, z => by
    simp only [Rep] at r
    obtain ⟨rfl, rfl⟩ := r
    cases (show u = Value.bool b from q)
    exact ReprK.of_is (ReprIs.bool b) _ _ _
  | .int i, v, as, u, r, q, sm, z => by
    simp only [Rep] at r
    obtain ⟨rfl, rfl⟩ := r
    obtain ⟨t, rfl⟩ := (show ∃ t, u = Value.int i t from q)
    simp only [small] at sm
    exact ReprK.of_is (ReprIs.int t sm) _ _ _
  | .str x, v, as, u, r, q, sm, z => by
    simp only [Rep] at r
    obtain ⟨rfl, rfl⟩ := r
    obtain ⟨t, rfl⟩ := (show ∃ t, u = Value.str x t from q)
    simp only [wt] at z
    exact ReprK.of_is (ReprIs.str x t z) _ _ _
  | .tup ds, v, as, u, r, q, sm, z => by
    simp only [Rep] at r
    obtain ⟨a, xs, bs, rfl, ha, ra, na, rfl⟩ := r
    cases (show u = Value.ref a from q)
    obtain ⟨_, its, rv, o, h1, h2, n, h3⟩ := (show ObjOk P w H h a (.tup xs) from hok a _ ha)
    simp only [small] at sm
    simp only [wt] at z
    have k := RepAll.shows hok kin ra rv sm (by omega) (depAll ds) (Nat.le_refl _)
    simp only [shown, dep]
    exact ReprK.tuple h1 h2 h3 na (by simpa using k)
  | .lst ds, v, as, u, r, q, sm, z => by
    simp only [Rep] at r
    obtain ⟨a, xs, bs, rfl, ha, ra, na, rfl⟩ := r
    cases (show u = Value.ref a from q)
    obtain ⟨_, its, n, rv, h1⟩ := (show ObjOk P w H h a (.lst xs) from hok a _ ha)
    simp only [small] at sm
    simp only [wt] at z
    have k := RepAll.shows hok kin ra rv sm (by omega) (depAll ds) (Nat.le_refl _)
    simp only [shown, dep]
    cases its with
    | nil =>
      generalize shownAll ds = ts at k ⊢
      cases k
      rw [show listText [] = ("[]" : Str) from listText_nil]
      exact ReprK.listEmpty h1 rfl rfl
    | cons y l =>
      exact ReprK.list h1 rfl rfl na (by simpa using k.length_eq) (fun i y e => k.item i y (by simpa using e))
  | .dx ks ds, v, as, u, r, q, sm, z => by
    simp only [Rep] at r
    obtain ⟨a, kvs, bs, rfl, ha, ek, ra, na, rfl⟩ := r
    cases (show u = Value.ref a from q)
    obtain ⟨_, hs, vs, kv, o, es, ep, h1, h2, h3, h4⟩ := (show ObjOk P w H h a (.dK kvs) from hok a _ ha)
    simp only [small] at sm
    simp only [wt] at z
    have pr : Pairs (mixKind P w) es.toList vs := h4.2.1
    have ent : ∃ us, Vals (kvs.map Prod.snd) us ∧ us = es.toList.map (·.val) ∧ KeysAre (kvs.map Prod.fst) es.toList := kv_vals kv pr
    obtain ⟨us, rv, eu, ky⟩ := ent
    have k := RepAll.shows hok kin ra rv sm.2 (by omega) (depAll ds) (Nat.le_refl _)
    rw [ek] at ky
    simp only [shown, dep]
    refine ReprK.dict (o := o) (es := es) (n := ep) h1 h2.1 h3 hs na ?_
    rw [eu] at k
    exact ents_of ky sm.1 k
  | .dct, v, as, u, r, q, sm, z => by
    simp only [Rep] at r
    obtain ⟨a, rfl, ha, rfl⟩ := r
    cases (show u = Value.ref a from q)
    obtain ⟨_, hs, vs, kv, o, es, ep, h1, h2, h3, h4⟩ := (show ObjOk P w H h a (.dK []) from hok a _ ha)
    cases kv
    simp only [shown, dep]
    have et : dictText [] = ("{}" : Str) := by decide +kernel
    rw [← et]
    refine ReprK.dict (as := []) (d := 0) (o := o) (es := es) (n := ep) h1 h2.1 h3 hs (by simp) ?_
    have e0 : es.toList = [] := by
      have q : Pairs (mixKind P w) es.toList [] := h4.2.1
      generalize es.toList = l at q
      cases q
      rfl
    rw [e0]
    exact .nil
  | .exc C n m, v, as, u, r, q, sm, z => by
    simp only [Rep] at r
    obtain ⟨a, t, d, rfl, ha, ht, _, g, rfl⟩ := r
    cases (show u = Value.ref a from q)
    have h1 := xV_at hok ha
    obtain ⟨_, its, rv, o, h2, h3, n2, h4⟩ := (show ObjOk P w H h t (.tup (xArgs m)) from hok t _ ht)
    simp only [wt] at z
    simp only [shown, dep]
    intro base hb A gs E s Q hg hcl hu hk0 hQ
    refine wpAny_pyReprUnder_ref (by omega) (reprUnder_C g ⟨kin.keeps hk0, _, _, hk0 _ _ h1, rfl, rfl, rfl⟩ m rv ⟨o, n2, hk0 _ _ h2, h3, h4⟩ base hb gs hg (hcl t (by simp)) hu fun h' u tk hk => ⟨_, _, rfl, hQ h' tk hk⟩)
theorem RepAll.shows (hok : HOk P w H h) (kin : K.In h) : ∀ {ds : List D} {xs : List V} {as : List Addr} {us : List Value}, RepAll K H ds xs as → Vals xs us → smallAll ds → wtAll ds ≤ sizeLine → ∀ n, depAll ds ≤ n → ReprAllK P w as h n us (shownAll ds)
  | [], xs, as, us, r, q, sm, z, n, hn => by
    simp only [RepAll] at r
    obtain ⟨rfl, rfl⟩ := r
    cases q
    simp only [shownAll]
    exact .nil
  | d :: ds, xs, as, us, r, q, sm, z, n, hn => by
    simp only [RepAll] at r
    obtain ⟨x, l, bs, cs, rfl, r1, r2, rfl⟩ := r
    cases q with
    | cons q1 q2 =>
      simp only [smallAll] at sm
      simp only [wtAll] at z
      simp only [depAll] at hn
      simp only [shownAll]
      have k1 := Rep.shows hok kin r1 q1 sm.1 (by omega)
      have k2 := RepAll.shows hok kin r2 q2 sm.2 (by omega) n (by omega)
      exact .cons ((k1.more fun b hb => List.mem_append_left _ hb).level_le (by omega)) (k2.more_le (fun b hb => List.mem_append_right _ hb) (Nat.le_refl _))
end
end
end
end Sw
namespace Sw
open PySem PySem.Spec PyProof.Rows L2
/-- repr(xs), xs a list of data -/
def rRepr (K : PySem.W.Frag) : List V → Hp → VK → Prop := fun xs H Q => ∃ x ds as, xs = [x] ∧ Rep K H (.lst ds) x as ∧ smallAll ds ∧ wtAll ds ≤ 10000000 ∧ depAll ds ≤ 30 ∧ Q (.str (shown (.lst ds))) H
theorem call_repr {X : Cx} {k : Nat} (hr : Room k X.A) (hg : X.A.guards = some []) : CallR X (.builtin "repr") (rRepr X.K) := by
  intro pins s σ H xs us Q I r h
  obtain ⟨x, ds, as, rfl, hd, sm, z, dp, q⟩ := h
  obtain ⟨u, rfl, hu⟩ := vals1 r
  have un := hr.units
  have hz : wt (.lst ds) ≤ sizeLine := by
    rw [sizeLine_eq]
    simp only [wt]
    omega
  have hsh : (listText (shownAll ds)).length ≤ sizeLine := by
    have h1 := shown_wt (.lst ds)
    simp only [shown] at h1
    omega
  simp only [Rep] at hd
  obtain ⟨a, ys, bs, rfl, ha, ra, na, rfl⟩ := hd
  cases (show u = Value.ref a from hu)
  obtain ⟨_, its, n, rv, h1⟩ := (show ObjOk X.prog X.w H s.heap a (.lst ys) from I.hok a _ ha)
  have kr := RepAll.shows I.hok I.kIn ra rv sm (by simp only [wt] at hz; omega) (depAll ds) (Nat.le_refl _)
  have hT : s.TypeIs (.ref a) "list" := ⟨_, h1, rfl⟩
  simp only [shown] at q
  refine call_repr_slot (by omega) hT PySem.F.slot_list_repr.toG ?_
  cases its with
  | nil =>
    generalize shownAll ds = ts at kr q
    cases kr
    rw [show listText [] = ("[]" : Str) from listText_nil] at q
    exact call_list_repr_empty hT h1 rfl ⟨_, _, rfl, .str "[]", H, I.tok _, ⟨_, rfl⟩, q⟩
  | cons y l =>
    refine call_list_reprK (as := bs) (h₀ := s.heap) (d := depAll ds) h1 rfl rfl na (by simpa using kr.length_eq) (fun i y e => kr.item i y (by simpa using e)) (g := []) hg (fun b _ => Clear.nil b) (by show X.A.units + 1 + _ < cLine; omega) (fun _ _ e => e) (fun h' u tk hk => ?_) hsh
    exact ⟨_, _, rfl, .str _, H, I.kept (t' := tk) hk, ⟨_, rfl⟩, q⟩
/-! ### what a class a thing is of -/
/-- isinstance(x, T), by the data -/
def isT (T : String) : D → Bool
  | .int _ => T == "int"
  | .bl _ => T == "bool" || T == "int"
  | .str _ => T == "str"
  | .tup _ => T == "tuple"
  | .lst _ => T == "list"
  | .dct => T == "dict"
  | .dx _ _ => T == "dict"
  | _ => false
def isTs : List String := ["int", "bool", "tuple", "str", "list", "dict"]
def rIsD (K : PySem.W.Frag) : List V → Hp → VK → Prop := fun xs H Q => ∃ (x : V) (d : D) (as : List Addr) (T : String), xs = [x, .ty T] ∧ T ∈ isTs ∧ Rep K H d x as ∧ Q (.bl (isT T d)) H
theorem kit_exc {K : PySem.W.Frag} {C : Addr} {n : Str} (G : XGood K C n) {T : String} (hT : T ∈ isTs) : PySem.W.kitOne K (.ref C) (.type T) = some false := by
  have e : ∀ T : String, PySem.W.kitMeta T = true → PySem.W.subIn K (.ref C) (.type T) = some false → PySem.W.kitOne K (.ref C) (.type T) = some false := fun T h1 h2 => by
    unfold PySem.W.kitOne PySem.W.kitCls
    rw [if_neg (show ¬ ((Value.ref C == Value.type T) = true) from Bool.false_ne_true)]
    show (if PySem.W.kitMeta T = true then _ else _) = _
    rw [if_pos h1, h2]
  simp only [isTs, List.mem_cons, List.not_mem_nil, or_false] at hT
  rcases hT with rfl | rfl | rfl | rfl | rfl | rfl
  · exact e _ (by decide +kernel) G.ni
  · exact e _ (by decide +kernel) G.nb
  · exact e _ (by decide +kernel) G.nt
  · exact e _ (by decide +kernel) G.ns
  · exact e _ (by decide +kernel) G.nl
  · exact e _ (by decide +kernel) G.nd
theorem kitB_none {T : String} (hT : T ∈ isTs) : kitB "NoneType" T = some false := by
  simp only [isTs, List.mem_cons, List.not_mem_nil, or_false] at hT
  rcases hT with rfl | rfl | rfl | rfl | rfl | rfl <;> decide +kernel
theorem kitB_bool {T : String} (hT : T ∈ isTs) : kitB "bool" T = some (T == "bool" || T == "int") := by
  simp only [isTs, List.mem_cons, List.not_mem_nil, or_false] at hT
  rcases hT with rfl | rfl | rfl | rfl | rfl | rfl <;> decide +kernel
theorem kitB_self {S T : String} (hS : S ∈ ["int", "str", "tuple", "list", "dict"]) (hT : T ∈ isTs) : kitB S T = some (T == S) := by
  simp only [isTs, List.mem_cons, List.not_mem_nil, or_false] at hT hS
  rcases hS with rfl | rfl | rfl | rfl | rfl <;> rcases hT with rfl | rfl | rfl | rfl | rfl | rfl <;> decide +kernel
theorem call_isD {X : Cx} : CallR X (.builtin "isinstance") (rIsD X.K) := by
  intro pins s σ H xs us Q I r h
  obtain ⟨x, d, as, T, rfl, hT, hd, q⟩ := h
  have ex : ∀ t b, TyX X.K H x t → PySem.W.kitOne X.K t (.type T) = some b → isT T d = b → wpAny (model X.prog X.w) X.A (call (.builtin "isinstance") us) (EP X pins σ Q) X.xe s := fun t b h1 h2 h3 => by
    rw [h3] at q
    exact call_isi pins s σ H _ us Q I r ⟨x, .ty T, t, .type T, b, rfl, .ty T, h1, h2, q⟩
  cases d with
  | non =>
    simp only [Rep] at hd
    obtain ⟨rfl, rfl⟩ := hd
    exact ex _ _ (.base .non) (kit_ty (kitB_none hT)) rfl
  | bl b =>
    simp only [Rep] at hd
    obtain ⟨rfl, rfl⟩ := hd
    exact ex _ _ (.base (.bl b)) (kit_ty (kitB_bool hT)) rfl
  | int i =>
    simp only [Rep] at hd
    obtain ⟨rfl, rfl⟩ := hd
    exact ex _ _ (.base (.int i)) (kit_ty (kitB_self (by decide) hT)) rfl
  | str y =>
    simp only [Rep] at hd
    obtain ⟨rfl, rfl⟩ := hd
    exact ex _ _ (.base (.str y)) (kit_ty (kitB_self (by decide) hT)) rfl
  | tup ds =>
    simp only [Rep] at hd
    obtain ⟨a, ys, bs, rfl, ha, _⟩ := hd
    exact ex _ _ (.base (.tup ha)) (kit_ty (kitB_self (by decide) hT)) rfl
  | lst ds =>
    simp only [Rep] at hd
    obtain ⟨a, ys, bs, rfl, ha, _⟩ := hd
    exact ex _ _ (.base (.lst ha)) (kit_ty (kitB_self (by decide) hT)) rfl
  | dct =>
    simp only [Rep] at hd
    obtain ⟨a, rfl, ha, _⟩ := hd
    exact ex _ _ (.base (.dK ha)) (kit_ty (kitB_self (by decide) hT)) rfl
  | dx =>
    simp only [Rep] at hd
    obtain ⟨a, kvs, bs, rfl, ha, _⟩ := hd
    exact ex _ _ (.base (.dK ha)) (kit_ty (kitB_self (by decide) hT)) rfl
  | exc C n m =>
    simp only [Rep] at hd
    obtain ⟨a, t, dd, rfl, ha, ht, hx, G, _⟩ := hd
    obtain ⟨u1, u2, rfl, r1, r2⟩ := vals2 r
    cases (show u1 = Value.ref a from r1)
    cases (show u2 = Value.type T from r2)
    have h1 := xV_at I.hok ha
    obtain ⟨cd, hc, _⟩ := G.nm
    have fin : ∀ od, PySem.W.InstAt s.heap a (xRec C dd t) C od → wpAny (model X.prog X.w) X.A (call (.builtin "isinstance") [.ref a, .type T]) (EP X pins σ Q) X.xe s := fun od J =>
      PySem.W.kia_one (PySem.W.kitx_exc (od := od) (by rw [hc]; rfl) G.ga G.gt G.sub G.ca G.cn G.ct G.mo) I.kIn J (kit_exc G hT) (fun z => nomatch z) fun tk => ⟨.bl false, H, I.tok tk, rfl, q⟩
    cases dd with
    | none => exact fin none ⟨h1, rfl, rfl, trivial⟩
    | some dx =>
      obtain ⟨o, ho⟩ := (show ObjOk X.prog X.w H s.heap dx (.own a) from I.hok dx _ (hx dx rfl))
      exact fin (some o) ⟨h1, rfl, rfl, ho⟩
end Sw
namespace Sw
open PySem PySem.Spec PyProof.Rows
theorem enum_new1 {v : Value} {o : Obj} {Hx : Heap → Prop} (B : Begins v o Hx) :
    Meets (Builtin.«enumerate.__new__» ⟨[.type "enumerate", v], []⟩) (fun _ R s => Hx s.heap ∧
      R (.ok (.ret (.ref (s.heap.push o).objs.size))) { s with heap := (s.heap.push o).push { cls := .type "enumerate", data := .fields #[.none, .bool false, .ref s.heap.objs.size, rawInt 0, .none, .none] } }) :=
  .of_wp fun prog w A R s h => by
    obtain ⟨hp, g, d, tk, os⟩ := s
    obtain ⟨h1, h⟩ := h
    have hsub := sub_enumerate
    have q1 : ∀ {A' : Around} {E : Value → Shared → Prop} {Q : Value → Shared → Prop}, Q (.ref hp.objs.size) ⟨hp.push o, g, d, tk, os⟩ → wpAny (model prog w) A' (pyIter v) Q E ⟨hp, g, d, tk, os⟩ :=
      fun q => B.iter prog w _ _ ⟨hp, g, d, tk, os⟩ _ h1 q
    wp_walk using q1
    refine wpAny_stack_any fun st => wpAny_pure ?_
    split
    · rename_i c _ _ _ _ _
      cases (c == Value.type "enumerate")
      · wp_walk using q1
        exact ⟨_, rfl, h⟩
      · wp_walk using q1
        exact ⟨_, rfl, h⟩
    · wp_walk using q1
      exact ⟨_, rfl, h⟩
theorem enum_call1 {prog : Program} {w : World} {A : Around} {E : Value → Shared → Prop} {s : Shared} {v : Value} {o : Obj} {Hx : Heap → Prop} {Q : Value → Shared → Prop} (B : Begins v o Hx) (h1 : Hx s.heap)
    (h : ∀ h', IsEnum h' (s.heap.objs.size + 1) s.heap.objs.size 0 .none → h'.get? s.heap.objs.size = some o → (∀ b o, s.heap.get? b = some o → h'.get? b = some o) → Q (.ref (s.heap.objs.size + 1)) { s with heap := h' }) :
    wpAny (model prog w) A (call (.type "enumerate") [v]) Q E s := by
  refine callType_new F.called_enumerate (by decide) (F.typeCall_enumerate_1 _) (F.newCall_enumerate_1 _) (fun obj => F.args_object_init_2 obj _) F.entry_enumerate_new (enum_new1 B) ⟨h1, ?_⟩
  have hz : (s.heap.push o).objs.size = s.heap.objs.size + 1 := Heap.size_push ..
  show _ ∧ _
  rw [hz]
  have he : IsEnum ((s.heap.push o).push { cls := .type "enumerate", data := .fields #[.none, .bool false, .ref s.heap.objs.size, rawInt 0, .none, .none] }) (s.heap.objs.size + 1) s.heap.objs.size 0 .none := by
    have q := Heap.get?_push_size (s.heap.push o) (o := { cls := .type "enumerate", data := .fields #[.none, .bool false, .ref s.heap.objs.size, rawInt 0, .none, .none] }) rfl
    rw [hz] at q
    exact q
  exact ⟨⟨_, he, rfl⟩, h _ he (Heap.get?_push_of_some _ (Heap.get?_push_size _ B.free)) fun b o x => Heap.get?_push_of_some _ (Heap.get?_push_of_some _ x)⟩
end Sw
namespace Sw
open PySem PySem.Spec PyProof.Rows L2
/-- the tuple at a, each item in a new pair with its place -/
def ItTe (K : PySem.W.Frag) (a : Addr) : It :=
  ⟨fun i H => ∃ (xs : List V) (x : V), SqT K H a xs ∧ xs[i]? = some x, fun i H v H' => ∃ T x, v = .ref T ∧ H T = none ∧ H' = upd H T (.tup [.int (i : Nat), x]) ∧ ∀ xs, SqT K H a xs → xs[i]? = some x, fun i H => ∃ xs : List V, SqT K H a xs ∧ xs.length = i⟩
theorem turn_te {P : Program} {w : World} {K : PySem.W.Frag} {elts : List Expr} {kk : Nat} {tpos : Pos} (a e it : Addr) :
    Turn P w K (.Tuple elts kk tpos) (ItTe K a) [e, it] e (fun i h => (∃ old, IsEnum h e it ((i : Nat) : Int) old) ∧ h.IsTupleIter it a i ∧ e ≠ it ∧ a ≠ it ∧ a ≠ e) where
  mem := by simp
  obj := fun i h st b hb => by
    obtain ⟨⟨old, he⟩, ⟨o, ho, hc, hd⟩, _⟩ := st
    rcases List.mem_cons.mp hb with z | z
    · rw [z]; exact ⟨_, he, fun v q => nomatch q⟩
    · obtain rfl := List.mem_singleton.mp z
      exact ⟨o, ho, fun v q => by rw [hd] at q; cases q⟩
  keep := fun i h h' st k => by
    obtain ⟨⟨old, he⟩, hi, hne⟩ := st
    exact ⟨⟨old, k e (by simp) _ he⟩, hi.at fun o q => k it (by simp) o q, hne⟩
  item := by
    intro X hP hw hK hc i pins s σ H E I hf st hg
    subst hP hw hK
    obtain ⟨⟨old, he⟩, hit, hne, hai, hae⟩ := st
    obtain ⟨xs, x, hq, hx⟩ := hg
    obtain ⟨its, rv, p, hz⟩ := I.tuple hq
    obtain ⟨u, hu, ru⟩ := rv.get hx
    have hel : e < s.heap.objs.size := Heap.lt_size he
    have hil : it < s.heap.objs.size := by obtain ⟨_, q, _⟩ := hit; exact Heap.lt_size q
    have hlt : i < its.toArray.size := by
      have := (List.getElem?_eq_some_iff.mp hu).1
      simpa using this
    refine wpAny_pyNext_enum_itemD (Draws.tuple (A := X.A.in1) (I.ok.hd hc) it a hai its.toArray) he ⟨hit, p⟩ hlt hne (by simp [hne, Ne.symm hae]) fun y h' tk hy ho hst hT hsz hk => ?_
    obtain ⟨hit', _⟩ := hst
    have ey : y = u := by
      have q : its.toArray[i]? = some y := hy
      have q2 : its.toArray[i]? = some u := by simpa using hu
      rw [q2] at q
      exact (Option.some.inj q).symm
    subst ey
    refine ⟨_, rfl, wpAny_letOwnedTupleGo_enum (s := { s with heap := h', toks := tk + 1 }) ho fun h'' he' sb => ?_⟩
    have hT2 : h''.get? s.heap.objs.size = some { cls := .type "tuple", data := .seq #[.int i tk, y] } := (sb.2 _ (Nat.ne_of_gt hel)).trans hT
    have new : ObjOk X.prog X.w (upd H s.heap.objs.size (.tup [.int (i : Nat), x])) h'' s.heap.objs.size (.tup [.int (i : Nat), x]) :=
      ⟨by show 2 ≤ sizeLine; decide, [.int i tk, y], .cons ⟨_, rfl⟩ (.cons ru .nil), ⟨_, hT2, rfl, _, rfl⟩⟩
    have I1 : Inv X pins σ (upd H s.heap.objs.size (.tup [.int (i : Nat), x])) { s with heap := h'', toks := tk + 1 } :=
      I.turnedNew (ch := [e, it]) (fun b ob hb q => (sb.2 b (fun z => hb (by simp [z]))).trans (hk b ob (fun z => hb (by simp [z])) (fun z => hb (by simp [z])) q)) hf (Nat.le_refl _) new
    refine ⟨.ref s.heap.objs.size, _, I1, rfl, ⟨_, x, rfl, I.hok.fresh (Nat.le_refl _), rfl, fun ys hy => by rw [I.tuple_inj hy hq]; exact hx⟩, ⟨⟨y, ?_⟩, hit'.at fun o q => (sb.2 it (Ne.symm hne)).trans q, hne, hai, hae⟩, fun b hb => ?_⟩
    · have e1 : ((i + 1 : Nat) : Int) = (i : Int) + 1 := by omega
      rw [e1]; exact he'
    · have hb' : b < s.heap.objs.size := by
        rcases List.mem_cons.mp hb with z | z
        · rw [z]; exact hel
        · obtain rfl := List.mem_singleton.mp z
          exact hil
      rw [upd_ne (Nat.ne_of_lt hb')]
      exact (hf b hb).1
  done := by
    intro X hP hw hK hc i pins s σ H E I hf st hg
    subst hP hw hK
    obtain ⟨⟨old, he⟩, hit, hne, hai, hae⟩ := st
    obtain ⟨xs, hq, hx⟩ := hg
    obtain ⟨its, rv, p, hz⟩ := I.tuple hq
    obtain ⟨f0, f1, f2, f3, f4, f5⟩ := hf it (by simp)
    have hl := rv.length
    have hi : its.toArray.size = i := by simp; omega
    refine wpAny_pyNext_enum_endD (Draws.tuple (A := X.A.in1) (I.ok.hd hc) it a hai its.toArray) he (by rw [hi]; exact ⟨hit, p⟩) fun h' eb => ⟨rfl, I.turned (t' := s.toks) (fun b o hb q => eb b o hb q) f0 f1 f3 f4 f5⟩
  self := fun A i s Q E st h => let ⟨⟨_, he⟩, _⟩ := st; wpAny_pyIter_enum he h
def iTe (K : PySem.W.Frag) (ta : TA) : TI := fun σ H R => ta σ H fun vs H1 => ∃ a xs, vs = [.ref a] ∧ SqT K H1 a xs ∧ R (ItTe K a) H1
/-- for i, x in enumerate(t), t a tuple -/
theorem pi_enumT {X : Cx} {e : Expr} {ta : TA} {p pos tpos : Pos} {elts : List Expr} {kk : Nat} (hg : Gl X "enumerate") (hm : X.mg "enumerate" = none) (ha : PA X [e] ta) (hs : starEach [e] X.env = [(false, eval e X.env)] := by rfl) :
    PI X (.Tuple elts kk tpos) (.Call (.Name "enumerate" p) [e] [] pos) (iTe X.K ta) := by
  refine ⟨fun pins s σ H R I h => ?_⟩
  refine Call_ (ld_blt I hg hm boot_enumerate (PyProof.Rows.callWith_type1 (thn (ha.run pos pins s σ H _ I h) fun us s1 ⟨vs, H1, I1, r1, q1⟩ => ?_) hs rfl))
  obtain ⟨a, xs, ex, hq, q⟩ := q1
  subst ex
  cases r1 with
  | cons r rr =>
    cases rr
    cases r
    obtain ⟨its, rv, p', hz⟩ := I1.tuple hq
    have hal : a < s1.heap.objs.size := by obtain ⟨_, q, _⟩ := p'; exact Heap.lt_size q
    refine enum_call1 (begins_tuple a its.toArray) p' fun h' he hit hk => wpAny_pyIter_enum he ?_
    have I2 : Inv X pins σ H1 { s1 with heap := h' } := I1.kept (t' := s1.toks) hk
    refine ⟨s1.heap.objs.size + 1, [s1.heap.objs.size + 1, s1.heap.objs.size], _, _, H1, rfl, I2, turn_te a (s1.heap.objs.size + 1) s1.heap.objs.size, ⟨⟨.none, he⟩, ⟨_, hit, rfl, rfl⟩, Nat.succ_ne_self _, Nat.ne_of_lt hal, Nat.ne_of_lt (Nat.lt_succ_of_lt hal)⟩, fun b hb => ?_, q⟩
    have hle : s1.heap.objs.size ≤ b := by
      rcases List.mem_cons.mp hb with z | z
      · rw [z]; exact Nat.le_add_right _ _
      · obtain rfl := List.mem_singleton.mp z
        exact Nat.le_refl _
    exact I1.fpOk hle (I1.hok.fresh hle)
theorem walk_te {K : PySem.W.Frag} {a : Addr} {xs : List V} : Walk (ItTe K a) xs.length (fun H => SqT K H a xs) (YPair (fun i => some (.int (i : Nat))) (fun i => xs[i]?)) := by
  refine ⟨fun i _ hi q => ⟨xs, xs[i], q, by simp [hi]⟩, fun _ q => ⟨xs, q, rfl⟩, fun i H v H' _ q y => ?_⟩
  obtain ⟨T, x, h1, h2, h3, h4⟩ := y
  exact ⟨T, .int (i : Nat), x, h1, h2, h3, rfl, h4 xs q⟩
end Sw
namespace Sw
open PySem L2
/-! ### what all laws share: the text by places, the checks of the package, data in short -/
def top (i : Nat) : Stmt := PySem.Challenge.pw_swapstops_k19_names_spoilt.main.body.getD i (.Pass ⟨0, 0, 0, 0⟩)
def isWhole (lo hi : Int) : D → Bool
  | .int i => decide (lo ≤ i) && decide (i ≤ hi)
  | _ => false
def isPair : D → Bool
  | .tup [_, _] => true
  | _ => false
/-- built-in names that no module has taken -/
structure NoNames (mg : Str → Option Value) : Prop where
  isi : mg "isinstance" = none
  len : mg "len" = none
  int : mg "int" = none
  bool : mg "bool" = none
  tuple : mg "tuple" = none
  enumerate : mg "enumerate" = none
  range : mg "range" = none
  abs : mg "abs" = none
  list : mg "list" = none
  dict : mg "dict" = none
  zip : mg "zip" = none
  sorted : mg "sorted" = none
  str : mg "str" = none
  repr : mg "repr" = none
  super : mg "super" = none
section
variable {P : Program} {w : World} {K : PySem.W.Frag} {mg : Str → Option Value} {base : Heap}
/-- isinstance(the name in slot i, T) -/
theorem pe_isi {X : Cx} {i : Nat} {x T : Str} {p1 p2 p3 p4 : Pos} {TN : String} (hN : X.N[i]? = some x) (hv : Vis X.env.scope x) (hd : (x == ("__debug__" : Str)) = false) (hcd : (x == ("__classdict__" : Str)) = false)
    (h1 : X.mg "isinstance" = none) (h2 : X.mg T = none) (g1 : Gl X "isinstance") (g2 : Gl X T) (hb : bootBuiltins T = some (.type TN)) (hn : T ≠ "__name__") (hd2 : (T == ("__debug__" : Str)) = false)
    (hs : starEach [Expr.Name x p1, Expr.Name T p2] X.env = (false, eval (.Name x p1) X.env) :: starEach [Expr.Name T p2] X.env := by rfl) (hs2 : starEach [Expr.Name T p2] X.env = (false, eval (.Name T p2) X.env) :: starEach [] X.env := by rfl)
    (hpl : (backTo p4 (starEach [Expr.Name T p2] X.env)).any (·.1) = false := by rfl) :
    PE X (.Call (.Name "isinstance" p3) [.Name x p1, .Name T p2] [] p4) (tCB (rIsD X.K) (tCons (tVar i) (tCons (tC (.ty TN)) tNil))) :=
  pe_callB call_isD g1 h1 (by decide +kernel) (pa_cons (pe_var hN hv hd hcd) (pa_cons (pe_bltn (v := .ty TN) g2 h2 hb rfl hn hd2) pa_nil hs2) hs) (by decide) (by decide) hs hpl
def spBetween (K : PySem.W.Frag) : Sp := fun vs H Q _ => ∃ (x : V) (d : D) (as : List Addr) (lo hi : Int), vs = [x, .int lo, .int hi] ∧ Rep K H d x as ∧ Q (.bl (isWhole lo hi d)) H
/-! ### is_pair -/
def spPair (K : PySem.W.Frag) : Sp := fun vs H Q _ => ∃ (x : V) (d : D) (as : List Addr), vs = [x] ∧ Rep K H d x as ∧ Q (.bl (isPair d)) H
/-- a def of one's own that may be called by its name -/
structure Own (P : Program) (w : World) (K : PySem.W.Frag) (mg : Str → Option Value) (base : Heap) (k : Nat) (x : Str) (ps : List Str) (sp : Sp) : Prop where
  ex : ∃ f fd, FnOk P w K mg base CX0 k f fd ps sp ∧ mg x = some (.ref f) ∧ PySem.W.keepIn K (.ref f) = true ∧ Binds K fd ps []
theorem two_of {d : D} (h : isPair d = true) : ∃ a b, d = .tup [a, b] := by
  cases d with
  | tup ds =>
    match ds, h with
    | [a, b], _ => exact ⟨a, b, rfl⟩
    | [], h => cases h
    | [_], h => cases h
    | _ :: _ :: _ :: _, h => cases h
  | _ => cases h
theorem int_wt {i : Nat} (h : i ≤ sizeLine) : (Str.ofString (toString (i : Int))).length ≤ 20 ∧ ((i : Int)).natAbs.log2 < 1920 := by
  rw [sizeLine_eq] at h
  have h1 : ((i : Int)).natAbs < 10 ^ 19 := by
    have : ((i : Int)).natAbs = i := rfl
    rw [this]
    omega
  have h2 := int_text_length_le10 (k := 19) (by decide) h1
  rw [PySem.ofString_length]
  refine ⟨h2, ?_⟩
  exact PySem.Spec.log2_small (Nat.lt_of_lt_of_le h1 (by decide +kernel))
theorem wt_len : ∀ ds : List D, 2 * ds.length ≤ wtAll ds
  | [] => by simp [wtAll]
  | d :: r => by
    have := wt_len r
    simp only [wtAll, List.length_cons]
    omega
/-- a new pair of a word and a place -/
theorem rep_err {H : Hp} {p : Addr} {z : Str} {i : Int} (h : H p = none) : Rep K (upd H p (.tup [.str z, .int i])) (.tup [.str z, .int i]) (.ref p) [p] := by
  simp only [Rep, RepAll]
  exact ⟨p, _, [], rfl, upd_same, ⟨_, _, [], [], rfl, ⟨rfl, rfl⟩, ⟨_, _, [], [], rfl, ⟨rfl, rfl⟩, ⟨rfl, rfl⟩, rfl⟩, rfl⟩, by simp, rfl⟩
theorem same_new {H : Hp} {p : Addr} {o : HO} (h : H p = none) : Same H (upd H p o) := fun b x e => by
  rw [upd_ne (ne_of_none e h)]
  exact e
theorem Rep.same {H H' : Hp} {d : D} {v : V} {as : List Addr} (h : Rep K H d v as) (s : Same H H') : Rep K H' d v as := h.keep fun b _ o e => s b o e
theorem RepAll.same {H H' : Hp} {d : List D} {v : List V} {as : List Addr} (h : RepAll K H d v as) (s : Same H H') : RepAll K H' d v as := h.keep fun b _ o e => s b o e
theorem pair_len {ds : List D} {n : Nat} (h : n = ds.length) : isPair (.tup ds) = decide (V.int (n : Int) = V.int 2) := by
  match ds, h with
  | [], hl => rw [hl]; rfl
  | [_], hl => rw [hl]; rfl
  | [_, _], hl => rw [hl]; rfl
  | _ :: _ :: _ :: r, hl =>
    rw [hl]
    show false = _
    refine (decide_eq_false fun z => ?_).symm
    have z2 : ((_ : Nat) : Int) = 2 := V.int.inj z
    simp only [List.length_cons] at z2
    omega
theorem tup_of {d : D} (e : isT "tuple" d = true) : ∃ ds, d = .tup ds := by
  cases d <;> first | exact ⟨_, rfl⟩ | (simp_all [isT])
theorem pair_tup {d : D} (e : isT "tuple" d = false) : isPair d = false := by
  cases d <;> simp_all [isT, isPair]
/-- isinstance(e, T) -/
theorem pe_isiE {X : Cx} {e : Expr} {te : TE} {T : Str} {p2 p3 p4 : Pos} {TN : String} (he : PE X e te)
    (h1 : X.mg "isinstance" = none) (h2 : X.mg T = none) (g1 : Gl X "isinstance") (g2 : Gl X T) (hb : bootBuiltins T = some (.type TN)) (hn : T ≠ "__name__") (hd2 : (T == ("__debug__" : Str)) = false)
    (hs : starEach [e, Expr.Name T p2] X.env = (false, eval e X.env) :: starEach [Expr.Name T p2] X.env := by rfl) (hs2 : starEach [Expr.Name T p2] X.env = (false, eval (.Name T p2) X.env) :: starEach [] X.env := by rfl)
    (hpl : (backTo p4 (starEach [Expr.Name T p2] X.env)).any (·.1) = false := by rfl) :
    PE X (.Call (.Name "isinstance" p3) [e, .Name T p2] [] p4) (tCB (rIsD X.K) (tCons te (tCons (tC (.ty TN)) tNil))) :=
  pe_callB call_isD g1 h1 (by decide +kernel) (pa_cons he (pa_cons (pe_bltn (v := .ty TN) g2 h2 hb rfl hn hd2) pa_nil hs2) hs) (by decide) (by decide) hs hpl
end
end Sw
namespace Sw
open PySem L2
/-- a statement kept to what it is to do with the slots and the heap -/
def tCut (J J' : L2.St → Hp → Prop) : TS := fun D σ H => J σ H ∧ ∀ σ' H', J' σ' H' → D.nx σ' H'
theorem ps_cut {X : Cx} {st : Stmt} {t : TS} {J J' : L2.St → Hp → Prop} (h : PS X st t) (hJ : ∀ D σ H, J σ H → (∀ σ' H', J' σ' H' → D.nx σ' H') → t D σ H) : PS X st (tCut J J') :=
  ⟨fun pins s σ H D I q => h.run pins s σ H D I (hJ D σ H q.1 q.2)⟩
def Inn (n a : Int) : Prop := 0 ≤ a ∧ a < n
/-- tuples stand -/
def TupS (H H' : Hp) : Prop := ∀ b xs, H b = some (.tup xs) → H' b = some (.tup xs)
theorem TupS.of {H H' : Hp} (s : Same H H') : TupS H H' := fun b xs e => s _ _ e
theorem TupS.refl {H : Hp} : TupS H H := fun _ _ e => e
theorem TupS.trans {H H1 H2 : Hp} (s : TupS H H1) (t : TupS H1 H2) : TupS H H2 := fun b xs e => t _ _ (s _ _ e)
/-- a list, a dict is written -/
theorem TupS.upd {H : Hp} {a : Addr} {o : HO} (h : ∀ xs, H a ≠ some (.tup xs)) : TupS H (L2.upd H a o) := fun b xs e => by
  rw [upd_ne (fun z => h xs (by rw [← z]; exact e))]
  exact e
end Sw
namespace Sw
open PySem L2
/-! ### a net as it lies, its arrows as pairs, what each stop leads to -/
def Arr (n : Int) (H : Hp) (x : V) : Prop := ∃ t a b, x = .ref t ∧ H t = some (.tup [.int a, .int b]) ∧ Inn n a ∧ Inn n b
def Arrs (n : Int) (H : Hp) (xs : List V) : Prop := ∀ x ∈ xs, Arr n H x
theorem Arr.keep {n : Int} {H H' : Hp} {x : V} (h : Arr n H x) (s : TupS H H') : Arr n H' x := by
  obtain ⟨t, a, b, e, h, r⟩ := h
  exact ⟨t, a, b, e, s _ _ h, r⟩
theorem Arrs.keep {n : Int} {H H' : Hp} {xs : List V} (h : Arrs n H xs) (s : TupS H H') : Arrs n H' xs := fun x hx => (h x hx).keep s
theorem paired_mono {α β : Type} {F G : α → β → Prop} (h : ∀ a b, F a b → G a b) : ∀ {l : List α} {m : List β}, Paired F l m → Paired G l m
  | _, _, .nil => .nil
  | _, _, .cons x t => .cons (h _ _ x) (paired_mono h t)
/-- a net as it stands at a, its arrows at b -/
structure NetAt (n : Int) (H : Hp) (a b : Addr) (ts : List V) : Prop where
  a : H a = some (.tup [.int n, .ref b])
  b : H b = some (.tup ts)
  arr : Arrs n H ts
  len : ts.length ≤ 200
  n1 : 1 ≤ n
  n2 : n ≤ 12
theorem NetAt.keep {n : Int} {H H' : Hp} {a b : Addr} {ts : List V} (N : NetAt n H a b ts) (s : TupS H H') : NetAt n H' a b ts := ⟨s _ _ N.a, s _ _ N.b, N.arr.keep s, N.len, N.n1, N.n2⟩
/-- the arrows of a net, as pairs -/
def ArsAt (H : Hp) (ts : List V) (ars : List (Int × Int)) : Prop := Paired (fun x (e : Int × Int) => ∃ t, x = V.ref t ∧ H t = some (.tup [.int e.1, .int e.2])) ts ars
theorem ArsAt.len {H : Hp} : ∀ {ts : List V} {ars : List (Int × Int)}, ArsAt H ts ars → ts.length = ars.length
  | _, _, .nil => rfl
  | _, _, .cons _ t => by
    rw [List.length_cons, List.length_cons, ArsAt.len t]
theorem ArsAt.at {H : Hp} : ∀ {ts : List V} {ars : List (Int × Int)} {i : Nat} {x : V}, ArsAt H ts ars → ts[i]? = some x → ∃ e t, ars[i]? = some e ∧ x = .ref t ∧ H t = some (.tup [.int e.1, .int e.2])
  | _, _, i, x, .nil, h => by simp at h
  | _, _, 0, x, .cons (b := e) q t, h => by
    obtain ⟨t', e1, e2⟩ := q
    have h : some _ = some x := h
    cases h
    exact ⟨e, t', rfl, e1, e2⟩
  | _, _, i + 1, x, .cons q t, h => ArsAt.at (i := i) t h
theorem ArsAt.keep {H H' : Hp} {ts : List V} {ars : List (Int × Int)} (h : ArsAt H ts ars) (s : TupS H H') : ArsAt H' ts ars := paired_mono (fun _ _ ⟨t, e, x⟩ => ⟨t, e, s _ _ x⟩) h
/-- every net's arrows are some pairs -/
theorem ArsAt.ex {n : Int} {H : Hp} : ∀ {ts : List V}, Arrs n H ts → ∃ ars, ArsAt H ts ars
  | [], _ => ⟨[], .nil⟩
  | x :: r, h => by
    obtain ⟨t, a, b, rfl, ht, _⟩ := h x (by simp)
    obtain ⟨ars, q⟩ := ArsAt.ex (ts := r) fun y hy => h y (by simp [hy])
    exact ⟨(a, b) :: ars, .cons ⟨t, rfl, ht⟩ q⟩
/-- a list of whole numbers below n, at most m -/
def IntsAt (n : Int) (m : Nat) (H : Hp) (l : Addr) : Prop := ∃ os : List Int, H l = some (.lst (os.map V.int)) ∧ (∀ o ∈ os, Inn n o) ∧ os.length ≤ m
theorem IntsAt.ne {n : Int} {m : Nat} {H : Hp} {l f : Addr} {ls : List Addr} (h : IntsAt n m H l) (hf : H f = some (.lst (ls.map V.ref))) (hl : l ∈ ls) : l ≠ f := fun z => by
  obtain ⟨os, e, _⟩ := h
  rw [z, hf] at e
  have e2 := Option.some.inj e
  injection e2 with e3
  match ls, os, hl, e3 with
  | _ :: _, [], _, e3 => cases e3
  | _ :: _, _ :: _, _, e3 => cases e3
/-- the stops to which v leads, in the arrows' order -/
def outs (ars : List (Int × Int)) (v : Nat) : List Int := (ars.filter fun e => e.1 == (v : Int)).map (·.2)
theorem outs_mem {ars : List (Int × Int)} {v : Nat} {w : Int} : w ∈ outs ars v ↔ ((v : Int), w) ∈ ars := by
  unfold outs
  constructor
  · intro h
    obtain ⟨e, he, rfl⟩ := List.mem_map.mp h
    obtain ⟨h1, h2⟩ := List.mem_filter.mp he
    have h3 : e.1 = (v : Int) := beq_iff_eq.mp h2
    rw [← h3]
    exact h1
  · intro h
    exact List.mem_map.mpr ⟨_, List.mem_filter.mpr ⟨h, beq_self_eq_true _⟩, rfl⟩
theorem outs_succ {ars : List (Int × Int)} {i : Nat} {e : Int × Int} (h : ars[i]? = some e) (v : Nat) : outs (ars.take (i + 1)) v = outs (ars.take i) v ++ (if e.1 = (v : Int) then [e.2] else []) := by
  unfold outs
  rw [List.take_add_one, h, List.filter_append, List.map_append]
  by_cases q : e.1 = (v : Int)
  · rw [if_pos q]
    simp [q]
  · rw [if_neg q]
    simp [q]
theorem outs_len {ars : List (Int × Int)} {v : Nat} : (outs ars v).length ≤ ars.length := by
  unfold outs
  rw [List.length_map]
  exact List.length_filter_le _ _
end Sw
namespace Sw
open PySem PySem.Spec PyProof.Rows L2
/-! ### lists of pairs -/
/-- a list of pairs -/
def PairsAt (H : Hp) (l : Addr) (es : List (Int × Int)) : Prop := ∃ ts : List V, H l = some (.lst ts) ∧ ArsAt H ts es
theorem ars_app : ∀ {H : Hp} {ts ts' : List V} {ars ars' : List (Int × Int)}, ArsAt H ts ars → ArsAt H ts' ars' → ArsAt H (ts ++ ts') (ars ++ ars')
  | _, _, _, _, _, .nil, h => h
  | _, _, _, _, _, .cons q t, h => .cons q (ars_app t h)
theorem at_back {os : List Int} {k : Nat} (h : k < os.length) : ∃ x, x ∈ os ∧ atI (os.map V.int) ((k : Int) - 1) = some (.int x) := by
  obtain ⟨j, hj, e⟩ : ∃ j, j < os.length ∧ ixN os.length ((k : Int) - 1) = some j := by
    unfold ixN
    by_cases z : 0 ≤ (k : Int) - 1
    · rw [if_pos z, if_pos (by omega)]
      exact ⟨_, by omega, rfl⟩
    · rw [if_neg z, if_pos (by omega)]
      exact ⟨_, by omega, rfl⟩
  refine ⟨os[j], List.getElem_mem hj, ?_⟩
  unfold atI
  rw [List.length_map, e, Option.bind_some, List.getElem?_map, List.getElem?_eq_getElem hj]
  rfl
end Sw
namespace Sw
open PySem PySem.Spec PyProof.Rows L2
/-! ### a net whose stops are called otherwise -/
def ren (os : List Int) (v : Int) : Int := os.getD v.toNat 0
def renE (os : List Int) (e : Int × Int) : Int × Int := (ren os e.1, ren os e.2)
theorem ren_at {os : List Int} {n v : Int} (h : Inn n v) (l : os.length = n.toNat) : atI (os.map V.int) v = some (.int (ren os v)) := by
  obtain ⟨h0, h1⟩ := h
  have hj : v.toNat < os.length := by omega
  refine at_of (j := v.toNat) (by omega) ?_
  rw [List.getElem?_map, List.getElem?_eq_getElem hj]
  unfold ren
  rw [List.getD_eq_getElem?_getD, List.getElem?_eq_getElem hj]
  rfl
theorem ren_in {os : List Int} {n v : Int} (h : Inn n v) (l : os.length = n.toNat) (ho : ∀ o ∈ os, Inn n o) : Inn n (ren os v) := by
  obtain ⟨h0, h1⟩ := h
  have hj : v.toNat < os.length := by omega
  unfold ren
  rw [List.getD_eq_getElem?_getD, List.getElem?_eq_getElem hj]
  exact ho _ (List.getElem_mem hj)
/-- what a pair's address shows -/
def kAt (H : Hp) : V → Int × Int := fun x => match x with
  | .ref t => (match H t with
    | some (.tup [.int a, .int b]) => (a, b)
    | _ => (0, 0))
  | _ => (0, 0)
theorem kAt_of {H : Hp} {t : Addr} {a b : Int} (h : H t = some (.tup [.int a, .int b])) : kAt H (.ref t) = (a, b) := by
  unfold kAt
  simp only [h]
theorem ars_kAt {H : Hp} : ∀ {xs : List V} {ars : List (Int × Int)}, ArsAt H xs ars → xs.map (kAt H) = ars
  | _, _, .nil => rfl
  | _, _, .cons (b := e) q t => by
    obtain ⟨t', rfl, h⟩ := q
    rw [List.map_cons, ars_kAt t, kAt_of h]
theorem ars_each {H : Hp} : ∀ {xs : List V} {ars : List (Int × Int)}, ArsAt H xs ars → ∀ x ∈ xs, ∃ t, x = V.ref t ∧ H t = some (.tup [.int (kAt H x).1, .int (kAt H x).2])
  | _, _, .nil, x, hx => (List.not_mem_nil hx).elim
  | _, _, .cons (b := e) q t, x, hx => by
    obtain ⟨t', rfl, h⟩ := q
    rcases List.mem_cons.mp hx with rfl | z
    · exact ⟨t', rfl, by rw [kAt_of h]; exact h⟩
    · exact ars_each t x z
theorem ars_back {H : Hp} : ∀ {ys : List V}, (∀ x ∈ ys, ∃ t, x = V.ref t ∧ H t = some (.tup [.int (kAt H x).1, .int (kAt H x).2])) → ArsAt H ys (ys.map (kAt H))
  | [], _ => .nil
  | y :: r, h => .cons (h y List.mem_cons_self) (ars_back fun x hx => h x (List.mem_cons_of_mem _ hx))
theorem arrs_of {n : Int} {H : Hp} : ∀ {ts : List V} {ars : List (Int × Int)}, ArsAt H ts ars → (∀ e ∈ ars, Inn n e.1 ∧ Inn n e.2) → Arrs n H ts
  | _, _, .nil, _ => fun _ h => (List.not_mem_nil h).elim
  | _, _, .cons (b := e) q t, h => fun x hx => by
    obtain ⟨t', rfl, ht⟩ := q
    rcases List.mem_cons.mp hx with rfl | z
    · exact ⟨t', e.1, e.2, rfl, ht, (h e List.mem_cons_self).1, (h e List.mem_cons_self).2⟩
    · exact arrs_of t (fun y hy => h y (List.mem_cons_of_mem _ hy)) x z
theorem inn_of {n : Int} {H : Hp} {ts : List V} {ars : List (Int × Int)} (A : Arrs n H ts) : ArsAt H ts ars → ∀ e ∈ ars, Inn n e.1 ∧ Inn n e.2 := fun h => by
  induction h with
  | nil => exact fun _ h => (List.not_mem_nil h).elim
  | cons q t ih =>
    intro e he
    obtain ⟨t', rfl, ht⟩ := q
    rcases List.mem_cons.mp he with rfl | z
    · obtain ⟨t2, a, b, e1, e2, e3⟩ := A _ List.mem_cons_self
      cases e1
      rw [ht] at e2
      have e4 := HO.tup.inj (Option.some.inj e2)
      injection e4 with e5 e6
      injection e6 with e6 _
      rw [V.int.inj e5, V.int.inj e6]
      exact e3
    · exact ih (fun x hx => A x (List.mem_cons_of_mem _ hx)) e z
end Sw
namespace Sw
open PySem PySem.Spec PyProof.Rows L2
/-- arrows ascend, none doubled -/
def AscA (ars : List (Int × Int)) : Prop := ars.Pairwise fun p q => SrtO.lexB p q = true
theorem AscA.nodup {ars : List (Int × Int)} (h : AscA ars) : ars.Nodup := h.imp fun {a b} h z => by
  have := SrtO.lexB_iff.mp h
  rw [z] at this
  omega
end Sw
namespace Sw
open PySem PySem.Spec PyProof.Rows L2
/-! ### a net whose stops are called otherwise -/
abbrev sCalled : Stmt := top 39
theorem scCalled : FnScope ["net", "order", "n", "arrows", "v", "w"] ["net", "order"] (defScope sCalled) := ⟨rfl, rfl, rfl, by decide +kernel, rfl, by decide +kernel, by decide +kernel⟩
section
variable {P : Program} {w : World} {K : PySem.W.Frag} {mg : Str → Option Value} {base : Heap}
def spCalled : Sp := fun vs H Q _ => ∃ (a b o : Addr) (n : Int) (ts : List V) (ars : List (Int × Int)) (os : List Int), vs = [.ref a, .ref o] ∧ NetAt n H a b ts ∧ ArsAt H ts ars ∧ H o = some (.lst (os.map V.int)) ∧ os.length = n.toNat ∧ (∀ v ∈ os, Inn n v) ∧
  ∀ (r b' : Addr) (ts' : List V) (ars' : List (Int × Int)) (H' : Hp), Same H H' → H r = none → NetAt n H' r b' ts' → ArsAt H' ts' ars' → ars'.Perm (ars.map (renE os)) → Q (.ref r) H'
/-- each arrow not behind the ones after it -/
def SrtA (ars : List (Int × Int)) : Prop := SrtO.Srtd SrtO.lexB ars
def spCalledA : Sp := fun vs H Q _ => ∃ (a b o : Addr) (n : Int) (ts : List V) (ars : List (Int × Int)) (os : List Int), vs = [.ref a, .ref o] ∧ NetAt n H a b ts ∧ ArsAt H ts ars ∧ H o = some (.lst (os.map V.int)) ∧ os.length = n.toNat ∧ (∀ v ∈ os, Inn n v) ∧
  ∀ (r b' : Addr) (ts' : List V) (ars' : List (Int × Int)) (H' : Hp), Same H H' → H r = none → NetAt n H' r b' ts' → ArsAt H' ts' ars' → ars'.Perm (ars.map (renE os)) → SrtA ars' → Q (.ref r) H'
theorem ok_calledA {f : Addr} {fd : FuncData} (F : Fun K "_law_called" "_law_called" sCalled f fd) (B : NoNames mg) : FnOk P w K mg base CX0 1 f fd ["net", "order"] spCalledA := by
  refine F.ok scCalled (fun vs H Q E h => ?_) (fun cdv A outer s H vs Q E hr h => ?_)
  · obtain ⟨a, b, o, n, ts, ars, os, rfl, _⟩ := h
    rfl
  · obtain ⟨a, b, o, n, ts, ars, os, rfl, N, AR, ho, lo, io, k⟩ := h
    have inn := inn_of N.arr AR
    refine ⟨_, pss_cons (ps_asg (pv 0) (pg_tup (by rfl) (pgs_cons (pg_name (i := 2) scCalled.nd rfl (.inl rfl)) (pgs_cons (pg_name (i := 3) scCalled.nd rfl (.inl rfl)) pgs_nil)))) <|
      pss_one (ps_ret (pe_tup (pa_cons (pv 2) (pa_cons (pe_callTy call_tuple_of (by rfl) B.tuple (by decide +kernel) (pa_cons (pe_callB cr_sortedPO (by rfl) B.sorted (by decide +kernel) (pa_cons
        (pe_lc (own := [("v", 4), ("w", 5)]) (g := gTup K 2 (gCons (gName 4) (gCons (gName 5) gNil))) (tt := tYes) (te := tTup (tCons (tOp (rIxL K) (tVar 1) (tVar 4)) (tCons (tOp (rIxL K) (tVar 1) (tVar 5)) tNil))) rfl scCalled.nd (pi_tup (pv 3)) (blkOk_by (own := [("v", 4), ("w", 5)]) (N := ["net", "order", "n", "arrows", "v", "w"]) (sc := defScope sCalled) (by decide +kernel))
          (fun _ _ _ _ _ => pg_tup rfl (pgs_cons (pg_name (i := 4) scCalled.nd rfl (Or.inl rfl)) (pgs_cons (pg_name (i := 5) scCalled.nd rfl (Or.inl rfl)) pgs_nil))) (fun _ _ _ _ _ => pts_nil)
          (fun _ _ _ _ _ => pe_tup (pa_cons (pe_ix (r := rIxL K) ix_list (pv 1) (pv 4) (fun _ _ => rfl)) (pa_cons (pe_ix (r := rIxL K) ix_list (pv 1) (pv 5) (fun _ _ => rfl)) pa_nil)))) pa_nil)) pa_nil)) pa_nil)))), ?_⟩
    refine ⟨_, rfl, a, _, rfl, SqT.of N.a, rfl, _, _, rfl, _, _, rfl, rfl, ?_⟩
    refine ⟨_, rfl, _, rfl, b, rfl, ⟨_, SqT.of N.b⟩, fun D nD => ?_⟩
    refine lc_it (walk_tup (xs := ts)) (fun i H' => ∃ xs : List V, H' D = some (.lst xs) ∧ xs.length = i ∧ ArsAt H' xs ((ars.take i).map (renE os)) ∧ Same H H') ⟨[], upd_same, rfl, by rw [List.take_zero]; exact .nil, same_new nD⟩ (fun i H' _ h => by obtain ⟨_, _, _, _, e⟩ := h; exact SqT.of (e _ _ N.b)) ?_ ?_
    · rintro i x Hb Ha hi ⟨xs, h1, h2, h3, h5⟩ ⟨rfl, ex⟩
      obtain ⟨e, t, he, rfl, ht⟩ := AR.at ex
      have me := List.mem_of_getElem? he
      have ie := inn e me
      refine ⟨t, _, rfl, SqT.of (h5 _ _ ht), rfl, _, _, rfl, _, _, rfl, rfl, ?_⟩
      refine ⟨rfl, ?_⟩
      dsimp only [tYes]
      rw [if_pos rfl]
      refine ⟨_, rfl, _, rfl, o, _, e.1, _, rfl, rfl, SqL.of (h5 _ _ ho), ren_at ie.1 lo, _, rfl, _, rfl, o, _, e.2, _, rfl, rfl, SqL.of (h5 _ _ ho), ren_at ie.2 lo, by show 2 ≤ sizeLine; decide, fun q nq => ?_⟩
      have sq : Same Ha (upd Ha q (.tup [.int (ren os e.1), .int (ren os e.2)])) := same_new nq
      have h1' := sq _ _ h1
      have hq : (upd Ha q (.tup [.int (ren os e.1), .int (ren os e.2)])) q = some (.tup [.int (ren os e.1), .int (ren os e.2)]) := upd_same
      have s6 := h5.trans sq
      have h3' := h3.keep (.of sq)
      generalize (upd Ha q (.tup [.int (ren os e.1), .int (ren os e.2)])) = H6 at h1' hq s6 h3' ⊢
      have tu : TupS H6 (upd H6 D (.lst (xs ++ [.ref q]))) := TupS.upd fun ys z => by
        rw [h1'] at z
        cases z
      refine ⟨xs, h1', by rw [h2, sizeLine_eq]; have := N.len; omega, xs ++ [.ref q], upd_same, by rw [List.length_append, h2]; rfl, ?_, fun c o ec => ?_⟩
      · rw [List.take_add_one, he, List.map_append]
        exact ars_app (h3'.keep tu) (.cons ⟨q, rfl, tu _ _ hq⟩ .nil)
      · rw [upd_ne (ne_of_none ec nD)]
        exact s6 _ _ ec
    · rintro Ha ⟨xs, h1, h2, h3, h5⟩
      rw [List.take_of_length_le (Nat.le_of_eq AR.len.symm)] at h3
      have ek := ars_kAt h3
      have ea := ars_each h3
      refine ⟨D, xs, kAt Ha, rfl, SqL.of h1, ea, fun ys p sy st np => ?_⟩
      have pm := st.perm
      have AY := ars_back (ys := ys) fun x hx => ea x (pm.mem_iff.mp hx)
      have sk : SrtA (ys.map (kAt Ha)) := List.pairwise_map.mpr sy
      have py : (ys.map (kAt Ha)).Perm (ars.map (renE os)) := ek ▸ pm.map _
      have ly : ys.length ≤ 200 := by
        rw [pm.length_eq, h2]
        exact N.len
      have s1 : Same Ha (upd Ha p (.lst ys)) := same_new np
      have hp : (upd Ha p (.lst ys)) p = some (.lst ys) := upd_same
      have AY1 := AY.keep (.of s1)
      have s5 := h5.trans s1
      generalize ys.map (kAt Ha) = ars' at AY1 py sk
      generalize (upd Ha p (.lst ys)) = H1 at hp AY1 s5 ⊢
      refine ⟨p, ys, rfl, .inl ⟨SqL.of hp, fun T1 nT1 => ⟨by show 2 ≤ sizeLine; decide, fun T2 nT2 => ?_⟩⟩⟩
      have s2 : Same H1 (upd H1 T1 (.tup ys)) := same_new nT1
      have s3 : Same (upd H1 T1 (.tup ys)) (upd (upd H1 T1 (.tup ys)) T2 (.tup [.int n, .ref T1])) := same_new nT2
      have e1 := s3 _ _ (upd_same (H := H1) (a := T1) (o := .tup ys))
      have A4 := (AY1.keep (.of s2)).keep (.of s3)
      refine k T2 T1 ys ars' _ (s5.trans (s2.trans s3)) ((s5.trans s2).free nT2) ⟨upd_same, e1, arrs_of A4 fun e he => ?_, ly, N.n1, N.n2⟩ A4 py sk
      obtain ⟨e0, m0, rfl⟩ := List.mem_map.mp (py.mem_iff.mp he)
      exact ⟨ren_in (inn e0 m0).1 lo io, ren_in (inn e0 m0).2 lo io⟩
theorem ok_called {f : Addr} {fd : FuncData} (F : Fun K "_law_called" "_law_called" sCalled f fd) (B : NoNames mg) : FnOk P w K mg base CX0 1 f fd ["net", "order"] spCalled :=
  (ok_calledA F B).imp fun _ _ _ _ h => by
    obtain ⟨a, b, o, n, ts, ars, os, e, N, A, ho, lo, io, k⟩ := h
    exact ⟨a, b, o, n, ts, ars, os, e, N, A, ho, lo, io, fun r b' ts' ars' H' s nr N' A' p _ => k r b' ts' ars' H' s nr N' A' p⟩
end
end Sw
namespace Sw.F
open PySem PySem.F
theorem slot_perm_next : Slot "itertools.permutations" "__next__" "itertools.permutations.__next__" :=
  .of (owner := "itertools.permutations") (n := "__next__") (by rw [typeLookup_type, builtinLookup_eq_fast]; kernel_rfl) (by decide +kernel) (by decide +kernel) (by decide +kernel)
    (by first | exact .inl (by decide +kernel) | exact .inr (by decide +kernel)) (by rw [isSubtype_type]; kernel_rfl)
theorem slot_perm_iter : Slot "itertools.permutations" "__iter__" "itertools.permutations.__iter__" :=
  .of (owner := "itertools.permutations") (n := "__iter__") (by rw [typeLookup_type, builtinLookup_eq_fast]; kernel_rfl) (by decide +kernel) (by decide +kernel) (by decide +kernel)
    (by first | exact .inl (by decide +kernel) | exact .inr (by decide +kernel)) (by rw [isSubtype_type]; kernel_rfl)
theorem slot_perm_init : Slot "itertools.permutations" "__init__" "object.__init__" :=
  .of (owner := "object") (n := "__init__") (by rw [typeLookup_type, builtinLookup_eq_fast]; kernel_rfl) (by decide +kernel) (by decide +kernel) (by decide +kernel)
    (by first | exact .inl (by decide +kernel) | exact .inr (by decide +kernel)) (by rw [isSubtype_type]; kernel_rfl)
theorem entry_perm_next : entryFor table "itertools.permutations.__next__" = some Builtin.«itertools.permutations.__next__» := entryFor_of_tree (by kernel_rfl)
theorem entry_perm_new : entryFor table "itertools.permutations.__new__" = some Builtin.«itertools.permutations.__new__» := entryFor_of_tree (by kernel_rfl)
theorem entry_perm_iter : entryFor table "itertools.permutations.__iter__" = some Builtin.«dict_keyiterator.__iter__» :=
  entryFor_alias (id' := "dict_keyiterator.__iter__") (by kernel_rfl) (by first | rfl | decide +kernel | (unfold String.splitOn; simp +decide [String.splitOnAux])) (by decide +kernel) (by kernel_rfl)
theorem owner_perm : Manifest.owners.lookup (String.ofList ['s', 'n', 'o', 'i', 't', 'a', 't', 'u', 'm', 'r', 'e', 'p', '.', 's', 'l', 'o', 'o', 't', 'r', 'e', 't', 'i'].reverse) = some Manifest.sig_itertools_permutations := by kernel_rfl
theorem args_perm_next_1 (a : Value) : argsOk "itertools.permutations.__next__" ⟨[a], []⟩ := by
  unfold argsOk; rw [signature?_of (id := "itertools.permutations.__next__") (n := ['_', '_', 't', 'x', 'e', 'n', '_', '_']) (o := ['s', 'n', 'o', 'i', 't', 'a', 't', 'u', 'm', 'r', 'e', 'p', '.', 's', 'l', 'o', 'o', 't', 'r', 'e', 't', 'i']) (by kernel_rfl) owner_perm]; kernel_rfl
theorem args_perm_iter_1 (a : Value) : argsOk "itertools.permutations.__iter__" ⟨[a], []⟩ := by
  unfold argsOk; rw [signature?_of (id := "itertools.permutations.__iter__") (n := ['_', '_', 'r', 'e', 't', 'i', '_', '_']) (o := ['s', 'n', 'o', 'i', 't', 'a', 't', 'u', 'm', 'r', 'e', 'p', '.', 's', 'l', 'o', 'o', 't', 'r', 'e', 't', 'i']) (by kernel_rfl) owner_perm]; kernel_rfl
theorem mro_perm : mroOf (.type "itertools.permutations") = pure [.type "itertools.permutations", .type "object"] := by rw [mroOf_type]; kernel_rfl
theorem lookup_perm_new : typeLookup (.type "itertools.permutations") "__new__" = pure (some (.builtin "itertools.permutations.__new__")) := by rw [typeLookup_type, builtinLookup_eq_fast]; kernel_rfl
theorem called_perm : TypeCalled "itertools.permutations" "itertools.permutations.__new__" "object.__init__" :=
  ⟨by decide +kernel, by decide +kernel, ⟨_, _, mro_perm⟩, madeBy_type mro_perm lookup_perm_new (by decide +kernel), by decide +kernel, by rw [isSubtype_type]; kernel_rfl, slot_perm_init⟩
theorem typeCall_perm_1 (a : Value) : checkTypeCall "itertools.permutations" ⟨[a], []⟩ = pure () := by kernel_rfl
theorem newCall_perm_1 (a : Value) : checkBuiltinCall "itertools.permutations.__new__" ⟨[.type "itertools.permutations", a], []⟩ = pure () := by kernel_rfl
theorem sub_perm : isSubtype (.type "itertools.permutations") (.type "itertools.permutations") = pure true := by rw [isSubtype_type]; kernel_rfl
end Sw.F
namespace Sw
open PySem
/-- the next arrangement, as the model steps to it -/
def nextP (n : Nat) : (place : Nat) → (indices cycles : List Nat) → Option (List Nat × List Nat)
  | 0, _, _ => none
  | i + 1, indices, cycles =>
    let c := cycles.getD i 0 - 1
    if c == 0 then nextP n i (indices.take i ++ indices.drop (i + 1) ++ [indices.getD i 0]) (cycles.set i (n - i))
    else some ((indices.set i (indices.getD (n - c) 0)).set (n - c) (indices.getD i 0), cycles.set i c)
def permFs (pool : Addr) (flag : Int) (before : Value) (ns : List Nat) : Array Value := ([.ref pool, rawInt flag, rawInt 5, before] ++ ns.map fun n : Nat => rawInt n).toArray
theorem permFs_0 (pool : Addr) (flag : Int) (before : Value) (ns : List Nat) : (permFs pool flag before ns)[0]? = some (.ref pool) := by simp [permFs]
theorem permFs_1 (pool : Addr) (flag : Int) (before : Value) (ns : List Nat) : (permFs pool flag before ns)[1]? = some (rawInt flag) := by simp [permFs]
theorem permFs_2 (pool : Addr) (flag : Int) (before : Value) (ns : List Nat) : (permFs pool flag before ns)[2]? = some (rawInt 5) := by simp [permFs]
theorem permFs_3 (pool : Addr) (flag : Int) (before : Value) (ns : List Nat) : (permFs pool flag before ns)[3]? = some before := by simp [permFs]
theorem permFs_4 (pool : Addr) (flag : Int) (before : Value) (ns : List Nat) : (((permFs pool flag before ns).toList.drop 4).map fun | .int n _ => n.toNat | _ => 0) = ns := by
  show (((ns.map fun n : Nat => rawInt n)).map fun | .int n _ => n.toNat | _ => 0) = ns
  rw [List.map_map]
  exact (List.map_congr_left fun n _ => by simp [rawInt]).trans (List.map_id _)
theorem permFs_set1 (pool : Addr) (flag flag' : Int) (before : Value) (ns : List Nat) : (permFs pool flag before ns).setIfInBounds 1 (rawInt flag') = permFs pool flag' before ns := by
  simp [permFs]
theorem permFs_set3 (pool : Addr) (flag : Int) (before b' : Value) (ns : List Nat) : (permFs pool flag before ns).setIfInBounds 3 b' = permFs pool flag b' ns := by
  simp [permFs]
theorem permFs_num (pool : Addr) (flag : Int) (before : Value) (ns ms : List Nat) : (permFs pool flag before ns).extract 0 4 ++ (ms.map fun n : Nat => rawInt n).toArray = permFs pool flag before ms := by
  simp [permFs]
theorem permFs_size (pool : Addr) (flag : Int) (before : Value) (ns : List Nat) : (permFs pool flag before ns).size = 4 + ns.length := by simp [permFs]; omega
/-- the record: the pool, whether it has begun, what it told last, where it stands -/
def permObj (pool : Addr) (flag : Int) (before : Value) (ns : List Nat) : Obj :=
  { cls := .type "itertools.permutations", dict := none, data := .fields (permFs pool flag before ns), slots := #[] }
section
variable {prog : Program} {w : World} {A : Around} {E : Value → Shared → Prop} {s : Shared}
/-- what is told is a new tuple, kept by the record -/
theorem perm_told {p pool : Addr} {flag : Int} {before : Value} {ns ix : List Nat} {items : Array Value} {s0 : Shared} {Q : Value → Shared → Prop} (h0 : s0.heap.get? p = some (permObj pool flag before ns)) (hl : (ix.take 5).length ≤ 5)
    (hQ : ∀ h', h'.get? p = some (permObj pool flag (.ref s0.heap.objs.size) ns) → h'.get? s0.heap.objs.size = some { cls := .type "tuple", data := .seq ((ix.take 5).map fun i => items.getD i .none).toArray } →
      (∀ c o, c ≠ p → s0.heap.get? c = some o → h'.get? c = some o) → Q (.ref s0.heap.objs.size) { s0 with heap := h' }) :
    wpAny (model prog w) A (do
      let t ← newTuple (List.map (fun i => items.getD i Value.none) (List.take (Int.toNat 5) ix))
      let before ← field (Value.ref p) 3
      setField (Value.ref p) 3 t
      letGo [before] [t]
      ret t) (fun fin s' => ∃ v, fin = .done (.ret v) ∧ Q v s') E s0 := by
  have lt : p < s0.heap.objs.size := Heap.lt_size h0
  refine wpAny_bind (wpAny_newTuple ?_ (by rw [List.length_map, sizeLine_eq]; have : (List.take (Int.toNat 5) ix).length ≤ 5 := hl; omega))
  have h1 := Heap.get?_push_of_some { cls := .type "tuple", data := .seq (List.map (fun i => items.getD i Value.none) (List.take (Int.toNat 5) ix)).toArray } h0
  refine wpAny_bind (wpAny_field h1 rfl (x := before) (permFs_3 ..) ?_)
  refine wpAny_bind (wpAny_setField_rec h1 (by rw [permFs_size]; omega) fun h2 e2 sb => ?_)
  refine wpAny_bind (wpAny_letGo (wpAny_pure ⟨_, rfl, ?_⟩))
  rw [permFs_set3] at e2
  exact hQ h2 e2 (sb.extBut _ _ (Nat.ne_of_gt lt) (Heap.get?_push_size _ rfl)) fun c o ne e => sb.extBut _ _ ne (Heap.get?_push_of_some _ e)
theorem perm_item1 {p pool : Addr} {before : Value} {ns ix cy : List Nat} {items : Array Value} {op : Obj} {c : Nat} {Q : Value → Shared → Prop} (hp : s.heap.get? p = some (permObj pool 1 before ns)) (hq : s.heap.get? pool = some op) (hd : op.data = .seq items c) (h5 : items.size = 5)
    (hn : nextP 5 5 (ns.take 5) (ns.drop 5) = some (ix, cy)) (hl : (ix ++ cy).length ≤ 20)
    (hQ : ∀ h', h'.get? p = some (permObj pool 1 (.ref s.heap.objs.size) (ix ++ cy)) → h'.get? s.heap.objs.size = some { cls := .type "tuple", data := .seq ((ix.take 5).map fun i => items.getD i .none).toArray } →
      (∀ c o, c ≠ p → s.heap.get? c = some o → h'.get? c = some o) → Q (.ref s.heap.objs.size) { s with heap := h' }) :
    wpAny (model prog w) A (Builtin.«itertools.permutations.__next__» ⟨[.ref p], []⟩) (fun fin s' => ∃ v, fin = .done (.ret v) ∧ Q v s') E s := by
  show wpAny _ _ (field (.ref p) 0 >>= _) _ _ _
  refine wpAny_bind (wpAny_field hp rfl (x := .ref pool) (permFs_0 ..) ?_)
  show wpAny _ _ (Builtin.Itertools.itPoolItems (.ref pool) >>= _) _ _ _
  unfold Builtin.Itertools.itPoolItems
  refine wpAny_bind (wpAny_bind (wpAny_seqItems hq hd ?_))
  refine wpAny_pure ?_
  show wpAny _ _ (Builtin.Itertools.itIntField (.ref p) 2 >>= _) _ _ _
  unfold Builtin.Itertools.itIntField
  refine wpAny_bind (wpAny_bind (wpAny_field hp rfl (x := rawInt 5) (permFs_2 ..) ?_))
  refine wpAny_pure ?_
  show wpAny _ _ (Builtin.Itertools.itNumbersFrom (.ref p) 4 >>= _) _ _ _
  unfold Builtin.Itertools.itNumbersFrom
  refine wpAny_bind (wpAny_bind (wpAny_load hp ?_))
  refine wpAny_pure ?_
  show wpAny _ _ (Builtin.Itertools.itIntField (.ref p) 1 >>= _) _ _ _
  unfold Builtin.Itertools.itIntField
  refine wpAny_bind (wpAny_bind (wpAny_field hp rfl (x := rawInt 1) (permFs_1 ..) ?_))
  refine wpAny_pure ?_
  generalize hm : List.map _ (List.drop 4 (permFs pool 1 before ns).toList) = ms
  obtain rfl : ns = ms := (permFs_4 pool 1 before ns).symm.trans hm
  rw [h5]
  split
  · rename_i h
    exact absurd h (by decide)
  · split
    · rename_i ix' cy' heq
      have heq : nextP 5 5 (ns.take 5) (ns.drop 5) = some (ix', cy') := heq
      rw [hn] at heq
      cases heq
      unfold Builtin.Itertools.itSetNumbersFrom
      refine wpAny_bind (wpAny_updateFields hp rfl ?_ ?_)
      · have h1 : (s.heap.update p (Obj.mapFields fun fs => fs.extract 0 4 ++ (List.map (fun n : Nat => rawInt n) (ix ++ cy)).toArray)).get? p = some (permObj pool 1 before (ix ++ cy)) := by
          have := Heap.get?_update_self (h := s.heap) (Obj.mapFields fun fs => fs.extract 0 4 ++ (List.map (fun n : Nat => rawInt n) (ix ++ cy)).toArray) hp rfl
          have e : ∀ f, Obj.mapFields f (permObj pool 1 before ns) = { cls := .type "itertools.permutations", dict := none, data := .fields (f (permFs pool 1 before ns)), slots := #[] } := fun f => rfl
          rw [this, e, permFs_num]
          rfl
        have sb : Heap.SameBut p s.heap (s.heap.update p (Obj.mapFields fun fs => fs.extract 0 4 ++ (List.map (fun n : Nat => rawInt n) (ix ++ cy)).toArray)) := Heap.SameBut.update ..
        generalize (s.heap.update p (Obj.mapFields fun fs => fs.extract 0 4 ++ (List.map (fun n : Nat => rawInt n) (ix ++ cy)).toArray)) = h' at h1 sb ⊢
        refine perm_told (s0 := { s with heap := h' }) h1 (by rw [List.length_take]; omega) fun h2 e1 e2 ek => ?_
        dsimp only at e1 e2 ek ⊢
        rw [sb.1] at e1 e2 ⊢
        exact hQ h2 e1 e2 fun c o ne e => ek c o ne (sb.extBut _ _ ne e)
      · rw [permFs_num, permFs_size, sizeLine_eq]
        omega
    · rename_i heq
      have heq : nextP 5 5 (ns.take 5) (ns.drop 5) = none := heq
      rw [hn] at heq
      cases heq
  · rename_i h0 h1
    exact absurd rfl h1
theorem perm_item0 {p pool : Addr} {before : Value} {ns : List Nat} {items : Array Value} {op : Obj} {c : Nat} {Q : Value → Shared → Prop} (hp : s.heap.get? p = some (permObj pool 0 before ns)) (hq : s.heap.get? pool = some op) (hd : op.data = .seq items c) (h5 : items.size = 5)
    (hQ : ∀ h', h'.get? p = some (permObj pool 1 (.ref s.heap.objs.size) ns) → h'.get? s.heap.objs.size = some { cls := .type "tuple", data := .seq ((ns.take 5).map fun i => items.getD i .none).toArray } →
      (∀ c o, c ≠ p → s.heap.get? c = some o → h'.get? c = some o) → Q (.ref s.heap.objs.size) { s with heap := h' }) :
    wpAny (model prog w) A (Builtin.«itertools.permutations.__next__» ⟨[.ref p], []⟩) (fun fin s' => ∃ v, fin = .done (.ret v) ∧ Q v s') E s := by
  show wpAny _ _ (field (.ref p) 0 >>= _) _ _ _
  refine wpAny_bind (wpAny_field hp rfl (x := .ref pool) (permFs_0 ..) ?_)
  show wpAny _ _ (Builtin.Itertools.itPoolItems (.ref pool) >>= _) _ _ _
  unfold Builtin.Itertools.itPoolItems
  refine wpAny_bind (wpAny_bind (wpAny_seqItems hq hd ?_))
  refine wpAny_pure ?_
  show wpAny _ _ (Builtin.Itertools.itIntField (.ref p) 2 >>= _) _ _ _
  unfold Builtin.Itertools.itIntField
  refine wpAny_bind (wpAny_bind (wpAny_field hp rfl (x := rawInt 5) (permFs_2 ..) ?_))
  refine wpAny_pure ?_
  show wpAny _ _ (Builtin.Itertools.itNumbersFrom (.ref p) 4 >>= _) _ _ _
  unfold Builtin.Itertools.itNumbersFrom
  refine wpAny_bind (wpAny_bind (wpAny_load hp ?_))
  refine wpAny_pure ?_
  show wpAny _ _ (Builtin.Itertools.itIntField (.ref p) 1 >>= _) _ _ _
  unfold Builtin.Itertools.itIntField
  refine wpAny_bind (wpAny_bind (wpAny_field hp rfl (x := rawInt 0) (permFs_1 ..) ?_))
  refine wpAny_pure ?_
  generalize hm : List.map _ (List.drop 4 (permFs pool 0 before ns).toList) = ms
  obtain rfl : ns = ms := (permFs_4 pool 0 before ns).symm.trans hm
  rw [h5]
  split
  · refine wpAny_bind (wpAny_setField_rec hp (by rw [permFs_size]; omega) fun h1 e1 sb => ?_)
    rw [permFs_set1] at e1
    have e1 : h1.get? p = some (permObj pool 1 before ns) := e1
    refine perm_told (s0 := { s with heap := h1 }) e1 (by rw [List.length_take]; omega) fun h2 e1 e2 ek => ?_
    dsimp only at e1 e2 ek ⊢
    rw [sb.1] at e1 e2 ⊢
    exact hQ h2 e1 e2 fun c o ne e => ek c o ne (sb.extBut _ _ ne e)
  · rename_i h
    exact absurd h (by decide)
  · rename_i h0 h1
    exact absurd rfl h0
theorem perm_end {p pool : Addr} {before : Value} {ns : List Nat} {items : Array Value} {op : Obj} {c : Nat} {Q : Fin → Shared → Prop} (hh : A.handled = none) (hp : s.heap.get? p = some (permObj pool 1 before ns)) (hq : s.heap.get? pool = some op) (hd : op.data = .seq items c) (h5 : items.size = 5)
    (hn : nextP 5 5 (ns.take 5) (ns.drop 5) = none)
    (hE : ∀ h' e, (∀ c o, c ≠ p → s.heap.get? c = some o → h'.get? c = some o) → (∃ o, h'.get? e = some o ∧ o.cls = .type "StopIteration") → E (.ref e) { s with heap := h' }) :
    wpAny (model prog w) A (Builtin.«itertools.permutations.__next__» ⟨[.ref p], []⟩) Q E s := by
  show wpAny _ _ (field (.ref p) 0 >>= _) _ _ _
  refine wpAny_bind (wpAny_field hp rfl (x := .ref pool) (permFs_0 ..) ?_)
  show wpAny _ _ (Builtin.Itertools.itPoolItems (.ref pool) >>= _) _ _ _
  unfold Builtin.Itertools.itPoolItems
  refine wpAny_bind (wpAny_bind (wpAny_seqItems hq hd ?_))
  refine wpAny_pure ?_
  show wpAny _ _ (Builtin.Itertools.itIntField (.ref p) 2 >>= _) _ _ _
  unfold Builtin.Itertools.itIntField
  refine wpAny_bind (wpAny_bind (wpAny_field hp rfl (x := rawInt 5) (permFs_2 ..) ?_))
  refine wpAny_pure ?_
  show wpAny _ _ (Builtin.Itertools.itNumbersFrom (.ref p) 4 >>= _) _ _ _
  unfold Builtin.Itertools.itNumbersFrom
  refine wpAny_bind (wpAny_bind (wpAny_load hp ?_))
  refine wpAny_pure ?_
  show wpAny _ _ (Builtin.Itertools.itIntField (.ref p) 1 >>= _) _ _ _
  unfold Builtin.Itertools.itIntField
  refine wpAny_bind (wpAny_bind (wpAny_field hp rfl (x := rawInt 1) (permFs_1 ..) ?_))
  refine wpAny_pure ?_
  generalize hm : List.map _ (List.drop 4 (permFs pool 1 before ns).toList) = ms
  obtain rfl : ns = ms := (permFs_4 pool 1 before ns).symm.trans hm
  rw [h5]
  split
  · rename_i h
    exact absurd h (by decide)
  · split
    · rename_i ix' cy' heq
      have heq : nextP 5 5 (ns.take 5) (ns.drop 5) = some (ix', cy') := heq
      rw [hn] at heq
      cases heq
    · refine wpAny_bind (wpAny_setField_rec hp (by rw [permFs_size]; omega) fun h1 e1 sb => ?_)
      unfold Builtin.Itertools.itStop
      refine wpAny_bind ?_
      simp only [newExc, newTuple]
      refine wpAny_bind (wpAny_newObj_type ?_ (by size_fits))
      refine wpAny_bind (m := firstArgMember _ _) (wpAny_of_eq (a := Value.none) (by first | rfl | (simp only [firstArgMember]; rfl)) ?_)
      refine wpAny_newObj_type ?_ (by size_fits)
      simp only [raiseNew]
      refine wpAny_bind (wpAny_handled ?_)
      rw [hh]
      refine wpAny_bind (wpAny_pure (wpAny_throw ?_))
      refine hE _ _ (fun c o ne e => ?_) ⟨_, Heap.get?_push_size _ rfl, rfl⟩
      exact Heap.get?_push_of_some _ (Heap.get?_push_of_some _ (sb.extBut _ _ ne e))
  · rename_i h0 h1
    exact absurd rfl h1
end
end Sw
namespace Sw
open PySem PySem.Spec PyProof.Rows L2 RZ
section
variable {prog : Program} {w : World} {A : Around} {E : Value → Shared → Prop} {s : Shared}
theorem perm_type {p pool : Addr} {flag : Int} {before : Value} {ns : List Nat} (hp : s.heap.get? p = some (permObj pool flag before ns)) : s.TypeIs (.ref p) "itertools.permutations" := ⟨_, hp, rfl⟩
theorem next_perm0 {p pool : Addr} {before : Value} {ns : List Nat} {items : Array Value} {op : Obj} {c : Nat} {Q : Option Value → Shared → Prop} (hp : s.heap.get? p = some (permObj pool 0 before ns)) (hq : s.heap.get? pool = some op) (hd : op.data = .seq items c) (h5 : items.size = 5)
    (hQ : ∀ h', h'.get? p = some (permObj pool 1 (.ref s.heap.objs.size) ns) → h'.get? s.heap.objs.size = some { cls := .type "tuple", data := .seq ((ns.take 5).map fun i => items.getD i .none).toArray } →
      (∀ c o, c ≠ p → s.heap.get? c = some o → h'.get? c = some o) → Q (some (.ref s.heap.objs.size)) { s with heap := h' }) :
    wpAny (model prog w) A (pyNext (.ref p)) Q E s := by
  have hT := perm_type hp
  unfold pyNext
  exact wpAny_bind (wpAny_attempt (wpAny_callSpecial?_slot (name := Str.ofString "__next__") hT F.slot_perm_next
    (wpAny_call_entry F.slot_perm_next hT F.entry_perm_next (perm_item0 hp hq hd h5 fun h' a b c => wpAny_pure (hQ h' a b c)) (F.args_perm_next_1 _))))
theorem next_perm1 {p pool : Addr} {before : Value} {ns ix cy : List Nat} {items : Array Value} {op : Obj} {c : Nat} {Q : Option Value → Shared → Prop} (hp : s.heap.get? p = some (permObj pool 1 before ns)) (hq : s.heap.get? pool = some op) (hd : op.data = .seq items c) (h5 : items.size = 5)
    (hn : nextP 5 5 (ns.take 5) (ns.drop 5) = some (ix, cy)) (hl : (ix ++ cy).length ≤ 20)
    (hQ : ∀ h', h'.get? p = some (permObj pool 1 (.ref s.heap.objs.size) (ix ++ cy)) → h'.get? s.heap.objs.size = some { cls := .type "tuple", data := .seq ((ix.take 5).map fun i => items.getD i .none).toArray } →
      (∀ c o, c ≠ p → s.heap.get? c = some o → h'.get? c = some o) → Q (some (.ref s.heap.objs.size)) { s with heap := h' }) :
    wpAny (model prog w) A (pyNext (.ref p)) Q E s := by
  have hT := perm_type hp
  unfold pyNext
  exact wpAny_bind (wpAny_attempt (wpAny_callSpecial?_slot (name := Str.ofString "__next__") hT F.slot_perm_next
    (wpAny_call_entry F.slot_perm_next hT F.entry_perm_next (perm_item1 hp hq hd h5 hn hl fun h' a b c => wpAny_pure (hQ h' a b c)) (F.args_perm_next_1 _))))
theorem next_permE {p pool : Addr} {before : Value} {ns : List Nat} {items : Array Value} {op : Obj} {c : Nat} {Q : Option Value → Shared → Prop} (hh : A.handled = none) (hp : s.heap.get? p = some (permObj pool 1 before ns)) (hq : s.heap.get? pool = some op) (hd : op.data = .seq items c) (h5 : items.size = 5)
    (hn : nextP 5 5 (ns.take 5) (ns.drop 5) = none) (hQ : ∀ h', (∀ c o, c ≠ p → s.heap.get? c = some o → h'.get? c = some o) → Q none { s with heap := h' }) :
    wpAny (model prog w) A (pyNext (.ref p)) Q E s := by
  have hT := perm_type hp
  unfold pyNext
  refine wpAny_bind (wpAny_attempt (wpAny_callSpecial?_slot (name := Str.ofString "__next__") hT F.slot_perm_next
    (wpAny_call_entry F.slot_perm_next hT F.entry_perm_next (perm_end hh hp hq hd h5 hn fun h' e hk he => ?_) (F.args_perm_next_1 _))))
  obtain ⟨o, ho, hc⟩ := he
  refine wpAny_bind (wpAny_isInstance (T := "StopIteration") (b := true) ⟨o, ho, hc⟩ isSubtype_stop ?_)
  exact wpAny_pure (hQ _ hk)
theorem self_perm {p pool : Addr} {flag : Int} {before : Value} {ns : List Nat} {Q : Value → Shared → Prop} (hp : s.heap.get? p = some (permObj pool flag before ns)) (h : Q (.ref p) s) : wpAny (model prog w) A (pyIter (.ref p)) Q E s := by
  have hT := perm_type hp
  refine wpAny_pyIter_slot hT F.slot_perm_iter (wpAny_call_entry F.slot_perm_iter hT F.entry_perm_iter ?_ (F.args_perm_iter_1 _))
  show wpAny _ _ (ret (.ref p)) _ _ s
  exact wpAny_pure ⟨_, rfl, "itertools.permutations", _, hT, F.slot_perm_next.lookup, h⟩
def perm0 : List Nat := [0, 1, 2, 3, 4, 5, 4, 3, 2, 1]
theorem perm_new {r : Addr} {t u v : Tok} : Meets (Builtin.«itertools.permutations.__new__» ⟨[.type "itertools.permutations", .ref r], []⟩) (fun A R s => A.handled = none ∧ IsRange s.heap r 0 5 1 t u v ∧
    ∀ (h' : Heap) (tk : Nat) (acc : Array Value), (∀ b o, s.heap.get? b = some o → h'.get? b = some o) → ItemsOf (fun i v => ∃ t, v = .int (0 + i * 1) t) acc 5 →
      R (.ok (.ret (.ref (h'.objs.size + 1)))) { s with heap := (h'.push { cls := .type "tuple", data := .seq acc }).push (permObj h'.objs.size 0 .none perm0), toks := tk }) :=
  .of_wp fun prog w A R s h => by
    obtain ⟨hh, hr, h⟩ := h
    have hsub := F.sub_perm
    have hh1 : A.in1.handled = none := hh
    wp_walk using L2.collect_range (A := A.in1) hh1 hr (by decide) (show Builtin.Range.rangeSize 0 5 1 = (5 : Nat) from by decide) (by decide)
    rw [show ("itertools." ++ "permutations" : String) = "itertools.permutations" from by decide +kernel]
    refine wpAny_of_eq hsub ?_
    unfold Builtin.Itertools.itBindNamed
    wp_walk using L2.collect_range (A := A.in1) hh1 hr (by decide) (show Builtin.Range.rangeSize 0 5 1 = (5 : Nat) from by decide) (by decide)
    intro h' tk acc hk hi
    have la : acc.toList.length = 5 := by rw [Array.length_toList]; exact hi.1
    rw [la]
    refine wpAny_bind (wpAny_pure ?_)
    show wpAny _ _ (newTuple acc.toList >>= _) _ _ _
    refine wpAny_bind (wpAny_newTuple ?_ (by rw [la, sizeLine_eq]; omega))
    show wpAny _ _ (Builtin.Itertools.itNewRecord (Value.type "itertools.permutations") _ >>= _) _ _ _
    unfold Builtin.Itertools.itNewRecord
    have nd : typeHasDict (.type "itertools.permutations") = false := by kernel_rfl
    rw [nd, if_pos (show (!false) = true from rfl)]
    refine wpAny_bind (wpAny_newObj_type ?_ (by first | size_fits | (show (14 : Nat) ≤ sizeLine; rw [sizeLine_eq]; decide) | (show (14 : Nat) ≤ sizeLine + 2; rw [sizeLine_eq]; decide)))
    refine wpAny_pure ⟨_, rfl, ?_⟩
    have e := h h' tk acc hk hi
    have ez : (h'.push { cls := .type "tuple", data := .seq acc }).objs.size = h'.objs.size + 1 := Heap.size_push ..
    rw [← ez] at e
    have ea : acc.toList.toArray = acc := by simp
    dsimp only
    rw [ea]
    exact e
theorem call_perm {r : Addr} {t u v : Tok} {Q : Value → Shared → Prop} (hh : A.handled = none) (hr : IsRange s.heap r 0 5 1 t u v)
    (hQ : ∀ (h' : Heap) (tk : Nat) (acc : Array Value), (∀ b o, s.heap.get? b = some o → h'.get? b = some o) → ItemsOf (fun i v => ∃ t, v = .int (0 + i * 1) t) acc 5 →
      Q (.ref (h'.objs.size + 1)) { s with heap := (h'.push { cls := .type "tuple", data := .seq acc }).push (permObj h'.objs.size 0 .none perm0), toks := tk }) :
    wpAny (model prog w) A (call (.type "itertools.permutations") [.ref r]) Q E s := by
  refine callType_new F.called_perm (by decide) (F.typeCall_perm_1 _) (F.newCall_perm_1 _) (fun obj => F.args_object_init_2 obj _) F.entry_perm_new perm_new ⟨hh, hr, fun h' tk acc hk hi => ?_⟩
  have ez : (h'.push { cls := .type "tuple", data := .seq acc }).objs.size = h'.objs.size + 1 := Heap.size_push ..
  refine ⟨⟨permObj h'.objs.size 0 .none perm0, ?_, rfl⟩, hQ h' tk acc hk hi⟩
  have := Heap.get?_push_size (h'.push { cls := .type "tuple", data := .seq acc }) (o := permObj h'.objs.size 0 .none perm0) rfl
  rw [ez] at this
  exact this
end
end Sw
namespace Sw
open PySem PySem.Spec PyProof.Rows L2 RZ
/-- where the record stands behind so many tellings -/
def numAt : Nat → List Nat
  | 0 => perm0
  | k + 1 => match nextP 5 5 ((numAt k).take 5) ((numAt k).drop 5) with
    | some (ix, cy) => ix ++ cy
    | none => []
/-- all of them, in their order -/
def allNums : Nat → List Nat → List (List Nat)
  | 0, ns => [ns]
  | k + 1, ns => ns :: (match nextP 5 5 (ns.take 5) (ns.drop 5) with
    | some (ix, cy) => allNums k (ix ++ cy)
    | none => [])
def goodNum (ns : List Nat) : Bool := ns.length == 10 && (ns.take 5).all (· < 5) && (match nextP 5 5 (ns.take 5) (ns.drop 5) with
  | some (ix, cy) => ix.length == 5 && cy.length == 5
  | none => false)
def lastNum (ns : List Nat) : Bool := ns.length == 10 && (ns.take 5).all (· < 5) && (nextP 5 5 (ns.take 5) (ns.drop 5)).isNone
def goodAll : Nat → List Nat → Bool
  | 0, ns => lastNum ns
  | k + 1, ns => goodNum ns && (match nextP 5 5 (ns.take 5) (ns.drop 5) with
    | some (ix, cy) => goodAll k (ix ++ cy)
    | none => false)
theorem good_119 : goodAll 119 perm0 = true := by decide +kernel
theorem good_step : ∀ (k : Nat) (ns : List Nat), goodAll (k + 1) ns = true → ∃ ix cy, nextP 5 5 (ns.take 5) (ns.drop 5) = some (ix, cy) ∧ ix.length = 5 ∧ cy.length = 5 ∧ ns.length = 10 ∧ (∀ i ∈ ns.take 5, i < 5) ∧ goodAll k (ix ++ cy) = true := by
  intro k ns h
  unfold goodAll at h
  rw [Bool.and_eq_true] at h
  obtain ⟨h1, h2⟩ := h
  unfold goodNum at h1
  cases e : nextP 5 5 (ns.take 5) (ns.drop 5) with
  | none =>
    rw [e] at h2
    cases h2
  | some p =>
    obtain ⟨ix, cy⟩ := p
    rw [e] at h1 h2
    simp only [Bool.and_eq_true, beq_iff_eq, List.all_eq_true, decide_eq_true_eq] at h1
    exact ⟨ix, cy, rfl, h1.2.1, h1.2.2, h1.1.1, h1.1.2, h2⟩
theorem good_last (ns : List Nat) (h : goodAll 0 ns = true) : nextP 5 5 (ns.take 5) (ns.drop 5) = none ∧ ns.length = 10 ∧ ∀ i ∈ ns.take 5, i < 5 := by
  unfold goodAll lastNum at h
  simp only [Bool.and_eq_true, beq_iff_eq, List.all_eq_true, decide_eq_true_eq, Option.isNone_iff_eq_none] at h
  exact ⟨h.2, h.1.1, h.1.2⟩
theorem num_good : ∀ i, i ≤ 119 → goodAll (119 - i) (numAt i) = true
  | 0, _ => good_119
  | i + 1, h => by
    have q := num_good i (by omega)
    rw [show 119 - i = (119 - (i + 1)) + 1 by omega] at q
    obtain ⟨ix, cy, e, _, _, _, _, g⟩ := good_step _ _ q
    show goodAll _ (match nextP 5 5 ((numAt i).take 5) ((numAt i).drop 5) with
      | some (ix, cy) => ix ++ cy
      | none => []) = true
    rw [e]
    exact g
theorem num_step {i : Nat} (h : i < 119) : ∃ ix cy, nextP 5 5 ((numAt i).take 5) ((numAt i).drop 5) = some (ix, cy) ∧ numAt (i + 1) = ix ++ cy ∧ ix.length = 5 ∧ cy.length = 5 := by
  have q := num_good i (by omega)
  rw [show 119 - i = (119 - (i + 1)) + 1 by omega] at q
  obtain ⟨ix, cy, e, l1, l2, _, _, _⟩ := good_step _ _ q
  refine ⟨ix, cy, e, ?_, l1, l2⟩
  show (match nextP 5 5 ((numAt i).take 5) ((numAt i).drop 5) with
      | some (ix, cy) => ix ++ cy
      | none => []) = _
  rw [e]
theorem num_end : nextP 5 5 ((numAt 119).take 5) ((numAt 119).drop 5) = none := (good_last _ (num_good 119 (Nat.le_refl _))).1
theorem num_lt {i : Nat} (h : i < 120) : (∀ j ∈ (numAt i).take 5, j < 5) ∧ (numAt i).length = 10 := by
  have q := num_good i (by omega)
  by_cases z : i = 119
  · subst z
    have := good_last _ q
    exact ⟨this.2.2, this.2.1⟩
  · rw [show 119 - i = (119 - (i + 1)) + 1 by omega] at q
    obtain ⟨ix, cy, e, l1, l2, l3, l4, _⟩ := good_step _ _ q
    exact ⟨l4, l3⟩
def permAt (i : Nat) : List Int := ((numAt i).take 5).map fun j : Nat => (j : Int)
/-- the arrangements of 0 to 4 in new tuples, one after the other -/
def ItPerm : It :=
  ⟨fun i _ => i < 120, fun i H v H' => ∃ T, v = .ref T ∧ H T = none ∧ H' = upd H T (.tup ((permAt i).map V.int)), fun i _ => 120 ≤ i⟩
def PermSt (z pool : Addr) (i : Nat) (h : Heap) : Prop := i ≤ 120 ∧ ∃ (before : Value) (acc : Array Value), h.get? z = some (permObj pool (if i = 0 then 0 else 1) before (numAt (i - 1))) ∧ h.get? pool = some { cls := .type "tuple", data := .seq acc } ∧ ItemsOf (fun i v => ∃ t, v = .int (0 + i * 1) t) acc 5
theorem vals_perm {acc : Array Value} (hi : ItemsOf (fun i v => ∃ t, v = .int (0 + i * 1) t) acc 5) : ∀ {js : List Nat}, (∀ j ∈ js, j < 5) → Vals ((js.map fun j : Nat => (j : Int)).map V.int) (js.map fun i => acc.getD i .none)
  | [], _ => .nil
  | j :: r, h => by
    refine .cons ?_ (vals_perm hi fun k hk => h k (List.mem_cons_of_mem _ hk))
    have lj : j < acc.size := by rw [hi.1]; exact h j List.mem_cons_self
    obtain ⟨t, e⟩ := hi.2 j acc[j] (by simp [lj])
    refine ⟨t, ?_⟩
    have : acc.getD j .none = acc[j] := by simp [Array.getD, lj]
    dsimp only
    rw [this, e]
    congr 1
    omega
theorem turn_perm {P : Program} {w : World} {K : PySem.W.Frag} {x : Str} {tpos : Pos} {z pool : Addr} (hzp : z ≠ pool) : Turn P w K (.Name x tpos) ItPerm [z, pool] z (PermSt z pool) where
  mem := by simp
  obj := fun i h st c hc => by
    obtain ⟨_, before, acc, hz, hp, _⟩ := st
    have e' : c = z ∨ c = pool := by simpa using hc
    rcases e' with q | q
    · rw [q]; exact ⟨_, hz, fun v q => nomatch q⟩
    · rw [q]; exact ⟨_, hp, fun v q => nomatch q⟩
  keep := fun i h h' st k => by
    obtain ⟨i1, before, acc, hz, hp, hi⟩ := st
    exact ⟨i1, before, acc, k z (by simp) _ hz, k pool (by simp) _ hp, hi⟩
  item := by
    intro X hP hw hK hc i pins s σ H E I hf st hg
    subst hP hw hK
    obtain ⟨i1, before, acc, hz, hp, hi⟩ := st
    have hg : i < 120 := hg
    have hzl : z < s.heap.objs.size := Heap.lt_size hz
    have hpl : pool < s.heap.objs.size := Heap.lt_size hp
    obtain ⟨js, jl⟩ := num_lt hg
    have l5 : ((numAt i).take 5).length = 5 := by rw [List.length_take, jl]; rfl
    have fin : ∀ h' : Heap, h'.get? z = some (permObj pool 1 (.ref s.heap.objs.size) (numAt i)) → h'.get? s.heap.objs.size = some { cls := .type "tuple", data := .seq (((numAt i).take 5).map fun i => acc.getD i .none).toArray } →
        (∀ c o, c ≠ z → s.heap.get? c = some o → h'.get? c = some o) → ∃ u, some (Value.ref s.heap.objs.size) = some u ∧
          wpAny (model X.prog X.w) X.A (letOwnedTupleGo (.Name x tpos) (.ref z) u) (fun _ s2 => ∃ x H', Inv X pins σ H' s2 ∧ RelV x u ∧ ItPerm.yld i H x H' ∧ PermSt z pool (i + 1) s2.heap ∧ ∀ b ∈ [z, pool], H' b = none) E { s with heap := h' } := fun h' e1 e2 hk => by
      refine ⟨_, rfl, ?_⟩
      unfold letOwnedTupleGo
      refine wpAny_pure ?_
      have new : ObjOk X.prog X.w (upd H s.heap.objs.size (.tup ((permAt i).map V.int))) h' s.heap.objs.size (.tup ((permAt i).map V.int)) :=
        ⟨by rw [List.length_map]; unfold permAt; rw [List.length_map, l5, sizeLine_eq]; omega, _, vals_perm hi js, ⟨_, e2, rfl, _, rfl⟩⟩
      have I1 : Inv X pins σ (upd H s.heap.objs.size (.tup ((permAt i).map V.int))) { s with heap := h' } :=
        I.turnedNew (t' := s.toks) (ch := [z, pool]) (fun c o hb q => hk c o (fun q' => hb (by simp [q'])) q) hf (Nat.le_refl _) new
      refine ⟨.ref s.heap.objs.size, _, I1, rfl, ⟨_, rfl, I.hok.fresh (Nat.le_refl _), rfl⟩, ⟨by omega, Value.ref s.heap.objs.size, acc, ?_, hk _ _ hzp.symm hp, hi⟩, fun c hcm => ?_⟩
      · rw [if_neg (Nat.succ_ne_zero i), Nat.add_sub_cancel]
        exact e1
      · have hlt : c < s.heap.objs.size := by
          have e' : c = z ∨ c = pool := by simpa using hcm
          rcases e' with q | q
          · rw [q]; exact hzl
          · rw [q]; exact hpl
        rw [upd_ne (Nat.ne_of_lt hlt)]
        exact (hf c hcm).1
    by_cases i0 : i = 0
    · subst i0
      rw [if_pos rfl] at hz
      exact next_perm0 hz hp rfl hi.1 fun h' a b c => fin h' a b c
    · rw [if_neg i0] at hz
      obtain ⟨k, rfl⟩ : ∃ k, i = k + 1 := ⟨i - 1, by omega⟩
      rw [Nat.add_sub_cancel] at hz
      obtain ⟨ix, cy, e, en, l1, l2⟩ := num_step (i := k) (by omega)
      have et : (ix ++ cy).take 5 = ix.take 5 := by rw [List.take_append_of_le_length (by omega)]
      rw [en, et] at fin
      exact next_perm1 hz hp rfl hi.1 e (by rw [List.length_append]; omega) fun h' a b c => fin h' a b c
  done := by
    intro X hP hw hK hc i pins s σ H E I hf st hg
    subst hP hw hK
    obtain ⟨i1, before, acc, hz, hp, hi⟩ := st
    have hg : 120 ≤ i := hg
    obtain rfl : i = 120 := by omega
    rw [if_neg (by decide)] at hz
    exact next_permE (I.ok.hd hc) hz hp rfl hi.1 num_end fun h' hk => ⟨rfl, I.turnedL (t' := s.toks) (ch := [z, pool]) (fun c o hb q => hk c o (fun q' => hb (by simp [q'])) q) hf⟩
  self := fun A i s Q E st h => by
    obtain ⟨_, before, acc, hz, _⟩ := st
    exact self_perm hz h
/-- permutations(range(5)) -/
def iPerm (ta : TA) : TI := fun σ H R => ta σ H fun vs H1 => vs = [.int 5] ∧ R ItPerm H1
theorem pi_perm5 {X : Cx} {e : Expr} {ta : TA} {p p2 pos pos2 tpos : Pos} {x : Str} (hc : X.calm = true) (hg : Gl X "permutations") (hm : X.mg "permutations" = some (.type "itertools.permutations")) (hg2 : Gl X "range") (hm2 : X.mg "range" = none) (ha : PA X [e] ta)
    (hs : starEach [e] X.env = (false, eval e X.env) :: starEach [] X.env := by rfl)
    (hs2 : starEach [.Call (.Name "range" p2) [e] [] pos2] X.env = (false, eval (.Call (.Name "range" p2) [e] [] pos2) X.env) :: starEach [] X.env := by rfl)
    (hpl : (backTo pos2 (starEach [] X.env)).any (·.1) = false := by rfl) :
    PI X (.Name x tpos) (.Call (.Name "permutations" p) [.Call (.Name "range" p2) [e] [] pos2] [] pos) (iPerm ta) := by
  refine ⟨fun pins s σ H R I h => ?_⟩
  have rng : wpAny (model X.prog X.w) X.A (eval (.Call (.Name "range" p2) [e] [] pos2) X.env) (fun v s' => ∃ (r : Addr) (t u v' : Tok) (H' : Hp), v = .ref r ∧ IsRange s'.heap r 0 5 1 t u v' ∧ Inv X pins σ H' s' ∧ R ItPerm H') X.xe s := by
    refine Call_ (ld_blt I hg2 hm2 boot_range (PyProof.Rows.callWith_type1 (thn (ha.run pos2 pins s σ H _ I h) fun us s1 ⟨vs, H1, I1, r1, q1⟩ => ?_) hs hpl))
    obtain ⟨rfl, q⟩ := q1
    obtain ⟨u, rfl, hu⟩ := vals1 r1
    obtain ⟨t, rfl⟩ := hu
    exact call_range_1 ⟨_, _, _, _, H1, rfl, IsRange.new _ _ _ _ _ _ _, I1.kept fun b o e => Heap.get?_push_of_some _ e, q⟩
  refine wpAny_Call_Name_kw (ld_glob I hg hm ?_ (by decide))
  refine PyProof.Rows.callWith_type1 (args_cons (thn rng fun v s1 ⟨r, t, u, v', H1, ev, hr, I1, q⟩ => args_nil ?_) hs2) hs2
  subst ev
  refine call_perm (I1.ok.hd hc) hr fun h' tk acc hk hi => ?_
  have I2 : Inv X pins σ H1 { s1 with heap := h', toks := tk } := I1.kept hk
  have ez : (h'.push { cls := .type "tuple", data := .seq acc }).objs.size = h'.objs.size + 1 := Heap.size_push ..
  have hz : ((h'.push { cls := .type "tuple", data := .seq acc }).push (permObj h'.objs.size 0 .none perm0)).get? (h'.objs.size + 1) = some (permObj h'.objs.size 0 .none perm0) := by
    rw [← ez]
    exact Heap.get?_push_size _ rfl
  have hp : ((h'.push { cls := .type "tuple", data := .seq acc }).push (permObj h'.objs.size 0 .none perm0)).get? h'.objs.size = some { cls := .type "tuple", data := .seq acc } := Heap.get?_push_of_some _ (Heap.get?_push_size _ rfl)
  refine self_perm (s := { s1 with heap := (h'.push { cls := .type "tuple", data := .seq acc }).push (permObj h'.objs.size 0 .none perm0), toks := tk }) hz ?_
  have I3 : Inv X pins σ H1 { s1 with heap := (h'.push { cls := .type "tuple", data := .seq acc }).push (permObj h'.objs.size 0 .none perm0), toks := tk } := I2.kept (t' := tk) fun b o e => Heap.get?_push_of_some _ (Heap.get?_push_of_some _ e)
  refine ⟨h'.objs.size + 1, [h'.objs.size + 1, h'.objs.size], PermSt (h'.objs.size + 1) h'.objs.size, ItPerm, H1, rfl, I3, turn_perm (Nat.succ_ne_self _), ⟨Nat.zero_le _, .none, acc, hz, hp, hi⟩, fun c hcm => ?_, q⟩
  have hle : h'.objs.size ≤ c := by
    have e' : c = h'.objs.size + 1 ∨ c = h'.objs.size := by simpa using hcm
    rcases e' with e | e
    · rw [e]; exact Nat.le_succ _
    · rw [e]; exact Nat.le_refl _
  exact I2.fpOk hle (I2.hok.fresh hle)
theorem walk_perm : Walk ItPerm 120 (fun _ => True) (fun i H v H' => ∃ T, v = .ref T ∧ H T = none ∧ H' = upd H T (.tup ((permAt i).map V.int))) :=
  ⟨fun _ _ hi _ => hi, fun _ _ => Nat.le_refl _, fun _ _ _ _ _ _ y => y⟩
end Sw
namespace Sw
open PySem L2
/-! ### whole numbers as sets of bits -/
theorem bitOr_nat (a b : Nat) : Builtin.bitOr (a : Int) (b : Int) = ((a ||| b : Nat) : Int) := by
  have nn : ∀ x : Nat, Builtin.bitNot (Builtin.bitNot (x : Int)) = (x : Int) := fun x => by
    unfold Builtin.bitNot
    omega
  have ng : ∀ x : Nat, decide (0 ≤ Builtin.bitNot (x : Int)) = false := fun x => by
    refine decide_eq_false ?_
    unfold Builtin.bitNot
    omega
  unfold Builtin.bitOr Builtin.bitAnd
  rw [ng, ng]
  dsimp only
  rw [nn, nn, nn]
  rfl
theorem bitAnd_one (a : Nat) : Builtin.bitAnd (a : Int) 1 = ((a % 2 : Nat) : Int) := by
  unfold Builtin.bitAnd
  show ((a &&& 1 : Nat) : Int) = _
  rw [Nat.and_one_is_mod]
theorem shr_nat (a k : Nat) : (a : Int) / 2 ^ ((k : Int).toNat) = ((a / 2 ^ k : Nat) : Int) := by
  rw [Int.toNat_natCast, Int.natCast_ediv, Int.natCast_pow]
  rfl
theorem bit_is (a k : Nat) : ((a / 2 ^ k % 2 : Nat) : Int) = 1 ↔ a.testBit k = true := by
  rw [Nat.testBit_eq_decide_div_mod_eq, decide_eq_true_iff]
  omega
theorem bit_or (a b k : Nat) : (a ||| b).testBit k = true ↔ a.testBit k = true ∨ b.testBit k = true := by
  rw [Nat.testBit_or, Bool.or_eq_true]
theorem bit_shl (v k : Nat) : (2 ^ v).testBit k = true ↔ v = k := by
  rw [Nat.testBit_two_pow, decide_eq_true_iff]
end Sw
namespace Sw
/-! ### who comes where, by bits -/
/-- so many arrows lead from a to b -/
inductive Rch (ars : List (Int × Int)) : Nat → Int → Int → Prop
  | nil (a : Int) : Rch ars 0 a a
  | cons {k : Nat} {a b c : Int} : (a, b) ∈ ars → Rch ars k b c → Rch ars (k + 1) a c
theorem Rch.app {ars : List (Int × Int)} {k j : Nat} {a b c : Int} (h : Rch ars k a b) (g : Rch ars j b c) : Rch ars (k + j) a c := by
  induction h with
  | nil => rw [Nat.zero_add]; exact g
  | cons e _ ih => rw [Nat.succ_add]; exact .cons e (ih g)
/-- the bits of v -/
def bitsOf (fs : List Nat) (v : Int) : Nat := fs.getD v.toNat 0
def Hs (fs : List Nat) (v : Int) (k : Nat) : Prop := (bitsOf fs v).testBit k = true
/-- one arrow -/
def stepB (fs : List Nat) (e : Int × Int) : List Nat := fs.set e.1.toNat (bitsOf fs e.1 ||| bitsOf fs e.2)
theorem stepB_len (fs : List Nat) (e : Int × Int) : (stepB fs e).length = fs.length := by
  unfold stepB
  rw [List.length_set]
theorem bits_step {fs : List Nat} {e : Int × Int} {v : Int} (h : e.1.toNat < fs.length) : bitsOf (stepB fs e) v = if v.toNat = e.1.toNat then bitsOf fs e.1 ||| bitsOf fs e.2 else bitsOf fs v := by
  unfold stepB
  by_cases z : v.toNat = e.1.toNat
  · rw [if_pos z]
    show (fs.set _ _).getD v.toNat 0 = _
    rw [z, List.getD_eq_getElem?_getD, List.getElem?_set_self h]
    rfl
  · rw [if_neg z]
    show (fs.set _ _).getD v.toNat 0 = fs.getD v.toNat 0
    rw [List.getD_eq_getElem?_getD, List.getD_eq_getElem?_getD, List.getElem?_set_ne (fun y => z y.symm)]
theorem hs_step {fs : List Nat} {e : Int × Int} {v : Int} {k : Nat} (h : e.1.toNat < fs.length) : Hs (stepB fs e) v k ↔ Hs fs v k ∨ (v.toNat = e.1.toNat ∧ Hs fs e.2 k) := by
  unfold Hs
  rw [bits_step h]
  by_cases z : v.toNat = e.1.toNat
  · rw [if_pos z, bit_or]
    have q : bitsOf fs v = bitsOf fs e.1 := by
      unfold bitsOf
      rw [z]
    rw [q]
    exact ⟨fun a => a.elim .inl fun b => .inr ⟨z, b⟩, fun a => a.elim .inl fun b => .inr b.2⟩
  · rw [if_neg z]
    exact ⟨.inl, fun a => a.elim id fun b => absurd b.1 z⟩
/-- one round over all arrows -/
def roundB (fs : List Nat) (ars : List (Int × Int)) : List Nat := ars.foldl stepB fs
theorem roundB_len : ∀ (ars : List (Int × Int)) (fs : List Nat), (roundB fs ars).length = fs.length
  | [], fs => rfl
  | e :: r, fs => (roundB_len r (stepB fs e)).trans (stepB_len fs e)
theorem round_mono {v : Int} {k : Nat} : ∀ {ars : List (Int × Int)} {fs : List Nat}, (∀ e ∈ ars, e.1.toNat < fs.length) → Hs fs v k → Hs (roundB fs ars) v k
  | [], _, _, h => h
  | e :: r, fs, b, h => round_mono (ars := r) (fs := stepB fs e) (fun x hx => by rw [stepB_len]; exact b x (List.mem_cons_of_mem _ hx)) ((hs_step (b e List.mem_cons_self)).mpr (.inl h))
theorem round_arrow {v w : Int} {k : Nat} : ∀ {ars : List (Int × Int)} {fs : List Nat}, (∀ e ∈ ars, e.1.toNat < fs.length) → (v, w) ∈ ars → Hs fs w k → Hs (roundB fs ars) v k
  | [], _, _, m, _ => (List.not_mem_nil m).elim
  | e :: r, fs, b, m, h => by
    have b' : ∀ x ∈ r, x.1.toNat < (stepB fs e).length := fun x hx => by rw [stepB_len]; exact b x (List.mem_cons_of_mem _ hx)
    have be := b e List.mem_cons_self
    rcases List.mem_cons.mp m with rfl | z
    · exact round_mono (ars := r) (fs := stepB fs (v, w)) b' ((hs_step be).mpr (.inr ⟨rfl, h⟩))
    · exact round_arrow (ars := r) (fs := stepB fs e) b' z ((hs_step be).mpr (.inl h))
/-- no bit lies -/
def Sound (ars : List (Int × Int)) (n : Int) (fs : List Nat) : Prop := ∀ (v : Int) (k : Nat), 0 ≤ v → v < n → Hs fs v k → ∃ j, Rch ars j v (k : Int)
/-- no bit lacks that so many arrows give -/
def Full (ars : List (Int × Int)) (t : Nat) (fs : List Nat) : Prop := ∀ (v : Int) (k j : Nat), 0 ≤ v → v.toNat < fs.length → j ≤ t → Rch ars j v (k : Int) → Hs fs v k
theorem Sound.step {ars : List (Int × Int)} {n : Int} {fs : List Nat} {e : Int × Int} (S : Sound ars n fs) (m : e ∈ ars) (h1 : 0 ≤ e.1 ∧ e.1 < n) (h2 : 0 ≤ e.2 ∧ e.2 < n) (l : e.1.toNat < fs.length) : Sound ars n (stepB fs e) := by
  intro v k v0 v1 h
  rcases (hs_step l).mp h with a | ⟨z, a⟩
  · exact S v k v0 v1 a
  · have q : v = e.1 := by omega
    obtain ⟨j, r⟩ := S e.2 k h2.1 h2.2 a
    exact ⟨j + 1, .cons (b := e.2) (by rw [q]; exact m) r⟩
theorem Sound.round {ars : List (Int × Int)} {n : Int} : ∀ {as : List (Int × Int)} {fs : List Nat}, Sound ars n fs → (∀ e ∈ as, e ∈ ars ∧ (0 ≤ e.1 ∧ e.1 < n) ∧ (0 ≤ e.2 ∧ e.2 < n)) → n.toNat = fs.length → Sound ars n (roundB fs as)
  | [], _, S, _, _ => S
  | e :: r, fs, S, h, l => by
    obtain ⟨m, h1, h2⟩ := h e List.mem_cons_self
    exact Sound.round (as := r) (fs := stepB fs e) (S.step m h1 h2 (by omega)) (fun x hx => h x (List.mem_cons_of_mem _ hx)) (by rw [stepB_len]; exact l)
theorem Full.round {ars : List (Int × Int)} {n : Int} {t : Nat} {fs : List Nat} (F : Full ars t fs) (h : ∀ e ∈ ars, (0 ≤ e.1 ∧ e.1 < n) ∧ (0 ≤ e.2 ∧ e.2 < n)) (l : n.toNat = fs.length) : Full ars (t + 1) (roundB fs ars) := by
  have b : ∀ e ∈ ars, e.1.toNat < fs.length := fun e he => by
    have := (h e he).1
    omega
  intro v k j v0 v1 hj r
  rw [roundB_len] at v1
  cases r with
  | nil => exact round_mono b (F _ k 0 v0 v1 (Nat.zero_le _) (.nil _))
  | cons m q =>
    have h2 := (h _ m).2
    exact round_arrow b m (F _ k _ h2.1 (by have := h2.2; dsimp only at *; omega) (by omega) q)
/-- at the start each stop has its own bit -/
def bits0 (n : Int) : List Nat := (List.range n.toNat).map fun v => 2 ^ v
theorem hs_0 {n v : Int} {k : Nat} (h0 : 0 ≤ v) (h1 : v < n) : Hs (bits0 n) v k ↔ v = (k : Int) := by
  have hj : v.toNat < n.toNat := by omega
  have e : bitsOf (bits0 n) v = 2 ^ v.toNat := by
    unfold bitsOf bits0
    rw [List.getD_eq_getElem?_getD, List.getElem?_map, List.getElem?_range hj]
    rfl
  unfold Hs
  rw [e, bit_shl]
  omega
theorem sound_0 {ars : List (Int × Int)} {n : Int} : Sound ars n (bits0 n) := fun v k h0 h1 h => ⟨0, by rw [(hs_0 h0 h1).mp h]; exact .nil _⟩
theorem full_0 {ars : List (Int × Int)} {n : Int} : Full ars 0 (bits0 n) := fun v k j h0 h1 hj r => by
  have h1 : v < n := by
    unfold bits0 at h1
    rw [List.length_map, List.length_range] at h1
    omega
  cases r with
  | nil => exact (hs_0 h0 h1).mpr rfl
  | cons _ _ => omega
end Sw
namespace Sw
open PySem L2
theorem pig : ∀ (n : Nat) (ks : List Int), ks.Nodup → (∀ k ∈ ks, 0 ≤ k ∧ k < n) → ks.length ≤ n
  | 0, ks, _, h => by
    cases ks with
    | nil => exact Nat.le_refl _
    | cons k r =>
      have := h k (List.mem_cons_self ..)
      omega
  | n + 1, ks, hn, h => by
    have q := pig n (ks.erase (n : Int)) (hn.erase _) fun k hk => by
      have h1 := h k (List.mem_of_mem_erase hk)
      have h2 : k ≠ (n : Int) := fun z => by
        rw [z] at hk
        exact (List.Nodup.mem_erase_iff hn).mp hk |>.1 rfl
      omega
    have e := List.length_erase (a := (n : Int)) (l := ks)
    split at e
    · omega
    · omega
theorem valV_mem {κ : Type} [DecidableEq κ] {kvs : List (κ × V)} {k : κ} {x : V} (h : valV kvs k = some x) : (k, x) ∈ kvs := by
  unfold valV at h
  cases q : kvs.find? fun kv => decide (kv.1 = k) with
  | none => rw [q] at h; cases h
  | some z =>
    rw [q] at h
    have h1 := List.find?_some q
    have h1 := of_decide_eq_true h1
    have h2 := Option.some.inj h
    have : z = (k, x) := by
      rw [← h1, ← h2]
    rw [← this]
    exact List.mem_of_find?_eq_some q
end Sw
namespace Sw
/-! ### no way needs as many arrows as there are stops -/
section
variable {ars : List (Int × Int)}
theorem Rch.fewest {a c : Int} : ∀ (j : Nat), Rch ars j a c → ∃ i, i ≤ j ∧ Rch ars i a c ∧ ∀ m, m < i → ¬ Rch ars m a c := by
  intro j
  induction j using Nat.strongRecOn with
  | ind j ih =>
    intro h
    by_cases q : ∃ m, m < j ∧ Rch ars m a c
    · obtain ⟨m, hm, hr⟩ := q
      obtain ⟨i, hi, r⟩ := ih m hm hr
      exact ⟨i, by omega, r⟩
    · exact ⟨j, Nat.le_refl _, h, fun m hm hr => q ⟨m, hm, hr⟩⟩
theorem Rch.inn {n : Int} (b : ∀ e ∈ ars, (0 ≤ e.1 ∧ e.1 < n) ∧ (0 ≤ e.2 ∧ e.2 < n)) {j : Nat} {a c : Int} (h : Rch ars j a c) (ha : 0 ≤ a ∧ a < n) : 0 ≤ c ∧ c < n := by
  induction h with
  | nil => exact ha
  | cons m _ ih => exact ih (b _ m).2
/-- the stops on a fewest way, none twice -/
theorem Rch.stops {n : Int} (b : ∀ e ∈ ars, (0 ≤ e.1 ∧ e.1 < n) ∧ (0 ≤ e.2 ∧ e.2 < n)) {c : Int} : ∀ {j : Nat} {a : Int}, (0 ≤ a ∧ a < n) → Rch ars j a c → (∀ m, m < j → ¬ Rch ars m a c) →
    ∃ ks : List Int, ks.length = j + 1 ∧ ks.Nodup ∧ ∀ x ∈ ks, (0 ≤ x ∧ x < n) ∧ ∃ i, i ≤ j ∧ Rch ars i x c
  | 0, a, ha, h, _ => ⟨[a], rfl, by simp, fun x hx => by
      rw [List.mem_singleton.mp hx]
      exact ⟨ha, 0, Nat.le_refl _, h⟩⟩
  | j + 1, a, ha, h, no => by
    cases h with
    | cons m r =>
      obtain ⟨ks, k1, k2, k3⟩ := Rch.stops b (b _ m).2 r fun i hi q => no (i + 1) (by omega) (.cons m q)
      refine ⟨a :: ks, by rw [List.length_cons, k1], List.nodup_cons.mpr ⟨fun z => ?_, k2⟩, fun x hx => ?_⟩
      · obtain ⟨_, i, hi, q⟩ := k3 a z
        exact no i (by omega) q
      · rcases List.mem_cons.mp hx with rfl | z
        · exact ⟨ha, j + 1, Nat.le_refl _, .cons m r⟩
        · obtain ⟨h1, i, hi, q⟩ := k3 x z
          exact ⟨h1, i, by omega, q⟩
theorem Rch.few {n : Int} (b : ∀ e ∈ ars, (0 ≤ e.1 ∧ e.1 < n) ∧ (0 ≤ e.2 ∧ e.2 < n)) {j : Nat} {a c : Int} (h : Rch ars j a c) (ha : 0 ≤ a ∧ a < n) : ∃ i, i < n.toNat ∧ Rch ars i a c := by
  obtain ⟨i, _, hi, no⟩ := h.fewest
  obtain ⟨ks, k1, k2, k3⟩ := Rch.stops b ha hi no
  have := pig n.toNat ks k2 fun k hk => by
    have := (k3 k hk).1
    omega
  exact ⟨i, by omega, hi⟩
/-- so after as many rounds as there are stops the bits tell who comes where -/
theorem told {n : Int} {fs : List Nat} (b : ∀ e ∈ ars, (0 ≤ e.1 ∧ e.1 < n) ∧ (0 ≤ e.2 ∧ e.2 < n)) (S : Sound ars n fs) (F : Full ars n.toNat fs) (l : n.toNat = fs.length) {v : Int} {k : Nat} (h0 : 0 ≤ v) (h1 : v < n) : Hs fs v k ↔ ∃ j, Rch ars j v (k : Int) := by
  refine ⟨S v k h0 h1, fun ⟨j, r⟩ => ?_⟩
  obtain ⟨i, hi, q⟩ := r.few b ⟨h0, h1⟩
  exact F v k i h0 (by omega) (by omega) q
end
end Sw
namespace Sw
/-! ### breadth first: the numbers alone -/
/-- so many steps lead from a to b -/
inductive Path (next : Int → List Int) : Nat → Int → Int → Prop
  | nil (a : Int) : Path next 0 a a
  | snoc {k : Nat} {a b c : Int} : Path next k a b → c ∈ next b → Path next (k + 1) a c
/-- and not fewer -/
def Dist (next : Int → List Int) (s v : Int) (k : Nat) : Prop := Path next k s v ∧ ∀ j, j < k → ¬ Path next j s v
section
variable {next : Int → List Int} {s : Int}
theorem Path.zero {a b : Int} (h : Path next 0 a b) : b = a := by cases h; rfl
theorem Path.last {k : Nat} {a c : Int} (h : Path next (k + 1) a c) : ∃ b, Path next k a b ∧ c ∈ next b := by
  cases h with
  | snoc p q => exact ⟨_, p, q⟩
theorem Path.fewest {v : Int} : ∀ {k : Nat}, Path next k s v → ∃ j, j ≤ k ∧ Dist next s v j
  | 0, h => ⟨0, Nat.le_refl _, h, fun _ z => absurd z (Nat.not_lt_zero _)⟩
  | k + 1, h => by
    by_cases q : ∃ j, j < k + 1 ∧ Path next j s v
    · obtain ⟨j, hj, pj⟩ := q
      by_cases q2 : ∃ i, i ≤ k ∧ Dist next s v i
      · obtain ⟨i, hi, di⟩ := q2
        exact ⟨i, by omega, di⟩
      · exfalso
        have each : ∀ m i, i < m → i ≤ k → ¬ Path next i s v := by
          intro m
          induction m with
          | zero => intro i hi; omega
          | succ m ih =>
            intro i hi hk pi
            exact q2 ⟨i, hk, pi, fun i' hi' => ih i' (by omega) (by omega)⟩
        exact each (k + 1) j hj (by omega) pj
    · exact ⟨k + 1, Nat.le_refl _, h, fun j hj pj => q ⟨j, hj, pj⟩⟩
theorem Dist.uniq {v : Int} {k j : Nat} (h : Dist next s v k) (g : Dist next s v j) : k = j := by
  rcases Nat.lt_trichotomy k j with z | z | z
  · exact absurd h.1 (g.2 k z)
  · exact z
  · exact absurd g.1 (h.2 j z)
theorem Dist.back {w : Int} {k : Nat} (h : Dist next s w (k + 1)) : ∃ v, Dist next s v k ∧ w ∈ next v := by
  obtain ⟨v, p, hw⟩ := h.1.last
  exact ⟨v, ⟨p, fun j hj q => h.2 (j + 1) (by omega) (.snoc q hw)⟩, hw⟩
/-- of the next front: just behind the front, and not nearer -/
theorem dist_next {w : Int} {L : Nat} : Dist next s w (L + 1) ↔ (∃ v, Dist next s v L ∧ w ∈ next v) ∧ ∀ j, j ≤ L → ¬ Dist next s w j := by
  constructor
  · intro h
    exact ⟨h.back, fun j hj q => by have := h.uniq q; omega⟩
  · rintro ⟨⟨v, hv, hw⟩, no⟩
    refine ⟨.snoc hv.1 hw, fun j hj p => ?_⟩
    obtain ⟨i, hi, d⟩ := p.fewest
    exact no i (by omega) d
/-- what is known: the things of a list with their numbers, none twice -/
structure Known (next : Int → List Int) (s : Int) (ks : List (Int × Nat)) (L : Nat) (P : Int → Prop) : Prop where
  nd : (ks.map Prod.fst).Nodup
  is : ∀ v k, (v, k) ∈ ks ↔ (k ≤ L ∧ Dist next s v k) ∨ (k = L + 1 ∧ P v ∧ ∀ j, j ≤ L → ¬ Dist next s v j)
/-- what is to come -/
def Beyond (next : Int → List Int) (s : Int) (by_ : List Int) (L : Nat) (P : Int → Prop) : Prop := ∀ v, v ∈ by_ ↔ P v ∧ ∀ j, j ≤ L → ¬ Dist next s v j
theorem Known.start : Known next s [(s, 0)] 0 fun _ => False := by
  refine ⟨by simp, fun v k => ?_⟩
  constructor
  · intro h
    have e := List.mem_singleton.mp h
    cases e
    exact .inl ⟨Nat.le_refl _, .nil s, fun j hj => absurd hj (Nat.not_lt_zero _)⟩
  · rintro (⟨h1, h2⟩ | ⟨_, h, _⟩)
    · obtain rfl : k = 0 := by omega
      have := h2.1.zero
      rw [this]
      exact List.mem_singleton.mpr rfl
    · exact h.elim
theorem Known.congr {ks : List (Int × Nat)} {L : Nat} {P P' : Int → Prop} (h : Known next s ks L P) (e : ∀ v, P v ↔ P' v) : Known next s ks L P' :=
  ⟨h.nd, fun v k => (h.is v k).trans (or_congr Iff.rfl (and_congr Iff.rfl (and_congr (e v) Iff.rfl)))⟩
theorem Beyond.congr {b : List Int} {L : Nat} {P P' : Int → Prop} (h : Beyond next s b L P) (e : ∀ v, P v ↔ P' v) : Beyond next s b L P' := fun v => (h v).trans (and_congr (e v) Iff.rfl)
/-- one that is known comes again -/
theorem Known.again {ks : List (Int × Nat)} {b : List Int} {L k : Nat} {P : Int → Prop} {w : Int} (h : Known next s ks L P) (g : Beyond next s b L P) (hw : (w, k) ∈ ks) : Known next s ks L (fun v => P v ∨ v = w) ∧ Beyond next s b L (fun v => P v ∨ v = w) := by
  have key : (P w ∨ ¬ ∀ j, j ≤ L → ¬ Dist next s w j) := by
    rcases (h.is w k).mp hw with ⟨h1, h2⟩ | ⟨_, h2, _⟩
    · exact .inr fun z => z k h1 h2
    · exact .inl h2
  have e : ∀ v, (P v ∧ ∀ j, j ≤ L → ¬ Dist next s v j) ↔ ((P v ∨ v = w) ∧ ∀ j, j ≤ L → ¬ Dist next s v j) := fun v => by
    constructor
    · rintro ⟨h1, h2⟩
      exact ⟨.inl h1, h2⟩
    · rintro ⟨h1 | rfl, h2⟩
      · exact ⟨h1, h2⟩
      · rcases key with q | q
        · exact ⟨q, h2⟩
        · exact absurd h2 q
  exact ⟨⟨h.nd, fun v k => (h.is v k).trans (or_congr Iff.rfl (and_congr Iff.rfl (e v)))⟩, fun v => (g v).trans (e v)⟩
/-- a new one -/
theorem Known.add {ks : List (Int × Nat)} {b : List Int} {L : Nat} {P : Int → Prop} {w : Int} (h : Known next s ks L P) (g : Beyond next s b L P) (hw : ∀ k, (w, k) ∉ ks) : Known next s (ks ++ [(w, L + 1)]) L (fun v => P v ∨ v = w) ∧ Beyond next s (b ++ [w]) L (fun v => P v ∨ v = w) := by
  have no : ∀ j, j ≤ L → ¬ Dist next s w j := fun j hj d => hw j ((h.is w j).mpr (.inl ⟨hj, d⟩))
  refine ⟨⟨?_, fun v k => ?_⟩, fun v => ?_⟩
  · rw [List.map_append]
    refine List.nodup_append.mpr ⟨h.nd, by simp, fun a ha c hc e => ?_⟩
    have hc : c = w := by simpa using hc
    obtain ⟨q, hq, rfl⟩ := List.mem_map.mp ha
    exact hw q.2 (by rw [← hc, ← e]; exact hq)
  · rw [List.mem_append, h.is v k, List.mem_singleton]
    constructor
    · rintro ((z | ⟨z1, z2, z3⟩) | z)
      · exact .inl z
      · exact .inr ⟨z1, .inl z2, z3⟩
      · cases z
        exact .inr ⟨rfl, .inr rfl, no⟩
    · rintro (z | ⟨rfl, z2 | rfl, z3⟩)
      · exact .inl (.inl z)
      · exact .inl (.inr ⟨rfl, z2, z3⟩)
      · exact .inr rfl
  · rw [List.mem_append, g v, List.mem_singleton]
    constructor
    · rintro (⟨z1, z2⟩ | rfl)
      · exact ⟨.inl z1, z2⟩
      · exact ⟨.inr rfl, no⟩
    · rintro ⟨z1 | rfl, z2⟩
      · exact .inl ⟨z1, z2⟩
      · exact .inr rfl
/-- the front is done: the next one -/
theorem Known.level {ks : List (Int × Nat)} {fr b : List Int} {L : Nat} {P : Int → Prop} (h : Known next s ks L P) (g : Beyond next s b L P) (hf : ∀ v, v ∈ fr ↔ Dist next s v L) (hP : ∀ w, P w ↔ ∃ v, v ∈ fr ∧ w ∈ next v) :
    Known next s ks (L + 1) (fun _ => False) ∧ ∀ v, v ∈ b ↔ Dist next s v (L + 1) := by
  have e : ∀ v, (P v ∧ ∀ j, j ≤ L → ¬ Dist next s v j) ↔ Dist next s v (L + 1) := fun v => by
    rw [dist_next, hP]
    constructor
    · rintro ⟨⟨u, hu, hv⟩, z⟩
      exact ⟨⟨u, (hf u).mp hu, hv⟩, z⟩
    · rintro ⟨⟨u, hu, hv⟩, z⟩
      exact ⟨⟨u, (hf u).mpr hu, hv⟩, z⟩
  refine ⟨⟨h.nd, fun v k => (h.is v k).trans ?_⟩, fun v => (g v).trans (e v)⟩
  constructor
  · rintro (⟨z1, z2⟩ | ⟨rfl, z⟩)
    · exact .inl ⟨by omega, z2⟩
    · exact .inl ⟨Nat.le_refl _, (e v).mp z⟩
  · rintro (⟨z1, z2⟩ | ⟨_, z, _⟩)
    · by_cases q : k ≤ L
      · exact .inl ⟨q, z2⟩
      · obtain rfl : k = L + 1 := by omega
        exact .inr ⟨rfl, (e v).mpr z2⟩
    · exact z.elim
/-- no front: all that can be reached is known -/
theorem Known.done {ks : List (Int × Nat)} {L : Nat} (h : Known next s ks L fun _ => False) (hf : ∀ v, ¬ Dist next s v L) : ∀ v k, (v, k) ∈ ks ↔ Dist next s v k := by
  have far : ∀ k v, L ≤ k → ¬ Dist next s v k := by
    intro k
    induction k with
    | zero => intro v hk d; exact hf v (by rw [show L = 0 by omega]; exact d)
    | succ k ih =>
      intro v hk d
      by_cases q : L = k + 1
      · exact hf v (by rw [q]; exact d)
      · obtain ⟨u, hu, _⟩ := d.back
        exact ih u (by omega) hu
  intro v k
  rw [h.is v k]
  constructor
  · rintro (⟨_, z⟩ | ⟨_, z, _⟩)
    · exact z
    · exact z.elim
  · intro d
    refine .inl ⟨?_, d⟩
    by_cases q : L ≤ k
    · exact absurd d (far k v q)
    · omega
theorem Path.inn {n : Int} (hs : 0 ≤ s ∧ s < n) (hn : ∀ v w, 0 ≤ v ∧ v < n → w ∈ next v → 0 ≤ w ∧ w < n) {v : Int} : ∀ {k : Nat}, Path next k s v → 0 ≤ v ∧ v < n
  | 0, h => by rw [h.zero]; exact hs
  | k + 1, h => by
    obtain ⟨b, p, q⟩ := h.last
    exact hn b v (Path.inn hs hn p) q
end
end Sw
namespace Sw
/-! ### the law's ways and the program's -/
theorem Path.pre {next : Int → List Int} {a b : Int} (h : b ∈ next a) : ∀ {k : Nat} {c : Int}, Path next k b c → Path next (k + 1) a c
  | _, _, .nil _ => .snoc (.nil a) h
  | _, _, .snoc p q => .snoc (Path.pre h p) q
theorem rch_path {next : Int → List Int} {ars : List (Int × Int)} (hx : ∀ b c, c ∈ next b ↔ (b, c) ∈ ars) {k : Nat} {a c : Int} : Rch ars k a c ↔ Path next k a c := by
  constructor
  · intro h
    induction h with
    | nil => exact .nil _
    | cons m _ ih => exact ih.pre ((hx _ _).mpr m)
  · intro h
    induction h with
    | nil => exact .nil _
    | snoc _ m ih => exact ih.app (.cons ((hx _ _).mp m) (.nil _))
/-- called otherwise, a way stays a way -/
theorem Rch.map {ars : List (Int × Int)} (f : Int → Int) {k : Nat} {a c : Int} (h : Rch ars k a c) : Rch (ars.map fun e => (f e.1, f e.2)) k (f a) (f c) := by
  induction h with
  | nil => exact .nil _
  | cons m _ ih => exact .cons (List.mem_map.mpr ⟨_, m, rfl⟩) ih
theorem Rch.mono {ars ars' : List (Int × Int)} (s : ∀ e ∈ ars, e ∈ ars') {k : Nat} {a c : Int} (h : Rch ars k a c) : Rch ars' k a c := by
  induction h with
  | nil => exact .nil _
  | cons m _ ih => exact .cons (s _ m) ih
end Sw
namespace Sw
open PySem PySem.Spec PyProof.Rows L2 LamX
/-! ### a lambda of one parameter, handed to a def of two, called there by that def's name for it -/
/-- v is the lambda's own name; the others are the maker's cells, and globals -/
structure Lam1S (sc scope : Scope) (v : Str) : Prop where
  kind : scope.kind = .function
  co : scope.isCoroutine = false
  gen : scope.isGenerator = false
  own : ∀ y ∈ scope.names, y.2 ≠ .cell ∧ (y.2 = .local → y.1 = v)
  arg : scope.names.lookup v = some .local
  free : ∀ y ∈ scope.names, y.2 = .free → sc.names.lookup y.1 = some .cell ∨ sc.names.lookup y.1 = some .free
theorem Lam1S.has {X : Cx} {scope : Scope} {v : Str} (L : Lam1S X.env.scope scope v) (ok : X.Ok) : ∀ y ∈ scope.names, y.2 = .free → ∃ c, X.env.cells.lookup y.1 = some c :=
  fun y hy e => (L.free y hy e).elim (fun k => ok.has _ (.inl k)) (fun k => ok.has _ (.inr k))
/-- the frame of the lambda's body -/
def lamFrame (X : Cx) (A : Around) (outer : List Env) (s : Shared) (H : Hp) (E : XK) (scope : Scope) (f c' : Addr) (v : Str) : Cx := { lamCx X A outer s H E scope f c' with N := X.N ++ [v] }
section
variable {X : Cx} {pins : List (Addr × Obj)} {σ : L2.St} {H HZ : Hp} {s s1 : Shared}
theorem lam1_start {A : Around} {outer : List Env} {E : XK} {scope : Scope} {f c' : Addr} {hp : Heap} {tk : Nat} {v : Str} {x : V} {u : Value} (I : Inv X pins σ H s) (L : Lam1S X.env.scope scope v) (nv : v ∉ X.N) (env : Env0 X.prog X.w X.K X.mg X.base A outer s1 HZ) (hd : A.handled = none)
    (un : Un (frs X.stack) [] H HZ s.heap s1.heap) (hns : hp.Ns s1.heap.objs.size fun y => ([(v, u)] : List (Str × Value)).reverse.lookup y) (rv : RelV x u) (kp : ∀ b o, s1.heap.get? b = some o → hp.get? b = some o) :
    Inv (lamFrame X A outer s1 HZ E scope f c' v) [] (σ ++ [some x]) HZ { s1 with heap := hp, toks := tk } := by
  have caught := L.has I.ok
  have back : ∀ {y c}, (cloFrom X.env.cells scope.names []).lookup y = some c → X.env.cells.lookup y = some c := fun {y c} e => by
    rcases cloFrom_mem (PySem.mem_of_lookup e) with z | ⟨z1, z2⟩
    · cases z
    · obtain ⟨c1, hc⟩ := caught _ z1 rfl
      have hc : X.env.cells.lookup y = some c1 := hc
      have ec : c = c1 := by
        rw [z2, hc] <;> rfl
      rw [ec]
      exact hc
  have there : ∀ {y}, scope.names.lookup y = some .free → ∃ c, (cloFrom X.env.cells scope.names []).lookup y = some c := fun {y} hl =>
    mem_lookup (cloFrom_has (cells := X.env.cells) (acc := []) (PySem.mem_of_lookup hl : (y, NameKind.free) ∈ scope.names))
  have stays : ∀ {c : Addr} {z : Option Value}, H c = none → s.heap.IsCell c z → hp.IsCell c z := fun {c z} n ⟨o, ho, hz⟩ => by
    obtain ⟨sl, q⟩ := un.any ho n (by simp)
    exact ⟨_, kp _ _ q, hz⟩
  have none_ : ∀ b : Addr, b ∉ (lamFrame X A outer s1 HZ E scope f c' v).ex := fun b z => (List.not_mem_nil (show b ∈ ([] : List Addr) from z)).elim
  refine ⟨⟨env.mod, L.kind, rfl, rfl, Nat.le_refl _, fun y z c e1 e2 => I.ok.inj y z c (back e1) (back e2), fun y hy => ?_, fun y c z _ => ?_, fun _ => hd, Around.frames_deeper env.frames, .inr ⟨rfl, rfl⟩, fun b z => absurd z (none_ b), env.bs, env.bsz, fun b _ _ => none_ b,
      fun b z => absurd z (none_ b), env.funs, env.frf⟩,
    rfl, env.bare, Un.kept kp, ⟨_, hns, fun i y z e1 e2 e3 => ?_⟩, fun y c e => ?_, env.hok.fresh (Nat.le_refl _), fun y c e => ?_, fun q hq => (List.not_mem_nil (show q ∈ ([] : List (Addr × Obj)) from hq)).elim, env.hok.kept kp, ?_⟩
  · have hy : scope.names.lookup y = some .cell ∨ scope.names.lookup y = some .free := hy
    rcases hy with hy | hy
    · exact absurd rfl (L.own _ (PySem.mem_of_lookup hy)).1
    · exact there hy
  · have z : false = true := z
    cases z
  · have e1 : (X.N ++ [v])[i]? = some y := e1
    have e3 : Vis scope y := e3
    by_cases hi : i < X.N.length
    · rw [List.getElem?_append_left hi] at e1
      rw [List.getElem?_append_left (by rw [I.len]; exact hi)] at e2
      have yn : y ∈ X.N := List.mem_of_getElem? e1
      rcases e3 with k | k | k
      · exact absurd ((L.own _ (PySem.mem_of_lookup k)).2 rfl) (fun z => nv (by rw [← show y = v from z]; exact yn))
      · exact absurd rfl (L.own _ (PySem.mem_of_lookup k)).1
      · obtain ⟨m, hn, hl⟩ := I.loc
        have seen : Vis X.env.scope y := (L.free _ (PySem.mem_of_lookup k) rfl).elim (fun k => .inr (.inl k)) (fun k => .inr (.inr k))
        obtain ⟨w', r, q⟩ := hl i y z e1 e2 seen
        obtain ⟨c2, h2⟩ := there k
        refine ⟨w', r, .inr ⟨.inr k, c2, h2, ?_⟩⟩
        have c1 := back h2
        rcases q with ⟨k', _⟩ | ⟨_, c3, e', q⟩
        · have k' : X.env.scope.names.lookup y = some .local := k'
          rcases L.free _ (PySem.mem_of_lookup k) rfl with k2 | k2 <;> rw [show X.env.scope.names.lookup y = _ from k2] at k' <;> cases k'
        · rw [c1] at e'
          cases e'
          exact stays (I.freeC y _ c1) q
    · have li : i = X.N.length := by
        have := (List.getElem?_eq_some_iff.mp e1).1
        rw [List.length_append, List.length_singleton] at this
        omega
      subst li
      rw [List.getElem?_append_right (Nat.le_refl _), Nat.sub_self] at e1
      rw [← I.len, List.getElem?_append_right (Nat.le_refl _), Nat.sub_self] at e2
      obtain rfl : v = y := Option.some.inj e1
      obtain rfl : x = z := Option.some.inj (Option.some.inj e2)
      refine ⟨u, rv, .inl ⟨L.arg, ?_⟩⟩
      show List.lookup v [(v, u)] = some u
      rw [List.lookup_cons_self]
  · obtain ⟨w', z⟩ := I.cell y c (back e)
    exact ⟨w', stays (I.freeC y c (back e)) z⟩
  · obtain ⟨z, o, ho, hz⟩ := I.cell y c (back e)
    exact un.free c o ho (I.freeC y c (back e)) (by simp)
  · show (σ ++ [some x]).length = (X.N ++ [v]).length
    rw [List.length_append, List.length_append, I.len]
    rfl
theorem no_cx {P : Program} {w : World} {outer : List Env} {H : Hp} {s s' : Shared} {e : Value} (h : L2.CX P w outer H s E0 e s') : False := by
  obtain ⟨_, _, _, _, _, _, _, _, _, _, _, _, z⟩ := h
  exact z
/-- the frame of the def that got the lambda, entered at s -/
abbrev gotCx (X : Cx) (Ng : List Str) (qg : Str) (sg : Scope) (g : Addr) (cdg : Value) (s : Shared) (H : Hp) : Cx := (cxOf CX0 X.prog X.w X.K X.mg X.base Ng qg sg g cdg X.A X.stack s H E0).nox
/-- a(e), a that def's name for the lambda -/
theorem pe_act1 {Ng : List Str} {qg : Str} {sg : Scope} {g f c' : Addr} {cdg pm ctv : Value} {params : Arguments} {body : Expr} {scope : Scope} {k i : Nat} {a v : Str} {tb : TE} {ta : TA} {e : Expr} {p1 p2 : Pos}
    (I : Inv X pins σ H s) (L : Lam1S X.env.scope scope v) (nv : v ∉ X.N) (hf : s.heap.get? f = some (PySem.W.kla_obj "<lambda>" (X.env.qual ++ "<lambda>") params body scope (cloFrom X.env.cells scope.names []) pm c' ctv)) (hfn : H f = none) (hfr : f ∉ frs X.stack)
    (hbind : ∀ u : Value, bindArgs (PySem.W.kla_fn "<lambda>" (X.env.qual ++ "<lambda>") params body scope (cloFrom X.env.cells scope.names []) pm (.ref c') ctv) ⟨[u], []⟩ = pure [(v, u)])
    (hr : Room (k + 1) (X.A.deeper (envOfC qg sg s.heap.objs.size g cdg)))
    (hbody : ∀ (A : Around) (outer : List Env) (s : Shared) (H : Hp), Room k (A.deeper (lamEnv X scope s.heap.objs.size f c')) → PE (lamFrame X A outer s H E0 scope f c' v) body tb)
    (hN : Ng[i]? = some a) (hv : Vis sg a) (ha : PA (gotCx X Ng qg sg g cdg s H) [e] ta) (hd : (a == ("__debug__" : Str)) = false) (hcd : (a == ("__classdict__" : Str)) = false)
    (he : starEach [e] (gotCx X Ng qg sg g cdg s H).env = (false, eval e (gotCx X Ng qg sg g cdg s H).env) :: starEach [] (gotCx X Ng qg sg g cdg s H).env) (hpl : (backTo p2 (starEach [] (gotCx X Ng qg sg g cdg s H).env)).any (·.1) = false) :
    PE (gotCx X Ng qg sg g cdg s H) (.Call (.Name a p1) [e] [] p2)
      (fun z Z Q => z[i]? = some (some (.ref f)) ∧ ta z Z fun vs Z1 => ∃ y, vs = [y] ∧ Z1 c' = some (CodeO c' (X.env.qual ++ "<lambda>")) ∧ tb (σ ++ [some y]) Z1 Q) := by
  refine ⟨fun pinsZ sZ z Z Q IZ h => ?_⟩
  obtain ⟨hs, ht⟩ := h
  refine wpAny_Call_Name_kw (thn ((pe_var (pos := p1) (i := i) hN hv hd hcd).run pinsZ sZ z Z (fun y Z1 => y = .ref f ∧ Z1 = Z) IZ ⟨.ref f, hs, rfl, rfl⟩) fun u s1 ⟨y0, Z1, I1, r1, q1⟩ => ?_)
  obtain ⟨ey, eZ⟩ := q1
  subst ey
  rw [eZ] at I1
  obtain rfl : u = Value.ref f := r1
  have stands : ∀ {s2 : Shared} {Z2 : Hp}, Inv (gotCx X Ng qg sg g cdg s H) pinsZ z Z2 s2 → s2.heap.get? f = some (PySem.W.kla_obj "<lambda>" (X.env.qual ++ "<lambda>") params body scope (cloFrom X.env.cells scope.names []) pm c' ctv) := fun I2 =>
    I2.base.keep f _ hf hfn hfr (fun z => (List.not_mem_nil (show f ∈ ([] : List Addr) from z)).elim)
  refine PySem.W.callWith_F ⟨_, _, _, _, stands I1⟩ (thn (ha.run p2 pinsZ s1 z Z _ I1 ht) fun us s2 ⟨vs, Z2, I2, r2, y, ey, hc, hb⟩ => ⟨⟨_, _, _, _, stands I2⟩, ?_⟩) he hpl
  subst ey
  obtain ⟨u, rfl, hu⟩ := vals1 r2
  have un : Un (frs X.stack) [] H Z2 s.heap s2.heap := I2.base
  obtain ⟨⟨oc, ws, t, hoc, hdc, hvc⟩, _, _⟩ := I2.hok c' _ hc
  have rc : codeAny (model X.prog X.w) (X.A.deeper (envOfC qg sg s.heap.objs.size g cdg)) (.call (.ref f) ⟨[u], []⟩) (CR (L2.CX X.prog X.w) (envOfC qg sg s.heap.objs.size g cdg :: X.stack) X.prog X.w Z2 s2 Q E0) s2 := by
    refine PySem.W.kla_callFunE hr.depth (stands I2) rfl L.co L.gen rfl ⟨c', oc, ws, t, rfl, hoc, hdc, hvc⟩ ?_
    rw [hbind u]
    refine wpAny_pure (wpAny_newFunctionEnv (fun y hy => (L.own y hy).1) (fun y hy => ?_) (fun h₁ hns hsb => ⟨I2.nolimit.fresh _ hsb, ?_⟩) L.kind)
    · rw [List.mem_singleton.mp hy]
      exact L.arg
    show codeAny _ _ (.expr body (lamEnv X scope s2.heap.objs.size f c')) _ _
    have kp : ∀ b o, s2.heap.get? b = some o → h₁.get? b = some o := fun b o e => hsb.extBut b o (Nat.ne_of_lt (Heap.lt_size e)) (Heap.get?_push_of_some _ e)
    have J : Inv (lamFrame X (X.A.deeper (envOfC qg sg s.heap.objs.size g cdg)) (envOfC qg sg s.heap.objs.size g cdg :: X.stack) s2 Z2 E0 scope f c' v) [] (σ ++ [some y]) Z2 { s2 with heap := h₁, toks := s2.toks + ([(v, u)] : List (Str × Value)).length } :=
      lam1_start I L nv I2.env0 hr.hd un hns hu kp
    refine PySem.W.kla_codeExpr (wpAny_mono ((hbody _ _ s2 Z2 (hr.deeper _)).run [] _ _ Z2 Q J hb) (fun z s' hq => ?_) fun e s' hq => hq)
    obtain ⟨w', Z3, J3, rv, q⟩ := hq
    exact ⟨w', Z3, J3.os, J3.bare, J3.base, J3.hok, rv, q⟩
  refine wpAny_call (codeAny_mono rc fun r s' hq => ?_)
  rcases r with e | fl
  · exact (no_cx hq).elim
  rcases fl with _ | _ | _ | u
  all_goals first | exact hq.elim | skip
  exact I2.after hq
/-- the def with the body bg that got y and the lambda (its second parameter, a): SP tells what it makes of them -/
def Gives (X : Cx) (Ng : List Str) (x : Str) (sg : Scope) (g : Addr) (cdg : Value) (bg : List Stmt) (a q : Str) (k : Nat) (SP : V → (V → Hp → VK → Prop) → Hp → VK → Prop) : Prop :=
  ∀ (f c' : Addr) (s : Shared) (H : Hp) (y : V) (Q : VK) (tl : V → Hp → VK → Prop), Room k (X.A.deeper (envOfC x sg s.heap.objs.size g cdg)) →
    (∀ (e : Expr) (ta : TA) (p1 p2 : Pos), PA (gotCx X Ng x sg g cdg s H) [e] ta → starEach [e] (gotCx X Ng x sg g cdg s H).env = (false, eval e (gotCx X Ng x sg g cdg s H).env) :: starEach [] (gotCx X Ng x sg g cdg s H).env →
      (backTo p2 (starEach [] (gotCx X Ng x sg g cdg s H).env)).any (·.1) = false → PE (gotCx X Ng x sg g cdg s H) (.Call (.Name a p1) [e] [] p2) (fun z Z Q => z[1]? = some (some (.ref f)) ∧ ta z Z fun vs Z1 => ∃ w, vs = [w] ∧ Z1 c' = some (CodeO c' q) ∧ tl w Z1 Q)) →
    H c' = some (CodeO c' q) → SP y tl H Q → ∃ t, PSs (gotCx X Ng x sg g cdg s H) bg t ∧ t { nx := fun _ H' => Q .non H', rt := Q } (L2.start Ng [y, .ref f]) H
/-- x(e0, lambda v: body) -/
theorem pe_lam2 {T : List (Addr × Str)} {SP : V → (V → Hp → VK → Prop) → Hp → VK → Prop} {x a0 a v : Str} {g c P : Addr} {k : Nat} {pg : Arguments} {bg : List Stmt} {sg : Scope} {dV kV doc pm cdv ct oc : Value} {an od : Option Addr} {osl : Array (Option Value)} {Ng : List Str}
    {params : Arguments} {e0 body : Expr} {scope : Scope} {te : TE} {tb : TE} {p lpos pos : Pos} (hg : Gl X x) (hm : X.mg x = some (.ref g)) (hk : PySem.W.keepIn X.K (.ref g) = true)
    (lk : X.K.lookup g = some ⟨oc, od, .func (PySem.W.fnOf x x pg bg sg dV kV doc pm an cdv ct), osl⟩) (hcg : PySem.W.codeIn X.K cdv x = true) (hb : L2.Binds X.K (PySem.W.fnOf x x pg bg sg dV kV doc pm an cdv ct) [a0, a] []) (Sg : FnScope Ng [a0, a] sg) (hNg : Ng[1]? = some a) (hva : Vis sg a)
    (hG : Gives X Ng x sg g cdv bg a (X.env.qual ++ "<lambda>") (k + 1) SP)
    (TB : TabB X.base X.mg c P) (hcode : X.env.code = .ref c) (hmT : (P, X.env.qual ++ "<lambda>") ∈ T) (hu : ∀ p ∈ T, p.1 = P → p.2 = X.env.qual ++ "<lambda>") (hr : Room (k + 2) X.A) (L : Lam1S X.env.scope scope v) (nv : v ∉ X.N) (hdef : defaultsOf params X.env = ([], []))
    (hbind : ∀ (q : Str) (cl : List (Str × Addr)) (pm cv ctv u : Value), bindArgs (PySem.W.kla_fn "<lambda>" q params body scope cl pm cv ctv) ⟨[u], []⟩ = pure [(v, u)]) (he : PE X e0 te)
    (hbody : ∀ (A : Around) (outer : List Env) (s : Shared) (H : Hp) (f c' : Addr), Room k (A.deeper (lamEnv X scope s.heap.objs.size f c')) → PE (lamFrame X A outer s H E0 scope f c' v) body tb)
    (hs1 : starEach [e0, .Lambda params body scope lpos] X.env = (false, eval e0 X.env) :: starEach [.Lambda params body scope lpos] X.env := by rfl)
    (hdb : (x == ("__debug__" : Str)) = false := by decide) (hd : (a == ("__debug__" : Str)) = false := by decide) (hcd : (a == ("__classdict__" : Str)) = false := by decide) :
    PE X (.Call (.Name x p) [e0, .Lambda params body scope lpos] [] pos) (fun σ H Q => te σ H fun y H0 => Tabs T H0 ∧ ∀ H1, ExtN H0 H1 → Tabs T H1 → SP y (fun w Z Q' => tb (σ ++ [some w]) Z Q') H1 Q) := by
  refine ⟨fun pins s σ H Q I h => ?_⟩
  refine wpAny_Call_Name_kw (ld_glob I hg hm ?_ hdb)
  refine PySem.W.callWith_K (h₀ := X.base) I.ok.mod.kin hk ?_ hs1 (by rfl)
  rw [hs1]
  show wpAny _ _ (spliced ((false, eval e0 X.env) :: (false, eval (.Lambda params body scope lpos) X.env) :: backTo pos (starEach [] X.env))) _ _ s
  refine Calls.spliced_cons (thn (he.run pins s σ H _ I h) fun u s0 ⟨y, H0, I0, ry, hT, q⟩ => ?_)
  refine Calls.spliced_cons (lam_make2 I0 TB hcode hmT hu hT hdef (L.has I0.ok) fun f c' pm' ctv H1 s' I1 eN T1 hf hfn hfr hco => ?_)
  refine Calls.spliced_nil ⟨I1.kIn, ?_⟩
  have rc : codeAny (model X.prog X.w) X.A (.call (.ref g) ⟨[u, .ref f], []⟩) (CR CX0 X.stack X.prog X.w H1 s' Q E0) s' := by
    refine run_ofS (N := Ng) (ps := [a0, a]) (us := [u, .ref f]) (vs := [y, .ref f]) lk hcg Sg hr I1.env0 (hb s' [u, .ref f] I1.kIn rfl) (.cons ry (.cons rfl .nil)) rfl fun hr' => ?_
    obtain ⟨t', ht', hq'⟩ := hG f c' s' H1 y Q (fun w Z Q' => tb (σ ++ [some w]) Z Q') hr' (fun e ta p1 p2 ha e1 e2 => pe_act1 (i := 1) (k := k) I1 L nv hf hfn hfr (fun u => hbind _ _ _ _ _ u) hr' (fun A outer s H hr2 => hbody A outer s H f c' hr2) hNg hva ha hd hcd e1 e2) hco (q H1 eN T1)
    exact ⟨t', ht'.nox, hq'⟩
  refine wpAny_call (codeAny_mono rc fun r s2 hq => ?_)
  rcases r with e | fl
  · exact (show False from hq).elim
  rcases fl with _ | _ | _ | u
  all_goals first | exact hq.elim | skip
  exact I1.after hq
end
end Sw
namespace Sw
open PySem PySem.Spec PyProof.Rows L2
/-- xs != [], xs a list of whatever -/
def rNeNil (K : PySem.W.Frag) : R2 := fun x y H Q => ∃ a b xs, x = .ref a ∧ y = .ref b ∧ SqL K H a xs ∧ SqL K H b [] ∧ Q (.bl (!xs.isEmpty)) H
theorem op_neNil {X : Cx} (hu : X.A.units < cLine) : OpR X (compareOp .NotEq) (rNeNil X.K) := by
  intro pins s σ H x y v u Q I rx ry h
  obtain ⟨a, b, xs, rfl, rfl, ha, hb, q⟩ := h
  cases rx
  cases ry
  obtain ⟨its, r1, p1, _⟩ := I.list ha
  obtain ⟨it2, r2, p2, _⟩ := I.list hb
  cases r2
  cases r1 with
  | nil => exact SeqAt.RcNeAt.lists (e := fun _ => true) p1.isList p2.isList rfl hu (fun j h1 _ => absurd h1 (by simp)) _ _ _ _ ⟨.bl false, H, I, rfl, q⟩
  | cons r t => exact SeqAt.RcNeAt.lists_lengths p1.isList p2.isList (by simp) hu _ _ _ _ ⟨.bl true, H, I, rfl, q⟩
end Sw
namespace Sw
open PySem PySem.Spec PyProof.Rows L2
theorem pe_weak {X : Cx} {e : Expr} {t t' : TE} (h : PE X e t) (hw : ∀ σ H Q, t' σ H Q → t σ H Q) : PE X e t' := ⟨fun pins s σ H Q I q => h.run pins s σ H Q I (hw σ H Q q)⟩
theorem pa_weak {X : Cx} {es : List Expr} {t t' : TA} (h : PA X es t) (hw : ∀ σ H Q, t' σ H Q → t σ H Q) : PA X es t' := ⟨fun pos pins s σ H Q I q => h.run pos pins s σ H Q I (hw σ H Q q)⟩
theorem wlen {K : PySem.W.Frag} {H : Hp} {xs : List V} {ds : List D} {as : List Addr} (h : RepAll K H ds xs as) (hw : wtAll ds ≤ 10000000) : xs.length ≤ sizeLine := by
  have h1 := wt_len ds
  rw [h.len, sizeLine_eq]
  omega
theorem nmem {K : PySem.W.Frag} {H : Hp} {xs : List V} {ds : List D} {as : List Addr} {a : Addr} (h : RepAll K H ds xs as) (ha : H a = none) : a ∉ as := fun z => by
  obtain ⟨o, e⟩ := h.tracked a z
  rw [ha] at e
  cases e
end Sw
namespace Sw
open PySem PySem.Spec PyProof.Rows L2
section
variable {X : Cx} {CX : CXT} {k : Nat} {f : Addr} {fd : FuncData} {ps ks : List Str} {sp : Sp} {E : XK} {x : Str} {p pos : Pos} {kws : List Keyword} {tk : TA} {g : List Value → List Value → List Value} {gV : List V → List V → List V}
/-- f(k = v): words alone -/
theorem pe_callW (F : FnOk X.prog X.w X.K X.mg X.base CX k f fd ps sp) (hr : Room k X.A) (hg : Gl X x) (hm : X.mg x = some (.ref f)) (hk : PySem.W.keepIn X.K (.ref f) = true) (hb : KBinds X.K fd ps ks g gV) (hx : Passes CX X E)
    (hkw : PK X kws tk) (hall : (backToKw pos (keywordEach kws X.env)).all (·.1.isSome) = true := by rfl) (hks : (backToKw pos (keywordEach kws X.env)).filterMap (·.1) = ks := by rfl)
    (hdb : (x == ("__debug__" : Str)) = false := by decide)
    (hpl : ((backTo pos (starEach [] X.env)).any (·.1) || (backToKw pos (keywordEach kws X.env)).any (·.1.isNone)) = false := by rfl) :
    PE X (.Call (.Name x p) [] kws pos) (fun σ H Q => tk σ H fun zs H2 => sp (gV [] zs) H2 Q E) := by
  refine ⟨fun pins s σ H Q I h => wpAny_Call_Name_kw (ld_glob I hg hm ?_ hdb)⟩
  refine PySem.W.callWith_KW0 (first := []) (h₀ := X.base) I.ok.mod.kin hk hall (thn (hkw.run pos pins s σ H _ I h) fun ws s2 ⟨zs, H2, I2, rz, q2⟩ => ⟨I2.kIn, ?_⟩) hpl
  rw [hks]
  exact run_fnk (us := []) F hr hb hx I2 .nil rz q2
end
/-- a new list of two things -/
theorem rep_pair {K : PySem.W.Frag} {H : Hp} {L : Addr} {r r' : D} {v v' : V} {bs bs' : List Addr} (h : Rep K H r v bs) (h' : Rep K H r' v' bs') (nL : H L = none) : ∃ as, Rep K (upd H L (.lst [v, v'])) (.lst [r, r']) (.ref L) as := by
  have ra : RepAll K H [r, r'] [v, v'] (bs ++ (bs' ++ [])) := by
    rw [RepAll]
    refine ⟨_, _, bs, bs' ++ [], rfl, h, ?_, rfl⟩
    rw [RepAll]
    exact ⟨_, _, bs', [], rfl, h', by simp [RepAll], rfl⟩
  refine ⟨L :: (bs ++ (bs' ++ [])), ?_⟩
  rw [Rep]
  exact ⟨L, _, _, rfl, upd_same, ra.same (same_new nL), nmem ra nL, rfl⟩
theorem same_str {x y : Str} (h : x = y) : (!decide (V.str x = V.str y)) = false := by
  rw [h, decide_eq_true rfl]
  rfl
def spLaw (K : PySem.W.Frag) : Sp := fun vs H Q _ => ∃ (a : Addr) (ns : List Int), vs = [.ref a] ∧ SqL K H a (ns.map V.int) ∧ ns.length ≤ 63 ∧ ∀ H', Q (.bl true) H'
section
variable {P : Program} {w : World} {K : PySem.W.Frag} {mg : Str → Option Value} {base : Heap}
/-- one call of a def of the text, what is around it given -/
theorem run_def {x qual : Str} {st : Stmt} {f : Addr} {fd : FuncData} {N ps : List Str} {k : Nat} {A : Around} {outer : List Env} {s : Shared} {H : Hp} {args : Args} {us : List Value} {vs : List V} {Q : VK} {E : XK} (F : Fun K x qual st f fd) (S : FnScope N ps (defScope st))
    (rm : Room (k + 1) A) (ev : Env0 P w K mg base A outer s H) (hb : BindsTo s fd args (ps.zip us)) (rv : Vals vs us) (hl : vs.length = ps.length)
    (body : ∀ cdv : Value, ∃ t, PSs (cxOf CX0 P w K mg base N qual (defScope st) f cdv A outer s H E).nox (defBody st) t ∧ t { nx := fun _ H' => Q .non H', rt := Q } (start N vs) H) :
    codeAny (model P w) A (.call (.ref f) args) (CR CX0 outer P w H s Q E) s := by
  obtain ⟨oc, od, kV, doc, pm, an, cdv, ct, osl, rfl, lk, hcd⟩ := F.ex
  have kin : K.In s.heap := ev.mod.kin.keeps fun b o z => (ev.bs b o z).1
  have nolim : s.heap.NoLimit := ev.mod.nolimit.keeps fun b o z => (ev.bs b o z).1
  have kinds : ∀ y ∈ ps.zip us, (defScope st).names.lookup y.1 = some .local ∨ ((defScope st).names.lookup y.1 = some .cell ∧ ((cellsFrom (s.heap.objs.size + 1) (defScope st).names []).lookup y.1).isSome = true) := by
    rintro ⟨n, v⟩ hy
    exact (S.par n (List.of_mem_zip hy).1).elim .inl fun q => .inr ⟨q, PySem.W.cellsFrom_some _ _ _ (.inl q)⟩
  refine codeAny_call_function rm.depth (kin _ _ lk) rfl S.co S.gen rfl (PySem.W.codeRec_of kin hcd) (hb _ _ _ _ (wpAny_newFunctionEnv_cells S.kind kinds fun env he s1 ic => ?_))
  subst he
  obtain ⟨t, ht, hq⟩ := body cdv
  have inv := inv_start S rm.hd ev hl rv ic (CX := CX0) (P := P) (w := w) (E := E)
  refine ⟨nolim.keeps ic.toInCall.keep, codeAny_func (wpAny_mono (ht.nox.run [] s1 (start N vs) H _ inv hq) (fun fl s' hs => ?_) fun _ _ hs => hs)⟩
  cases fl with
  | next =>
    obtain ⟨_, H', J, q⟩ := hs
    exact ⟨V.non, H', J.os, J.bare, J.base, J.hok, (rfl : RelV V.non Value.none), q⟩
  | ret u =>
    obtain ⟨v, _, H', J, ru, q⟩ := hs
    exact ⟨v, H', J.os, J.bare, J.base, J.hok, ru, q⟩
  | brk =>
    obtain ⟨_, _, _, q⟩ := hs
    cases q
  | cont =>
    obtain ⟨_, _, _, q⟩ := hs
    cases q
end
/-- the script alone is known -/
def scriptH (a : Addr) (o : Obj) (ns : List Int) : Hp := fun b => if b = a then some (.frz o (.lst (ns.map V.int))) else none
theorem scriptH_at {a : Addr} {o : Obj} {ns : List Int} : scriptH a o ns a = some (.frz o (.lst (ns.map V.int))) := if_pos rfl
theorem scriptH_ne {a b : Addr} {o : Obj} {ns : List Int} (h : b ≠ a) : scriptH a o ns b = none := if_neg h
/-- the law's call, at the heap behind the top -/
theorem call_law {P : Program} {w : World} {K : PySem.W.Frag} {mg mb : Str → Option Value} {fa a : Addr} {s₁ : Shared} {vs : List Value} {ns : List Int} (kin : K.In s₁.heap) (hmg : s₁.heap.Ns mainGlobals mg) (hmb : s₁.heap.Ns builtinsNs mb)
    (hboot : ∀ x : Str, x ≠ "__name__" → mb x = bootBuiltins x) (nolim : s₁.heap.NoLimit) (hgen : s₁.gens = #[])
    (ha : s₁.heap.get? a = some { cls := .type "list", data := .seq vs.toArray }) (hi : IntsAre vs ns) (hlen : ns.length ≤ 63)
    (run : ∀ (base : Heap) (H : Hp), K.In base → base.Ns mainGlobals mg → Env0 P w K mg base callerA [] s₁ H → SqL K H a (ns.map V.int) →
      codeAny (model P w) callerA (.call (.ref fa) ⟨[.ref a], []⟩) (CR CX0 [] P w H s₁ (fun v _ => v = .bl true) fun _ _ _ => False) s₁) :
    codeAny (model P w) callerA (.call (.ref fa) ⟨[.ref a], []⟩) (fun r s' => r = .ok (.ret (.bool true)) ∧ OldK s₁.heap s'.heap ∧ s'.os = s₁.os ∧ AllBare s'.gens) s₁ := by
  have rv := vals_ints hi
  have le63 : ns.length ≤ sizeLine := by
    rw [sizeLine_eq]
    omega
  have go : ∀ H : Hp, (∀ b, H b ≠ none → b = a ∧ K.lookup a = none ∧ H a = some (.frz { cls := .type "list", data := .seq vs.toArray } (.lst (ns.map V.int)))) → SqL K H a (ns.map V.int) →
      codeAny (model P w) callerA (.call (.ref fa) ⟨[.ref a], []⟩) (fun r s' => r = .ok (.ret (.bool true)) ∧ OldK s₁.heap s'.heap ∧ s'.os = s₁.os ∧ AllBare s'.gens) s₁ := by
    intro H only sq
    have plain : ∀ {b : Addr} {o : Obj} {es : Array DictEntry} {ep : Nat}, s₁.heap.get? b = some o → o.data = .dict es ep → H b = none := by
      intro b o es ep e dd
      refine Classical.byContradiction fun q => ?_
      obtain ⟨rfl, _⟩ := only b q
      rw [ha] at e
      cases e
      exact nomatch dd
    have spaces : ∀ {b : Addr} {m : Str → Option Value}, s₁.heap.Ns b m → (hidT s₁.heap H).Ns b m := by
      rintro b m ⟨o, es, ep, e, dd, r⟩
      exact ⟨o, es, ep, hidT_get e (plain e dd), dd, r⟩
    have kin' : K.In (hidT s₁.heap H) := by
      intro b o e
      refine hidT_get (kin b o e) (Classical.byContradiction fun q => ?_)
      obtain ⟨rfl, n, _⟩ := only b q
      rw [n] at e
      cases e
    have hok : HOk P w H s₁.heap := by
      intro b u e
      obtain ⟨rfl, _, q⟩ := only b (by rw [e]; exact fun z => nomatch z)
      rw [q] at e
      cases e
      exact ⟨ha, by rw [List.length_map]; exact le63, vs, _, rv, ha⟩
    obtain ⟨ml, l1, l2⟩ := nolim
    have ev : Env0 P w K mg (hidT s₁.heap H) callerA [] s₁ H :=
      ⟨rfl, ⟨kin', spaces hmg, ⟨mb, spaces hmb, hboot⟩, ⟨ml, spaces l1, l2⟩⟩, fun _ _ z => of_hidT z, Nat.le_of_eq (hidT_size _ _), trivial, fun b z => (by cases z), hok, .of_eq hgen⟩
    refine codeAny_mono (run _ H kin' (spaces hmg) ev sq) fun r s' hr => ?_
    rcases r with e | fl
    · exact False.elim hr
    rcases fl with _ | _ | _ | u
    all_goals first | exact False.elim hr | skip
    obtain ⟨v, H', os, bare, un, hok', ru, rfl⟩ := hr
    obtain rfl : u = Value.bool true := ru
    refine ⟨rfl, OldK.of_keep fun b o e => ?_, os, bare⟩
    cases q : H b with
    | none => exact un.keep b o e q (fun z => by cases z) (fun z => by simp at z)
    | some y =>
      obtain ⟨rfl, _, q2⟩ := only b (by rw [q]; exact fun z => nomatch z)
      have old := (hok _ _ q2).1
      have new := (hok' _ _ (un.frzs _ _ _ q2)).1
      rw [e] at old
      cases old
      exact new
  cases z : K.lookup a with
  | none =>
    refine go (scriptH a { cls := .type "list", data := .seq vs.toArray } ns) (fun b q => ?_) (.inl (.inr ⟨_, scriptH_at⟩))
    by_cases e : b = a
    · exact ⟨e, z, scriptH_at⟩
    · exact absurd (scriptH_ne e) q
  | some o =>
    have e := kin a o z
    rw [ha] at e
    cases e
    exact go (fun _ => none) (fun _ q => absurd rfl q) (.inr ⟨_, vs.toArray, _, z, rfl, rfl, rfl, by rw [List.size_toArray, hi.length]; exact le63, by simpa using rv⟩)
/-- a def of the text stands behind the top by its name -/
def Has (K : PySem.W.Frag) (mg : Str → Option Value) (x : Str) (st : Stmt) : Prop := ∃ f fd, Fun K x x st f fd ∧ mg x = some (.ref f)
section
variable {P : Program} {w : World} {K : PySem.W.Frag} {mg : Str → Option Value} {h : Heap}
theorem has_mk {x : Str} {st : Stmt} {f : Addr} {oc kV dc pm cd ct : Value} {od an : Option Addr} {sl : Array (Option Value)} (X : K.In h) (G : h.Ns mainGlobals mg) (a : PySem.W.nsIn K mainGlobals x = some (some (.ref f)))
    (l : K.lookup f = some ⟨oc, od, .func (PySem.W.fnOf x x (defArgs st) (defBody st) (defScope st) .none kV dc pm an cd ct), sl⟩) (c : PySem.W.codeIn K cd x = true) (k : PySem.W.keepIn K (.ref f) = true) : Has K mg x st :=
  ⟨f, _, fun_mk l c k, PySem.W.mg_of X G a⟩
/-- the def that it is: one promise, from the def's own theorem -/
theorem Has.own {base : Heap} {k : Nat} {x : Str} {st : Stmt} {ps : List Str} {sp : Sp} (hs : Has K mg x st) (ok : ∀ f fd, Fun K x x st f fd → FnOk P w K mg base CX0 k f fd ps sp)
    (b : ∀ (kV doc pm : Value) (an : Option Addr) (cdv ct : Value) (us : List Value), us.length = ps.length → bindArgs (PySem.W.fnOf x x (defArgs st) (defBody st) (defScope st) .none kV doc pm an cdv ct) ⟨us, []⟩ = pure (ps.zip us)) : Own P w K mg base k x ps sp := by
  obtain ⟨f, fd, F, m⟩ := hs
  exact ⟨f, fd, ok f fd F, m, F.kp, F.binds b⟩
/-- the end of the row, from what the top has written -/
theorem walk_law {l : PySem.W.OpenLaw} {q : Program} {loose : List Str} {XP : (Str → Option Value) → Heap → Prop} {YP : World → Heap → Prop} {d : DefRec} {K : Params → PySem.W.Frag} (hn : l.most = some 63) (hdf : d.params.defaults = [])
    (hY : ∀ (w : World) (h : Heap), YP w h → (K w.params).In h)
    (F : ∀ (w : World) (mg : Str → Option Value) (fa : Addr) (h : Heap), (K w.params).In h → h.Ns mainGlobals mg → mg d.name = some (.ref fa) →
      ∀ (base : Heap) (s₁ : Shared) (H : Hp) (a : Addr) (ns : List Int), Env0 l.prog w (K w.params) mg base callerA [] s₁ H → SqL (K w.params) H a (ns.map V.int) → ns.length ≤ 63 →
        codeAny (model l.prog w) callerA (.call (.ref fa) ⟨[.ref a], []⟩) (CR CX0 [] l.prog w H s₁ (fun v _ => v = .bl true) fun _ _ _ => False) s₁) :
    PySem.W.WalkO q loose XP YP l.row.toRowW d [] (fun f vs => PySem.call f vs) := by
  refine Att.attach_call hn hdf fun w s₀ s₁ mg mb fa o pm cd doc a vs ns G Y _ _ _ hmg hobj hints hlen hg => ?_
  exact call_law (hY w _ Y) G.T.g G.T.b G.T.builtins G.T.nolimit hg hobj hints hlen fun base H _ _ ev sq => F w mg fa _ (hY w _ Y) G.T.g hmg base s₁ H a ns ev sq hlen
end
end Sw
namespace Sw
open PySem L2
/-- a statement kept to what it is to do, for whatever i stands for -/
def tCutI {ι : Type} (J J' : ι → L2.St → Hp → Prop) : TS := fun D σ H => ∃ i, J i σ H ∧ ∀ σ' H', J' i σ' H' → D.nx σ' H'
theorem ps_cutI {ι : Type} {X : Cx} {st : Stmt} {t : TS} (J J' : ι → L2.St → Hp → Prop) (h : PS X st t) (hJ : ∀ i D σ H, J i σ H → (∀ σ' H', J' i σ' H' → D.nx σ' H') → t D σ H) : PS X st (tCutI J J') :=
  ⟨fun pins s σ H D I q => by
    obtain ⟨i, a, b⟩ := q
    exact h.run pins s σ H D I (hJ i D σ H a b)⟩
theorem int_at {os : List Int} {i : Nat} {x : V} (h : (os.map V.int)[i]? = some x) : ∃ z, os[i]? = some z ∧ x = .int z := by
  rw [List.getElem?_map] at h
  cases q : os[i]? with
  | none => rw [q] at h; cases h
  | some z => rw [q] at h; exact ⟨z, rfl, (Option.some.inj h).symm⟩
end Sw
namespace Sw
open PySem PySem.Spec PyProof.Rows L2
/-! ### defs that call repr: what is around them guards nothing -/
structure FnG (P : Program) (w : World) (K : PySem.W.Frag) (mg : Str → Option Value) (base : Heap) (k : Nat) (f : Addr) (fd : FuncData) (ps : List Str) (sp : Sp) : Prop where
  len : ∀ vs H Q E, sp vs H Q E → vs.length = ps.length
  run : ∀ (A : Around) (outer : List Env) (s : Shared) (H : Hp) (args : Args) (us : List Value) (vs : List V) (Q : VK) (E : XK), Room k A → A.guards = some [] → Env0 P w K mg base A outer s H → BindsTo s fd args (ps.zip us) → Vals vs us → sp vs H Q E →
    codeAny (model P w) A (.call (.ref f) args) (CR CX0 outer P w H s Q E) s
section
variable {P : Program} {w : World} {K : PySem.W.Frag} {mg : Str → Option Value} {base : Heap}
theorem Fun.okG {x qual : Str} {st : Stmt} {f : Addr} {fd : FuncData} {N ps : List Str} {k : Nat} {sp : Sp} (F : Fun K x qual st f fd) (S : FnScope N ps (defScope st)) (len : ∀ vs H Q E, sp vs H Q E → vs.length = ps.length)
    (walk : ∀ (cdv : Value) (A : Around) (outer : List Env) (s : Shared) (H : Hp) (vs : List V) (Q : VK) (E : XK), Room k (A.deeper (envOfC qual (defScope st) s.heap.objs.size f cdv)) → (A.deeper (envOfC qual (defScope st) s.heap.objs.size f cdv)).guards = some [] → sp vs H Q E →
      ∃ t, PSs (cxOf CX0 P w K mg base N qual (defScope st) f cdv A outer s H E).nox (defBody st) t ∧ t { nx := fun _ H' => Q .non H', rt := Q } (start N vs) H) : FnG P w K mg base (k + 1) f fd ps sp :=
  ⟨len, fun A outer s H args us vs Q E hr hg ev hb rv h => run_def F S hr ev hb rv (len _ _ _ _ h) fun cdv => walk cdv A outer s H vs Q E (hr.deeper _) hg h⟩
/-- such a def of one's own, by its name -/
structure OwnG (P : Program) (w : World) (K : PySem.W.Frag) (mg : Str → Option Value) (base : Heap) (k : Nat) (x : Str) (ps : List Str) (sp : Sp) : Prop where
  ex : ∃ f fd, FnG P w K mg base k f fd ps sp ∧ mg x = some (.ref f) ∧ PySem.W.keepIn K (.ref f) = true ∧ Binds K fd ps []
theorem Has.ownG {x : Str} {st : Stmt} {k : Nat} {ps : List Str} {sp : Sp} (h : Has K mg x st) (ok : ∀ f fd, Fun K x x st f fd → FnG P w K mg base k f fd ps sp)
    (b : ∀ (kV doc pm : Value) (an : Option Addr) (cdv ct : Value) (us : List Value), us.length = ps.length → bindArgs (PySem.W.fnOf x x (defArgs st) (defBody st) (defScope st) .none kV doc pm an cdv ct) ⟨us, []⟩ = pure (ps.zip us)) : OwnG P w K mg base k x ps sp := by
  obtain ⟨f, fd, F, m⟩ := h
  exact ⟨f, fd, ok f fd F, m, F.kp, F.binds b⟩
end
section
variable {X : Cx} {k : Nat} {f : Addr} {fd : FuncData} {ps : List Str} {sp : Sp} {E : XK} {x : Str} {p pos : Pos} {e : Expr} {es : List Expr} {t : TA}
theorem pe_callG (F : FnG X.prog X.w X.K X.mg X.base k f fd ps sp) (hr : Room k X.A) (hgd : X.A.guards = some []) (hg : Gl X x) (hm : X.mg x = some (.ref f)) (hk : PySem.W.keepIn X.K (.ref f) = true) (hb : Binds X.K fd ps []) (hx : Passes CX0 X E)
    (ha : PA X (e :: es) t) (hdb : (x == ("__debug__" : Str)) = false := by decide) (he : starEach (e :: es) X.env = (false, eval e X.env) :: starEach es X.env := by rfl) (hpl : (backTo pos (starEach es X.env)).any (·.1) = false := by rfl) :
    PE X (.Call (.Name x p) (e :: es) [] pos) (tCall sp [] E t) := by
  refine ⟨fun pins s σ H Q I h => wpAny_Call_Name_kw (ld_glob I hg hm ?_ hdb)⟩
  refine PySem.W.callWith_K (h₀ := X.base) I.ok.mod.kin hk (thn (ha.run pos pins s σ H _ I h) fun us s1 ⟨vs, H1, I1, r, q⟩ => ⟨I1.kIn, ?_⟩) he hpl
  have q : sp (vs ++ []) H1 Q E := q
  rw [List.append_nil] at q
  have hl : us.length = ps.length := by
    rw [← r.length]
    exact F.len _ _ _ _ q
  have b := hb s1 us I1.kIn (by rw [List.append_nil]; exact hl)
  rw [List.append_nil] at b
  refine wpAny_call (codeAny_mono (F.run X.A X.stack s1 H1 ⟨us, []⟩ us vs Q E hr hgd I1.env0 b r q) fun r s' hq => ?_)
  rcases r with e | fl
  · exact hx pins σ H1 s1 e s' I1 hq
  rcases fl with _ | _ | _ | u
  all_goals first | exact hq.elim | skip
  exact I1.after hq
/-- repr(t), t a tuple of data -/
def rReprT (K : PySem.W.Frag) : List V → Hp → VK → Prop := fun xs H Q => ∃ x ds as, xs = [x] ∧ Rep K H (.tup ds) x as ∧ smallAll ds ∧ wtAll ds ≤ 10000000 ∧ depAll ds ≤ 30 ∧ Q (.str (shown (.tup ds))) H
theorem call_reprT {X : Cx} {k : Nat} (hr : Room k X.A) (hg : X.A.guards = some []) : CallR X (.builtin "repr") (rReprT X.K) := by
  intro pins s σ H xs us Q I r h
  obtain ⟨x, ds, as, rfl, hd, sm, z, dp, q⟩ := h
  obtain ⟨u, rfl, hu⟩ := vals1 r
  have un := hr.units
  have hz : wt (.tup ds) ≤ sizeLine := by
    rw [sizeLine_eq]
    simp only [wt]
    omega
  have hsh : (tupleText (shownAll ds)).length ≤ sizeLine := by
    have h1 := shown_wt (.tup ds)
    simp only [shown] at h1
    omega
  simp only [Rep] at hd
  obtain ⟨a, ys, bs, rfl, ha, ra, na, rfl⟩ := hd
  cases (show u = Value.ref a from hu)
  obtain ⟨_, its, rv, o, h1, h2, n, h3⟩ := (show ObjOk X.prog X.w H s.heap a (.tup ys) from I.hok a _ ha)
  have kr := RepAll.shows I.hok I.kIn ra rv sm (by simp only [wt] at hz; omega) (depAll ds) (Nat.le_refl _)
  have hT : s.TypeIs (.ref a) "tuple" := ⟨o, h1, h2⟩
  simp only [shown] at q
  refine call_repr_slot (by omega) hT PySem.F.slot_tuple_repr ?_
  exact call_tuple_reprK (h₀ := s.heap) (d := depAll ds) h1 h2 h3 na (by simpa using kr) (g := []) hg (fun b _ => Clear.nil b) (by show X.A.units + 1 + _ < cLine; omega) (fun _ _ e => e) (fun h' u tk hk => ⟨_, _, rfl, .str _, H, I.kept (t' := tk) hk, ⟨_, rfl⟩, q⟩) hsh
end
end Sw
namespace Sw
open PySem PySem.Spec PyProof.Rows L2 LamX
/-! ### spread: breadth first -/
abbrev sSpread : Stmt := top 13
abbrev nSpread : List Str := ["first", "onward_from", "fewest", "front", "beyond", "one", "other"]
theorem scSpread : FnScope nSpread ["first", "onward_from"] (defScope sSpread) := ⟨rfl, rfl, rfl, by decide +kernel, rfl, by decide +kernel, by decide +kernel⟩
/-- things with their numbers, as a dict -/
def knV (ks : List (Int × Nat)) : List (Key × V) := ks.map fun p => ((Sum.inl p.1 : Key), V.int p.2)
theorem kn_len (ks : List (Int × Nat)) : (knV ks).length = ks.length := List.length_map _
theorem kn_app (ks : List (Int × Nat)) (v : Int) (k : Nat) : knV (ks ++ [(v, k)]) = knV ks ++ [(.inl v, .int k)] := by
  unfold knV
  rw [List.map_append]
  rfl
theorem kn_val : ∀ {ks : List (Int × Nat)} {v : Int} {k : Nat}, (ks.map Prod.fst).Nodup → (v, k) ∈ ks → valV (knV ks) (.inl v) = some (.int k)
  | [], _, _, _, h => by cases h
  | (u, j) :: r, v, k, nd, h => by
    rw [List.map_cons] at nd
    obtain ⟨nn, nd⟩ := List.nodup_cons.mp nd
    show valV ((.inl u, .int j) :: knV r) (.inl v) = _
    unfold valV
    rw [List.find?_cons]
    by_cases e : u = v
    · subst e
      rcases List.mem_cons.mp h with z | z
      · cases z
        rw [decide_eq_true rfl]
        rfl
      · exact absurd (List.mem_map.mpr ⟨_, z, rfl⟩) nn
    · rw [decide_eq_false (fun z => e (Sum.inl.inj z))]
      rcases List.mem_cons.mp h with z | z
      · cases z
        exact absurd rfl e
      · exact kn_val nd z
theorem kn_mem {ks : List (Int × Nat)} {v : Int} {x : V} (h : valV (knV ks) (.inl v) = some x) : ∃ k, (v, k) ∈ ks ∧ x = .int (k : Nat) := by
  obtain ⟨q, hq, e⟩ := List.mem_map.mp (valV_mem h)
  obtain ⟨u, j⟩ := q
  cases e
  exact ⟨j, hq, rfl⟩
theorem kn_none {ks : List (Int × Nat)} {v : Int} (h : valV (knV ks) (.inl v) = none) (nd : (ks.map Prod.fst).Nodup) : ∀ k, (v, k) ∉ ks := fun k z => by
  rw [kn_val nd z] at h
  cases h
theorem Known.few {next : Int → List Int} {s n : Int} {ks : List (Int × Nat)} {L : Nat} {P : Int → Prop} (h : Known next s ks L P) (hs : 0 ≤ s ∧ s < n) (hn : ∀ v w, 0 ≤ v ∧ v < n → w ∈ next v → 0 ≤ w ∧ w < n) (hP : ∀ v, P v → 0 ≤ v ∧ v < n) : ks.length ≤ n.toNat := by
  have q := pig n.toNat (ks.map Prod.fst) h.nd fun v hv => by
    obtain ⟨⟨u, j⟩, hq, rfl⟩ := List.mem_map.mp hv
    have b : 0 ≤ u ∧ u < n := by
      rcases (h.is u j).mp hq with ⟨_, d⟩ | ⟨_, p, _⟩
      · exact d.1.inn hs hn
      · exact hP u p
    exact ⟨b.1, by have := b.2; omega⟩
  rwa [List.length_map] at q
/-- what spread makes of a first thing and what tells the next ones -/
def SPs (next : Int → List Int) (n : Int) : V → (V → Hp → VK → Prop) → Hp → VK → Prop := fun y tl H Q => ∃ s : Int, y = .int s ∧ (0 ≤ s ∧ s < n) ∧ n ≤ 1000 ∧ (∀ v w, 0 ≤ v ∧ v < n → w ∈ next v → 0 ≤ w ∧ w < n) ∧
  (∀ v, 0 ≤ v ∧ v < n → ∀ Z Q', Same H Z → (∀ la, H la = some (.lst ((next v).map V.int)) → Q' (.ref la) Z) → tl (.int v) Z Q') ∧
  ∀ (r : Addr) (ks : List (Int × Nat)) (Z : Hp), Same H Z → H r = none → Z r = some (.dK (knV ks)) → (ks.map Prod.fst).Nodup → (∀ v k, (v, k) ∈ ks ↔ Dist next s v k) → Q (.ref r) Z
/-- the state within the loops -/
structure Mid (next : Int → List Int) (s : Int) (HS H : Hp) (kd fa ba : Addr) (fr : List Int) (L : Nat) (ks0 ks : List (Int × Nat)) (nw : List Int) (P : Int → Prop) : Prop where
  sm : Same HS H
  d : H kd = some (.dK (knV ks))
  f : H fa = some (.lst (fr.map V.int))
  g : H ba = some (.lst (nw.map V.int))
  kn : Known next s ks L P
  by_ : Beyond next s nw L P
  len : ks.length = ks0.length + nw.length
theorem Mid.same {next : Int → List Int} {s : Int} {HS H H' : Hp} {kd fa ba : Addr} {fr : List Int} {L : Nat} {ks0 ks : List (Int × Nat)} {b : List Int} {P : Int → Prop} (h : Mid next s HS H kd fa ba fr L ks0 ks b P) (e : Same H H') : Mid next s HS H' kd fa ba fr L ks0 ks b P :=
  ⟨h.sm.trans e, e _ _ h.d, e _ _ h.f, e _ _ h.g, h.kn, h.by_, h.len⟩
/-- what came of the first i of the front, and of the first j behind v -/
def Pij (next : Int → List Int) (fr : List Int) (i : Nat) (v : Int) (j : Nat) : Int → Prop := fun w => (∃ u, u ∈ fr.take i ∧ w ∈ next u) ∨ w ∈ (next v).take j
def Pi_ (next : Int → List Int) (fr : List Int) (i : Nat) : Int → Prop := fun w => ∃ u, u ∈ fr.take i ∧ w ∈ next u
theorem pi0 {next : Int → List Int} {fr : List Int} (w : Int) : Pi_ next fr 0 w ↔ False := by
  unfold Pi_
  rw [List.take_zero]
  simp
theorem pij_zero {next : Int → List Int} {fr : List Int} {i : Nat} {v : Int} (w : Int) : Pi_ next fr i w ↔ Pij next fr i v 0 w := by
  unfold Pi_ Pij
  rw [List.take_zero]
  simp
theorem pij_succ {next : Int → List Int} {fr : List Int} {i j : Nat} {v z : Int} (e : (next v)[j]? = some z) (w : Int) : (Pij next fr i v j w ∨ w = z) ↔ Pij next fr i v (j + 1) w := by
  unfold Pij
  rw [List.take_add_one, e]
  simp only [Option.toList_some, List.mem_append, List.mem_singleton]
  rw [or_assoc]
theorem pij_last {next : Int → List Int} {fr : List Int} {i : Nat} {v : Int} (e : fr[i]? = some v) (w : Int) : Pij next fr i v (next v).length w ↔ Pi_ next fr (i + 1) w := by
  unfold Pij Pi_
  rw [List.take_add_one, e, List.take_length]
  simp only [Option.toList_some, List.mem_append, List.mem_singleton]
  constructor
  · rintro (⟨u, hu, hw⟩ | hw)
    · exact ⟨u, .inl hu, hw⟩
    · exact ⟨v, .inr rfl, hw⟩
  · rintro ⟨u, hu | rfl, hw⟩
    · exact .inl ⟨u, hu, hw⟩
    · exact .inr hw
/-- the while's state: so much is left -/
def WSp (next : Int → List Int) (s n : Int) (HS : Hp) (f kd : Addr) (m : Nat) (σ : L2.St) (H : Hp) : Prop := ∃ (ks : List (Int × Nat)) (fr : List Int) (fa : Addr) (L : Nat) (s4 s5 s6 : Option V), σ = [some (.int s), some (.ref f), some (.ref kd), some (.ref fa), s4, s5, s6] ∧ Same HS H ∧ H kd = some (.dK (knV ks)) ∧ H fa = some (.lst (fr.map V.int)) ∧
  Known next s ks L (fun _ => False) ∧ (∀ v, v ∈ fr ↔ Dist next s v L) ∧ (n.toNat - ks.length) + fr.length = m
section
variable {X : Cx} {g : Addr} {cdg : Value} {q : Str} {next : Int → List Int} {n : Int}
theorem gives_spread : Gives X nSpread "spread" (defScope sSpread) g cdg (defBody sSpread) "onward_from" q 2 (SPs next n) := by
  intro f c' s0 HS y Q tl hr act hc h
  obtain ⟨s, rfl, hs, n12, hn, htl, k⟩ := h
  have hu := hu_of hr
  refine ⟨_, pss_cons (ps_set (i := 2) scSpread.nd rfl (.inl rfl) (pe_disp (pps_cons (pv 0) pe_int pps_nil) (by rfl) (by rfl) (by simp) (by decide))) <|
    pss_cons (ps_set (i := 3) scSpread.nd rfl (.inl rfl) (pe_lst (pa_cons (pv 0) pa_nil))) <|
    pss_cons (ps_while PassesOwn.never (pt_truth (pv 3) (fun _ => rfl))
      (pss_cons (ps_set (i := 4) scSpread.nd rfl (.inl rfl) (pe_lst pa_nil)) <|
      pss_cons (ps_for PassesOwn.never rfl (pi_list (pv 3)) (pg_name (i := 5) scSpread.nd rfl (.inl rfl))
        (pss_one (ps_for PassesOwn.never rfl (pi_list (act _ _ _ _ (pa_cons (pv 5) pa_nil) rfl rfl)) (pg_name (i := 6) scSpread.nd rfl (.inl rfl))
          (pss_one (ps_if (pt_cmp (pc_dnotin hu (pv 6) (pv 2)))
            (pss_cons (ps_dput hu (pv 2) (pv 6) (pe_op op_add (pe_dget hu (pv 2) (pv 5) (fun _ _ => rfl)) pe_int) rfl) <|
            pss_one (ps_expr (pe_bm PySem.F.plainAttrs_list PySem.F.slot_list_append PySem.F.type_list_append mt_append (pv 4) (pa_cons (pv 6) pa_nil)))) pss_nil))))) <|
      pss_one (ps_set (i := 3) scSpread.nd rfl (.inl rfl) (pv 4)))) <|
    pss_one (ps_ret (pv 2)), ?_⟩
  refine fun kd nkd => ⟨_, rfl, ⟨by rw [upd_same], [(.inl s, .int 0)], rfl, by show 1 ≤ 15; decide, ?_⟩⟩
  have hk0 : (upd (upd HS kd (.dK [])) kd (.dK (mergeK [] [(.inl s, .int 0)]))) kd = some (.dK (knV [(s, 0)])) := by rw [upd_same]; rfl
  have sm0 : Same HS (upd (upd HS kd (.dK [])) kd (.dK (mergeK [] [(.inl s, .int 0)]))) := fun b o e => by
    rw [upd_ne (ne_of_none e nkd), upd_ne (ne_of_none e nkd)]
    exact e
  generalize (upd (upd HS kd (.dK [])) kd (.dK (mergeK [] [(.inl s, .int 0)]))) = H1 at hk0 sm0 ⊢
  refine ⟨_, rfl, by show 1 ≤ sizeLine; decide, fun fa0 nfa0 => ?_⟩
  have sf := same_new (o := .lst [.int s]) nfa0
  have hk1 := sf _ _ hk0
  have hf1 : (upd H1 fa0 (.lst [.int s])) fa0 = some (.lst (([s] : List Int).map V.int)) := upd_same
  have sm1 := sm0.trans sf
  generalize (upd H1 fa0 (.lst [.int s])) = H2 at hk1 hf1 sm1 ⊢
  refine ⟨WSp next s n HS f kd, ⟨_, [(s, 0)], [s], fa0, 0, none, none, none, rfl, sm1, hk1, hf1, .start, fun v => ?_, rfl⟩, ?_⟩
  · rw [List.mem_singleton]
    constructor
    · rintro rfl
      exact ⟨.nil _, fun j hj => absurd hj (Nat.not_lt_zero _)⟩
    · intro d
      exact d.1.zero
  rintro m σ H3 ⟨ks0, fr, fa, L, s4, s5, s6, rfl, sm3, hk3, hf3, kn0, hfr, hm⟩
  refine ⟨_, rfl, _, .inl ⟨_, SqL.of hf3, rfl⟩, ite2 (fun yes => ?_) (fun no => ?_)⟩
  · refine ⟨fun σ' H' => ∃ m', m' < m ∧ WSp next s n HS f kd m' σ' H', fun _ _ h => h, ?_⟩
    have fpos : 0 < fr.length := by
      cases fr with
      | nil => cases yes
      | cons a r => exact Nat.succ_pos _
    have inFr : ∀ v, v ∈ fr → 0 ≤ v ∧ v < n := fun v hv => ((hfr v).mp hv).1.inn hs hn
    refine ⟨Nat.zero_le _, fun ba nba => ?_⟩
    have sb := same_new (o := .lst []) nba
    have bk : ba ≠ kd := fun z => by rw [z, hk3] at nba; cases nba
    have fb : fa ≠ ba := fun z => by rw [← z, hf3] at nba; cases nba
    have fk : fa ≠ kd := fun z => by rw [z, hk3] at hf3; cases hf3
    have nba0 : HS ba = none := sm3.free nba
    have mid0 : Mid next s HS (upd H3 ba (.lst [])) kd fa ba fr L ks0 ks0 [] (Pi_ next fr 0) :=
      ⟨sm3.trans sb, sb _ _ hk3, sb _ _ hf3, upd_same, kn0.congr fun v => (pi0 v).symm, fun v => ⟨fun h => (List.not_mem_nil h).elim, fun h => ((pi0 v).mp h.1).elim⟩, rfl⟩
    generalize (upd H3 ba (.lst [])) = H4 at mid0 ⊢
    clear sb nba hk3 hf3 sm3
    refine ⟨_, rfl, fa, rfl, ⟨_, SqL.of mid0.f⟩, for_it (walk_list (xs := fr.map V.int)) (fun i σ H' => ∃ ks nw s5 s6, σ = [some (.int s), some (.ref f), some (.ref kd), some (.ref fa), some (.ref ba), s5, s6] ∧ Mid next s HS H' kd fa ba fr L ks0 ks nw (Pi_ next fr i))
      ⟨ks0, [], _, _, rfl, mid0⟩ (fun i σ H' _ h => by obtain ⟨_, _, _, _, _, M⟩ := h; exact SqL.of M.f) ?_ ?_⟩
    · rintro i x σ H5 H6 hi ⟨ks, nw, s5, s6, rfl, M⟩ ⟨rfl, ex⟩
      obtain ⟨v, ev, rfl⟩ := int_at ex
      have hv := inFr v (List.mem_of_getElem? ev)
      have inP : ∀ j w, Pij next fr i v j w → 0 ≤ w ∧ w < n := fun j w h => by
        rcases h with ⟨u, hu, hw⟩ | hw
        · exact hn u w (inFr u (List.mem_of_mem_take hu)) hw
        · exact hn v w hv (List.mem_of_mem_take hw)
      refine ⟨rfl, _, rfl, _, rfl, M.sm _ _ hc, htl v hv _ _ M.sm fun la hla => ⟨la, rfl, ⟨_, SqL.of (M.sm _ _ hla)⟩, ?_⟩⟩
      refine for_it (walk_list (xs := (next v).map V.int)) (fun j σ H' => ∃ ks nw s6, σ = [some (.int s), some (.ref f), some (.ref kd), some (.ref fa), some (.ref ba), some (.int v), s6] ∧ Mid next s HS H' kd fa ba fr L ks0 ks nw (Pij next fr i v j))
        ⟨ks, nw, _, rfl, ⟨M.sm, M.d, M.f, M.g, M.kn.congr pij_zero, M.by_.congr pij_zero, M.len⟩⟩ (fun j σ H' _ h => by obtain ⟨_, _, _, _, M⟩ := h; exact SqL.of (M.sm _ _ hla)) ?_ ?_
      · rintro j x σ H6 H7 hj ⟨ks, nw, s6, rfl, M⟩ ⟨rfl, ey⟩
        obtain ⟨z, ez, rfl⟩ := int_at ey
        refine ⟨_, rfl, _, rfl, kd, _, rfl, DGet.k (k := .inl z) M.d, ?_⟩
        cases em : valV (knV ks) (.inl z : Key) with
        | some y =>
          obtain ⟨k0, hk0, _⟩ := kn_mem em
          obtain ⟨g1, g2⟩ := M.kn.again M.by_ hk0
          exact ⟨_, rfl, iteF ⟨ks, nw, _, rfl, ⟨M.sm, M.d, M.f, M.g, g1.congr (pij_succ ez), g2.congr (pij_succ ez), M.len⟩⟩⟩
        | none =>
          obtain ⟨g1, g2⟩ := M.kn.add M.by_ (kn_none em M.kn.nd)
          have few := M.kn.few hs hn (inP j)
          have vL : (v, L) ∈ ks := (M.kn.is v L).mpr (.inl ⟨Nat.le_refl _, (hfr v).mp (List.mem_of_getElem? ev)⟩)
          refine ⟨_, rfl, iteT ?_⟩
          refine ⟨_, rfl, _, rfl, kd, .int (L : Nat), rfl, by rw [← kn_val M.kn.nd vL]; exact DGet.k (k := .inl v) M.d, _, _, rfl, rfl, ?_⟩
          refine ⟨_, rfl, _, rfl, kd, _, rfl, DPut.k (k := .inl z) M.d (by rw [kn_len, sizeLine_eq]; omega), ?_⟩
          rw [putK_new _ em, show knV ks ++ [((.inl z : Key), V.int ((L : Nat) + 1))] = knV (ks ++ [(z, L + 1)]) from (kn_app ks z (L + 1)).symm]
          have d1 : (upd H7 kd (.dK (knV (ks ++ [(z, L + 1)])))) kd = some (.dK (knV (ks ++ [(z, L + 1)]))) := upd_same
          have g0 : (upd H7 kd (.dK (knV (ks ++ [(z, L + 1)])))) ba = some (.lst (nw.map V.int)) := by rw [upd_ne bk]; exact M.g
          have f1 : (upd H7 kd (.dK (knV (ks ++ [(z, L + 1)])))) fa = some (.lst (fr.map V.int)) := by rw [upd_ne fk]; exact M.f
          have t1 : Same HS (upd H7 kd (.dK (knV (ks ++ [(z, L + 1)])))) := fun b o e => by
            rw [upd_ne (ne_of_none e nkd)]
            exact M.sm _ _ e
          generalize (upd H7 kd (.dK (knV (ks ++ [(z, L + 1)])))) = H8 at d1 g0 f1 t1 ⊢
          have nl := M.len
          refine ⟨_, rfl, .inl ⟨rfl, _, SqL.of g0⟩, _, rfl, ba, _, .int z, rfl, rfl, g0, by rw [List.length_map, sizeLine_eq]; omega, ?_⟩
          refine ⟨ks ++ [(z, L + 1)], nw ++ [z], _, rfl, ⟨fun b o e => ?_, by rw [upd_ne bk.symm]; exact d1, by rw [upd_ne fb]; exact f1, by rw [upd_same, List.map_append]; rfl, g1.congr (pij_succ ez), g2.congr (pij_succ ez), by rw [List.length_append, List.length_append, nl]; rfl⟩⟩
          rw [upd_ne (ne_of_none e nba0)]
          exact t1 _ _ e
      · rintro σ H6 ⟨ks, nw, s6, rfl, M⟩
        rw [List.length_map] at M
        exact ⟨ks, nw, _, _, rfl, ⟨M.sm, M.d, M.f, M.g, M.kn.congr (pij_last ev), M.by_.congr (pij_last ev), M.len⟩⟩
    · rintro σ H5 ⟨ks, nw, s5, s6, rfl, M⟩
      have hP : ∀ w, Pi_ next fr (fr.map V.int).length w ↔ ∃ v, v ∈ fr ∧ w ∈ next v := fun w => by
        unfold Pi_
        rw [List.length_map, List.take_length]
      obtain ⟨kn1, hb⟩ := M.kn.level M.by_ hfr hP
      have few := M.kn.few hs hn fun w hw => by
        obtain ⟨u, hu, hw⟩ := (hP w).mp hw
        exact hn u w (inFr u hu) hw
      have nl := M.len
      exact ⟨_, rfl, _, by omega, ks, nw, ba, L + 1, _, _, _, rfl, M.sm, M.d, M.g, kn1, hb, rfl⟩
  · have e0 : fr = [] := by
      cases fr with
      | nil => rfl
      | cons a r => exact absurd rfl no
    exact ⟨_, rfl, k kd ks0 H3 sm3 nkd hk3 kn0.nd (kn0.done fun v d => by have := (hfr v).mpr d; rw [e0] at this; cases this)⟩
end
end Sw
namespace Sw
open PySem L2
/-! ### leads -/
abbrev sLeads : Stmt := top 14
abbrev nLeads : List Str := ["net", "n", "arrows", "ahead", "v", "w", "_"]
theorem scLeads : FnScope nLeads ["net"] (defScope sLeads) := ⟨rfl, rfl, rfl, by decide +kernel, rfl, by decide +kernel, by decide +kernel⟩
section
variable {P : Program} {w : World} {K : PySem.W.Frag} {mg : Str → Option Value} {base : Heap}
def spLeads : Sp := fun vs H Q _ => ∃ (a b : Addr) (n : Int) (ts : List V) (ars : List (Int × Int)), vs = [.ref a] ∧ NetAt n H a b ts ∧ ArsAt H ts ars ∧ ∀ (f : Addr) (ls : List Addr) (H' : Hp), Same H H' → H f = none → H' f = some (.lst (ls.map V.ref)) → (ls.length : Int) = n → (∀ (v : Nat) (l : Addr), ls[v]? = some l → H l = none ∧ H' l = some (.lst ((outs ars v).map V.int))) → Q (.ref f) H'
theorem ok_leads {f : Addr} {fd : FuncData} (F : Fun K "leads" "leads" sLeads f fd) (B : NoNames mg) : FnOk P w K mg base CX0 1 f fd ["net"] spLeads := by
  refine F.ok scLeads (fun vs H Q E h => ?_) (fun cdv A outer s H vs Q E hr h => ?_)
  · obtain ⟨a, b, n, ts, ars, rfl, _⟩ := h
    rfl
  · obtain ⟨a, b, n, ts, ars, rfl, N, AR, k⟩ := h
    refine ⟨_, pss_cons (ps_asg (pv 0) (pg_tup (by rfl) (pgs_cons (pg_name (i := 1) scLeads.nd rfl (.inl rfl)) (pgs_cons (pg_name (i := 2) scLeads.nd rfl (.inl rfl)) pgs_nil)))) <|
      pss_cons (ps_setLc (i := 3) (own := [("_", 6)]) (g := gName 6) (tt := tYes) rfl scLeads.nd rfl rfl (sw_true rfl rfl rfl (by decide +kernel)) (pi_range1 (by rfl) B.range (pa_cons (pv 1) pa_nil)) (blkOk_by (own := [("_", 6)]) (N := nLeads) (sc := defScope sLeads) (by decide +kernel))
        (fun _ _ _ _ _ => pg_name (i := 6) scLeads.nd rfl (Or.inl rfl)) (fun _ _ _ _ _ => pts_nil) (fun _ _ _ _ _ => pe_lst pa_nil)) <|
      pss_cons (ps_for PassesOwn.never rfl (pi_tup (pv 2)) (pg_tup rfl (pgs_cons (pg_name (i := 4) scLeads.nd rfl (.inl rfl)) (pgs_cons (pg_name (i := 5) scLeads.nd rfl (.inl rfl)) pgs_nil)))
        (pss_one (ps_expr (pe_bm PySem.F.plainAttrs_list PySem.F.slot_list_append PySem.F.type_list_append mt_append (pe_ix ix_list (pv 3) (pv 4) (fun _ _ => rfl)) (pa_cons (pv 5) pa_nil))))) <|
      pss_one (ps_ret (pv 3)), ?_⟩
    have n1 := N.n1
    have n2 := N.n2
    refine ⟨_, rfl, a, _, rfl, SqT.of N.a, rfl, _, _, rfl, _, _, rfl, rfl, ?_⟩
    refine ⟨_, rfl, n, rfl, by omega, by omega, fun g ng => ?_⟩
    refine lc_it walk_range (fun j H' => ∃ ls : List Addr, H' g = some (.lst (ls.map V.ref)) ∧ ls.length = j ∧ Same H H' ∧ ls.Nodup ∧ ∀ l ∈ ls, H l = none ∧ H' l = some (.lst [])) ⟨[], upd_same, rfl, same_new ng, List.nodup_nil, fun _ h => absurd h (by simp)⟩ (fun _ _ _ _ => trivial) ?_ ?_
    · rintro j x Hb Ha hj ⟨ls, h1, h2, h3, hn, h4⟩ ⟨rfl, rfl⟩
      refine ⟨rfl, ?_⟩
      refine ⟨by show 0 ≤ sizeLine; exact Nat.zero_le _, fun q nq => ?_⟩
      have sq : Same Ha (upd Ha q (.lst [])) := same_new nq
      have gq : g ≠ q := fun z => by
        rw [← z, h1] at nq
        cases nq
      refine ⟨_, sq _ _ h1, by rw [List.length_map, h2, sizeLine_eq]; omega, ls ++ [q], by rw [upd_same, List.map_append]; rfl, by rw [List.length_append, h2]; rfl, fun c o e => ?_, List.nodup_append.mpr ⟨hn, by simp, fun c hc c2 hc2 z => ?_⟩, fun l hl => ?_⟩
      · rw [upd_ne (ne_of_none e ng)]
        exact sq _ _ (h3 _ _ e)
      · rw [List.mem_singleton.mp hc2] at z
        rw [← z, (h4 c hc).2] at nq
        cases nq
      · rcases List.mem_append.mp hl with hl | hl
        · have lg : l ≠ g := IntsAt.ne (n := 0) (m := 0) ⟨[], (h4 l hl).2, fun _ h => absurd h (by simp), Nat.le_refl _⟩ h1 hl
          exact ⟨(h4 l hl).1, by rw [upd_ne lg]; exact sq _ _ (h4 l hl).2⟩
        · rw [List.mem_singleton.mp hl]
          exact ⟨h3.free nq, by rw [upd_ne gq.symm, upd_same]⟩
    · rintro Ha ⟨ls, h1, h2, h3, hn, h4⟩
      have N2 := N.keep (.of h3)
      refine ⟨_, rfl, b, rfl, ⟨_, SqT.of N2.b⟩, for_it (walk_tup (xs := ts)) (fun i σ H' => (∃ s2 s3, σ = [some (.ref a), some (.int n), some (.ref b), some (.ref g), s2, s3, none]) ∧ Same H H' ∧ H' g = some (.lst (ls.map V.ref)) ∧ ∀ (v : Nat) (l : Addr), ls[v]? = some l → H l = none ∧ H' l = some (.lst ((outs (ars.take i) v).map V.int)))
        ⟨⟨_, _, rfl⟩, h3, h1, fun v l hv => h4 l (List.mem_of_getElem? hv)⟩ (fun i σ H' _ h => SqT.of ((N.keep (.of h.2.1)).b)) ?_ ?_⟩
      · rintro i x σ H2 H1 hi ⟨⟨s2, s3, rfl⟩, s1, g1, hl⟩ ⟨rfl, ex⟩
        obtain ⟨e, t, he, rfl, ht0⟩ := AR.at ex
        have ht := s1 _ _ ht0
        obtain ⟨t', v, w', et, ht', hv, hw⟩ := N.arr _ (List.mem_of_getElem? ex)
        cases et
        rw [ht0] at ht'
        have e1 : e.1 = v := by
          injection Option.some.inj ht' with q
          injection q with q1 _
          exact V.int.inj q1
        refine ⟨t, _, rfl, SqT.of ht, rfl, _, _, rfl, _, _, rfl, rfl, ?_⟩
        obtain ⟨jv, hjv0⟩ := Int.eq_ofNat_of_zero_le (show 0 ≤ e.1 by rw [e1]; exact hv.1)
        have hjv : jv < ls.length := by
          have := hv.2
          omega
        have hm : ls[jv]? = some ls[jv] := List.getElem?_eq_getElem hjv
        obtain ⟨l0, c0⟩ := hl _ _ hm
        have lg : ls[jv] ≠ g := fun z => by
          rw [z, g1] at c0
          injection Option.some.inj c0 with q
          have q2 := congrArg List.head? q
          cases hls : ls with
          | nil =>
            rw [hls] at hjv
            exact absurd hjv (Nat.not_lt_zero _)
          | cons u us =>
            rw [hls] at q2
            cases ho : outs (ars.take i) jv with
            | nil =>
              rw [ho] at q2
              cases q2
            | cons y ys =>
              rw [ho] at q2
              injection q2 with q3
              cases q3
        have tl := N.len
        have ol : (outs (ars.take i) jv).length ≤ 200 := Nat.le_trans outs_len (by rw [List.length_take]; have := AR.len; omega)
        refine ⟨_, rfl, _, rfl, g, _, _, .ref ls[jv], rfl, rfl, SqL.of g1, at_of (j := jv) hjv0 (by rw [List.getElem?_map, hm]; rfl), .inl ⟨rfl, _, SqL.of c0⟩, _, rfl, ls[jv], _, _, rfl, rfl, c0, by rw [List.length_map, sizeLine_eq]; omega, ?_⟩
        refine ⟨⟨_, _, rfl⟩, fun c o ec => ?_, by rw [upd_ne lg.symm]; exact g1, fun u l hu => ⟨(hl u l hu).1, ?_⟩⟩
        · rw [upd_ne (ne_of_none ec l0)]
          exact s1 _ _ ec
        · rw [outs_succ he]
          by_cases q : l = ls[jv]
          · have hu2 : u = jv := nd_ix hn hu (by rw [hm, q])
            subst hu2
            rw [q, upd_same, if_pos hjv0, List.map_append]
            rfl
          · have hu2 : ¬ e.1 = (u : Int) := fun z => q (by
              have : u = jv := by omega
              subst this
              rw [hm] at hu
              exact (Option.some.inj hu).symm)
            rw [upd_ne q, if_neg hu2, List.append_nil]
            exact (hl u l hu).2
      · rintro σ H1 ⟨⟨s2, s3, rfl⟩, s1, g1, hl⟩
        refine ⟨_, rfl, k g ls H1 s1 ng g1 (by omega) fun v l hv => ?_⟩
        have q := hl v l hv
        rw [AR.len, List.take_length] at q
        exact q
end
end Sw
namespace Sw
open PySem PySem.Spec PyProof.Rows L2 LamX
/-! ### fewest_from -/
/-- a def of the text, its code object told -/
structure FunC (K : PySem.W.Frag) (x qual : Str) (st : Stmt) (f : Addr) (fd : FuncData) (c : Addr) : Prop where
  ex : ∃ (oc : Value) (od : Option Addr) (kV doc pm : Value) (an : Option Addr) (ct : Value) (osl : Array (Option Value)),
    fd = PySem.W.fnOf x qual (defArgs st) (defBody st) (defScope st) .none kV doc pm an (.ref c) ct ∧ K.lookup f = some ⟨oc, od, .func fd, osl⟩ ∧ PySem.W.codeIn K (.ref c) qual = true
  kp : PySem.W.keepIn K (.ref f) = true
theorem FunC.fun {K : PySem.W.Frag} {x qual : Str} {st : Stmt} {f : Addr} {fd : FuncData} {c : Addr} (F : FunC K x qual st f fd c) : Fun K x qual st f fd := by
  obtain ⟨oc, od, kV, doc, pm, an, ct, osl, h1, h2, h3⟩ := F.ex
  exact ⟨⟨oc, od, kV, doc, pm, an, .ref c, ct, osl, h1, h2, h3⟩, F.kp⟩
section
variable {P : Program} {w : World} {K : PySem.W.Frag} {mg : Str → Option Value} {base : Heap}
theorem FunC.ok {x qual : Str} {st : Stmt} {f c : Addr} {fd : FuncData} {N ps : List Str} {k : Nat} {sp : Sp} (F : FunC K x qual st f fd c) (S : FnScope N ps (defScope st)) (len : ∀ vs H Q E, sp vs H Q E → vs.length = ps.length)
    (walk : ∀ (A : Around) (outer : List Env) (s : Shared) (H : Hp) (vs : List V) (Q : VK) (E : XK), Room k (A.deeper (envOfC qual (defScope st) s.heap.objs.size f (.ref c))) → sp vs H Q E →
      ∃ t, PSs (cxOf CX0 P w K mg base N qual (defScope st) f (.ref c) A outer s H E).nox (defBody st) t ∧ t { nx := fun _ H' => Q .non H', rt := Q } (start N vs) H) : FnOk P w K mg base CX0 (k + 1) f fd ps sp := by
  obtain ⟨oc, od, kV, doc, pm, an, ct, osl, rfl, lk, hcd⟩ := F.ex
  refine fn_of lk hcd S len fun A outer s H vs Q E hr hsp => ?_
  obtain ⟨t, h, q⟩ := walk A outer s H vs Q E hr hsp
  exact ⟨t, h.nox, q⟩
end
def lam1B (sc scope : Scope) (v : Str) : Bool :=
  decide (scope.kind = .function) && (!scope.isCoroutine && (!scope.isGenerator && (decide (scope.names.lookup v = some .local) &&
    scope.names.all fun y => !decide (y.2 = .cell) && ((!decide (y.2 = .local) || decide (y.1 = v)) && (!decide (y.2 = .free) || (decide (sc.names.lookup y.1 = some .cell) || decide (sc.names.lookup y.1 = some .free)))))))
theorem lam1_by {sc scope : Scope} {v : Str} (h : lam1B sc scope v = true) : Lam1S sc scope v := by
  unfold lam1B at h
  simp only [Bool.and_eq_true, Bool.or_eq_true, Bool.not_eq_true', decide_eq_true_eq, decide_eq_false_iff_not, List.all_eq_true] at h
  obtain ⟨h1, h2, h3, h4, h5⟩ := h
  refine ⟨h1, h2, h3, fun y hy => ⟨(h5 y hy).1, fun e => ?_⟩, h4, fun y hy e => ?_⟩
  · rcases (h5 y hy).2.1 with z | z
    · exact absurd e z
    · exact z
  · rcases (h5 y hy).2.2 with z | z
    · exact absurd e z
    · exact z
abbrev sFew : Stmt := top 12
abbrev nFew : List Str := ["net", "stop", "ahead"]
theorem scFew : FnScope nFew ["net", "stop"] (defScope sFew) := ⟨rfl, rfl, rfl, by decide +kernel, rfl, by decide +kernel, by decide +kernel⟩
/-- the stops that follow -/
def nextOf (ars : List (Int × Int)) (v : Int) : List Int := if 0 ≤ v then outs ars v.toNat else []
theorem next_mem {ars : List (Int × Int)} {v u : Int} : u ∈ nextOf ars v ↔ 0 ≤ v ∧ (v, u) ∈ ars := by
  unfold nextOf
  by_cases h : 0 ≤ v
  · rw [if_pos h, outs_mem, Int.toNat_of_nonneg h]
    simp [h]
  · rw [if_neg h]
    simp [h]
theorem ars_inn {n : Int} {H : Hp} {ts : List V} {ars : List (Int × Int)} (h : Arrs n H ts) (g : ArsAt H ts ars) : ∀ e ∈ ars, Inn n e.1 ∧ Inn n e.2 := by
  unfold ArsAt at g
  induction g with
  | nil => exact fun e he => (List.not_mem_nil he).elim
  | cons q t ih =>
    intro e he
    rcases List.mem_cons.mp he with z | z
    · obtain ⟨p, rfl, hp⟩ := q
      obtain ⟨p', v, u, ep, hp', iv, iu⟩ := h _ List.mem_cons_self
      cases ep
      rw [hp] at hp'
      injection Option.some.inj hp' with q1
      injection q1 with q2 q3
      injection q3 with q4 _
      rw [z, V.int.inj q2, V.int.inj q4]
      exact ⟨iv, iu⟩
    · exact ih (fun x hx => h x (List.mem_cons_of_mem _ hx)) e z
/-- the one table of lambdas -/
abbrev lamT (tb : Addr) : List (Addr × Str) := [(tb, (("fewest_from" : Str) ++ ".<locals>.") ++ "<lambda>")]
section
variable {P : Program} {w : World} {K : PySem.W.Frag} {mg : Str → Option Value} {base : Heap}
def spFew (tb : Addr) : Sp := fun vs H Q _ => ∃ (a b : Addr) (n s : Int) (ts : List V) (ars : List (Int × Int)), vs = [.ref a, .int s] ∧ NetAt n H a b ts ∧ ArsAt H ts ars ∧ Inn n s ∧ Tabs (lamT tb) H ∧
  ∀ (r : Addr) (ks : List (Int × Nat)) (H' : Hp), ExtN H H' → Tabs (lamT tb) H' → H' r = some (.dK (knV ks)) → (ks.map Prod.fst).Nodup → (∀ v k, (v, k) ∈ ks ↔ Dist (nextOf ars) s v k) → Q (.ref r) H'
theorem ok_few {f g c tb : Addr} {fd gd : FuncData} (F : FunC K "fewest_from" "fewest_from" sFew f fd c) (TB : TabB base mg c tb) (G : Fun K "spread" "spread" sSpread g gd) (mG : mg "spread" = some (.ref g)) (OL : Own P w K mg base 1 "leads" ["net"] spLeads) :
    FnOk P w K mg base CX0 5 f fd ["net", "stop"] (spFew tb) := by
  obtain ⟨fL, fdL, GL, mL, kL, bL⟩ := OL.ex
  have bG := G.binds (ps := ["first", "onward_from"]) fun _ _ _ _ _ _ us hl => match us, hl with | [_, _], _ => rfl
  obtain ⟨oc, od, kV, doc, pm, an, cdv, ct, osl, rfl, lk, hcd⟩ := G.ex
  refine F.ok scFew (fun vs H Q E h => ?_) (fun A outer s H vs Q E hr h => ?_)
  · obtain ⟨a, b, n, s, ts, ars, rfl, _⟩ := h
    rfl
  · obtain ⟨a, b, n, s, ts, ars, rfl, N, AR, hs, hT, k⟩ := h
    refine ⟨_, pss_cons (ps_set (i := 2) scFew.nd rfl (.inr rfl) (pe_call GL (hr.mono (by decide)) rfl mL kL bL .nil pass0 (pa_cons (pv 0) pa_nil))) <|
      pss_one (ps_ret (pe_lam2 (T := lamT tb) (k := 1) (v := "v") (Ng := nSpread) rfl mG G.kp lk hcd bG scSpread rfl (.inl rfl) (gives_spread (n := n) (next := nextOf ars)) TB rfl (List.mem_singleton.mpr rfl) (fun p hp _ => by rw [List.mem_singleton.mp hp]; rfl) (hr.mono (by decide)) (lam1_by (sc := defScope sFew) (by decide +kernel)) (show ¬ (("v" : Str) ∈ nFew) by decide +kernel) rfl (fun _ _ _ _ _ _ => rfl) (pv 1)
        (fun A outer s H f c' hr2 => pe_ix (r := rIxL K) ix_list (pv 2) (pv 3) (fun _ _ => rfl)))), ?_⟩
    refine ⟨_, rfl, a, b, n, ts, ars, rfl, N, AR, fun g1 ls H1 s1 ng hg1 hl1 each => ?_⟩
    refine ⟨_, rfl, hT.ext s1, fun H2 e12 hT2 => ⟨s, rfl, ⟨hs.1, hs.2⟩, by have := N.n2; omega, fun v u hv hu => ?_, fun v hv Z Q' sZ hq => ?_, fun r ks Z sZ _ hr nd dist => k r ks Z ((ExtN.of s1).trans (e12.trans (ExtN.of sZ))) (hT2.ext sZ) hr nd dist⟩⟩
    · exact (ars_inn N.arr AR _ (next_mem.mp hu).2).2
    · obtain ⟨jv, rfl⟩ := Int.eq_ofNat_of_zero_le hv.1
      have hj : jv < ls.length := by have := hv.2; omega
      have hm : ls[jv]? = some ls[jv] := List.getElem?_eq_getElem hj
      refine ⟨_, rfl, _, rfl, g1, _, (jv : Int), .ref ls[jv], rfl, rfl, SqL.of (sZ _ _ (e12 _ _ hg1 fun ps z => nomatch z)), at_of (j := jv) rfl (by rw [List.getElem?_map, hm]; rfl), hq _ ?_⟩
      have e0 : nextOf ars (jv : Int) = outs ars jv := if_pos (Int.natCast_nonneg jv)
      rw [e0]
      exact e12 _ _ (each jv _ hm).2 fun ps z => nomatch z
end
end Sw
namespace Sw
open PySem PySem.Spec PyProof.Rows L2 LamX
/-! ### lot_of -/
abbrev sLotOf : Stmt := top 11
abbrev nLotOf : List Str := ["net", "stop", "n", "arrows", "onto", "back", "v", "w", "other"]
theorem scLotOf : FnScope nLotOf ["net", "stop"] (defScope sLotOf) := ⟨rfl, rfl, rfl, by decide +kernel, rfl, by decide +kernel, by decide +kernel⟩
def swE (e : Int × Int) : Int × Int := (e.2, e.1)
theorem path_front {next : Int → List Int} {k : Nat} {b c : Int} (h : Path next k b c) : ∀ {a : Int}, b ∈ next a → Path next (k + 1) a c := by
  induction h with
  | nil b => exact fun {a} h => .snoc (.nil a) h
  | snoc p q ih => exact fun {a} h => .snoc (ih h) q
/-- the arrows turned: the ways turned -/
theorem path_back {ars : List (Int × Int)} (pos : ∀ e ∈ ars, 0 ≤ e.1 ∧ 0 ≤ e.2) : ∀ {k : Nat} {a b : Int}, Path (nextOf (ars.map swE)) k a b → Path (nextOf ars) k b a := by
  intro k a b h
  induction h with
  | nil a => exact .nil a
  | snoc p q ih =>
    obtain ⟨h0, hm⟩ := next_mem.mp q
    obtain ⟨⟨x, y⟩, he, z⟩ := List.mem_map.mp hm
    cases z
    exact path_front ih (next_mem.mpr ⟨(pos _ he).1, he⟩)
theorem sw_sw (ars : List (Int × Int)) : (ars.map swE).map swE = ars := by
  rw [List.map_map]
  exact List.map_id _
theorem path_turn {ars : List (Int × Int)} (pos : ∀ e ∈ ars, 0 ≤ e.1 ∧ 0 ≤ e.2) {k : Nat} {a b : Int} : Path (nextOf (ars.map swE)) k a b ↔ Path (nextOf ars) k b a := by
  refine ⟨path_back pos, fun h => ?_⟩
  have q := path_back (ars := ars.map swE) (fun e he => by
    obtain ⟨e', he', rfl⟩ := List.mem_map.mp he
    exact ⟨(pos e' he').2, (pos e' he').1⟩) (k := k) (a := b) (b := a)
  rw [sw_sw] at q
  exact q h
/-- from each to the other -/
def Both2 (ars : List (Int × Int)) (s o : Int) : Prop := (∃ k, Path (nextOf ars) k s o) ∧ ∃ k, Path (nextOf ars) k o s
theorem ArsAt.app {H : Hp} : ∀ {ts ts' : List V} {ars ars' : List (Int × Int)}, ArsAt H ts ars → ArsAt H ts' ars' → ArsAt H (ts ++ ts') (ars ++ ars')
  | _, _, _, _, .nil, h => h
  | _, _, _, _, .cons q t, h => .cons q (ArsAt.app t h)
theorem kn_some {next : Int → List Int} {s v : Int} {ks : List (Int × Nat)} (nd : (ks.map Prod.fst).Nodup) (d : ∀ v k, (v, k) ∈ ks ↔ Dist next s v k) : (valV (knV ks) (.inl v : Key)).isSome = true ↔ ∃ k, Path next k s v := by
  constructor
  · intro h
    obtain ⟨x, hx⟩ := Option.isSome_iff_exists.mp h
    obtain ⟨k, hk, _⟩ := kn_mem hx
    exact ⟨k, ((d v k).mp hk).1⟩
  · rintro ⟨k, p⟩
    obtain ⟨j, _, q⟩ := p.fewest
    rw [kn_val nd ((d v j).mpr q)]
    rfl
section
variable {P : Program} {w : World} {K : PySem.W.Frag} {mg : Str → Option Value} {base : Heap}
def spLotOf (tb : Addr) : Sp := fun vs H Q _ => ∃ (a b : Addr) (n s : Int) (ts : List V) (ars : List (Int × Int)), vs = [.ref a, .int s] ∧ NetAt n H a b ts ∧ ArsAt H ts ars ∧ Inn n s ∧ Tabs (lamT tb) H ∧
  ∀ (r : Addr) (os : List Int) (H' : Hp), ExtN H H' → Tabs (lamT tb) H' → H' r = some (.tup (os.map V.int)) → os.Pairwise (· < ·) → (∀ o, o ∈ os ↔ Inn n o ∧ Both2 ars s o) → Q (.ref r) H'
theorem ok_lotOf {f tb : Addr} {fd : FuncData} (F : Fun K "lot_of" "lot_of" sLotOf f fd) (B : NoNames mg) (OF : Own P w K mg base 5 "fewest_from" ["net", "stop"] (spFew tb)) : FnOk P w K mg base CX0 6 f fd ["net", "stop"] (spLotOf tb) := by
  obtain ⟨fF, fdF, GF, mF, kF, bF⟩ := OF.ex
  refine F.ok scLotOf (fun vs H Q E h => ?_) (fun cdv A outer s H vs Q E hr h => ?_)
  · obtain ⟨a, b, n, s, ts, ars, rfl, _⟩ := h
    rfl
  · obtain ⟨a, b, n, s, ts, ars, rfl, N, AR, hs, hT, k⟩ := h
    have hu := hu_of hr
    refine ⟨_, pss_cons (ps_asg (pv 0) (pg_tup (by rfl) (pgs_cons (pg_name (i := 2) scLotOf.nd rfl (.inl rfl)) (pgs_cons (pg_name (i := 3) scLotOf.nd rfl (.inl rfl)) pgs_nil)))) <|
      pss_cons (ps_set (i := 4) scLotOf.nd rfl (.inr rfl) (pe_call GF hr rfl mF kF bF .nil pass0 (pa_cons (pv 0) (pa_cons (pv 1) pa_nil)))) <|
      pss_cons (ps_set (i := 5) scLotOf.nd rfl (.inr rfl) (pe_call GF hr rfl mF kF bF .nil pass0 (pa_cons (pe_tup (pa_cons (pv 2) (pa_cons (pe_callTy call_tuple_of (by rfl) B.tuple (by decide +kernel) (pa_cons
        (pe_lc (own := [("v", 6), ("w", 7)]) (g := gTup K 2 (gCons (gName 6) (gCons (gName 7) gNil))) (tt := tYes) rfl scLotOf.nd (pi_tup (pv 3)) (blkOk_by (own := [("v", 6), ("w", 7)]) (N := nLotOf) (sc := defScope sLotOf) (by decide +kernel))
          (fun _ _ _ _ _ => pg_tup rfl (pgs_cons (pg_name (i := 6) scLotOf.nd rfl (Or.inl rfl)) (pgs_cons (pg_name (i := 7) scLotOf.nd rfl (Or.inl rfl)) pgs_nil))) (fun _ _ _ _ _ => pts_nil)
          (fun _ _ _ _ _ => pe_tup (pa_cons (pv 7) (pa_cons (pv 6) pa_nil)))) pa_nil)) pa_nil))) (pa_cons (pv 1) pa_nil)))) <|
      pss_one (ps_ret (pe_callTy call_tuple_of (by rfl) B.tuple (by decide +kernel) (pa_cons
        (pe_lc (own := [("other", 8)]) (g := gName 8) rfl scLotOf.nd (pi_range1 (by rfl) B.range (pa_cons (pv 2) pa_nil)) (blkOk_by (own := [("other", 8)]) (N := nLotOf) (sc := defScope sLotOf) (by decide +kernel))
          (fun _ _ _ _ _ => pg_name (i := 8) scLotOf.nd rfl (Or.inl rfl)) (fun _ _ _ _ _ => pts_one (PW.pt (pw_and (pt_cmp (pc_din hu (pv 8) (pv 4))) (pw_and1 (pt_cmp (pc_din hu (pv 8) (pv 5))))))) (fun _ _ _ _ _ => pv 8)) pa_nil))), ?_⟩
    have n1 := N.n1
    have n2 := N.n2
    refine ⟨_, rfl, a, _, rfl, SqT.of N.a, rfl, _, _, rfl, _, _, rfl, rfl, ?_⟩
    refine ⟨_, rfl, _, rfl, a, b, n, s, ts, ars, rfl, N, AR, hs, hT, fun r1 ks1 H1 x1 hT1 hr1 nd1 d1 => ?_⟩
    have t1 : TupS H H1 := fun b xs e => x1 _ _ e fun ps z => nomatch z
    have N1 := N.keep t1
    have AR1 := AR.keep t1
    refine ⟨_, rfl, _, rfl, b, rfl, ⟨_, SqT.of N1.b⟩, fun D nD => ?_⟩
    refine lc_it (walk_tup (xs := ts)) (fun i H' => ∃ xs : List V, H' D = some (.lst xs) ∧ xs.length = i ∧ ArsAt H' xs ((ars.take i).map swE) ∧ Arrs n H' xs ∧ Same H1 H') ⟨[], upd_same, rfl, by rw [List.take_zero]; exact .nil, fun _ h => (List.not_mem_nil h).elim, same_new nD⟩ (fun i H' _ h => by obtain ⟨_, _, _, _, _, e⟩ := h; exact SqT.of (e _ _ N1.b)) ?_ ?_
    · rintro i x Hb Ha hi ⟨xs, h1, h2, h3, h4, h5⟩ ⟨rfl, ex⟩
      obtain ⟨e, t, he, rfl, ht⟩ := AR1.at ex
      refine ⟨t, _, rfl, SqT.of (h5 _ _ ht), rfl, _, _, rfl, _, _, rfl, rfl, ?_⟩
      refine ⟨rfl, ?_⟩
      dsimp only [tYes]
      rw [if_pos rfl]
      refine ⟨_, rfl, _, rfl, by show 2 ≤ sizeLine; decide, fun q nq => ?_⟩
      have sq : Same Ha (upd Ha q (.tup [.int e.2, .int e.1])) := same_new nq
      have h1' := sq _ _ h1
      have qD : q ≠ D := fun z => by
        rw [z, h1] at nq
        cases nq
      have hq : (upd Ha q (.tup [.int e.2, .int e.1])) q = some (.tup [.int e.2, .int e.1]) := upd_same
      have s6 := h5.trans sq
      have h3' := h3.keep (.of sq)
      have h4' := h4.keep (.of sq)
      generalize (upd Ha q (.tup [.int e.2, .int e.1])) = H6 at h1' hq s6 h3' h4' ⊢
      have tu : TupS H6 (upd H6 D (.lst (xs ++ [.ref q]))) := TupS.upd fun ys z => by
        rw [h1'] at z
        cases z
      have me := List.mem_of_getElem? he
      have ie := ars_inn N.arr AR e me
      refine ⟨xs, h1', by rw [h2, sizeLine_eq]; have := N.len; omega, xs ++ [.ref q], upd_same, by rw [List.length_append, h2]; rfl, ?_, fun y hy => ?_, fun c o ec => ?_⟩
      · rw [List.take_add_one, he, List.map_append]
        exact (h3'.keep tu).app (.cons ⟨q, rfl, tu _ _ hq⟩ .nil)
      · rcases List.mem_append.mp hy with z | z
        · exact (h4' y z).keep tu
        · rw [List.mem_singleton.mp z]
          exact ⟨q, e.2, e.1, rfl, tu _ _ hq, ie.2, ie.1⟩
      · rw [upd_ne (ne_of_none ec nD)]
        exact s6 _ _ ec
    · rintro Ha ⟨xs, h1, h2, h3, h4, h5⟩
      rw [List.take_of_length_le (Nat.le_of_eq AR.len.symm)] at h3
      refine ⟨D, xs, rfl, .inl ⟨SqL.of h1, fun T1 nT1 => ⟨by show 2 ≤ sizeLine; decide, fun T2 nT2 => ?_⟩⟩⟩
      have s2 : Same Ha (upd Ha T1 (.tup xs)) := same_new nT1
      have s3 : Same (upd Ha T1 (.tup xs)) (upd (upd Ha T1 (.tup xs)) T2 (.tup [.int n, .ref T1])) := same_new nT2
      have e1 := s3 _ _ (upd_same (H := Ha) (a := T1) (o := .tup xs))
      have e2 : (upd (upd Ha T1 (.tup xs)) T2 (.tup [.int n, .ref T1])) T2 = some (.tup [.int n, .ref T1]) := upd_same
      have s4 := h5.trans (s2.trans s3)
      have h3' := (h3.keep (.of s2)).keep (.of s3)
      have h4' := (h4.keep (.of s2)).keep (.of s3)
      generalize (upd (upd Ha T1 (.tup xs)) T2 (.tup [.int n, .ref T1])) = H4 at e1 e2 s4 h3' h4' ⊢
      refine ⟨_, rfl, T2, T1, n, s, xs, ars.map swE, rfl, ⟨e2, e1, h4', by rw [h2]; exact N.len, n1, n2⟩, h3', hs, hT1.ext s4, fun r2 ks2 H5 x5 hT5 hr5 nd5 d5 => ?_⟩
      have hr1' := x5 _ _ (s4 _ _ hr1) fun ps z => nomatch z
      refine ⟨_, rfl, n, rfl, by omega, by omega, fun D2 nD2 => ?_⟩
      refine lc_it walk_range (fun j H' => ∃ os : List Int, H' D2 = some (.lst (os.map V.int)) ∧ os.length ≤ j ∧ os.Pairwise (· < ·) ∧ (∀ o, o ∈ os ↔ (0 ≤ o ∧ o < (j : Int)) ∧ Both2 ars s o) ∧ Same H5 H') ⟨[], upd_same, Nat.le_refl _, .nil, fun o => ⟨fun h => (List.not_mem_nil h).elim, fun h => by have := h.1; omega⟩, same_new nD2⟩ (fun _ _ _ _ => trivial) ?_ ?_
      · rintro j x Hb Hc hj ⟨os, g1, g2, g3, g4, g5⟩ ⟨rfl, rfl⟩
        refine ⟨rfl, ?_⟩
        refine ⟨_, rfl, _, rfl, r1, _, rfl, DGet.k (k := .inl (0 + (j : Int))) (g5 _ _ hr1'), ?_⟩
        have pos : ∀ e ∈ ars, 0 ≤ e.1 ∧ 0 ≤ e.2 := fun e he => ⟨(ars_inn N.arr AR e he).1.1, (ars_inn N.arr AR e he).2.1⟩
        have q1 := kn_some (v := 0 + (j : Int)) nd1 d1
        have q2 := (kn_some (v := 0 + (j : Int)) nd5 d5).trans (exists_congr fun k => path_turn pos)
        have skip : ¬ Both2 ars s (0 + (j : Int)) → ∀ {H' : Hp}, H' D2 = some (.lst (os.map V.int)) → Same H5 H' → ∃ os : List Int, H' D2 = some (.lst (os.map V.int)) ∧ os.length ≤ j + 1 ∧ os.Pairwise (· < ·) ∧ (∀ o, o ∈ os ↔ (0 ≤ o ∧ o < ((j + 1 : Nat) : Int)) ∧ Both2 ars s o) ∧ Same H5 H' := fun no H' a1 a2 =>
          ⟨os, a1, by omega, g3, fun o => by
            rw [g4 o]
            constructor
            · rintro ⟨h1, h2⟩
              exact ⟨⟨h1.1, by omega⟩, h2⟩
            · rintro ⟨h1, h2⟩
              refine ⟨⟨h1.1, ?_⟩, h2⟩
              by_cases z : o = 0 + (j : Int)
              · rw [z] at h2
                exact absurd h2 no
              · omega, a2⟩
        refine ⟨_, rfl, ?_⟩
        cases c1 : (valV (knV ks1) (.inl (0 + (j : Int)) : Key)).isSome with
        | false => exact iteF (iteF (skip (fun z => by rw [q1.mpr z.1] at c1; cases c1) g1 g5))
        | true =>
          refine iteT ⟨_, rfl, _, rfl, r2, _, rfl, DGet.k (k := .inl (0 + (j : Int))) (g5 _ _ hr5), _, rfl, ?_⟩
          cases c2 : (valV (knV ks2) (.inl (0 + (j : Int)) : Key)).isSome with
          | false => exact iteF (skip (fun z => by rw [q2.mpr z.2] at c2; cases c2) g1 g5)
          | true =>
            have yes : Both2 ars s (0 + (j : Int)) := ⟨q1.mp c1, q2.mp c2⟩
            refine iteT ⟨_, rfl, _, g1, by rw [List.length_map, sizeLine_eq]; omega, os ++ [0 + (j : Int)], by rw [upd_same, List.map_append]; rfl, by rw [List.length_append]; simp only [List.length_cons, List.length_nil]; omega, ?_, fun o => ?_, fun c o ec => ?_⟩
            · refine List.pairwise_append.mpr ⟨g3, List.pairwise_singleton _ _, fun x hx y hy => ?_⟩
              rw [List.mem_singleton.mp hy]
              have := ((g4 x).mp hx).1
              omega
            · rw [List.mem_append, g4 o, List.mem_singleton]
              constructor
              · rintro (⟨h1, h2⟩ | rfl)
                · exact ⟨⟨h1.1, by omega⟩, h2⟩
                · exact ⟨⟨by omega, by omega⟩, yes⟩
              · rintro ⟨h1, h2⟩
                by_cases z : o = 0 + (j : Int)
                · exact .inr z
                · exact .inl ⟨⟨h1.1, by omega⟩, h2⟩
            · rw [upd_ne (ne_of_none ec nD2)]
              exact g5 _ _ ec
      · rintro Hc ⟨os, g1, g2, g3, g4, g5⟩
        refine ⟨D2, _, rfl, .inl ⟨SqL.of g1, fun T3 nT3 => ?_⟩⟩
        have s6 := g5.trans (same_new (o := .tup (os.map V.int)) nT3)
        refine k T3 os _ (x1.trans ((ExtN.of s4).trans (x5.trans (ExtN.of s6)))) (hT5.ext s6) upd_same g3 fun o => ?_
        rw [g4 o]
        have en : ((n.toNat : Nat) : Int) = n := Int.toNat_of_nonneg (by omega)
        unfold Inn
        rw [en]
end
end Sw
namespace Sw
open PySem PySem.Spec PyProof.Rows L2 LamX
/-! ### any of a list of truth values; lots -/
section
variable {K : PySem.W.Frag} {H : Hp}
theorem dp_bools : ∀ bs : List Bool, DpAll K H (bs.map V.bl) (bs.map PyData.bool)
  | [] => .nil
  | b :: r => .cons (.bl b) (dp_bools r)
end
theorem bools_plain : ∀ bs : List Bool, PyData.plainAll (bs.map PyData.bool) = true
  | [] => by simp [PyData.plainAll]
  | b :: r => by
    rw [List.map_cons, PyData.plainAll, bools_plain r]
    simp [PyData.plain]
theorem call_anyB {X : Cx} {k : Nat} (hr : Room k X.A) : CallR X (.builtin "any") (fun xs H Q => ∃ (a : Addr) (bs : List Bool), xs = [.ref a] ∧ SqL X.K H a (bs.map V.bl) ∧ Q (.bl (bs.any id)) H) := by
  intro pins s σ H xs us Q I r h
  obtain ⟨a, bs, rfl, ha, q⟩ := h
  obtain ⟨u, rfl, hu⟩ := vals1 r
  cases (show u = Value.ref a from hu)
  obtain ⟨its, rv, pl, hz⟩ := I.list ha
  obtain ⟨as, ra⟩ := Dp.readsAll I (bs.map PyData.bool) _ its (dp_bools bs) rv
  refine PySem.W.any_list_data (vs := its.toArray) (xs := bs.map PyData.bool) (as := as) hr.hd pl.isList (by simpa using ra) (bools_plain bs) (fun x hx => ?_) fun h' tk hk => ⟨.bl _, H, I.kept (t' := tk) hk, rfl, ?_⟩
  · obtain ⟨b, _, rfl⟩ := List.mem_map.mp hx
    trivial
  · have e : (bs.map PyData.bool).any PyData.truthy = bs.any id := by
      rw [List.any_map]
      rfl
    rw [e]
    exact q
theorem Path.app {next : Int → List Int} {k j : Nat} {a b c : Int} (h : Path next k a b) (g : Path next j b c) : Path next (k + j) a c := by
  induction g with
  | nil b => exact h
  | snoc p q ih => exact .snoc (ih h) q
theorem Both2.symm {ars : List (Int × Int)} {a b : Int} (h : Both2 ars a b) : Both2 ars b a := ⟨h.2, h.1⟩
theorem Both2.refl {ars : List (Int × Int)} (a : Int) : Both2 ars a a := ⟨⟨0, .nil a⟩, ⟨0, .nil a⟩⟩
theorem Both2.trans {ars : List (Int × Int)} {a b c : Int} (h : Both2 ars a b) (g : Both2 ars b c) : Both2 ars a c := by
  obtain ⟨⟨k1, p1⟩, k2, p2⟩ := h
  obtain ⟨⟨k3, p3⟩, k4, p4⟩ := g
  exact ⟨⟨_, p1.app p3⟩, _, p4.app p2⟩
/-- the lot of s, its least -/
structure LotP (n : Int) (ars : List (Int × Int)) (L : List Int) (s : Int) : Prop where
  hd : L.head? = some s
  inn : Inn n s
  asc : L.Pairwise (· < ·)
  is : ∀ o, o ∈ L ↔ Inn n o ∧ Both2 ars s o
/-- the lots of all below i, by their least ones -/
structure LotsP (n : Int) (ars : List (Int × Int)) (Ls : List (List Int)) (i : Int) : Prop where
  each : ∀ L ∈ Ls, ∃ s, s < i ∧ LotP n ars L s
  all : ∀ v, 0 ≤ v → v < i → ∃ L ∈ Ls, v ∈ L
  asc : Ls.Pairwise fun A B => ∀ a b, A.head? = some a → B.head? = some b → a < b
theorem LotsP.start {n : Int} {ars : List (Int × Int)} : LotsP n ars [] 0 := ⟨fun L h => (List.not_mem_nil h).elim, fun v h1 h2 => by omega, .nil⟩
theorem LotsP.skip {n i : Int} {ars : List (Int × Int)} {Ls : List (List Int)} (h : LotsP n ars Ls i) (hi : ∃ L ∈ Ls, i ∈ L) : LotsP n ars Ls (i + 1) := by
  refine ⟨fun L hL => ?_, fun v h1 h2 => ?_, h.asc⟩
  · obtain ⟨s, hs, p⟩ := h.each L hL
    exact ⟨s, by omega, p⟩
  · by_cases z : v = i
    · rw [z]
      exact hi
    · exact h.all v h1 (by omega)
theorem LotsP.add {n i : Int} {ars : List (Int × Int)} {Ls : List (List Int)} {os : List Int} (h : LotsP n ars Ls i) (hn : Inn n i) (no : ∀ L ∈ Ls, i ∉ L) (asc : os.Pairwise (· < ·)) (is : ∀ o, o ∈ os ↔ Inn n o ∧ Both2 ars i o) : LotsP n ars (Ls ++ [os]) (i + 1) := by
  have mi : i ∈ os := (is i).mpr ⟨hn, .refl i⟩
  have least : ∀ o, o ∈ os → i ≤ o := fun o ho => by
    obtain ⟨h1, h2⟩ := (is o).mp ho
    by_cases z : o < i
    · obtain ⟨L, hL, oL⟩ := h.all o h1.1 z
      obtain ⟨s, _, p⟩ := h.each L hL
      exact absurd ((p.is i).mpr ⟨hn, ((p.is o).mp oL).2.trans h2.symm⟩) (no L hL)
    · omega
  have hd : os.head? = some i := by
    cases os with
    | nil => cases mi
    | cons a r =>
      rcases List.mem_cons.mp mi with z | z
      · rw [z]; rfl
      · have h1 := (List.pairwise_cons.mp asc).1 i z
        have h2 := least a List.mem_cons_self
        omega
  refine ⟨fun L hL => ?_, fun v h1 h2 => ?_, List.pairwise_append.mpr ⟨h.asc, List.pairwise_singleton _ _, fun A hA B hB a b ha hb => ?_⟩⟩
  · rcases List.mem_append.mp hL with z | z
    · obtain ⟨s, hs, p⟩ := h.each L z
      exact ⟨s, by omega, p⟩
    · rw [List.mem_singleton.mp z]
      exact ⟨i, by omega, hd, hn, asc, is⟩
  · by_cases z : v = i
    · exact ⟨os, List.mem_append_right _ (List.mem_singleton.mpr rfl), by rw [z]; exact mi⟩
    · obtain ⟨L, hL, q⟩ := h.all v h1 (by omega)
      exact ⟨L, List.mem_append_left _ hL, q⟩
  · rw [List.mem_singleton.mp hB, hd] at hb
    cases hb
    obtain ⟨s, hs, p⟩ := h.each A hA
    rw [p.hd] at ha
    cases ha
    exact hs
theorem inV_os (x : Int) (os : List Int) : inV (.int x) (os.map V.int) = os.contains x := by
  unfold inV
  rw [List.any_map]
  induction os with
  | nil => rfl
  | cons a r ih =>
    rw [List.any_cons, List.contains_cons, ih]
    congr 1
    show (a == x) = (x == a)
    exact Bool.eq_iff_iff.mpr ⟨fun h => by simpa using (beq_iff_eq.mp h).symm, fun h => by simpa using (beq_iff_eq.mp h).symm⟩
theorem flat_ints (os : List Int) : (os.map V.int).all flatV = true := by
  rw [List.all_map]
  exact List.all_eq_true.mpr fun _ _ => rfl
/-- lists of whole numbers as tuples -/
def TupsAt (H : Hp) (ts : List Addr) (Ls : List (List Int)) : Prop := Paired (fun (t : Addr) (L : List Int) => H t = some (.tup (L.map V.int))) ts Ls
theorem TupsAt.keep {H H' : Hp} {ts : List Addr} {Ls : List (List Int)} (h : TupsAt H ts Ls) (s : TupS H H') : TupsAt H' ts Ls := by
  unfold TupsAt at *
  induction h with
  | nil => exact .nil
  | cons q t ih => exact .cons (s _ _ q) ih
theorem TupsAt.len {H : Hp} {ts : List Addr} {Ls : List (List Int)} (h : TupsAt H ts Ls) : ts.length = Ls.length := by
  unfold TupsAt at h
  induction h with
  | nil => rfl
  | cons q t ih => rw [List.length_cons, List.length_cons, ih]
theorem TupsAt.at {H : Hp} {ts : List Addr} {Ls : List (List Int)} (h : TupsAt H ts Ls) : ∀ {i : Nat} {t : Addr}, ts[i]? = some t → ∃ L, Ls[i]? = some L ∧ H t = some (.tup (L.map V.int)) := by
  unfold TupsAt at h
  induction h with
  | nil => intro i t e; simp at e
  | @cons t0 L0 ts Ls q r ih =>
    intro i t e
    cases i with
    | zero =>
      have e : some t0 = some t := e
      cases e
      exact ⟨L0, rfl, q⟩
    | succ i => exact ih (i := i) e
theorem TupsAt.snoc {H : Hp} {ts : List Addr} {Ls : List (List Int)} {t : Addr} {L : List Int} (h : TupsAt H ts Ls) (e : H t = some (.tup (L.map V.int))) : TupsAt H (ts ++ [t]) (Ls ++ [L]) := by
  unfold TupsAt at *
  induction h with
  | nil => exact .cons e .nil
  | cons q r ih => exact .cons q ih
theorem tabs_upd {T : List (Addr × Str)} {H : Hp} {a : Addr} {xs : List V} {o : HO} (h : Tabs T H) (ha : H a = some (.lst xs)) : Tabs T (upd H a o) := fun p hp => by
  obtain ⟨ps, h1, h2, h3⟩ := h p hp
  refine ⟨ps, ?_, h2, fun pos cv hc => ?_⟩
  · rw [upd_ne fun z => by rw [z, ha] at h1; cases h1]
    exact h1
  · obtain ⟨c, e1, e2⟩ := h3 pos cv hc
    refine ⟨c, e1, ?_⟩
    rw [upd_ne fun z => by
      rw [z, ha] at e2
      have e3 : HO.lst xs = HO.ext _ := Option.some.inj e2
      cases e3]
    exact e2
theorem any_has {Ls : List (List Int)} {i : Int} : (Ls.map fun L => L.contains i).any id = true ↔ ∃ L ∈ Ls, i ∈ L := by
  rw [List.any_map, List.any_eq_true]
  constructor
  · rintro ⟨L, hL, h⟩
    exact ⟨L, hL, List.contains_iff_mem.mp h⟩
  · rintro ⟨L, hL, h⟩
    exact ⟨L, hL, List.contains_iff_mem.mpr h⟩
end Sw
namespace Sw
/-! ### lots are told but by one list -/
theorem asc_same : ∀ {l l' : List Int}, l.Pairwise (· < ·) → l'.Pairwise (· < ·) → (∀ x, x ∈ l ↔ x ∈ l') → l = l'
  | [], [], _, _, _ => rfl
  | [], b :: r, _, _, h => (List.not_mem_nil ((h b).mpr List.mem_cons_self)).elim
  | a :: r, [], _, _, h => (List.not_mem_nil ((h a).mp List.mem_cons_self)).elim
  | a :: r, b :: r', p, q, h => by
    obtain ⟨pa, pr⟩ := List.pairwise_cons.mp p
    obtain ⟨qb, qr⟩ := List.pairwise_cons.mp q
    have e : a = b := by
      rcases List.mem_cons.mp ((h a).mp List.mem_cons_self) with z | z
      · exact z
      · rcases List.mem_cons.mp ((h b).mpr List.mem_cons_self) with y | y
        · exact y.symm
        · have := qb a z
          have := pa b y
          omega
    subst e
    rw [asc_same pr qr fun x => ?_]
    constructor
    · intro hx
      rcases List.mem_cons.mp ((h x).mp (List.mem_cons_of_mem _ hx)) with z | z
      · have := pa x hx
        omega
      · exact z
    · intro hx
      rcases List.mem_cons.mp ((h x).mpr (List.mem_cons_of_mem _ hx)) with z | z
      · have := qb x hx
        omega
      · exact z
theorem LotP.uniq {n s : Int} {ars : List (Int × Int)} {L L' : List Int} (h : LotP n ars L s) (g : LotP n ars L' s) : L = L' := asc_same h.asc g.asc fun o => (h.is o).trans (g.is o).symm
theorem LotP.least {n s : Int} {ars : List (Int × Int)} {L : List Int} (h : LotP n ars L s) : ∀ o, Inn n o → Both2 ars s o → s ≤ o := fun o ho hb => by
  have m := (h.is o).mpr ⟨ho, hb⟩
  cases L with
  | nil => cases m
  | cons a r =>
    have e : a = s := Option.some.inj h.hd
    rcases List.mem_cons.mp m with z | z
    · omega
    · have := (List.pairwise_cons.mp h.asc).1 o z
      omega
/-- the least one of a lot -/
def headD (L : List Int) : Int := L.head?.getD 0
theorem LotsP.heads {n : Int} {ars : List (Int × Int)} {Ls : List (List Int)} (h : LotsP n ars Ls n) : (Ls.map headD).Pairwise (· < ·) ∧ ∀ s, s ∈ Ls.map headD ↔ Inn n s ∧ ∀ o, Inn n o → Both2 ars s o → s ≤ o := by
  have hh : ∀ L ∈ Ls, ∃ s, L.head? = some s ∧ LotP n ars L s := fun L hL => by
    obtain ⟨s, _, p⟩ := h.each L hL
    exact ⟨s, p.hd, p⟩
  constructor
  · rw [List.pairwise_map]
    refine h.asc.imp_of_mem fun {A B} hA hB r => ?_
    obtain ⟨a, ea, _⟩ := hh A hA
    obtain ⟨b, eb, _⟩ := hh B hB
    unfold headD
    rw [ea, eb]
    exact r a b ea eb
  · intro s
    rw [List.mem_map]
    constructor
    · rintro ⟨L, hL, e⟩
      obtain ⟨a, ea, p⟩ := hh L hL
      unfold headD at e
      rw [ea] at e
      have e : a = s := e
      subst e
      exact ⟨p.inn, p.least⟩
    · rintro ⟨hs, least⟩
      obtain ⟨L, hL, sL⟩ := h.all s hs.1 hs.2
      obtain ⟨a, ea, p⟩ := hh L hL
      refine ⟨L, hL, ?_⟩
      unfold headD
      rw [ea]
      show a = s
      have h1 := p.least s hs ((p.is s).mp sL).2
      have h2 := least a p.inn ((p.is s).mp sL).2.symm
      omega
theorem LotsP.uniq {n : Int} {ars : List (Int × Int)} {Ls Ls' : List (List Int)} (h : LotsP n ars Ls n) (g : LotsP n ars Ls' n) : Ls = Ls' := by
  have e : Ls.map headD = Ls'.map headD := asc_same h.heads.1 g.heads.1 fun s => (h.heads.2 s).trans (g.heads.2 s).symm
  have len : Ls.length = Ls'.length := by
    have := congrArg List.length e
    rwa [List.length_map, List.length_map] at this
  refine List.ext_getElem len fun i h1 h2 => ?_
  have ei : headD Ls[i] = headD Ls'[i] := by
    have q : (Ls.map headD)[i]? = (Ls'.map headD)[i]? := by rw [e]
    rw [List.getElem?_map, List.getElem?_map, List.getElem?_eq_getElem h1, List.getElem?_eq_getElem h2] at q
    exact Option.some.inj q
  obtain ⟨a, _, p⟩ := h.each _ (List.getElem_mem h1)
  obtain ⟨b, _, q⟩ := g.each _ (List.getElem_mem h2)
  have ea : headD Ls[i] = a := by unfold headD; rw [p.hd]; rfl
  have eb : headD Ls'[i] = b := by unfold headD; rw [q.hd]; rfl
  have ab : a = b := by rw [← ea, ← eb, ei]
  subst ab
  exact p.uniq q
end Sw
namespace Sw
/-! ### the beat: what divides the numbers of steps of all rounds at a stop, and is greatest -/
section
variable {ars : List (Int × Int)} {n : Int}
theorem Rch.one {e : Int × Int} (h : e ∈ ars) : Rch ars 1 e.1 e.2 := .cons h (.nil _)
/-- d divides the numbers of steps of all rounds at s -/
def Divs (ars : List (Int × Int)) (s : Int) (d : Nat) : Prop := ∀ k, Rch ars k s s → d ∣ k
/-- of those of fewer than m steps -/
def DivsTo (ars : List (Int × Int)) (s : Int) (m d : Nat) : Prop := ∀ k, k < m → Rch ars k s s → d ∣ k
/-- d divides the slips: f tells the fewest steps -/
def Slips (ars : List (Int × Int)) (s : Int) (f : Int → Int) (d : Nat) : Prop := ∀ e ∈ ars, Both2 ars s e.1 → Both2 ars s e.2 → (d : Int) ∣ f e.1 + 1 - f e.2
/-- a way within the lot: its slips add up -/
theorem slips_way {s : Int} {f : Int → Int} {d : Nat} (nx : ∀ b c, c ∈ nextOf ars b ↔ (b, c) ∈ ars) (S : Slips ars s f d) : ∀ {k : Nat} {a b : Int}, Rch ars k a b → Both2 ars s a → Both2 ars s b → (d : Int) ∣ f a + k - f b
  | _, _, _, .nil a, _, _ => by
    rw [show f a + ((0 : Nat) : Int) - f a = 0 by omega]
    exact Int.dvd_zero _
  | _, _, _, @Rch.cons _ k a b c m r, ha, hc => by
    have hb : Both2 ars s b := by
      obtain ⟨⟨k1, p1⟩, k2, p2⟩ := ha
      obtain ⟨⟨k3, p3⟩, k4, p4⟩ := hc
      exact ⟨⟨_, p1.app ((rch_path nx).mp (Rch.one m))⟩, _, ((rch_path nx).mp r).app p4⟩
    have h1 := S (a, b) m ha hb
    have h2 := slips_way nx S r hb hc
    have := Int.dvd_add h1 h2
    rw [show f a + ((k + 1 : Nat) : Int) - f c = f (a, b).1 + 1 - f (a, b).2 + (f b + (k : Int) - f c) by dsimp only; omega]
    exact this
theorem slips_divs {s : Int} {f : Int → Int} {d : Nat} (nx : ∀ b c, c ∈ nextOf ars b ↔ (b, c) ∈ ars) (S : Slips ars s f d) : Divs ars s d := fun k h => by
  have := slips_way nx S h (.refl s) (.refl s)
  rw [show f s + (k : Int) - f s = (k : Int) by omega] at this
  exact Int.natCast_dvd_natCast.mp this
/-- what divides the short rounds divides the slips -/
theorem divs_slips {s : Int} {f : Int → Int} {d : Nat} (inn : ∀ e ∈ ars, Inn n e.1 ∧ Inn n e.2) (n1 : 1 ≤ n) (hs : Inn n s) (hf : ∀ v k, Dist (nextOf ars) s v k → f v = (k : Int)) (D : DivsTo ars s (3 * n.toNat + 1) d) : Slips ars s f d := by
  have nx : ∀ b c, c ∈ nextOf ars b ↔ (b, c) ∈ ars := fun b c => next_mem.trans ⟨fun h => h.2, fun h => ⟨(inn _ h).1.1, h⟩⟩
  have near : ∀ v, Both2 ars s v → ∃ k, k < n.toNat ∧ Rch ars k s v ∧ f v = (k : Int) := fun v hv => by
    obtain ⟨⟨k0, p0⟩, _⟩ := hv
    obtain ⟨k, _, d⟩ := p0.fewest
    obtain ⟨i, hi, r⟩ := ((rch_path nx).mpr p0).few inn hs
    have le : k ≤ i := by
      have := d.2 i
      by_cases z : i < k
      · exact (this z ((rch_path nx).mp r)).elim
      · omega
    exact ⟨k, by omega, (rch_path nx).mpr d.1, hf v k d⟩
  intro e he h1 h2
  obtain ⟨k1, l1, r1, f1⟩ := near e.1 h1
  obtain ⟨k2, l2, r2, f2⟩ := near e.2 h2
  obtain ⟨k3, p3⟩ := h2.2
  obtain ⟨k, l3, r3⟩ := ((rch_path nx).mpr p3).few inn (inn e he).2
  have c1 := D (k1 + 1 + k) (by omega) ((r1.app (Rch.one he)).app r3)
  have c2 := D (k2 + k) (by omega) (r2.app r3)
  rw [f1, f2]
  have := Int.dvd_sub (Int.natCast_dvd_natCast.mpr c1) (Int.natCast_dvd_natCast.mpr c2)
  rw [show (k1 : Int) + 1 - (k2 : Int) = ((k1 + 1 + k : Nat) : Int) - ((k2 + k : Nat) : Int) by omega]
  exact this
/-- what is greatest among what divides -/
structure Great (p : Nat → Prop) (g : Nat) : Prop where
  is : p g
  top : ∀ d, p d → d ∣ g
theorem Great.uniq {p q : Nat → Prop} {g h : Nat} (a : Great p g) (b : Great q h) (e : ∀ d, p d ↔ q d) : g = h :=
  Nat.dvd_antisymm (b.top g ((e g).mp a.is)) (a.top h ((e h).mpr b.is))
/-- the beat by slips is that by rounds, and that by short rounds -/
theorem divs_all {s : Int} {f : Int → Int} {d : Nat} (inn : ∀ e ∈ ars, Inn n e.1 ∧ Inn n e.2) (n1 : 1 ≤ n) (hs : Inn n s) (hf : ∀ v k, Dist (nextOf ars) s v k → f v = (k : Int)) : (Slips ars s f d ↔ Divs ars s d) ∧ (DivsTo ars s (3 * n.toNat + 1) d ↔ Divs ars s d) := by
  have nx : ∀ b c, c ∈ nextOf ars b ↔ (b, c) ∈ ars := fun b c => next_mem.trans ⟨fun h => h.2, fun h => ⟨(inn _ h).1.1, h⟩⟩
  have b : DivsTo ars s (3 * n.toNat + 1) d → Divs ars s d := fun h => slips_divs nx (divs_slips inn n1 hs hf h)
  exact ⟨⟨slips_divs nx, fun h => divs_slips inn n1 hs hf fun k _ r => h k r⟩, b, fun h k _ r => h k r⟩
/-- stops of one lot have one beat -/
theorem divs_lot {s t : Int} {d : Nat} (nx : ∀ b c, c ∈ nextOf ars b ↔ (b, c) ∈ ars) (h : Both2 ars s t) (D : Divs ars s d) : Divs ars t d := fun k r => by
  obtain ⟨⟨i, p⟩, j, q⟩ := h
  have p := (rch_path nx).mpr p
  have q := (rch_path nx).mpr q
  have a := D _ (p.app q)
  have b := D _ ((p.app r).app q)
  have e : i + k + j = (i + j) + k := by omega
  rw [e] at b
  exact (Nat.dvd_add_right a).mp b
end
end Sw
namespace Sw
open PySem PySem.Spec PyProof.Rows L2 LamX
/-! ### beat -/
abbrev sPBeat : Stmt := top 9
abbrev nPBeat : List Str := ["net", "stop", "own", "fewest", "greatest", "v", "w"]
theorem scPBeat : FnScope nPBeat ["net", "stop"] (defScope sPBeat) := ⟨rfl, rfl, rfl, by decide +kernel, rfl, by decide +kernel, by decide +kernel⟩
theorem inV_oi {x : Int} {ns : List Int} : inV (.int x) (ns.map V.int) = true ↔ x ∈ ns := by
  constructor
  · intro h
    obtain ⟨y, hy, e⟩ := List.any_eq_true.mp h
    obtain ⟨z, hz, rfl⟩ := List.mem_map.mp hy
    have e : (z == x) = true := e
    exact beq_iff_eq.mp e ▸ hz
  · intro h
    exact List.any_eq_true.mpr ⟨.int x, List.mem_map.mpr ⟨x, h, rfl⟩, beq_self_eq_true x⟩
/-- the fewest steps as a function -/
def fV (ks : List (Int × Nat)) (v : Int) : Int := match valV (knV ks) (.inl v : Key) with
  | some (.int i) => i
  | _ => 0
theorem fV_is {next : Int → List Int} {s : Int} {ks : List (Int × Nat)} (nd : (ks.map Prod.fst).Nodup) (d : ∀ v k, (v, k) ∈ ks ↔ Dist next s v k) (v : Int) (k : Nat) (h : Dist next s v k) : fV ks v = (k : Int) := by
  unfold fV
  rw [kn_val nd ((d v k).mpr h)]
theorem fV_val {next : Int → List Int} {s : Int} {ks : List (Int × Nat)} (nd : (ks.map Prod.fst).Nodup) (d : ∀ v k, (v, k) ∈ ks ↔ Dist next s v k) {v : Int} (h : ∃ k, Path next k s v) : valV (knV ks) (.inl v : Key) = some (.int (fV ks v)) := by
  obtain ⟨k, p⟩ := h
  obtain ⟨j, _, q⟩ := p.fewest
  rw [fV_is nd d v j q, kn_val nd ((d v j).mpr q)]
/-- the greatest behind some arrows -/
def GrB (ars : List (Int × Int)) (s : Int) (f : Int → Int) (es : List (Int × Int)) (g : Nat) : Prop := ∀ d : Nat, d ∣ g ↔ ∀ e ∈ es, Both2 ars s e.1 → Both2 ars s e.2 → (d : Int) ∣ f e.1 + 1 - f e.2
theorem GrB.zero {ars : List (Int × Int)} {s : Int} {f : Int → Int} : GrB ars s f [] 0 := fun d => ⟨fun _ e he => (List.not_mem_nil he).elim, fun _ => Nat.dvd_zero _⟩
theorem GrB.skip {ars es : List (Int × Int)} {s : Int} {f : Int → Int} {g : Nat} {e : Int × Int} (h : GrB ars s f es g) (no : ¬ (Both2 ars s e.1 ∧ Both2 ars s e.2)) : GrB ars s f (es ++ [e]) g := fun d => by
  rw [h d]
  constructor
  · intro a x hx h1 h2
    rcases List.mem_append.mp hx with z | z
    · exact a x z h1 h2
    · rw [List.mem_singleton.mp z] at h1 h2
      exact (no ⟨h1, h2⟩).elim
  · intro a x hx
    exact a x (List.mem_append_left _ hx)
theorem GrB.take {ars es : List (Int × Int)} {s : Int} {f : Int → Int} {g : Nat} {e : Int × Int} (h : GrB ars s f es g) (b1 : Both2 ars s e.1) (b2 : Both2 ars s e.2) : GrB ars s f (es ++ [e]) (Nat.gcd g (f e.1 + 1 - f e.2).natAbs) := fun d => by
  rw [Nat.dvd_gcd_iff, h d, ← Int.ofNat_dvd_left]
  constructor
  · rintro ⟨a, b⟩ x hx h1 h2
    rcases List.mem_append.mp hx with z | z
    · exact a x z h1 h2
    · rw [List.mem_singleton.mp z]
      exact b
  · intro a
    exact ⟨fun x hx => a x (List.mem_append_left _ hx), a e (List.mem_append_right _ (List.mem_singleton.mpr rfl)) b1 b2⟩
section
variable {P : Program} {w : World} {K : PySem.W.Frag} {mg : Str → Option Value} {base : Heap}
def spPBeat (tb : Addr) : Sp := fun vs H Q _ => ∃ (a b : Addr) (n s : Int) (ts : List V) (ars : List (Int × Int)), vs = [.ref a, .int s] ∧ NetAt n H a b ts ∧ ArsAt H ts ars ∧ Inn n s ∧ Tabs (lamT tb) H ∧
  ∀ (g : Nat) (H' : Hp), ExtN H H' → Tabs (lamT tb) H' → Great (Divs ars s) g → Q (.int (g : Nat)) H'
theorem ok_pBeat {f tb : Addr} {fd : FuncData} (F : Fun K "beat" "beat" sPBeat f fd) (B : NoNames mg) (mG : mg "gcd" = some (.builtin "math.gcd")) (OF : Own P w K mg base 5 "fewest_from" ["net", "stop"] (spFew tb)) (OL : Own P w K mg base 6 "lot_of" ["net", "stop"] (spLotOf tb)) :
    FnOk P w K mg base CX0 7 f fd ["net", "stop"] (spPBeat tb) := by
  obtain ⟨fF, fdF, GF, mF, kF, bF⟩ := OF.ex
  obtain ⟨fL, fdL, GL, mL, kL, bL⟩ := OL.ex
  refine F.ok scPBeat (fun vs H Q E h => ?_) (fun cdv A outer s H vs Q E hr h => ?_)
  · obtain ⟨a, b, n, s, ts, ars, rfl, _⟩ := h
    rfl
  · obtain ⟨a, b, n, s, ts, ars, rfl, N, AR, hs, hT, k⟩ := h
    have hu := hu_of hr
    have hr6 := hr.mono (by decide : 5 ≤ 6)
    refine ⟨_, pss_cons (ps_set (i := 2) scPBeat.nd rfl (.inl rfl) (pe_call GL hr rfl mL kL bL .nil pass0 (pa_cons (pv 0) (pa_cons (pv 1) pa_nil)))) <|
      pss_cons (ps_set (i := 3) scPBeat.nd rfl (.inl rfl) (pe_call GF hr6 rfl mF kF bF .nil pass0 (pa_cons (pv 0) (pa_cons (pv 1) pa_nil)))) <|
      pss_cons (ps_set (i := 4) scPBeat.nd rfl (.inl rfl) pe_int) <|
      pss_cons (ps_for PassesOwn.never rfl (pi_tup (pe_ix ix_tup (pv 0) pe_int (fun _ _ => rfl))) (pg_tup rfl (pgs_cons (pg_name (i := 5) scPBeat.nd rfl (.inl rfl)) (pgs_cons (pg_name (i := 6) scPBeat.nd rfl (.inl rfl)) pgs_nil)))
        (pss_one (ps_if (PW.pt (pw_and (pt_cmpR (r := rIn K false) op_in_seq (pv 5) (pv 2) (by with_unfolding_all rfl)) (pw_and1 (pt_cmpR (r := rIn K false) op_in_seq (pv 6) (pv 2) (by with_unfolding_all rfl)))))
          (pss_one (ps_set (i := 4) scPBeat.nd rfl (.inl rfl) (pe_callBfun cr_gcd (by rfl) mG (pa_cons (pv 4) (pa_cons (pe_op op_sub (pe_op op_add (pe_dget hu (pv 3) (pv 5) (fun _ _ => rfl)) pe_int) (pe_dget hu (pv 3) (pv 6) (fun _ _ => rfl))) pa_nil))))) pss_nil))) <|
      pss_one (ps_ret (pv 4)), ?_⟩
    have n1 := N.n1
    have n2 := N.n2
    have inn := ars_inn N.arr AR
    refine ⟨_, rfl, _, rfl, a, b, n, s, ts, ars, rfl, N, AR, hs, hT, fun ro os H1 x1 hT1 hro asc own => ?_⟩
    have t1 : TupS H H1 := fun b xs e => x1 _ _ e fun ps z => nomatch z
    refine ⟨_, rfl, _, rfl, a, b, n, s, ts, ars, rfl, N.keep t1, AR.keep t1, hs, hT1, fun rf ks H2 x2 hT2 hrf nd kd => ?_⟩
    have x12 := x1.trans x2
    have t2 : TupS H H2 := fun b xs e => x12 _ _ e fun ps z => nomatch z
    have hro2 := x2 _ _ hro fun ps z => nomatch z
    have N2 := N.keep t2
    have AR2 := AR.keep t2
    refine ⟨_, rfl, a, _, 1, .ref b, rfl, rfl, SqT.of N2.a, at_of (j := 1) rfl rfl, b, rfl, ⟨_, SqT.of N2.b⟩, ?_⟩
    refine for_it (walk_tup (xs := ts)) (fun i σ Z => ∃ (g : Nat) (s5 s6 : Option V), σ = [some (.ref a), some (.int s), some (.ref ro), some (.ref rf), some (.int (g : Nat)), s5, s6] ∧ Z = H2 ∧ GrB ars s (fV ks) (ars.take i) g)
      ⟨0, _, _, rfl, rfl, by rw [List.take_zero]; exact .zero⟩ (fun i σ Z _ h => by obtain ⟨_, _, _, _, rfl, _⟩ := h; exact SqT.of N2.b) ?_ ?_
    · rintro i x σ Hb Hc hi ⟨g, s5, s6, rfl, rfl, G⟩ ⟨rfl, ex⟩
      obtain ⟨e, t, he, rfl, ht⟩ := AR2.at ex
      have ie := inn e (List.mem_of_getElem? he)
      have tk : ars.take (i + 1) = ars.take i ++ [e] := by rw [List.take_add_one, he]; rfl
      refine ⟨t, _, rfl, SqT.of ht, rfl, _, _, rfl, _, _, rfl, rfl, ?_⟩
      have q1 : inV (.int e.1) (os.map V.int) = true ↔ Both2 ars s e.1 := inV_oi.trans ((own e.1).trans ⟨fun h => h.2, fun h => ⟨ie.1, h⟩⟩)
      have q2 : inV (.int e.2) (os.map V.int) = true ↔ Both2 ars s e.2 := inV_oi.trans ((own e.2).trans ⟨fun h => h.2, fun h => ⟨ie.2, h⟩⟩)
      have skip : ¬ (Both2 ars s e.1 ∧ Both2 ars s e.2) → GrB ars s (fV ks) (ars.take (i + 1)) g := fun no => by
        rw [tk]
        exact G.skip no
      refine ⟨_, rfl, _, rfl, ro, _, rfl, .inr (SqT.of hro2), rfl, List.all_eq_true.mpr (fun v hv => by obtain ⟨z, _, rfl⟩ := List.mem_map.mp hv; rfl), _, rfl, ite2 (fun y1 => ?_) (fun y1 => ?_)⟩
      · have b1 := q1.mp y1
        refine ⟨_, rfl, _, rfl, ro, _, rfl, .inr (SqT.of hro2), rfl, List.all_eq_true.mpr (fun v hv => by obtain ⟨z, _, rfl⟩ := List.mem_map.mp hv; rfl), _, rfl, ite2 (fun y2 => ?_) (fun y2 => ?_)⟩
        · have b2 := q2.mp y2
          refine ⟨_, rfl, _, rfl, _, rfl, rf, _, rfl, by rw [← fV_val nd kd b1.1]; exact DGet.k (k := .inl e.1) hrf, ?_⟩
          refine ⟨_, _, rfl, rfl, _, rfl, _, rfl, rf, _, rfl, by rw [← fV_val nd kd b2.1]; exact DGet.k (k := .inl e.2) hrf, ?_⟩
          refine ⟨_, _, rfl, rfl, _, _, rfl, ?_⟩
          refine ⟨_, _, _, rfl, rfl, ?_⟩
          rw [tk, Int.natAbs_natCast]
          exact G.take b1 b2
        · exact ⟨g, _, _, rfl, rfl, skip fun z => y2 (q2.mpr z.2)⟩
      · exact ⟨g, _, _, rfl, rfl, skip fun z => y1 (q1.mpr z.1)⟩
    · rintro σ H3 ⟨g, s5, s6, rfl, rfl, G⟩
      rw [AR2.len, List.take_length] at G
      have D := divs_all (d := 0) inn (by omega) hs (fV_is nd kd)
      refine ⟨_, rfl, k g _ x12 hT2 ⟨?_, fun d hd => ?_⟩⟩
      · exact (divs_all inn (by omega) hs (fV_is nd kd)).1.mp ((G g).mp (Nat.dvd_refl g))
      · exact (G d).mpr ((divs_all inn (by omega) hs (fV_is nd kd)).1.mpr hd)
end
end Sw
namespace Sw
open PySem PySem.Spec PyProof.Rows L2
/-! ### the two fives, their stops called in any order -/
def fiveS (last : Bool) : List (Int × Int) := [(0, 1), (0, 3), (1, 2), (2, 0), (3, 4), (4, if last then 2 else 0)]
def fiveG (last : Bool) : List (Int × Int) := [(0, 1), (1, 2), (2, 0), (0, 3), (3, 4), (4, if last then 2 else 0)]
theorem lexB_anti {p q : Int × Int} (h1 : SrtO.lexB p q = false) (h2 : SrtO.lexB q p = false) : p = q := by
  have a : ¬ SrtO.lexB p q = true := by rw [h1]; decide
  have b : ¬ SrtO.lexB q p = true := by rw [h2]; decide
  rw [SrtO.lexB_iff] at a b
  exact Prod.ext (by omega) (by omega)
theorem srt_eq {l m : List (Int × Int)} (a : SrtA l) (b : SrtA m) (p : l.Perm m) : l = m := p.eq_of_pairwise (fun _ _ _ _ h1 h2 => lexB_anti h2 h1) a b
theorem AscA.srt {l : List (Int × Int)} (h : AscA l) : SrtA l := h.imp fun {a b} h => by
  cases e : SrtO.lexB b a with
  | false => rfl
  | true =>
    have h := SrtO.lexB_iff.mp h
    have e := SrtO.lexB_iff.mp e
    omega
theorem SrtA.asc {l : List (Int × Int)} (h : SrtA l) (nd : l.Nodup) : AscA l := by
  induction l with
  | nil => exact .nil
  | cons a r ih =>
    obtain ⟨h1, h2⟩ := List.pairwise_cons.mp h
    obtain ⟨n1, n2⟩ := List.nodup_cons.mp nd
    refine List.pairwise_cons.mpr ⟨fun b hb => ?_, ih h2 n2⟩
    cases e : SrtO.lexB a b with
    | true => rfl
    | false =>
      have := lexB_anti e (h1 b hb)
      rw [this] at n1
      exact (n1 hb).elim
theorem fiveS_srt : ∀ b, SrtA (fiveS b) := by
  have : ∀ b, (fiveS b).Pairwise fun x y => SrtO.lexB y x = false := by decide
  exact this
theorem fiveGS (b : Bool) : (fiveG b).Perm (fiveS b) := by
  have : ∀ b, (fiveG b).isPerm (fiveS b) = true := by decide
  exact List.isPerm_iff.mp (this b)
theorem fiveG_in : ∀ b, ∀ e ∈ fiveG b, (0 ≤ e.1 ∧ e.1 < 5) ∧ (0 ≤ e.2 ∧ e.2 < 5) := by decide
/-- the rows of the numbers below m, one longer -/
def ordNext (m : Nat) (rows : List (List Int)) : List (List Int) := rows.flatMap fun row => (((List.range m).map fun k : Nat => (k : Int)).filter fun o => decide (o ∉ row)).map fun o => row ++ [o]
def ords (m : Nat) : Nat → List (List Int)
  | 0 => [[]]
  | k + 1 => ordNext m (ords m k)
def allPerms : List (List Int) := (allNums 119 perm0).map fun ns => (ns.take 5).map fun j : Nat => (j : Int)
theorem allNums_at : ∀ (k j : Nat), j + k ≤ 119 → allNums k (numAt j) = (List.range (k + 1)).map fun i => numAt (j + i)
  | 0, j, _ => rfl
  | k + 1, j, h => by
    obtain ⟨ix, cy, e, en, _, _⟩ := num_step (i := j) (by omega)
    unfold allNums
    rw [e, List.range_succ_eq_map, List.map_cons, List.map_map]
    dsimp only
    rw [← en, allNums_at k (j + 1) (by omega)]
    congr 1
    refine List.map_congr_left fun i _ => ?_
    show numAt (j + 1 + i) = numAt (j + (i + 1))
    rw [Nat.add_right_comm, Nat.add_assoc]
theorem mem_perms {p : List Int} : p ∈ allPerms ↔ ∃ i, i < 120 ∧ p = permAt i := by
  unfold allPerms
  rw [show perm0 = numAt 0 from rfl, allNums_at 119 0 (by decide), List.map_map, List.mem_map]
  constructor
  · rintro ⟨i, hi, rfl⟩
    refine ⟨i, List.mem_range.mp hi, ?_⟩
    show ((numAt (0 + i)).take 5).map _ = permAt i
    rw [Nat.zero_add]
    rfl
  · rintro ⟨i, hi, rfl⟩
    refine ⟨i, List.mem_range.mpr hi, ?_⟩
    show ((numAt (0 + i)).take 5).map _ = permAt i
    rw [Nat.zero_add]
    rfl
/-- the row that leads back -/
def invL (os : List Int) : List Int := (List.range 5).map fun v : Nat => ((os.idxOf (v : Int) : Nat) : Int)
def okInv (p q : List Int) : Bool := p.length == 5 && p.all (fun x => decide (0 ≤ x ∧ x < 5)) && (List.range 5).all fun v : Nat => ren q (ren p (v : Int)) == (v : Int)
theorem perms_back : (allPerms.all fun p => (ords 5 5).contains (invL p) && okInv p (invL p)) = true := by decide +kernel
theorem ords_back : ((ords 5 5).all fun p => allPerms.contains (invL p) && okInv p (invL p)) = true := by decide +kernel
theorem okInv_is {p q : List Int} (h : okInv p q = true) : p.length = 5 ∧ (∀ x ∈ p, Inn 5 x) ∧ ∀ v, Inn 5 v → ren q (ren p v) = v := by
  unfold okInv at h
  simp only [Bool.and_eq_true, beq_iff_eq, List.all_eq_true, decide_eq_true_eq] at h
  refine ⟨h.1.1, fun x hx => h.1.2 x hx, fun v hv => ?_⟩
  obtain ⟨k, rfl⟩ := Int.eq_ofNat_of_zero_le hv.1
  have := hv.2
  exact h.2 k (List.mem_range.mpr (by omega))
theorem perm_ok {i : Nat} (h : i < 120) : (permAt i).length = 5 ∧ (∀ x ∈ permAt i, Inn 5 x) ∧ ∃ o ∈ ords 5 5, ∀ v, Inn 5 v → ren o (ren (permAt i) v) = v := by
  have q := List.all_eq_true.mp perms_back _ (mem_perms.mpr ⟨i, h, rfl⟩)
  rw [Bool.and_eq_true] at q
  obtain ⟨a, b, c⟩ := okInv_is q.2
  exact ⟨a, b, _, List.contains_iff_mem.mp q.1, c⟩
theorem ord_ok {o : List Int} (h : o ∈ ords 5 5) : o.length = 5 ∧ (∀ x ∈ o, Inn 5 x) ∧ ∃ i, i < 120 ∧ ∀ v, Inn 5 v → ren (permAt i) (ren o v) = v := by
  have q := List.all_eq_true.mp ords_back _ h
  rw [Bool.and_eq_true] at q
  obtain ⟨a, b, c⟩ := okInv_is q.2
  obtain ⟨i, hi, e⟩ := mem_perms.mp (List.contains_iff_mem.mp q.1)
  exact ⟨a, b, i, hi, fun v hv => by rw [← e]; exact c v hv⟩
theorem renE_back {p q : List Int} {ars : List (Int × Int)} (h : ∀ v, Inn 5 v → ren q (ren p v) = v) (inn : ∀ e ∈ ars, Inn 5 e.1 ∧ Inn 5 e.2) : (ars.map (renE p)).map (renE q) = ars := by
  rw [List.map_map]
  refine (List.map_congr_left fun e he => ?_).trans (List.map_id _)
  exact Prod.ext (h _ (inn e he).1) (h _ (inn e he).2)
/-- one of the two fives, called somehow -/
def FiveP (n : Int) (ars : List (Int × Int)) : Prop := n = 5 ∧ ars.length = 6 ∧ ∃ i, i < 120 ∧ ∃ b, (ars.map (renE (permAt i))).Perm (fiveS b)
theorem five_law {n : Int} {ars : List (Int × Int)} (inn : ∀ e ∈ ars, Inn n e.1 ∧ Inn n e.2) : FiveP n ars ↔ n = 5 ∧ ars.length = 6 ∧ ∃ o ∈ ords 5 5, ∃ b, ((fiveG b).map (renE o)).Perm ars := by
  unfold FiveP
  refine and_congr_right fun n5 => and_congr_right fun _ => ?_
  subst n5
  constructor
  · rintro ⟨i, hi, b, p⟩
    obtain ⟨_, _, o, ho, e⟩ := perm_ok hi
    refine ⟨o, ho, b, ?_⟩
    have q := (p.symm.map (renE o))
    rw [renE_back e inn] at q
    exact ((fiveGS b).map _).trans q
  · rintro ⟨o, ho, b, p⟩
    obtain ⟨_, _, i, hi, e⟩ := ord_ok ho
    refine ⟨i, hi, b, ?_⟩
    have q := (p.symm.map (renE (permAt i)))
    rw [renE_back e fun x hx => fiveG_in b x hx] at q
    exact q.trans (fiveGS b)
/-! ### kinds -/
structure KindP (n : Int) (ars : List (Int × Int)) (x : Str) : Prop where
  lone : n = 1 → x = "lone"
  ring : n ≠ 1 → 3 ≤ n ∧ (ars.length : Int) = n → x = "ring"
  five : n ≠ 1 → ¬ (3 ≤ n ∧ (ars.length : Int) = n) → FiveP n ars → x = "five"
  half : n ≠ 1 → ¬ (3 ≤ n ∧ (ars.length : Int) = n) → ¬ FiveP n ars → Divs ars 0 2 → x = "half"
  all : n ≠ 1 → ¬ (3 ≤ n ∧ (ars.length : Int) = n) → ¬ FiveP n ars → ¬ Divs ars 0 2 → x = "all"
theorem KindP.uniq {n : Int} {ars : List (Int × Int)} {x y : Str} (a : KindP n ars x) (b : KindP n ars y) : x = y := by
  by_cases h1 : n = 1
  · rw [a.lone h1, b.lone h1]
  by_cases h2 : 3 ≤ n ∧ (ars.length : Int) = n
  · rw [a.ring h1 h2, b.ring h1 h2]
  by_cases h3 : FiveP n ars
  · rw [a.five h1 h2 h3, b.five h1 h2 h3]
  by_cases h4 : Divs ars 0 2
  · rw [a.half h1 h2 h3 h4, b.half h1 h2 h3 h4]
  · rw [a.all h1 h2 h3 h4, b.all h1 h2 h3 h4]
theorem Great.even {ars : List (Int × Int)} {g : Nat} (G : Great (Divs ars 0) g) : Divs ars 0 2 ↔ g % 2 = 0 :=
  ⟨fun h => Nat.mod_eq_zero_of_dvd (G.top 2 h), fun h k r => Nat.dvd_trans (Nat.dvd_of_mod_eq_zero h) (G.is k r)⟩
theorem great_mod {g : Nat} : V.int ((g : Int) % 2) = V.int 0 ↔ g % 2 = 0 := by
  rw [V.int.injEq]
  omega
/-- two stops that lead to each other -/
def twoArs : List (Int × Int) := [(0, 1), (1, 0)]
theorem two_way {k : Nat} {a c : Int} (h : Rch twoArs k a c) : (a = 0 ∨ a = 1) → (c - a - k) % 2 = 0 := by
  induction h with
  | nil a => intro _; omega
  | cons m _ ih =>
    intro ha
    simp only [twoArs, List.mem_cons, Prod.mk.injEq, List.not_mem_nil, or_false] at m
    rcases m with ⟨rfl, rfl⟩ | ⟨rfl, rfl⟩
    · have := ih (.inr rfl)
      omega
    · have := ih (.inl rfl)
      omega
theorem two_half {x : Str} (h : KindP 2 twoArs x) : x = "half" := by
  refine h.half (by decide) (by decide) (fun z => ?_) fun k r => ?_
  · have := z.1
    omega
  · have := two_way r (.inl rfl)
    omega
end Sw
namespace Sw.P3
open PySem
def permFs (pool : Addr) (flag : Int) (before : Value) (ns : List Nat) : Array Value := ([.ref pool, rawInt flag, rawInt 3, before] ++ ns.map fun n : Nat => rawInt n).toArray
theorem permFs_0 (pool : Addr) (flag : Int) (before : Value) (ns : List Nat) : (permFs pool flag before ns)[0]? = some (.ref pool) := by simp [permFs]
theorem permFs_1 (pool : Addr) (flag : Int) (before : Value) (ns : List Nat) : (permFs pool flag before ns)[1]? = some (rawInt flag) := by simp [permFs]
theorem permFs_2 (pool : Addr) (flag : Int) (before : Value) (ns : List Nat) : (permFs pool flag before ns)[2]? = some (rawInt 3) := by simp [permFs]
theorem permFs_3 (pool : Addr) (flag : Int) (before : Value) (ns : List Nat) : (permFs pool flag before ns)[3]? = some before := by simp [permFs]
theorem permFs_4 (pool : Addr) (flag : Int) (before : Value) (ns : List Nat) : (((permFs pool flag before ns).toList.drop 4).map fun | .int n _ => n.toNat | _ => 0) = ns := by
  show (((ns.map fun n : Nat => rawInt n)).map fun | .int n _ => n.toNat | _ => 0) = ns
  rw [List.map_map]
  exact (List.map_congr_left fun n _ => by simp [rawInt]).trans (List.map_id _)
theorem permFs_set1 (pool : Addr) (flag flag' : Int) (before : Value) (ns : List Nat) : (permFs pool flag before ns).setIfInBounds 1 (rawInt flag') = permFs pool flag' before ns := by
  simp [permFs]
theorem permFs_set3 (pool : Addr) (flag : Int) (before b' : Value) (ns : List Nat) : (permFs pool flag before ns).setIfInBounds 3 b' = permFs pool flag b' ns := by
  simp [permFs]
theorem permFs_num (pool : Addr) (flag : Int) (before : Value) (ns ms : List Nat) : (permFs pool flag before ns).extract 0 4 ++ (ms.map fun n : Nat => rawInt n).toArray = permFs pool flag before ms := by
  simp [permFs]
theorem permFs_size (pool : Addr) (flag : Int) (before : Value) (ns : List Nat) : (permFs pool flag before ns).size = 4 + ns.length := by simp [permFs]; omega
/-- the record: the pool, whether it has begun, what it told last, where it stands -/
def permObj (pool : Addr) (flag : Int) (before : Value) (ns : List Nat) : Obj :=
  { cls := .type "itertools.permutations", dict := none, data := .fields (permFs pool flag before ns), slots := #[] }
section
variable {prog : Program} {w : World} {A : Around} {E : Value → Shared → Prop} {s : Shared}
/-- what is told is a new tuple, kept by the record -/
theorem perm_told {p pool : Addr} {flag : Int} {before : Value} {ns ix : List Nat} {items : Array Value} {s0 : Shared} {Q : Value → Shared → Prop} (h0 : s0.heap.get? p = some (permObj pool flag before ns)) (hl : (ix.take 3).length ≤ 3)
    (hQ : ∀ h', h'.get? p = some (permObj pool flag (.ref s0.heap.objs.size) ns) → h'.get? s0.heap.objs.size = some { cls := .type "tuple", data := .seq ((ix.take 3).map fun i => items.getD i .none).toArray } →
      (∀ c o, c ≠ p → s0.heap.get? c = some o → h'.get? c = some o) → Q (.ref s0.heap.objs.size) { s0 with heap := h' }) :
    wpAny (model prog w) A (do
      let t ← newTuple (List.map (fun i => items.getD i Value.none) (List.take (Int.toNat 3) ix))
      let before ← field (Value.ref p) 3
      setField (Value.ref p) 3 t
      letGo [before] [t]
      ret t) (fun fin s' => ∃ v, fin = .done (.ret v) ∧ Q v s') E s0 := by
  have lt : p < s0.heap.objs.size := Heap.lt_size h0
  refine wpAny_bind (wpAny_newTuple ?_ (by rw [List.length_map, sizeLine_eq]; have : (List.take (Int.toNat 3) ix).length ≤ 3 := hl; omega))
  have h1 := Heap.get?_push_of_some { cls := .type "tuple", data := .seq (List.map (fun i => items.getD i Value.none) (List.take (Int.toNat 3) ix)).toArray } h0
  refine wpAny_bind (wpAny_field h1 rfl (x := before) (permFs_3 ..) ?_)
  refine wpAny_bind (wpAny_setField_rec h1 (by rw [permFs_size]; omega) fun h2 e2 sb => ?_)
  refine wpAny_bind (wpAny_letGo (wpAny_pure ⟨_, rfl, ?_⟩))
  rw [permFs_set3] at e2
  exact hQ h2 e2 (sb.extBut _ _ (Nat.ne_of_gt lt) (Heap.get?_push_size _ rfl)) fun c o ne e => sb.extBut _ _ ne (Heap.get?_push_of_some _ e)
theorem perm_item1 {p pool : Addr} {before : Value} {ns ix cy : List Nat} {items : Array Value} {op : Obj} {c : Nat} {Q : Value → Shared → Prop} (hp : s.heap.get? p = some (permObj pool 1 before ns)) (hq : s.heap.get? pool = some op) (hd : op.data = .seq items c) (h5 : items.size = 3)
    (hn : nextP 3 3 (ns.take 3) (ns.drop 3) = some (ix, cy)) (hl : (ix ++ cy).length ≤ 20)
    (hQ : ∀ h', h'.get? p = some (permObj pool 1 (.ref s.heap.objs.size) (ix ++ cy)) → h'.get? s.heap.objs.size = some { cls := .type "tuple", data := .seq ((ix.take 3).map fun i => items.getD i .none).toArray } →
      (∀ c o, c ≠ p → s.heap.get? c = some o → h'.get? c = some o) → Q (.ref s.heap.objs.size) { s with heap := h' }) :
    wpAny (model prog w) A (Builtin.«itertools.permutations.__next__» ⟨[.ref p], []⟩) (fun fin s' => ∃ v, fin = .done (.ret v) ∧ Q v s') E s := by
  show wpAny _ _ (field (.ref p) 0 >>= _) _ _ _
  refine wpAny_bind (wpAny_field hp rfl (x := .ref pool) (permFs_0 ..) ?_)
  show wpAny _ _ (Builtin.Itertools.itPoolItems (.ref pool) >>= _) _ _ _
  unfold Builtin.Itertools.itPoolItems
  refine wpAny_bind (wpAny_bind (wpAny_seqItems hq hd ?_))
  refine wpAny_pure ?_
  show wpAny _ _ (Builtin.Itertools.itIntField (.ref p) 2 >>= _) _ _ _
  unfold Builtin.Itertools.itIntField
  refine wpAny_bind (wpAny_bind (wpAny_field hp rfl (x := rawInt 3) (permFs_2 ..) ?_))
  refine wpAny_pure ?_
  show wpAny _ _ (Builtin.Itertools.itNumbersFrom (.ref p) 4 >>= _) _ _ _
  unfold Builtin.Itertools.itNumbersFrom
  refine wpAny_bind (wpAny_bind (wpAny_load hp ?_))
  refine wpAny_pure ?_
  show wpAny _ _ (Builtin.Itertools.itIntField (.ref p) 1 >>= _) _ _ _
  unfold Builtin.Itertools.itIntField
  refine wpAny_bind (wpAny_bind (wpAny_field hp rfl (x := rawInt 1) (permFs_1 ..) ?_))
  refine wpAny_pure ?_
  generalize hm : List.map _ (List.drop 4 (permFs pool 1 before ns).toList) = ms
  obtain rfl : ns = ms := (permFs_4 pool 1 before ns).symm.trans hm
  rw [h5]
  split
  · rename_i h
    exact absurd h (by decide)
  · split
    · rename_i ix' cy' heq
      have heq : nextP 3 3 (ns.take 3) (ns.drop 3) = some (ix', cy') := heq
      rw [hn] at heq
      cases heq
      unfold Builtin.Itertools.itSetNumbersFrom
      refine wpAny_bind (wpAny_updateFields hp rfl ?_ ?_)
      · have h1 : (s.heap.update p (Obj.mapFields fun fs => fs.extract 0 4 ++ (List.map (fun n : Nat => rawInt n) (ix ++ cy)).toArray)).get? p = some (permObj pool 1 before (ix ++ cy)) := by
          have := Heap.get?_update_self (h := s.heap) (Obj.mapFields fun fs => fs.extract 0 4 ++ (List.map (fun n : Nat => rawInt n) (ix ++ cy)).toArray) hp rfl
          have e : ∀ f, Obj.mapFields f (permObj pool 1 before ns) = { cls := .type "itertools.permutations", dict := none, data := .fields (f (permFs pool 1 before ns)), slots := #[] } := fun f => rfl
          rw [this, e, permFs_num]
          rfl
        have sb : Heap.SameBut p s.heap (s.heap.update p (Obj.mapFields fun fs => fs.extract 0 4 ++ (List.map (fun n : Nat => rawInt n) (ix ++ cy)).toArray)) := Heap.SameBut.update ..
        generalize (s.heap.update p (Obj.mapFields fun fs => fs.extract 0 4 ++ (List.map (fun n : Nat => rawInt n) (ix ++ cy)).toArray)) = h' at h1 sb ⊢
        refine perm_told (s0 := { s with heap := h' }) h1 (by rw [List.length_take]; omega) fun h2 e1 e2 ek => ?_
        dsimp only at e1 e2 ek ⊢
        rw [sb.1] at e1 e2 ⊢
        exact hQ h2 e1 e2 fun c o ne e => ek c o ne (sb.extBut _ _ ne e)
      · rw [permFs_num, permFs_size, sizeLine_eq]
        omega
    · rename_i heq
      have heq : nextP 3 3 (ns.take 3) (ns.drop 3) = none := heq
      rw [hn] at heq
      cases heq
  · rename_i h0 h1
    exact absurd rfl h1
theorem perm_item0 {p pool : Addr} {before : Value} {ns : List Nat} {items : Array Value} {op : Obj} {c : Nat} {Q : Value → Shared → Prop} (hp : s.heap.get? p = some (permObj pool 0 before ns)) (hq : s.heap.get? pool = some op) (hd : op.data = .seq items c) (h5 : items.size = 3)
    (hQ : ∀ h', h'.get? p = some (permObj pool 1 (.ref s.heap.objs.size) ns) → h'.get? s.heap.objs.size = some { cls := .type "tuple", data := .seq ((ns.take 3).map fun i => items.getD i .none).toArray } →
      (∀ c o, c ≠ p → s.heap.get? c = some o → h'.get? c = some o) → Q (.ref s.heap.objs.size) { s with heap := h' }) :
    wpAny (model prog w) A (Builtin.«itertools.permutations.__next__» ⟨[.ref p], []⟩) (fun fin s' => ∃ v, fin = .done (.ret v) ∧ Q v s') E s := by
  show wpAny _ _ (field (.ref p) 0 >>= _) _ _ _
  refine wpAny_bind (wpAny_field hp rfl (x := .ref pool) (permFs_0 ..) ?_)
  show wpAny _ _ (Builtin.Itertools.itPoolItems (.ref pool) >>= _) _ _ _
  unfold Builtin.Itertools.itPoolItems
  refine wpAny_bind (wpAny_bind (wpAny_seqItems hq hd ?_))
  refine wpAny_pure ?_
  show wpAny _ _ (Builtin.Itertools.itIntField (.ref p) 2 >>= _) _ _ _
  unfold Builtin.Itertools.itIntField
  refine wpAny_bind (wpAny_bind (wpAny_field hp rfl (x := rawInt 3) (permFs_2 ..) ?_))
  refine wpAny_pure ?_
  show wpAny _ _ (Builtin.Itertools.itNumbersFrom (.ref p) 4 >>= _) _ _ _
  unfold Builtin.Itertools.itNumbersFrom
  refine wpAny_bind (wpAny_bind (wpAny_load hp ?_))
  refine wpAny_pure ?_
  show wpAny _ _ (Builtin.Itertools.itIntField (.ref p) 1 >>= _) _ _ _
  unfold Builtin.Itertools.itIntField
  refine wpAny_bind (wpAny_bind (wpAny_field hp rfl (x := rawInt 0) (permFs_1 ..) ?_))
  refine wpAny_pure ?_
  generalize hm : List.map _ (List.drop 4 (permFs pool 0 before ns).toList) = ms
  obtain rfl : ns = ms := (permFs_4 pool 0 before ns).symm.trans hm
  rw [h5]
  split
  · refine wpAny_bind (wpAny_setField_rec hp (by rw [permFs_size]; omega) fun h1 e1 sb => ?_)
    rw [permFs_set1] at e1
    have e1 : h1.get? p = some (permObj pool 1 before ns) := e1
    refine perm_told (s0 := { s with heap := h1 }) e1 (by rw [List.length_take]; omega) fun h2 e1 e2 ek => ?_
    dsimp only at e1 e2 ek ⊢
    rw [sb.1] at e1 e2 ⊢
    exact hQ h2 e1 e2 fun c o ne e => ek c o ne (sb.extBut _ _ ne e)
  · rename_i h
    exact absurd h (by decide)
  · rename_i h0 h1
    exact absurd rfl h0
theorem perm_end {p pool : Addr} {before : Value} {ns : List Nat} {items : Array Value} {op : Obj} {c : Nat} {Q : Fin → Shared → Prop} (hh : A.handled = none) (hp : s.heap.get? p = some (permObj pool 1 before ns)) (hq : s.heap.get? pool = some op) (hd : op.data = .seq items c) (h5 : items.size = 3)
    (hn : nextP 3 3 (ns.take 3) (ns.drop 3) = none)
    (hE : ∀ h' e, (∀ c o, c ≠ p → s.heap.get? c = some o → h'.get? c = some o) → (∃ o, h'.get? e = some o ∧ o.cls = .type "StopIteration") → E (.ref e) { s with heap := h' }) :
    wpAny (model prog w) A (Builtin.«itertools.permutations.__next__» ⟨[.ref p], []⟩) Q E s := by
  show wpAny _ _ (field (.ref p) 0 >>= _) _ _ _
  refine wpAny_bind (wpAny_field hp rfl (x := .ref pool) (permFs_0 ..) ?_)
  show wpAny _ _ (Builtin.Itertools.itPoolItems (.ref pool) >>= _) _ _ _
  unfold Builtin.Itertools.itPoolItems
  refine wpAny_bind (wpAny_bind (wpAny_seqItems hq hd ?_))
  refine wpAny_pure ?_
  show wpAny _ _ (Builtin.Itertools.itIntField (.ref p) 2 >>= _) _ _ _
  unfold Builtin.Itertools.itIntField
  refine wpAny_bind (wpAny_bind (wpAny_field hp rfl (x := rawInt 3) (permFs_2 ..) ?_))
  refine wpAny_pure ?_
  show wpAny _ _ (Builtin.Itertools.itNumbersFrom (.ref p) 4 >>= _) _ _ _
  unfold Builtin.Itertools.itNumbersFrom
  refine wpAny_bind (wpAny_bind (wpAny_load hp ?_))
  refine wpAny_pure ?_
  show wpAny _ _ (Builtin.Itertools.itIntField (.ref p) 1 >>= _) _ _ _
  unfold Builtin.Itertools.itIntField
  refine wpAny_bind (wpAny_bind (wpAny_field hp rfl (x := rawInt 1) (permFs_1 ..) ?_))
  refine wpAny_pure ?_
  generalize hm : List.map _ (List.drop 4 (permFs pool 1 before ns).toList) = ms
  obtain rfl : ns = ms := (permFs_4 pool 1 before ns).symm.trans hm
  rw [h5]
  split
  · rename_i h
    exact absurd h (by decide)
  · split
    · rename_i ix' cy' heq
      have heq : nextP 3 3 (ns.take 3) (ns.drop 3) = some (ix', cy') := heq
      rw [hn] at heq
      cases heq
    · refine wpAny_bind (wpAny_setField_rec hp (by rw [permFs_size]; omega) fun h1 e1 sb => ?_)
      unfold Builtin.Itertools.itStop
      refine wpAny_bind ?_
      simp only [newExc, newTuple]
      refine wpAny_bind (wpAny_newObj_type ?_ (by size_fits))
      refine wpAny_bind (m := firstArgMember _ _) (wpAny_of_eq (a := Value.none) (by first | rfl | (simp only [firstArgMember]; rfl)) ?_)
      refine wpAny_newObj_type ?_ (by size_fits)
      simp only [raiseNew]
      refine wpAny_bind (wpAny_handled ?_)
      rw [hh]
      refine wpAny_bind (wpAny_pure (wpAny_throw ?_))
      refine hE _ _ (fun c o ne e => ?_) ⟨_, Heap.get?_push_size _ rfl, rfl⟩
      exact Heap.get?_push_of_some _ (Heap.get?_push_of_some _ (sb.extBut _ _ ne e))
  · rename_i h0 h1
    exact absurd rfl h1
end
end Sw.P3
namespace Sw.P3
open PySem PySem.Spec PyProof.Rows L2 RZ
section
variable {prog : Program} {w : World} {A : Around} {E : Value → Shared → Prop} {s : Shared}
theorem perm_type {p pool : Addr} {flag : Int} {before : Value} {ns : List Nat} (hp : s.heap.get? p = some (permObj pool flag before ns)) : s.TypeIs (.ref p) "itertools.permutations" := ⟨_, hp, rfl⟩
theorem next_perm0 {p pool : Addr} {before : Value} {ns : List Nat} {items : Array Value} {op : Obj} {c : Nat} {Q : Option Value → Shared → Prop} (hp : s.heap.get? p = some (permObj pool 0 before ns)) (hq : s.heap.get? pool = some op) (hd : op.data = .seq items c) (h5 : items.size = 3)
    (hQ : ∀ h', h'.get? p = some (permObj pool 1 (.ref s.heap.objs.size) ns) → h'.get? s.heap.objs.size = some { cls := .type "tuple", data := .seq ((ns.take 3).map fun i => items.getD i .none).toArray } →
      (∀ c o, c ≠ p → s.heap.get? c = some o → h'.get? c = some o) → Q (some (.ref s.heap.objs.size)) { s with heap := h' }) :
    wpAny (model prog w) A (pyNext (.ref p)) Q E s := by
  have hT := perm_type hp
  unfold pyNext
  exact wpAny_bind (wpAny_attempt (wpAny_callSpecial?_slot (name := Str.ofString "__next__") hT F.slot_perm_next
    (wpAny_call_entry F.slot_perm_next hT F.entry_perm_next (perm_item0 hp hq hd h5 fun h' a b c => wpAny_pure (hQ h' a b c)) (F.args_perm_next_1 _))))
theorem next_perm1 {p pool : Addr} {before : Value} {ns ix cy : List Nat} {items : Array Value} {op : Obj} {c : Nat} {Q : Option Value → Shared → Prop} (hp : s.heap.get? p = some (permObj pool 1 before ns)) (hq : s.heap.get? pool = some op) (hd : op.data = .seq items c) (h5 : items.size = 3)
    (hn : nextP 3 3 (ns.take 3) (ns.drop 3) = some (ix, cy)) (hl : (ix ++ cy).length ≤ 20)
    (hQ : ∀ h', h'.get? p = some (permObj pool 1 (.ref s.heap.objs.size) (ix ++ cy)) → h'.get? s.heap.objs.size = some { cls := .type "tuple", data := .seq ((ix.take 3).map fun i => items.getD i .none).toArray } →
      (∀ c o, c ≠ p → s.heap.get? c = some o → h'.get? c = some o) → Q (some (.ref s.heap.objs.size)) { s with heap := h' }) :
    wpAny (model prog w) A (pyNext (.ref p)) Q E s := by
  have hT := perm_type hp
  unfold pyNext
  exact wpAny_bind (wpAny_attempt (wpAny_callSpecial?_slot (name := Str.ofString "__next__") hT F.slot_perm_next
    (wpAny_call_entry F.slot_perm_next hT F.entry_perm_next (perm_item1 hp hq hd h5 hn hl fun h' a b c => wpAny_pure (hQ h' a b c)) (F.args_perm_next_1 _))))
theorem next_permE {p pool : Addr} {before : Value} {ns : List Nat} {items : Array Value} {op : Obj} {c : Nat} {Q : Option Value → Shared → Prop} (hh : A.handled = none) (hp : s.heap.get? p = some (permObj pool 1 before ns)) (hq : s.heap.get? pool = some op) (hd : op.data = .seq items c) (h5 : items.size = 3)
    (hn : nextP 3 3 (ns.take 3) (ns.drop 3) = none) (hQ : ∀ h', (∀ c o, c ≠ p → s.heap.get? c = some o → h'.get? c = some o) → Q none { s with heap := h' }) :
    wpAny (model prog w) A (pyNext (.ref p)) Q E s := by
  have hT := perm_type hp
  unfold pyNext
  refine wpAny_bind (wpAny_attempt (wpAny_callSpecial?_slot (name := Str.ofString "__next__") hT F.slot_perm_next
    (wpAny_call_entry F.slot_perm_next hT F.entry_perm_next (perm_end hh hp hq hd h5 hn fun h' e hk he => ?_) (F.args_perm_next_1 _))))
  obtain ⟨o, ho, hc⟩ := he
  refine wpAny_bind (wpAny_isInstance (T := "StopIteration") (b := true) ⟨o, ho, hc⟩ isSubtype_stop ?_)
  exact wpAny_pure (hQ _ hk)
theorem self_perm {p pool : Addr} {flag : Int} {before : Value} {ns : List Nat} {Q : Value → Shared → Prop} (hp : s.heap.get? p = some (permObj pool flag before ns)) (h : Q (.ref p) s) : wpAny (model prog w) A (pyIter (.ref p)) Q E s := by
  have hT := perm_type hp
  refine wpAny_pyIter_slot hT F.slot_perm_iter (wpAny_call_entry F.slot_perm_iter hT F.entry_perm_iter ?_ (F.args_perm_iter_1 _))
  show wpAny _ _ (ret (.ref p)) _ _ s
  exact wpAny_pure ⟨_, rfl, "itertools.permutations", _, hT, F.slot_perm_next.lookup, h⟩
def perm0 : List Nat := [0, 1, 2, 3, 2, 1]
theorem perm_new {l : Addr} {o : Obj} {items : Array Value} {n : Nat} : Meets (Builtin.«itertools.permutations.__new__» ⟨[.type "itertools.permutations", .ref l], []⟩) (fun A R s => s.heap.get? l = some o ∧ o.cls = .type "list" ∧ o.data = .seq items n ∧ items.size = 3 ∧
    ∀ (h' : Heap), (∀ b o, s.heap.get? b = some o → h'.get? b = some o) →
      R (.ok (.ret (.ref (h'.objs.size + 1)))) { s with heap := (h'.push { cls := .type "tuple", data := .seq items }).push (permObj h'.objs.size 0 .none perm0) }) :=
  .of_wp fun prog w A R s h => by
    obtain ⟨ho, hc, hd, h3, h⟩ := h
    have hsub := F.sub_perm
    wp_walk using wpAny_collect_seq l (.inl rfl) ho hc hd
    rw [show ("itertools." ++ "permutations" : String) = "itertools.permutations" from by decide +kernel]
    refine wpAny_of_eq hsub ?_
    unfold Builtin.Itertools.itBindNamed
    wp_walk using wpAny_collect_seq l (.inl rfl) ho hc hd
    intro h' hk
    have la : items.toList.length = 3 := by rw [Array.length_toList]; exact h3
    rw [la]
    refine wpAny_bind (wpAny_pure ?_)
    show wpAny _ _ (newTuple items.toList >>= _) _ _ _
    refine wpAny_bind (wpAny_newTuple ?_ (by rw [la, sizeLine_eq]; omega))
    show wpAny _ _ (Builtin.Itertools.itNewRecord (Value.type "itertools.permutations") _ >>= _) _ _ _
    unfold Builtin.Itertools.itNewRecord
    have nd : typeHasDict (.type "itertools.permutations") = false := by kernel_rfl
    rw [nd, if_pos (show (!false) = true from rfl)]
    refine wpAny_bind (wpAny_newObj_type ?_ (by first | size_fits | (show (10 : Nat) ≤ sizeLine; rw [sizeLine_eq]; decide) | (show (10 : Nat) ≤ sizeLine + 2; rw [sizeLine_eq]; decide)))
    refine wpAny_pure ⟨_, rfl, ?_⟩
    have e := h h' hk
    have ez : (h'.push { cls := .type "tuple", data := .seq items }).objs.size = h'.objs.size + 1 := Heap.size_push ..
    rw [← ez] at e
    have ea : items.toList.toArray = items := by simp
    dsimp only
    rw [ea]
    exact e
theorem call_perm {l : Addr} {o : Obj} {items : Array Value} {n : Nat} {Q : Value → Shared → Prop} (ho : s.heap.get? l = some o) (hc : o.cls = .type "list") (hd : o.data = .seq items n) (h3 : items.size = 3)
    (hQ : ∀ (h' : Heap), (∀ b o, s.heap.get? b = some o → h'.get? b = some o) →
      Q (.ref (h'.objs.size + 1)) { s with heap := (h'.push { cls := .type "tuple", data := .seq items }).push (permObj h'.objs.size 0 .none perm0) }) :
    wpAny (model prog w) A (call (.type "itertools.permutations") [.ref l]) Q E s := by
  refine callType_new F.called_perm (by decide) (F.typeCall_perm_1 _) (F.newCall_perm_1 _) (fun obj => F.args_object_init_2 obj _) F.entry_perm_new perm_new ⟨ho, hc, hd, h3, fun h' hk => ?_⟩
  have ez : (h'.push { cls := .type "tuple", data := .seq items }).objs.size = h'.objs.size + 1 := Heap.size_push ..
  refine ⟨⟨permObj h'.objs.size 0 .none perm0, ?_, rfl⟩, hQ h' hk⟩
  have := Heap.get?_push_size (h'.push { cls := .type "tuple", data := .seq items }) (o := permObj h'.objs.size 0 .none perm0) rfl
  rw [ez] at this
  exact this
end
end Sw.P3
namespace Sw.P3
open PySem PySem.Spec PyProof.Rows L2 RZ
/-- where the record stands behind so many tellings -/
def numAt : Nat → List Nat
  | 0 => perm0
  | k + 1 => match nextP 3 3 ((numAt k).take 3) ((numAt k).drop 3) with
    | some (ix, cy) => ix ++ cy
    | none => []
/-- all of them, in their order -/
def allNums : Nat → List Nat → List (List Nat)
  | 0, ns => [ns]
  | k + 1, ns => ns :: (match nextP 3 3 (ns.take 3) (ns.drop 3) with
    | some (ix, cy) => allNums k (ix ++ cy)
    | none => [])
def goodNum (ns : List Nat) : Bool := ns.length == 6 && (ns.take 3).all (· < 3) && (match nextP 3 3 (ns.take 3) (ns.drop 3) with
  | some (ix, cy) => ix.length == 3 && cy.length == 3
  | none => false)
def lastNum (ns : List Nat) : Bool := ns.length == 6 && (ns.take 3).all (· < 3) && (nextP 3 3 (ns.take 3) (ns.drop 3)).isNone
def goodAll : Nat → List Nat → Bool
  | 0, ns => lastNum ns
  | k + 1, ns => goodNum ns && (match nextP 3 3 (ns.take 3) (ns.drop 3) with
    | some (ix, cy) => goodAll k (ix ++ cy)
    | none => false)
theorem good_5 : goodAll 5 perm0 = true := by decide +kernel
theorem good_step : ∀ (k : Nat) (ns : List Nat), goodAll (k + 1) ns = true → ∃ ix cy, nextP 3 3 (ns.take 3) (ns.drop 3) = some (ix, cy) ∧ ix.length = 3 ∧ cy.length = 3 ∧ ns.length = 6 ∧ (∀ i ∈ ns.take 3, i < 3) ∧ goodAll k (ix ++ cy) = true := by
  intro k ns h
  unfold goodAll at h
  rw [Bool.and_eq_true] at h
  obtain ⟨h1, h2⟩ := h
  unfold goodNum at h1
  cases e : nextP 3 3 (ns.take 3) (ns.drop 3) with
  | none =>
    rw [e] at h2
    cases h2
  | some p =>
    obtain ⟨ix, cy⟩ := p
    rw [e] at h1 h2
    simp only [Bool.and_eq_true, beq_iff_eq, List.all_eq_true, decide_eq_true_eq] at h1
    exact ⟨ix, cy, rfl, h1.2.1, h1.2.2, h1.1.1, h1.1.2, h2⟩
theorem good_last (ns : List Nat) (h : goodAll 0 ns = true) : nextP 3 3 (ns.take 3) (ns.drop 3) = none ∧ ns.length = 6 ∧ ∀ i ∈ ns.take 3, i < 3 := by
  unfold goodAll lastNum at h
  simp only [Bool.and_eq_true, beq_iff_eq, List.all_eq_true, decide_eq_true_eq, Option.isNone_iff_eq_none] at h
  exact ⟨h.2, h.1.1, h.1.2⟩
theorem num_good : ∀ i, i ≤ 5 → goodAll (5 - i) (numAt i) = true
  | 0, _ => good_5
  | i + 1, h => by
    have q := num_good i (by omega)
    rw [show 5 - i = (5 - (i + 1)) + 1 by omega] at q
    obtain ⟨ix, cy, e, _, _, _, _, g⟩ := good_step _ _ q
    show goodAll _ (match nextP 3 3 ((numAt i).take 3) ((numAt i).drop 3) with
      | some (ix, cy) => ix ++ cy
      | none => []) = true
    rw [e]
    exact g
theorem num_step {i : Nat} (h : i < 5) : ∃ ix cy, nextP 3 3 ((numAt i).take 3) ((numAt i).drop 3) = some (ix, cy) ∧ numAt (i + 1) = ix ++ cy ∧ ix.length = 3 ∧ cy.length = 3 := by
  have q := num_good i (by omega)
  rw [show 5 - i = (5 - (i + 1)) + 1 by omega] at q
  obtain ⟨ix, cy, e, l1, l2, _, _, _⟩ := good_step _ _ q
  refine ⟨ix, cy, e, ?_, l1, l2⟩
  show (match nextP 3 3 ((numAt i).take 3) ((numAt i).drop 3) with
      | some (ix, cy) => ix ++ cy
      | none => []) = _
  rw [e]
theorem num_end : nextP 3 3 ((numAt 5).take 3) ((numAt 5).drop 3) = none := (good_last _ (num_good 5 (Nat.le_refl _))).1
theorem num_lt {i : Nat} (h : i < 6) : (∀ j ∈ (numAt i).take 3, j < 3) ∧ (numAt i).length = 6 := by
  have q := num_good i (by omega)
  by_cases z : i = 5
  · subst z
    have := good_last _ q
    exact ⟨this.2.2, this.2.1⟩
  · rw [show 5 - i = (5 - (i + 1)) + 1 by omega] at q
    obtain ⟨ix, cy, e, l1, l2, l3, l4, _⟩ := good_step _ _ q
    exact ⟨l4, l3⟩
/-- so many of them, arranged -/
def permOf (xs : List V) (i : Nat) : List V := ((numAt i).take 3).map fun j => xs.getD j .non
/-- the arrangements of three things in new tuples, one after the other -/
def ItPerm (xs : List V) : It :=
  ⟨fun i _ => i < 6, fun i H v H' => ∃ T, v = .ref T ∧ H T = none ∧ H' = upd H T (.tup (permOf xs i)), fun i _ => 6 ≤ i⟩
def PermSt (xs : List V) (z pool : Addr) (i : Nat) (h : Heap) : Prop := i ≤ 6 ∧ ∃ (before : Value) (acc : Array Value), h.get? z = some (permObj pool (if i = 0 then 0 else 1) before (numAt (i - 1))) ∧ h.get? pool = some { cls := .type "tuple", data := .seq acc } ∧ acc.size = 3 ∧ Vals xs acc.toList
theorem vals_get {xs : List V} : ∀ {us : List Value} (_ : Vals xs us) (j : Nat), j < us.length → RelV (xs.getD j .non) (us.getD j .none) := by
  intro us h
  induction h with
  | nil => exact fun j h => absurd h (Nat.not_lt_zero _)
  | cons r t ih =>
    intro j hj
    cases j with
    | zero => exact r
    | succ j => exact ih j (by simpa using hj)
theorem vals_perm {xs : List V} {acc : Array Value} (hs : acc.size = 3) (hv : Vals xs acc.toList) : ∀ {js : List Nat}, (∀ j ∈ js, j < 3) → Vals (js.map fun j => xs.getD j .non) (js.map fun i => acc.getD i .none)
  | [], _ => .nil
  | j :: r, h => by
    refine .cons ?_ (vals_perm hs hv fun k hk => h k (List.mem_cons_of_mem _ hk))
    have lj : j < acc.size := by rw [hs]; exact h j List.mem_cons_self
    have e : acc.getD j .none = acc.toList.getD j .none := by simp [Array.getD, lj, List.getD_eq_getElem?_getD]
    dsimp only
    rw [e]
    exact vals_get hv j (by rw [Array.length_toList]; exact lj)
theorem turn_perm {P : Program} {w : World} {K : PySem.W.Frag} {x : Str} {tpos : Pos} {xs : List V} {z pool : Addr} (hzp : z ≠ pool) : Turn P w K (.Name x tpos) (ItPerm xs) [z, pool] z (PermSt xs z pool) where
  mem := by simp
  obj := fun i h st c hc => by
    obtain ⟨_, before, acc, hz, hp, _⟩ := st
    have e' : c = z ∨ c = pool := by simpa using hc
    rcases e' with q | q
    · rw [q]; exact ⟨_, hz, fun v q => nomatch q⟩
    · rw [q]; exact ⟨_, hp, fun v q => nomatch q⟩
  keep := fun i h h' st k => by
    obtain ⟨i1, before, acc, hz, hp, hi⟩ := st
    exact ⟨i1, before, acc, k z (by simp) _ hz, k pool (by simp) _ hp, hi⟩
  item := by
    intro X hP hw hK hc i pins s σ H E I hf st hg
    subst hP hw hK
    obtain ⟨i1, before, acc, hz, hp, hi⟩ := st
    have hg : i < 6 := hg
    have hzl : z < s.heap.objs.size := Heap.lt_size hz
    have hpl : pool < s.heap.objs.size := Heap.lt_size hp
    obtain ⟨js, jl⟩ := num_lt hg
    have l5 : ((numAt i).take 3).length = 3 := by rw [List.length_take, jl]; rfl
    have fin : ∀ h' : Heap, h'.get? z = some (permObj pool 1 (.ref s.heap.objs.size) (numAt i)) → h'.get? s.heap.objs.size = some { cls := .type "tuple", data := .seq (((numAt i).take 3).map fun i => acc.getD i .none).toArray } →
        (∀ c o, c ≠ z → s.heap.get? c = some o → h'.get? c = some o) → ∃ u, some (Value.ref s.heap.objs.size) = some u ∧
          wpAny (model X.prog X.w) X.A (letOwnedTupleGo (.Name x tpos) (.ref z) u) (fun _ s2 => ∃ x H', Inv X pins σ H' s2 ∧ RelV x u ∧ (ItPerm xs).yld i H x H' ∧ PermSt xs z pool (i + 1) s2.heap ∧ ∀ b ∈ [z, pool], H' b = none) E { s with heap := h' } := fun h' e1 e2 hk => by
      refine ⟨_, rfl, ?_⟩
      unfold letOwnedTupleGo
      refine wpAny_pure ?_
      have new : ObjOk X.prog X.w (upd H s.heap.objs.size (.tup (permOf xs i))) h' s.heap.objs.size (.tup (permOf xs i)) :=
        ⟨by unfold permOf; rw [List.length_map, l5, sizeLine_eq]; omega, _, vals_perm hi.1 hi.2 js, ⟨_, e2, rfl, _, rfl⟩⟩
      have I1 : Inv X pins σ (upd H s.heap.objs.size (.tup (permOf xs i))) { s with heap := h' } :=
        I.turnedNew (t' := s.toks) (ch := [z, pool]) (fun c o hb q => hk c o (fun q' => hb (by simp [q'])) q) hf (Nat.le_refl _) new
      refine ⟨.ref s.heap.objs.size, _, I1, rfl, ⟨_, rfl, I.hok.fresh (Nat.le_refl _), rfl⟩, ⟨by omega, Value.ref s.heap.objs.size, acc, ?_, hk _ _ hzp.symm hp, hi⟩, fun c hcm => ?_⟩
      · rw [if_neg (Nat.succ_ne_zero i), Nat.add_sub_cancel]
        exact e1
      · have hlt : c < s.heap.objs.size := by
          have e' : c = z ∨ c = pool := by simpa using hcm
          rcases e' with q | q
          · rw [q]; exact hzl
          · rw [q]; exact hpl
        rw [upd_ne (Nat.ne_of_lt hlt)]
        exact (hf c hcm).1
    by_cases i0 : i = 0
    · subst i0
      rw [if_pos rfl] at hz
      exact next_perm0 hz hp rfl hi.1 fun h' a b c => fin h' a b c
    · rw [if_neg i0] at hz
      obtain ⟨k, rfl⟩ : ∃ k, i = k + 1 := ⟨i - 1, by omega⟩
      rw [Nat.add_sub_cancel] at hz
      obtain ⟨ix, cy, e, en, l1, l2⟩ := num_step (i := k) (by omega)
      have et : (ix ++ cy).take 3 = ix.take 3 := by rw [List.take_append_of_le_length (by omega)]
      rw [en, et] at fin
      exact next_perm1 hz hp rfl hi.1 e (by rw [List.length_append]; omega) fun h' a b c => fin h' a b c
  done := by
    intro X hP hw hK hc i pins s σ H E I hf st hg
    subst hP hw hK
    obtain ⟨i1, before, acc, hz, hp, hi⟩ := st
    have hg : 6 ≤ i := hg
    obtain rfl : i = 6 := by omega
    rw [if_neg (by decide)] at hz
    exact next_permE (I.ok.hd hc) hz hp rfl hi.1 num_end fun h' hk => ⟨rfl, I.turnedL (t' := s.toks) (ch := [z, pool]) (fun c o hb q => hk c o (fun q' => hb (by simp [q'])) q) hf⟩
  self := fun A i s Q E st h => by
    obtain ⟨_, before, acc, hz, _⟩ := st
    exact self_perm hz h
/-- permutations of a list of three things -/
def iPerm (K : PySem.W.Frag) (ta : TA) : TI := fun σ H R => ta σ H fun vs H1 => ∃ l xs, vs = [.ref l] ∧ SqL K H1 l xs ∧ xs.length = 3 ∧ R (ItPerm xs) H1
theorem pi_perm3 {X : Cx} {e : Expr} {ta : TA} {p pos tpos : Pos} {x : Str} (hc : X.calm = true) (hg : Gl X "permutations") (hm : X.mg "permutations" = some (.type "itertools.permutations")) (ha : PA X [e] ta)
    (hs : starEach [e] X.env = (false, eval e X.env) :: starEach [] X.env := by rfl)
    (hpl : (backTo pos (starEach [] X.env)).any (·.1) = false := by rfl) :
    PI X (.Name x tpos) (.Call (.Name "permutations" p) [e] [] pos) (iPerm X.K ta) := by
  refine ⟨fun pins s σ H R I h => ?_⟩
  refine wpAny_Call_Name_kw (ld_glob I hg hm ?_ (by decide))
  refine PyProof.Rows.callWith_type1 (thn (ha.run pos pins s σ H _ I h) fun us s1 ⟨vs, H1, I1, r1, q1⟩ => ?_) hs hpl
  obtain ⟨l, xs, rfl, hl, l3, q⟩ := q1
  obtain ⟨u, rfl, hu⟩ := vals1 r1
  cases hu
  obtain ⟨its, rv, pl, hz⟩ := I1.list hl
  obtain ⟨o, ho, hcl, n, hd⟩ := pl.isList
  have li := rv.length
  refine call_perm ho hcl hd (by rw [List.size_toArray]; omega) fun h' hk => ?_
  have I2 : Inv X pins σ H1 { s1 with heap := h' } := I1.kept (t' := s1.toks) hk
  have ez : (h'.push { cls := .type "tuple", data := .seq its.toArray }).objs.size = h'.objs.size + 1 := Heap.size_push ..
  have hz : ((h'.push { cls := .type "tuple", data := .seq its.toArray }).push (permObj h'.objs.size 0 .none perm0)).get? (h'.objs.size + 1) = some (permObj h'.objs.size 0 .none perm0) := by
    rw [← ez]
    exact Heap.get?_push_size _ rfl
  have hp : ((h'.push { cls := .type "tuple", data := .seq its.toArray }).push (permObj h'.objs.size 0 .none perm0)).get? h'.objs.size = some { cls := .type "tuple", data := .seq its.toArray } := Heap.get?_push_of_some _ (Heap.get?_push_size _ rfl)
  refine self_perm (s := { s1 with heap := (h'.push { cls := .type "tuple", data := .seq its.toArray }).push (permObj h'.objs.size 0 .none perm0) }) hz ?_
  have I3 : Inv X pins σ H1 { s1 with heap := (h'.push { cls := .type "tuple", data := .seq its.toArray }).push (permObj h'.objs.size 0 .none perm0) } := I2.kept (t' := s1.toks) fun b o e => Heap.get?_push_of_some _ (Heap.get?_push_of_some _ e)
  refine ⟨h'.objs.size + 1, [h'.objs.size + 1, h'.objs.size], PermSt xs (h'.objs.size + 1) h'.objs.size, ItPerm xs, H1, rfl, I3, turn_perm (Nat.succ_ne_self _), ⟨Nat.zero_le _, .none, its.toArray, hz, hp, by rw [List.size_toArray]; omega, by simpa using rv⟩, fun c hcm => ?_, q⟩
  have hle : h'.objs.size ≤ c := by
    have e' : c = h'.objs.size + 1 ∨ c = h'.objs.size := by simpa using hcm
    rcases e' with e | e
    · rw [e]; exact Nat.le_succ _
    · rw [e]; exact Nat.le_refl _
  exact I2.fpOk hle (I2.hok.fresh hle)
theorem walk_perm (xs : List V) : Walk (ItPerm xs) 6 (fun _ => True) (fun i H v H' => ∃ T, v = .ref T ∧ H T = none ∧ H' = upd H T (.tup (permOf xs i))) :=
  ⟨fun _ _ hi _ => hi, fun _ _ => Nat.le_refl _, fun _ _ _ _ _ _ y => y⟩
end Sw.P3
namespace Sw
/-! ### six points, their ratios -/
def difN (x y : Nat) : Nat := bif x == 5 || y == 5 then 1 else x + 5 - y
def ratN (x y z t : Nat) : Nat := difN x z * difN y t * (difN x t * difN y z) ^ 3 % 5
def ap (r : List Nat) (p : Nat) : Nat := r.getD p 0
def RowP (r : List Nat) : Prop := r.Perm (List.range 6)
theorem RowP.len {r : List Nat} (h : RowP r) : r.length = 6 := h.length_eq
theorem ap_at {r : List Nat} {p : Nat} (hp : p < r.length) : ap r p = r[p] := by
  unfold ap
  rw [List.getD_eq_getElem?_getD, List.getElem?_eq_getElem hp]
  rfl
theorem RowP.lt {r : List Nat} (h : RowP r) {p : Nat} (hp : p < 6) : ap r p < 6 := by
  have l := h.len
  rw [ap_at (by omega)]
  exact List.mem_range.mp (h.mem_iff.mp (List.getElem_mem _))
theorem RowP.inj {r : List Nat} (h : RowP r) {p q : Nat} (hp : p < 6) (hq : q < 6) (e : ap r p = ap r q) : p = q := by
  have l := h.len
  rw [ap_at (by omega), ap_at (by omega)] at e
  have nd : r.Nodup := h.nodup_iff.mpr List.nodup_range
  exact (List.getElem_inj nd).mp e
theorem RowP.onto {r : List Nat} (h : RowP r) {x : Nat} (hx : x < 6) : ∃ p, p < 6 ∧ ap r p = x := by
  obtain ⟨p, hp, e⟩ := List.getElem_of_mem (h.mem_iff.mpr (List.mem_range.mpr hx))
  exact ⟨p, by have := h.len; omega, by rw [ap_at hp]; exact e⟩
/-- four unlike ones -/
def Four (x y z t : Nat) : Prop := (x < 6 ∧ y < 6 ∧ z < 6 ∧ t < 6) ∧ x ≠ y ∧ x ≠ z ∧ x ≠ t ∧ y ≠ z ∧ y ≠ t ∧ z ≠ t
theorem RowP.four {r : List Nat} (h : RowP r) {x y z t : Nat} (f : Four x y z t) : Four (ap r x) (ap r y) (ap r z) (ap r t) := by
  obtain ⟨⟨a, b, c, d⟩, e1, e2, e3, e4, e5, e6⟩ := f
  exact ⟨⟨h.lt a, h.lt b, h.lt c, h.lt d⟩, fun q => e1 (h.inj a b q), fun q => e2 (h.inj a c q), fun q => e3 (h.inj a d q), fun q => e4 (h.inj b c q), fun q => e5 (h.inj b d q), fun q => e6 (h.inj c d q)⟩
/-- a row that keeps the ratios -/
structure Pres (g : List Nat) : Prop where
  row : RowP g
  is : ∀ x y z t, Four x y z t → ratN (ap g x) (ap g y) (ap g z) (ap g t) = ratN x y z t
def presB (p : List Nat) : Bool := (List.range 6).all fun x => (List.range 6).all fun y => x == y || (List.range 6).all fun z => x == z || y == z || (List.range 6).all fun t => x == t || y == t || z == t || ratN (ap p x) (ap p y) (ap p z) (ap p t) == ratN x y z t
def bendB (p : List Nat) : Bool := [2, 3, 4].all fun x => ratN (ap p 0) (ap p 1) (ap p 5) (ap p x) == ratN 0 1 5 x
def ordsN (m : Nat) : Nat → List (List Nat)
  | 0 => [[]]
  | k + 1 => (ordsN m k).flatMap fun row => ((List.range m).filter fun o => !row.contains o).map fun o => row ++ [o]
theorem mem_ordsN {m : Nat} : ∀ (k : Nat) (r : List Nat), r.length = k → r.Nodup → (∀ x ∈ r, x < m) → r ∈ ordsN m k
  | 0, r, l, _, _ => by
    rw [List.length_eq_zero_iff.mp l]
    exact List.mem_singleton.mpr rfl
  | k + 1, r, l, nd, b => by
    have ne : r ≠ [] := fun z => by
      rw [z] at l
      cases l
    have e := List.dropLast_concat_getLast ne
    rw [← e] at nd
    have n2 := List.nodup_append.mp nd
    refine List.mem_flatMap.mpr ⟨r.dropLast, mem_ordsN k _ (by rw [List.length_dropLast]; omega) n2.1 fun x hx => b x (List.dropLast_subset _ hx), ?_⟩
    refine List.mem_map.mpr ⟨r.getLast ne, List.mem_filter.mpr ⟨List.mem_range.mpr (b _ (List.getLast_mem ne)), ?_⟩, e⟩
    rw [Bool.not_eq_true', List.contains_eq_mem, decide_eq_false_iff_not]
    exact fun z => n2.2.2 _ z _ (List.mem_singleton.mpr rfl) rfl
theorem bend_all : ((ordsN 6 6).all fun p => !bendB p || presB p) = true := by decide +kernel
theorem row_ord {r : List Nat} (h : RowP r) : r ∈ ordsN 6 6 := mem_ordsN 6 r h.len (h.nodup_iff.mpr List.nodup_range) fun x hx => List.mem_range.mp (h.mem_iff.mp hx)
theorem pres_of {p : List Nat} (h : RowP p) (b : bendB p = true) : Pres p := by
  have q := List.all_eq_true.mp bend_all p (row_ord h)
  rw [b] at q
  have q : presB p = true := q
  refine ⟨h, fun x y z t f => ?_⟩
  obtain ⟨⟨a, b, c, d⟩, e1, e2, e3, e4, e5, e6⟩ := f
  unfold presB at q
  have q := List.all_eq_true.mp q x (List.mem_range.mpr a)
  have q := List.all_eq_true.mp q y (List.mem_range.mpr b)
  rw [beq_false_of_ne e1, Bool.false_or] at q
  have q := List.all_eq_true.mp q z (List.mem_range.mpr c)
  rw [beq_false_of_ne e2, beq_false_of_ne e4, Bool.false_or, Bool.false_or] at q
  have q := List.all_eq_true.mp q t (List.mem_range.mpr d)
  rw [beq_false_of_ne e3, beq_false_of_ne e5, beq_false_of_ne e6, Bool.false_or, Bool.false_or, Bool.false_or] at q
  exact beq_iff_eq.mp q
theorem Pres.bend {p : List Nat} (h : Pres p) : bendB p = true := by
  unfold bendB
  refine List.all_eq_true.mpr fun x hx => beq_iff_eq.mpr (h.is 0 1 5 x ?_)
  simp only [List.mem_cons, List.not_mem_nil, or_false] at hx
  rcases hx with rfl | rfl | rfl <;> exact ⟨⟨by decide, by decide, by decide, by decide⟩, by decide, by decide, by decide, by decide, by decide, by decide⟩
end Sw
namespace Sw
/-! ### tables of names, as numbers -/
def mvN (v p : Nat) : Nat := bif p == v then 5 else bif p == 5 then v else p
def row' (T : List (List Nat)) (v : Nat) : List Nat := T.getD v []
/-- what stands at a row behind an exchange -/
def takN (r : List Nat) (v : Nat) : List Nat := (r.set v (ap r 5)).set 5 (ap r v)
def hasK (st : List (Nat × List Nat)) (v : Nat) : Bool := st.any fun e => e.1 == v
def getK (st : List (Nat × List Nat)) (v : Nat) : List Nat := ((st.find? fun e => e.1 == v).map (·.2)).getD []
def stepP (st : List (Nat × List Nat)) (e : Nat × Nat) : List (Nat × List Nat) := bif hasK st e.1 && !hasK st e.2 then st ++ [(e.2, takN (getK st e.1) e.1)] else st
def passP (ars : List (Nat × Nat)) (st : List (Nat × List Nat)) : List (Nat × List Nat) := ars.foldl stepP st
def passK (ars : List (Nat × Nat)) : Nat → List (Nat × List Nat) → List (Nat × List Nat)
  | 0, st => st
  | k + 1, st => passP ars (passK ars k st)
def tabN (ars : List (Nat × Nat)) (r : List Nat) : List (List Nat) := (List.range 5).map fun v => getK (passK ars 5 [(0, r)]) v
def bentN (r o : List Nat) : Bool := [3, 4, 5].all fun p => ratN (ap r 0) (ap r 1) (ap r 2) (ap r p) == ratN (ap o 0) (ap o 1) (ap o 2) (ap o p)
def rightN (ars : List (Nat × Nat)) (T : List (List Nat)) : Bool := ars.all fun e => bentN (takN (row' T e.1) e.1) (row' T e.2)
def goalsN (T : List (List Nat)) (v w : Nat) : List Nat := (List.range 6).foldl (fun g p => g.set (ap (row' T v) p) (ap (row' T w) (mvN v p))) [0, 0, 0, 0, 0, 0]
def namesN (ars : List (Nat × Nat)) (T : List (List Nat)) : Bool := ars.all fun e => bendB (goalsN T e.1 e.2)
def rowsN : List (List Nat) := (List.range 6).map fun i => 5 :: 0 :: 1 :: ((P3.numAt i).take 3).map fun j => j + 2
def lrowsN : List (List Nat) := (ordsN 3 3).map fun o => 0 :: 1 :: 5 :: o.map fun j => 2 + j
def nmT (ars : List (Nat × Nat)) : Option (List (List Nat)) := ((rowsN.map (tabN ars)).filter (rightN ars)).head?
def fullN (ars : List (Nat × Nat)) : Bool := (passK ars 5 [(0, [])]).length == 5 && (List.range 5).all fun v => hasK (passK ars 5 [(0, [])]) v
def chkN (ars : List (Nat × Nat)) : Bool := fullN ars && ars.all (fun e => e.1 != e.2) && (match nmT ars with | some T => namesN ars T | none => false) && (lrowsN.map (tabN ars)).any (namesN ars)
def toN (e : Int × Int) : Nat × Nat := (e.1.toNat, e.2.toNat)
/-- pairs in their order -/
def insA (e : Int × Int) : List (Int × Int) → List (Int × Int)
  | [] => [e]
  | a :: r => if SrtO.lexB a e = true then a :: insA e r else e :: a :: r
def isortA (l : List (Int × Int)) : List (Int × Int) := l.foldr insA []
theorem insA_perm (e : Int × Int) : ∀ l, (insA e l).Perm (e :: l)
  | [] => .refl _
  | a :: r => by
    unfold insA
    split
    · exact ((insA_perm e r).cons a).trans (.swap e a r)
    · exact .refl _
theorem isortA_perm : ∀ l, (isortA l).Perm l
  | [] => .refl _
  | a :: r => (insA_perm a (isortA r)).trans ((isortA_perm r).cons a)
theorem insA_srt (e : Int × Int) : ∀ l, SrtA l → SrtA (insA e l)
  | [], _ => List.pairwise_singleton ..
  | a :: r, h => by
    obtain ⟨h1, h2⟩ := List.pairwise_cons.mp h
    unfold insA
    split
    · rename_i z
      refine List.pairwise_cons.mpr ⟨fun b hb => ?_, insA_srt e r h2⟩
      rcases List.mem_cons.mp ((insA_perm e r).mem_iff.mp hb) with q | q
      · rw [q]
        cases y : SrtO.lexB e a with
        | false => rfl
        | true =>
          have := SrtO.lexB_iff.mp z
          have := SrtO.lexB_iff.mp y
          omega
      · exact h1 b q
    · rename_i z
      refine List.pairwise_cons.mpr ⟨fun b hb => ?_, h⟩
      rcases List.mem_cons.mp hb with q | q
      · rw [q]
        exact Bool.eq_false_iff.mpr z
      · have h1 := h1 b q
        cases y : SrtO.lexB b e with
        | false => rfl
        | true =>
          have n1 : ¬ SrtO.lexB b a = true := by rw [h1]; decide
          rw [SrtO.lexB_iff] at n1 z
          have := SrtO.lexB_iff.mp y
          omega
theorem isortA_srt : ∀ l, SrtA (isortA l)
  | [] => .nil
  | a :: r => insA_srt a _ (isortA_srt r)
/-- the nets of one order, both ways -/
def chkO (o : List Nat) : Bool := [false, true].all fun c => chkN ((isortA ((fiveS c).map (renE (o.map fun k : Nat => (k : Int))))).map toN)
theorem all_parts {α} (f : α → Bool) : ∀ (k : Nat) (l : List α), l.length ≤ 6 * k → (∀ i, i < k → ((l.drop (6 * i)).take 6).all f = true) → l.all f = true
  | 0, l, h, _ => by rw [List.length_eq_zero_iff.mp (by omega : l.length = 0)]; rfl
  | k + 1, l, h, w => by
    rw [← List.take_append_drop 6 l, List.all_append, Bool.and_eq_true]
    refine ⟨by simpa using w 0 (by omega), all_parts f k _ (by rw [List.length_drop]; omega) fun i hi => ?_⟩
    have := w (i + 1) (by omega)
    rw [List.drop_drop, show 6 + 6 * i = 6 * (i + 1) by omega]
    exact this
theorem chk_0 : ((((ordsN 5 5).drop (6 * 0)).take 6).all chkO) = true := by decide +kernel
theorem chk_1 : ((((ordsN 5 5).drop (6 * 1)).take 6).all chkO) = true := by decide +kernel
theorem chk_2 : ((((ordsN 5 5).drop (6 * 2)).take 6).all chkO) = true := by decide +kernel
theorem chk_3 : ((((ordsN 5 5).drop (6 * 3)).take 6).all chkO) = true := by decide +kernel
theorem chk_4 : ((((ordsN 5 5).drop (6 * 4)).take 6).all chkO) = true := by decide +kernel
theorem chk_5 : ((((ordsN 5 5).drop (6 * 5)).take 6).all chkO) = true := by decide +kernel
theorem chk_6 : ((((ordsN 5 5).drop (6 * 6)).take 6).all chkO) = true := by decide +kernel
theorem chk_7 : ((((ordsN 5 5).drop (6 * 7)).take 6).all chkO) = true := by decide +kernel
theorem chk_8 : ((((ordsN 5 5).drop (6 * 8)).take 6).all chkO) = true := by decide +kernel
theorem chk_9 : ((((ordsN 5 5).drop (6 * 9)).take 6).all chkO) = true := by decide +kernel
theorem chk_10 : ((((ordsN 5 5).drop (6 * 10)).take 6).all chkO) = true := by decide +kernel
theorem chk_11 : ((((ordsN 5 5).drop (6 * 11)).take 6).all chkO) = true := by decide +kernel
theorem chk_12 : ((((ordsN 5 5).drop (6 * 12)).take 6).all chkO) = true := by decide +kernel
theorem chk_13 : ((((ordsN 5 5).drop (6 * 13)).take 6).all chkO) = true := by decide +kernel
theorem chk_14 : ((((ordsN 5 5).drop (6 * 14)).take 6).all chkO) = true := by decide +kernel
theorem chk_15 : ((((ordsN 5 5).drop (6 * 15)).take 6).all chkO) = true := by decide +kernel
theorem chk_16 : ((((ordsN 5 5).drop (6 * 16)).take 6).all chkO) = true := by decide +kernel
theorem chk_17 : ((((ordsN 5 5).drop (6 * 17)).take 6).all chkO) = true := by decide +kernel
theorem chk_18 : ((((ordsN 5 5).drop (6 * 18)).take 6).all chkO) = true := by decide +kernel
theorem chk_19 : ((((ordsN 5 5).drop (6 * 19)).take 6).all chkO) = true := by decide +kernel
theorem chk_all : ((ordsN 5 5).all fun o => [false, true].all fun c => chkN ((isortA ((fiveS c).map (renE (o.map fun k : Nat => (k : Int))))).map toN)) = true :=
  all_parts chkO 20 _ (by decide +kernel) fun i hi => by
    match i, hi with
    | 0, _ => exact chk_0
    | 1, _ => exact chk_1
    | 2, _ => exact chk_2
    | 3, _ => exact chk_3
    | 4, _ => exact chk_4
    | 5, _ => exact chk_5
    | 6, _ => exact chk_6
    | 7, _ => exact chk_7
    | 8, _ => exact chk_8
    | 9, _ => exact chk_9
    | 10, _ => exact chk_10
    | 11, _ => exact chk_11
    | 12, _ => exact chk_12
    | 13, _ => exact chk_13
    | 14, _ => exact chk_14
    | 15, _ => exact chk_15
    | 16, _ => exact chk_16
    | 17, _ => exact chk_17
    | 18, _ => exact chk_18
    | 19, _ => exact chk_19
    | _ + 20, h => omega
end Sw
namespace Sw
open PySem PySem.Spec PyProof.Rows L2
/-! ### lists of tuples of whole numbers as data -/
def tupD (L : List Int) : PyData := .tuple (L.map PyData.int)
theorem eqvAll_ints : ∀ L M : List Int, PyData.eqvAll (L.map PyData.int) (M.map PyData.int) = decide (L = M)
  | [], [] => by simp [PyData.eqvAll]
  | [], _ :: _ => by simp [PyData.eqvAll]
  | _ :: _, [] => by simp [PyData.eqvAll]
  | a :: r, b :: t => by
    simp only [List.map_cons, PyData.eqvAll, PyData.eqv, eqvAll_ints r t]
    by_cases h : a = b <;> by_cases h' : r = t <;> simp [h, h']
theorem eqv_tupD (L M : List Int) : PyData.eqv (tupD L) (tupD M) = decide (L = M) := by
  unfold tupD
  rw [PyData.eqv]
  exact eqvAll_ints L M
theorem eqvAll_tups : ∀ Ls Ms : List (List Int), PyData.eqvAll (Ls.map tupD) (Ms.map tupD) = decide (Ls = Ms)
  | [], [] => by simp [PyData.eqvAll]
  | [], _ :: _ => by simp [PyData.eqvAll]
  | _ :: _, [] => by simp [PyData.eqvAll]
  | a :: r, b :: t => by
    simp only [List.map_cons, PyData.eqvAll, eqv_tupD, eqvAll_tups r t]
    by_cases h : a = b <;> by_cases h' : r = t <;> simp [h, h']
theorem eqv_tups (Ls Ms : List (List Int)) : PyData.eqv (.list (Ls.map tupD)) (.list (Ms.map tupD)) = decide (Ls = Ms) := by
  rw [PyData.eqv]
  exact eqvAll_tups Ls Ms
theorem ints_lay : ∀ L : List Int, PyData.canLayAll0 (L.map PyData.int) = true
  | [] => by simp [PyData.canLayAll0]
  | _ :: r => by simp [PyData.canLayAll0, PyData.canLay0, ints_lay r]
theorem ints_depth : ∀ L : List Int, PyData.depthAll (L.map PyData.int) = 0
  | [] => by simp [PyData.depthAll]
  | _ :: r => by simp [PyData.depthAll, PyData.depth, ints_depth r]
theorem tupD_lay (L : List Int) : (tupD L).canLay0 = true := by simp [tupD, PyData.canLay0, ints_lay]
theorem tupD_depth (L : List Int) : (tupD L).depth = 1 := by simp [tupD, PyData.depth, ints_depth]
theorem tups_lay : ∀ Ls : List (List Int), PyData.canLayAll0 (Ls.map tupD) = true
  | [] => by simp [PyData.canLayAll0]
  | L :: r => by simp [PyData.canLayAll0, tupD_lay L, tups_lay r]
theorem tups_depth : ∀ Ls : List (List Int), PyData.depthAll (Ls.map tupD) ≤ 1
  | [] => by simp [PyData.depthAll]
  | L :: r => by
    have h1 := tups_depth r
    have h2 := tupD_depth L
    simp only [List.map_cons, PyData.depthAll]
    omega
theorem shaped_tupD (L : List Int) : SeqAt.shaped (tupD L) = true := by
  unfold SeqAt.shaped
  rw [tupD_lay, tupD_depth]
  rfl
theorem shaped_tups (Ls : List (List Int)) : SeqAt.shaped (.list (Ls.map tupD)) = true := by
  have h := tups_depth Ls
  have d : PyData.depth (.list (Ls.map tupD)) ≤ 64 := by
    simp only [PyData.depth]
    omega
  unfold SeqAt.shaped
  rw [decide_eq_true d, Bool.and_true]
  simp only [PyData.canLay0]
  exact tups_lay Ls
section
variable {K : PySem.W.Frag} {H : Hp}
theorem dp_ints : ∀ os : List Int, DpAll K H (os.map V.int) (os.map PyData.int)
  | [] => .nil
  | i :: r => .cons (.int i) (dp_ints r)
theorem dp_tup {t : Addr} {L : List Int} (h : H t = some (.tup (L.map V.int))) : Dp K H (.ref t) (tupD L) := .tup (SqT.of h) (dp_ints L)
theorem dp_tups {ts : List Addr} {Ls : List (List Int)} (h : TupsAt H ts Ls) : DpAll K H (ts.map V.ref) (Ls.map tupD) := by
  unfold TupsAt at h
  induction h with
  | nil => exact .nil
  | cons q t ih => exact .cons (dp_tup q) ih
end
theorem any_tup (Ls : List (List Int)) (os : List Int) : ((Ls.map tupD).any fun z => PyData.eqv z (tupD os)) = true ↔ os ∈ Ls := by
  rw [List.any_map, List.any_eq_true]
  constructor
  · rintro ⟨L, hL, h⟩
    have h : PyData.eqv (tupD L) (tupD os) = true := h
    rw [eqv_tupD] at h
    exact of_decide_eq_true h ▸ hL
  · intro h
    refine ⟨os, h, ?_⟩
    show PyData.eqv (tupD os) (tupD os) = true
    rw [eqv_tupD]
    exact decide_eq_true rfl
theorem un65 {A : Around} {k : Nat} (hr : Room k A) : A.units + 65 < cLine := by
  have := hr.un
  omega
/-! ### what a tuple's address shows -/
def unI : V → Int
  | .int i => i
  | _ => 0
def kT (H : Hp) : V → List Int := fun x => match x with
  | .ref t => (match H t with
    | some (.tup xs) => xs.map unI
    | _ => [])
  | _ => []
theorem kT_of {H : Hp} {t : Addr} {L : List Int} (h : H t = some (.tup (L.map V.int))) : kT H (.ref t) = L := by
  unfold kT
  simp only [h]
  rw [List.map_map]
  exact List.map_id _
theorem tups_mem {H : Hp} {ts : List Addr} {Ls : List (List Int)} (h : TupsAt H ts Ls) {x : V} (hx : x ∈ ts.map V.ref) : ∃ t L, x = .ref t ∧ L ∈ Ls ∧ H t = some (.tup (L.map V.int)) ∧ kT H x = L := by
  obtain ⟨t, ht, rfl⟩ := List.mem_map.mp hx
  obtain ⟨i, hi⟩ := List.getElem?_of_mem ht
  obtain ⟨L, hL, e⟩ := h.at hi
  exact ⟨t, L, rfl, List.mem_of_getElem? hL, e, kT_of e⟩
theorem tups_kT {H : Hp} {ts : List Addr} {Ls : List (List Int)} (h : TupsAt H ts Ls) : (ts.map V.ref).map (kT H) = Ls := by
  unfold TupsAt at h
  induction h with
  | nil => rfl
  | cons q t ih => rw [List.map_cons, List.map_cons, ih, kT_of q]
/-- a list in its order is told by what is in it -/
theorem perm_srt {α : Type} (key : α → Int) : ∀ {l m : List α}, l.Perm m → l.Pairwise (fun a b => key a ≤ key b) → m.Pairwise (fun a b => key a < key b) → l = m
  | l, [], p, _, _ => p.eq_nil
  | [], b :: m, p, _, _ => absurd p.length_eq (by simp)
  | a :: l, b :: m, p, s, t => by
    obtain ⟨sa, sl⟩ := List.pairwise_cons.mp s
    obtain ⟨tb, tm⟩ := List.pairwise_cons.mp t
    have e : a = b := by
      rcases List.mem_cons.mp (p.mem_iff.mp (List.mem_cons_self (a := a) (l := l))) with z | z
      · exact z
      · rcases List.mem_cons.mp (p.mem_iff.mpr (List.mem_cons_self (a := b) (l := m))) with y | y
        · exact y.symm
        · have := tb a z
          have := sa b y
          omega
    subst e
    rw [perm_srt key p.cons_inv sl tm]
end Sw
namespace Sw
open PySem PySem.Spec PyProof.Rows L2
/-! ### lots called otherwise -/
/-- a calling otherwise: os lists all stops, none twice -/
structure Ord (n : Int) (os : List Int) : Prop where
  len : os.length = n.toNat
  nd : os.Nodup
  is : ∀ v, v ∈ os ↔ Inn n v
section
variable {n : Int} {os : List Int} {ars ars' : List (Int × Int)} {Ls : List (List Int)}
theorem Ord.at (O : Ord n os) {v : Int} (h : Inn n v) : ∃ hj : v.toNat < os.length, ren os v = os[v.toNat] := by
  obtain ⟨h0, h1⟩ := h
  have hj : v.toNat < os.length := by have := O.len; omega
  refine ⟨hj, ?_⟩
  unfold ren
  rw [List.getD_eq_getElem?_getD, List.getElem?_eq_getElem hj]
  rfl
theorem Ord.inn (O : Ord n os) {v : Int} (h : Inn n v) : Inn n (ren os v) := by
  obtain ⟨hj, e⟩ := O.at h
  rw [e]
  exact (O.is _).mp (List.getElem_mem hj)
theorem Ord.inj (O : Ord n os) {u v : Int} (hu : Inn n u) (hv : Inn n v) (e : ren os u = ren os v) : u = v := by
  obtain ⟨a, ea⟩ := O.at hu
  obtain ⟨b, eb⟩ := O.at hv
  rw [ea, eb] at e
  have := (List.getElem_inj O.nd).mp e
  have := hu.1
  have := hv.1
  omega
theorem Ord.onto (O : Ord n os) {v : Int} (h : Inn n v) : ∃ u, Inn n u ∧ ren os u = v := by
  obtain ⟨j, hj, e⟩ := List.getElem_of_mem ((O.is v).mpr h)
  have l := O.len
  have i : Inn n (j : Int) := ⟨by omega, by omega⟩
  obtain ⟨_, e2⟩ := O.at i
  exact ⟨j, i, by rw [e2]; simpa using e⟩
theorem Ord.goes (O : Ord n os) (pm : ars'.Perm (ars.map (renE os))) {k : Nat} {a c : Int} (h : Rch ars k a c) : Rch ars' k (ren os a) (ren os c) :=
  Rch.mono (fun e he => pm.mem_iff.mpr he) (Rch.map (ren os) h)
theorem Ord.back (O : Ord n os) (inn : ∀ e ∈ ars, Inn n e.1 ∧ Inn n e.2) (pm : ars'.Perm (ars.map (renE os))) : ∀ {k : Nat} {x y : Int}, Rch ars' k x y → ∀ a, Inn n a → ren os a = x → ∃ c, Inn n c ∧ ren os c = y ∧ Rch ars k a c
  | _, _, _, .nil _, a, ha, e => ⟨a, ha, e, .nil _⟩
  | _, _, _, .cons m r, a, ha, e => by
    obtain ⟨g, hg, eg⟩ := List.mem_map.mp (pm.mem_iff.mp m)
    have e1 : ren os g.1 = _ := congrArg Prod.fst eg
    have e2 : ren os g.2 = _ := congrArg Prod.snd eg
    have ia := inn g hg
    obtain rfl : a = g.1 := O.inj ha ia.1 (e.trans e1.symm)
    obtain ⟨c, hc, ec, rc⟩ := Ord.back O inn pm r g.2 ia.2 e2
    exact ⟨c, hc, ec, .cons hg rc⟩
theorem nx_mem (inn : ∀ e ∈ ars, Inn n e.1 ∧ Inn n e.2) : ∀ b c, c ∈ nextOf ars b ↔ (b, c) ∈ ars := fun b c => next_mem.trans ⟨fun h => h.2, fun h => ⟨(inn _ h).1.1, h⟩⟩
theorem Ord.both (O : Ord n os) (inn : ∀ e ∈ ars, Inn n e.1 ∧ Inn n e.2) (inn' : ∀ e ∈ ars', Inn n e.1 ∧ Inn n e.2) (pm : ars'.Perm (ars.map (renE os))) {u v : Int} (hu : Inn n u) (hv : Inn n v) : Both2 ars' (ren os u) (ren os v) ↔ Both2 ars u v := by
  have n1 := nx_mem inn
  have n2 := nx_mem inn'
  have one : ∀ {a b : Int}, Inn n a → Inn n b → ((∃ k, Path (nextOf ars') k (ren os a) (ren os b)) ↔ ∃ k, Path (nextOf ars) k a b) := fun {a b} ha hb => by
    constructor
    · rintro ⟨k, p⟩
      obtain ⟨c, hc, ec, r⟩ := O.back inn pm ((rch_path n2).mpr p) a ha rfl
      obtain rfl := O.inj hc hb ec
      exact ⟨k, (rch_path n1).mp r⟩
    · rintro ⟨k, p⟩
      exact ⟨k, (rch_path n2).mp (O.goes pm ((rch_path n1).mpr p))⟩
  unfold Both2
  rw [one hu hv, one hv hu]
/-- one lot called otherwise, ascending -/
structure Named (os : List Int) (L M : List Int) : Prop where
  asc : M.Pairwise (· < ·)
  is : ∀ o, o ∈ M ↔ ∃ v ∈ L, ren os v = o
theorem head_mem {M : List Int} {s : Int} (h : M.head? = some s) : s ∈ M := by
  cases M with
  | nil => cases h
  | cons a r =>
    cases h
    exact List.mem_cons_self
theorem Named.lot (O : Ord n os) (inn : ∀ e ∈ ars, Inn n e.1 ∧ Inn n e.2) (inn' : ∀ e ∈ ars', Inn n e.1 ∧ Inn n e.2) (pm : ars'.Perm (ars.map (renE os))) {L M : List Int} {s : Int} (p : LotP n ars L s) (N : Named os L M) : ∃ t, t < n ∧ LotP n ars' M t := by
  have sL := head_mem p.hd
  obtain ⟨t, ht⟩ : ∃ t, M.head? = some t := by
    cases M with
    | nil => exact absurd ((N.is _).mpr ⟨s, sL, rfl⟩) List.not_mem_nil
    | cons a r => exact ⟨a, rfl⟩
  obtain ⟨v, vL, ev⟩ := (N.is t).mp (head_mem ht)
  have iv := ((p.is v).mp vL).1
  have it : Inn n t := ev ▸ O.inn iv
  refine ⟨t, it.2, ht, it, N.asc, fun o => ?_⟩
  rw [N.is o]
  constructor
  · rintro ⟨u, uL, rfl⟩
    have iu := ((p.is u).mp uL).1
    refine ⟨O.inn iu, ?_⟩
    rw [← ev]
    exact (O.both inn inn' pm iv iu).mpr (((p.is v).mp vL).2.symm.trans ((p.is u).mp uL).2)
  · rintro ⟨io, b⟩
    obtain ⟨u, iu, rfl⟩ := O.onto io
    rw [← ev] at b
    exact ⟨u, (p.is u).mpr ⟨iu, ((p.is v).mp vL).2.trans ((O.both inn inn' pm iv iu).mp b)⟩, rfl⟩
/-- all of them, by their least ones: the lots of the net called otherwise -/
theorem Named.lots (O : Ord n os) (inn : ∀ e ∈ ars, Inn n e.1 ∧ Inn n e.2) (inn' : ∀ e ∈ ars', Inn n e.1 ∧ Inn n e.2) (pm : ars'.Perm (ars.map (renE os))) (LP : LotsP n ars Ls n) {Ms Ns : List (List Int)} (each : Paired (Named os) Ls Ms) (pn : Ns.Perm Ms) (srt : Ns.Pairwise fun A B => A.headD 0 ≤ B.headD 0) : LotsP n ars' Ns n := by
  have one : ∀ M ∈ Ms, ∃ L ∈ Ls, Named os L M := fun M hM => by
    clear pn srt LP
    induction each with
    | nil => cases hM
    | cons q t ih =>
      rcases List.mem_cons.mp hM with z | z
      · subst z
        exact ⟨_, List.mem_cons_self, q⟩
      · obtain ⟨L, hL, r⟩ := ih z
        exact ⟨L, List.mem_cons_of_mem _ hL, r⟩
  have two : ∀ L ∈ Ls, ∃ M ∈ Ms, Named os L M := fun L hL => by
    clear pn srt LP one
    induction each with
    | nil => cases hL
    | cons q t ih =>
      rcases List.mem_cons.mp hL with z | z
      · subst z
        exact ⟨_, List.mem_cons_self, q⟩
      · obtain ⟨M, hM, r⟩ := ih z
        exact ⟨M, List.mem_cons_of_mem _ hM, r⟩
  have lot : ∀ M ∈ Ms, ∃ t, t < n ∧ LotP n ars' M t := fun M hM => by
    obtain ⟨L, hL, r⟩ := one M hM
    obtain ⟨s, _, p⟩ := LP.each L hL
    exact r.lot O inn inn' pm p
  -- unlike ones begin unlike
  have nd : (Ms.map fun M => M.headD 0).Nodup := by
    have apart : Ls.Pairwise fun A B => ∀ v, v ∈ A → v ∉ B := LP.asc.imp_of_mem fun {A B} hA hB r v vA vB => by
      obtain ⟨s, _, p⟩ := LP.each A hA
      obtain ⟨t, _, q⟩ := LP.each B hB
      have lt := r s t p.hd q.hd
      have := q.least s p.inn ((q.is v).mp vB |>.2.trans ((p.is v).mp vA).2.symm)
      omega
    have inL : ∀ L ∈ Ls, ∀ v ∈ L, Inn n v := fun L hL v hv => by
      obtain ⟨s, _, p⟩ := LP.each L hL
      exact ((p.is v).mp hv).1
    have hd : ∀ M ∈ Ms, ∃ t, M.head? = some t := fun M hM => by
      obtain ⟨t, _, p⟩ := lot M hM
      exact ⟨t, p.hd⟩
    clear pn srt LP one two lot
    induction each with
    | nil => exact .nil
    | @cons L M Ls Ms q t ih =>
      obtain ⟨a1, a2⟩ := List.pairwise_cons.mp apart
      rw [List.map_cons]
      refine List.nodup_cons.mpr ⟨fun z => ?_, ih a2 (fun L hL => inL L (List.mem_cons_of_mem _ hL)) fun M hM => hd M (List.mem_cons_of_mem _ hM)⟩
      obtain ⟨M', hM', e⟩ := List.mem_map.mp z
      obtain ⟨L', hL', q'⟩ : ∃ L' ∈ Ls, Named os L' M' := by
        clear ih z a1 a2 apart inL hd e
        induction t with
        | nil => cases hM'
        | cons r t ih =>
          rcases List.mem_cons.mp hM' with w | w
          · subst w
            exact ⟨_, List.mem_cons_self, r⟩
          · obtain ⟨X, hX, rX⟩ := ih w
            exact ⟨X, List.mem_cons_of_mem _ hX, rX⟩
      obtain ⟨x, hx⟩ := hd M List.mem_cons_self
      obtain ⟨y, hy⟩ := hd M' (List.mem_cons_of_mem _ hM')
      rw [List.headD_eq_head?_getD, List.headD_eq_head?_getD, hx, hy] at e
      have e : y = x := e
      subst e
      obtain ⟨u, uL, eu⟩ := (q.is y).mp (head_mem hx)
      obtain ⟨v, vL, ev⟩ := (q'.is y).mp (head_mem hy)
      obtain rfl := O.inj (inL L List.mem_cons_self u uL) (inL L' (List.mem_cons_of_mem _ hL') v vL) (eu.trans ev.symm)
      exact a1 L' hL' u uL vL
  refine ⟨fun M hM => ?_, fun v v0 v1 => ?_, ?_⟩
  · obtain ⟨t, h1, h2⟩ := lot M (pn.mem_iff.mp hM)
    exact ⟨t, h1, h2⟩
  · obtain ⟨u, iu, rfl⟩ := O.onto ⟨v0, v1⟩
    obtain ⟨L, hL, uL⟩ := LP.all u iu.1 iu.2
    obtain ⟨M, hM, r⟩ := two L hL
    exact ⟨M, pn.mem_iff.mpr hM, (r.is _).mpr ⟨u, uL, rfl⟩⟩
  · have nd2 := List.pairwise_map.mp ((pn.map fun M => M.headD 0).nodup_iff.mpr nd)
    refine (srt.and nd2).imp fun {A B} ⟨h1, h2⟩ a b ha hb => ?_
    rw [List.headD_eq_head?_getD, List.headD_eq_head?_getD, ha, hb] at h1 h2
    have h1 : a ≤ b := h1
    have h2 : a ≠ b := h2
    omega
end
end Sw
namespace Sw
open PySem PySem.Spec PyProof.Rows L2
/-! ### tables of names: what the numbers tell -/
theorem ord_perm : ((ordsN 6 6).all fun p => p.isPerm (List.range 6)) = true := by decide +kernel
theorem rowP_of {g : List Nat} (l : g.length = 6) (lt : ∀ i, i < 6 → ap g i < 6) (inj : ∀ i j, i < 6 → j < 6 → ap g i = ap g j → i = j) : RowP g := by
  refine List.isPerm_iff.mp (List.all_eq_true.mp ord_perm g (mem_ordsN 6 g l ?_ fun x hx => ?_))
  · refine List.pairwise_iff_getElem.mpr fun i j hi hj ij e => ?_
    have := inj i j (by omega) (by omega) (by rw [ap_at hi, ap_at hj, e])
    omega
  · obtain ⟨i, hi, e⟩ := List.getElem_of_mem hx
    rw [← e, ← ap_at hi]
    exact lt i (by omega)
theorem mv_lt {v p : Nat} (hv : v < 5) (hp : p < 6) : mvN v p < 6 := by
  have : ∀ v, v < 5 → ∀ p, p < 6 → mvN v p < 6 := by decide
  exact this v hv p hp
theorem mv_mv {v p : Nat} (hv : v < 5) (hp : p < 6) : mvN v (mvN v p) = p := by
  have : ∀ v, v < 5 → ∀ p, p < 6 → mvN v (mvN v p) = p := by decide
  exact this v hv p hp
theorem mv_inj {v p q : Nat} (hv : v < 5) (hp : p < 6) (hq : q < 6) (e : mvN v p = mvN v q) : p = q := by
  rw [← mv_mv hv hp, e, mv_mv hv hq]
theorem mv_four {v x y z t : Nat} (hv : v < 5) (f : Four x y z t) : Four (mvN v x) (mvN v y) (mvN v z) (mvN v t) := by
  obtain ⟨⟨a, b, c, d⟩, e1, e2, e3, e4, e5, e6⟩ := f
  exact ⟨⟨mv_lt hv a, mv_lt hv b, mv_lt hv c, mv_lt hv d⟩, fun q => e1 (mv_inj hv a b q), fun q => e2 (mv_inj hv a c q), fun q => e3 (mv_inj hv a d q), fun q => e4 (mv_inj hv b c q), fun q => e5 (mv_inj hv b d q), fun q => e6 (mv_inj hv c d q)⟩
theorem ap_set {g : List Nat} {i j x : Nat} (hi : i < g.length) : ap (g.set i x) j = if j = i then x else ap g j := by
  unfold ap
  rw [List.getD_eq_getElem?_getD, List.getD_eq_getElem?_getD, List.getElem?_set]
  by_cases z : j = i
  · subst z
    rw [if_pos rfl, if_pos rfl, if_pos hi]
    rfl
  · rw [if_neg fun q => z q.symm, if_neg z]
theorem take_ap {r : List Nat} {v p : Nat} (l : r.length = 6) (hv : v < 5) (hp : p < 6) : ap (takN r v) p = ap r (mvN v p) := by
  unfold takN
  rw [ap_set (by rw [List.length_set]; omega), ap_set (by omega)]
  unfold mvN
  by_cases z : p = 5
  · subst z
    rw [if_pos rfl]
    have : ((5 : Nat) == v) = false := beq_false_of_ne (by omega)
    rw [this]
    rfl
  · rw [if_neg z]
    by_cases y : p = v
    · subst y
      rw [if_pos rfl, beq_self_eq_true]
      rfl
    · rw [if_neg y, beq_false_of_ne y, beq_false_of_ne z]
      rfl
theorem take_len {r : List Nat} {v : Nat} : (takN r v).length = r.length := by
  unfold takN
  rw [List.length_set, List.length_set]
theorem RowP.take {r : List Nat} {v : Nat} (h : RowP r) (hv : v < 5) : RowP (takN r v) := by
  have l := h.len
  refine rowP_of (by rw [take_len, l]) (fun i hi => ?_) fun i j hi hj e => ?_
  · rw [take_ap l hv hi]
    exact h.lt (mv_lt hv hi)
  · rw [take_ap l hv hi, take_ap l hv hj] at e
    exact mv_inj hv hi hj (h.inj (mv_lt hv hi) (mv_lt hv hj) e)
/-- goals: where each name goes -/
theorem goals_at {a b : List Nat} {v : Nat} (ha : RowP a) : ∀ (k : Nat) (g : List Nat), k ≤ 6 → g.length = 6 → ((List.range k).foldl (fun g p => g.set (ap a p) (ap b (mvN v p))) g).length = 6 ∧
    ∀ p, p < k → ap ((List.range k).foldl (fun g p => g.set (ap a p) (ap b (mvN v p))) g) (ap a p) = ap b (mvN v p)
  | 0, g, _, l => ⟨l, fun p h => absurd h (Nat.not_lt_zero _)⟩
  | k + 1, g, hk, l => by
    obtain ⟨l1, h1⟩ := goals_at ha k g (by omega) l
    rw [List.range_succ, List.foldl_append]
    show (List.set _ _ _).length = 6 ∧ _
    refine ⟨by rw [List.length_set]; exact l1, fun p hp => ?_⟩
    show ap (List.set _ _ _) _ = _
    rw [ap_set (by rw [l1]; exact ha.lt (by omega))]
    by_cases z : ap a p = ap a k
    · rw [if_pos z, ha.inj (by omega) (by omega) z]
    · rw [if_neg z]
      refine h1 p ?_
      have : p ≠ k := fun q => z (by rw [q])
      omega
structure TabP (T : List (List Nat)) : Prop where
  len : T.length = 5
  row : ∀ v, v < 5 → RowP (row' T v)
def ArP (ars : List (Nat × Nat)) : Prop := ∀ e ∈ ars, e.1 < 5 ∧ e.2 < 5
theorem goals_is {T : List (List Nat)} {v w : Nat} (P : TabP T) (hv : v < 5) (hw : w < 5) : RowP (goalsN T v w) ∧ ∀ p, p < 6 → ap (goalsN T v w) (ap (row' T v) p) = ap (row' T w) (mvN v p) := by
  have ha := P.row v hv
  have hb := P.row w hw
  obtain ⟨l, is⟩ := goals_at (b := row' T w) (v := v) ha 6 [0, 0, 0, 0, 0, 0] (Nat.le_refl _) rfl
  refine ⟨rowP_of l (fun i hi => ?_) (fun i j hi hj e => ?_), is⟩
  · obtain ⟨p, hp, rfl⟩ := ha.onto hi
    exact (is p hp) ▸ hb.lt (mv_lt hv hp)
  · obtain ⟨p, hp, rfl⟩ := ha.onto hi
    obtain ⟨q, hq, rfl⟩ := ha.onto hj
    have e : ap (goalsN T v w) (ap (row' T v) p) = ap (goalsN T v w) (ap (row' T v) q) := e
    have i1 : ap (goalsN T v w) (ap (row' T v) p) = ap (row' T w) (mvN v p) := is p hp
    have i2 : ap (goalsN T v w) (ap (row' T v) q) = ap (row' T w) (mvN v q) := is q hq
    rw [i1, i2] at e
    rw [mv_inj hv hp hq (hb.inj (mv_lt hv hp) (mv_lt hv hq) e)]
/-- ratios are kept along each arrow -/
def RightX (ars : List (Nat × Nat)) (T : List (List Nat)) : Prop := ∀ e ∈ ars, ∀ x y z t, Four x y z t →
  ratN (ap (row' T e.2) (mvN e.1 x)) (ap (row' T e.2) (mvN e.1 y)) (ap (row' T e.2) (mvN e.1 z)) (ap (row' T e.2) (mvN e.1 t)) = ratN (ap (row' T e.1) x) (ap (row' T e.1) y) (ap (row' T e.1) z) (ap (row' T e.1) t)
section
variable {ars : List (Nat × Nat)} {T : List (List Nat)}
theorem right_names (P : TabP T) (A : ArP ars) : namesN ars T = true ↔ RightX ars T := by
  constructor
  · intro h e he x y z t f
    obtain ⟨hv, hw⟩ := A e he
    obtain ⟨gr, gi⟩ := goals_is P hv hw
    have pr := pres_of gr (List.all_eq_true.mp h e he)
    have f' := f
    obtain ⟨⟨a, b, c, d⟩, _⟩ := f'
    rw [← gi x a, ← gi y b, ← gi z c, ← gi t d]
    exact pr.is _ _ _ _ ((P.row _ hv).four f)
  · intro h
    refine List.all_eq_true.mpr fun e he => ?_
    obtain ⟨hv, hw⟩ := A e he
    obtain ⟨gr, gi⟩ := goals_is P hv hw
    refine List.all_eq_true.mpr fun x hx => beq_iff_eq.mpr ?_
    have hx6 : x < 6 ∧ x ≠ 0 ∧ x ≠ 1 ∧ x ≠ 5 := by
      simp only [List.mem_cons, List.not_mem_nil, or_false] at hx
      rcases hx with rfl | rfl | rfl <;> decide
    obtain ⟨p0, l0, e0⟩ := (P.row _ hv).onto (x := 0) (by decide)
    obtain ⟨p1, l1, e1⟩ := (P.row _ hv).onto (x := 1) (by decide)
    obtain ⟨p5, l5, e5⟩ := (P.row _ hv).onto (x := 5) (by decide)
    obtain ⟨px, lx, ex⟩ := (P.row _ hv).onto hx6.1
    have f : Four p0 p1 p5 px := by
      refine ⟨⟨l0, l1, l5, lx⟩, ?_, ?_, ?_, ?_, ?_, ?_⟩ <;> intro q <;> subst q <;> omega
    have q := h e he p0 p1 p5 px f
    rw [← gi p0 l0, ← gi p1 l1, ← gi p5 l5, ← gi px lx, e0, e1, e5, ex] at q
    exact q
theorem right_bent (P : TabP T) (A : ArP ars) (h : RightX ars T) : rightN ars T = true := by
  refine List.all_eq_true.mpr fun e he => ?_
  obtain ⟨hv, hw⟩ := A e he
  have l := (P.row _ hv).len
  refine List.all_eq_true.mpr fun p hp => beq_iff_eq.mpr ?_
  have hp6 : p < 6 ∧ p ≠ 0 ∧ p ≠ 1 ∧ p ≠ 2 := by
    simp only [List.mem_cons, List.not_mem_nil, or_false] at hp
    rcases hp with rfl | rfl | rfl <;> decide
  have f : Four 0 1 2 p := ⟨⟨by decide, by decide, by decide, hp6.1⟩, by decide, by decide, fun q => hp6.2.1 q.symm, by decide, fun q => hp6.2.2.1 q.symm, fun q => hp6.2.2.2 q.symm⟩
  have q := h e he _ _ _ _ (mv_four hv f)
  rw [mv_mv hv (by decide), mv_mv hv (by decide), mv_mv hv (by decide), mv_mv hv hp6.1] at q
  rw [take_ap l hv (by decide), take_ap l hv (by decide), take_ap l hv (by decide), take_ap l hv hp6.1]
  exact q.symm
theorem ap_map {r g : List Nat} {p : Nat} (l : r.length = 6) (hp : p < 6) : ap (r.map (ap g)) p = ap g (ap r p) := by
  rw [ap_at (by rw [List.length_map]; omega), ap_at (r := r) (by omega), List.getElem_map]
theorem RowP.map {r g : List Nat} (h : RowP r) (hg : RowP g) : RowP (r.map (ap g)) := by
  have l := h.len
  refine rowP_of (by rw [List.length_map, l]) (fun i hi => ?_) fun i j hi hj e => ?_
  · rw [ap_map l hi]
    exact hg.lt (h.lt hi)
  · rw [ap_map l hi, ap_map l hj] at e
    exact h.inj hi hj (hg.inj (h.lt hi) (h.lt hj) e)
/-- each row bent in a way of its own -/
def BentT (T S : List (List Nat)) : Prop := S.length = 5 ∧ ∀ v, v < 5 → ∃ g, Pres g ∧ row' S v = (row' T v).map (ap g)
theorem map_id6 {r : List Nat} (h : RowP r) : r = r.map (ap (List.range 6)) := by
  refine List.ext_getElem (by rw [List.length_map]) fun i hi hj => ?_
  rw [List.getElem_map]
  have : r[i] < 6 := List.mem_range.mp (h.mem_iff.mp (List.getElem_mem hi))
  rw [ap_at (by simpa using this), List.getElem_range]
theorem pres_id : Pres (List.range 6) := by
  refine ⟨.refl _, fun x y z t f => ?_⟩
  obtain ⟨⟨a, b, c, d⟩, _⟩ := f
  have e : ∀ p, p < 6 → ap (List.range 6) p = p := fun p hp => by rw [ap_at (by simpa using hp), List.getElem_range]
  rw [e x a, e y b, e z c, e t d]
theorem BentT.tab {S : List (List Nat)} (P : TabP T) (B : BentT T S) : TabP S := by
  refine ⟨B.1, fun v hv => ?_⟩
  obtain ⟨g, pg, e⟩ := B.2 v hv
  rw [e]
  exact (P.row v hv).map pg.row
theorem BentT.right {S : List (List Nat)} (P : TabP T) (A : ArP ars) (B : BentT T S) (h : RightX ars T) : RightX ars S := by
  intro e he x y z t f
  obtain ⟨hv, hw⟩ := A e he
  obtain ⟨g1, p1, e1⟩ := B.2 _ hv
  obtain ⟨g2, p2, e2⟩ := B.2 _ hw
  have l1 := (P.row _ hv).len
  have l2 := (P.row _ hw).len
  have f' := f
  obtain ⟨⟨a, b, c, d⟩, _⟩ := f'
  have fm := mv_four hv f
  rw [e1, e2, ap_map l2 (mv_lt hv a), ap_map l2 (mv_lt hv b), ap_map l2 (mv_lt hv c), ap_map l2 (mv_lt hv d), ap_map l1 a, ap_map l1 b, ap_map l1 c, ap_map l1 d,
    p2.is _ _ _ _ ((P.row _ hw).four fm), p1.is _ _ _ _ ((P.row _ hv).four f)]
  exact h e he x y z t f
end
/-! ### passes -/
theorem step_app (st : List (Nat × List Nat)) (e : Nat × Nat) : ∃ x, stepP st e = st ++ x := by
  unfold stepP
  cases hasK st e.1 && !hasK st e.2 with
  | true => exact ⟨_, rfl⟩
  | false => exact ⟨[], (List.append_nil _).symm⟩
theorem pass_app : ∀ (ars : List (Nat × Nat)) (st : List (Nat × List Nat)), ∃ x, passP ars st = st ++ x
  | [], st => ⟨[], (List.append_nil _).symm⟩
  | e :: r, st => by
    obtain ⟨x, hx⟩ := step_app st e
    obtain ⟨y, hy⟩ := pass_app r (stepP st e)
    exact ⟨x ++ y, by show passP r (stepP st e) = _; rw [hy, hx, List.append_assoc]⟩
theorem passK_app (ars : List (Nat × Nat)) (st : List (Nat × List Nat)) (i : Nat) : ∀ j, ∃ x, passK ars (i + j) st = passK ars i st ++ x
  | 0 => ⟨[], (List.append_nil _).symm⟩
  | j + 1 => by
    obtain ⟨x, hx⟩ := passK_app ars st i j
    obtain ⟨y, hy⟩ := pass_app ars (passK ars (i + j) st)
    exact ⟨x ++ y, by show passP ars (passK ars (i + j) st) = _; rw [hy, hx, List.append_assoc]⟩
/-- once all have come nothing more does -/
theorem passK_full {ars : List (Nat × Nat)} {st : List (Nat × List Nat)} {i j : Nat} (h : i ≤ j) (l : (passK ars j st).length ≤ (passK ars i st).length) : passK ars j st = passK ars i st := by
  obtain ⟨k, rfl⟩ : ∃ k, j = i + k := ⟨j - i, by omega⟩
  obtain ⟨x, hx⟩ := passK_app ars st i k
  rw [hx, List.length_append] at l
  have : x = [] := List.length_eq_zero_iff.mp (by omega)
  rw [hx, this, List.append_nil]
theorem hasK_keys {s t : List (Nat × List Nat)} (h : s.map Prod.fst = t.map Prod.fst) (v : Nat) : hasK s v = hasK t v := by
  have e : ∀ u : List (Nat × List Nat), hasK u v = (u.map Prod.fst).any fun k => k == v := fun u => by
    unfold hasK
    rw [List.any_map]
    rfl
  rw [e, e, h]
theorem step_keys {s t : List (Nat × List Nat)} (h : s.map Prod.fst = t.map Prod.fst) (e : Nat × Nat) : (stepP s e).map Prod.fst = (stepP t e).map Prod.fst := by
  unfold stepP
  rw [hasK_keys h, hasK_keys h]
  cases hasK t e.1 && !hasK t e.2 with
  | true =>
    show (s ++ _).map _ = (t ++ _).map _
    rw [List.map_append, List.map_append, h]
    rfl
  | false => exact h
theorem pass_keys : ∀ (ars : List (Nat × Nat)) {s t : List (Nat × List Nat)}, s.map Prod.fst = t.map Prod.fst → (passP ars s).map Prod.fst = (passP ars t).map Prod.fst
  | [], _, _, h => h
  | e :: r, s, t, h => pass_keys r (step_keys h e)
theorem passK_keys (ars : List (Nat × Nat)) : ∀ (k : Nat) {s t : List (Nat × List Nat)}, s.map Prod.fst = t.map Prod.fst → (passK ars k s).map Prod.fst = (passK ars k t).map Prod.fst
  | 0, _, _, h => h
  | k + 1, _, _, h => pass_keys ars (passK_keys ars k h)
/-- rows that lie there -/
def RowsP (st : List (Nat × List Nat)) : Prop := ∀ e ∈ st, RowP e.2
theorem getK_row {st : List (Nat × List Nat)} (h : RowsP st) {v : Nat} (hv : hasK st v = true) : RowP (getK st v) := by
  unfold getK
  cases e : st.find? fun e => e.1 == v with
  | none =>
    obtain ⟨x, hx, q⟩ := List.any_eq_true.mp hv
    exact (List.find?_eq_none.mp e x hx q).elim
  | some x => exact h x (List.mem_of_find?_eq_some e)
theorem step_rows {st : List (Nat × List Nat)} (h : RowsP st) {e : Nat × Nat} (he : e.1 < 5) : RowsP (stepP st e) := by
  unfold stepP
  cases c : hasK st e.1 && !hasK st e.2 with
  | true =>
    rw [Bool.and_eq_true] at c
    intro x hx
    rcases List.mem_append.mp hx with z | z
    · exact h x z
    · rw [List.mem_singleton.mp z]
      exact (getK_row h c.1).take he
  | false => exact h
theorem pass_rows : ∀ {ars : List (Nat × Nat)} (_ : ArP ars) {st : List (Nat × List Nat)}, RowsP st → RowsP (passP ars st)
  | [], _, _, h => h
  | e :: r, A, st, h => pass_rows (ars := r) (fun x hx => A x (List.mem_cons_of_mem _ hx)) (step_rows h (A e List.mem_cons_self).1)
theorem passK_rows {ars : List (Nat × Nat)} (A : ArP ars) : ∀ (k : Nat) {st : List (Nat × List Nat)}, RowsP st → RowsP (passK ars k st)
  | 0, _, h => h
  | k + 1, _, h => pass_rows A (passK_rows A k h)
theorem tab_p {ars : List (Nat × Nat)} {r : List Nat} (A : ArP ars) (F : fullN ars = true) (h : RowP r) : TabP (tabN ars r) ∧ (passK ars 5 [(0, r)]).length = 5 ∧ ∀ v, v < 5 → hasK (passK ars 5 [(0, r)]) v = true ∧ row' (tabN ars r) v = getK (passK ars 5 [(0, r)]) v := by
  unfold fullN at F
  rw [Bool.and_eq_true, List.all_eq_true] at F
  have ke := passK_keys ars 5 (s := [(0, r)]) (t := [(0, [])]) rfl
  have le := congrArg List.length ke
  rw [List.length_map, List.length_map, beq_iff_eq.mp F.1] at le
  have hs : ∀ v, v < 5 → hasK (passK ars 5 [(0, r)]) v = true := fun v hv => by
    rw [hasK_keys ke]
    exact F.2 v (List.mem_range.mpr hv)
  have rw_ : ∀ v, v < 5 → row' (tabN ars r) v = getK (passK ars 5 [(0, r)]) v := fun v hv => by
    unfold row' tabN
    rw [List.getD_eq_getElem?_getD, List.getElem?_map, List.getElem?_range hv]
    rfl
  refine ⟨⟨by unfold tabN; rw [List.length_map, List.length_range], fun v hv => ?_⟩, le, fun v hv => ⟨hs v hv, rw_ v hv⟩⟩
  rw [rw_ v hv]
  exact getK_row (passK_rows A 5 fun e he => by rw [List.mem_singleton.mp he]; exact h) (hs v hv)
/-! ### the nets of five -/
theorem chk_five {os : List Int} {c : Bool} {ars : List (Int × Int)} (as : AscA ars) (O : Ord 5 os) (pm : ars.Perm ((fiveS c).map (renE os))) : chkN (ars.map toN) = true := by
  have e0 : ars = isortA ((fiveS c).map (renE os)) := srt_eq as.srt (isortA_srt _) (pm.trans (isortA_perm _).symm)
  have eo : os = (os.map Int.toNat).map fun k : Nat => (k : Int) := by
    rw [List.map_map]
    refine ((List.map_congr_left fun x hx => ?_).trans (List.map_id _)).symm
    have := (O.is x).mp hx
    show ((x.toNat : Nat) : Int) = x
    exact Int.toNat_of_nonneg this.1
  have mo : os.map Int.toNat ∈ ordsN 5 5 := by
    refine mem_ordsN 5 _ (by rw [List.length_map]; exact O.len) ?_ fun x hx => ?_
    · refine List.pairwise_map.mpr (O.nd.imp_of_mem fun {a b} ha hb n z => n ?_)
      have a1 := ((O.is a).mp ha).1
      have b1 := ((O.is b).mp hb).1
      omega
    · obtain ⟨y, hy, rfl⟩ := List.mem_map.mp hx
      have := (O.is y).mp hy
      have h1 := this.1
      have h2 := this.2
      omega
  have q := List.all_eq_true.mp (List.all_eq_true.mp chk_all _ mo) c (by cases c <;> decide)
  rw [← eo, ← e0] at q
  exact q
/-! ### bent rows, as drawn -/
def bentX (a b c d : Nat) (x : Nat) : Nat := let u := bif x == 5 then a else a * x + b; let l := bif x == 5 then c else c * x + d; bif l % 5 == 0 then 5 else u * l * l * l % 5
theorem bent_chk : ((List.range 5).all fun a => (List.range 5).all fun b => (List.range 5).all fun c => (List.range 5).all fun d => (a * d + 5 * 5 * 5 - b * c) % 5 == 0 || (((List.range 6).map (bentX a b c d)).isPerm (List.range 6) && bendB ((List.range 6).map (bentX a b c d)))) = true := by decide +kernel
theorem bent_pres {a b c d : Nat} (ha : a < 5) (hb : b < 5) (hc : c < 5) (hd : d < 5) (n : (a * d + 125 - b * c) % 5 ≠ 0) : Pres ((List.range 6).map (bentX a b c d)) ∧ ∀ x, x < 6 → ap ((List.range 6).map (bentX a b c d)) x = bentX a b c d x := by
  have q := List.all_eq_true.mp (List.all_eq_true.mp (List.all_eq_true.mp (List.all_eq_true.mp bent_chk a (List.mem_range.mpr ha)) b (List.mem_range.mpr hb)) c (List.mem_range.mpr hc)) d (List.mem_range.mpr hd)
  have z : ((a * d + 5 * 5 * 5 - b * c) % 5 == 0) = false := beq_false_of_ne n
  rw [z, Bool.false_or, Bool.and_eq_true] at q
  refine ⟨pres_of (List.isPerm_iff.mp q.1) q.2, fun x hx => ?_⟩
  rw [ap_at (by rw [List.length_map, List.length_range]; exact hx), List.getElem_map, List.getElem_range]
end Sw
namespace Sw
open PySem PySem.Spec PyProof.Rows L2
/-! ### ratios: difference, ratio_of, ratio_ahead, are_bent -/
def intR (r : List Nat) : List Int := r.map fun k : Nat => (k : Int)
theorem intR_len {r : List Nat} : (intR r).length = r.length := List.length_map _
theorem at_row {r : List Nat} {p : Nat} (h : p < r.length) : atI ((intR r).map V.int) (p : Int) = some (.int (ap r p : Nat)) := by
  refine at_of (j := p) rfl ?_
  unfold intR
  rw [List.getElem?_map, List.getElem?_map, List.getElem?_eq_getElem h, ap_at h]
  rfl
def difI (x y : Int) : Int := if x = 5 ∨ y = 5 then 1 else x - y
theorem dif_le {x y : Nat} (hx : x < 6) (hy : y < 6) : -6 < difI x y ∧ difI x y < 6 := by
  unfold difI
  split <;> omega
theorem rat_is : ∀ x, x < 6 → ∀ y, y < 6 → ∀ z, z < 6 → ∀ t, t < 6 → difI (x : Nat) (z : Nat) * difI (y : Nat) (t : Nat) * (difI (x : Nat) (t : Nat) * difI (y : Nat) (z : Nat)) ^ (3 : Int).toNat % 5 = ((ratN x y z t : Nat) : Int) := by decide +kernel
theorem mul_le {a b : Int} (ha : -6 < a ∧ a < 6) (hb : -6 < b ∧ b < 6) : -36 < a * b ∧ a * b < 36 := by
  have : a = -5 ∨ a = -4 ∨ a = -3 ∨ a = -2 ∨ a = -1 ∨ a = 0 ∨ a = 1 ∨ a = 2 ∨ a = 3 ∨ a = 4 ∨ a = 5 := by omega
  rcases this with rfl | rfl | rfl | rfl | rfl | rfl | rfl | rfl | rfl | rfl | rfl <;> omega
section
variable {P : Program} {w : World} {K : PySem.W.Frag} {mg : Str → Option Value} {base : Heap}
abbrev sDif : Stmt := top 33
abbrev sRatOf : Stmt := top 32
abbrev sRatAh : Stmt := top 31
abbrev sAreBent : Stmt := top 30
abbrev nRatOf : List Str := ["x", "y", "z", "t", "above", "below"]
theorem scDif : FnScope ["x", "y"] ["x", "y"] (defScope sDif) := ⟨rfl, rfl, rfl, by decide +kernel, rfl, by decide +kernel, by decide +kernel⟩
theorem scRatOf : FnScope nRatOf ["x", "y", "z", "t"] (defScope sRatOf) := ⟨rfl, rfl, rfl, by decide +kernel, rfl, by decide +kernel, by decide +kernel⟩
theorem scRatAh : FnScope ["row", "place"] ["row", "place"] (defScope sRatAh) := ⟨rfl, rfl, rfl, by decide +kernel, rfl, by decide +kernel, by decide +kernel⟩
theorem scAreBent : FnScope ["row", "other", "place"] ["row", "other"] (defScope sAreBent) := ⟨rfl, rfl, rfl, by decide +kernel, rfl, by decide +kernel, by decide +kernel⟩
def spDif : Sp := fun vs H Q _ => ∃ x y : Int, vs = [.int x, .int y] ∧ ∀ H', Same H H' → Q (.int (difI x y)) H'
theorem ok_dif {f : Addr} {fd : FuncData} (F : Fun K "difference" "difference" sDif f fd) (B : NoNames mg) {t : Tok} (mB : mg "BEYOND" = some (.int 5 t)) : FnOk P w K mg base CX0 1 f fd ["x", "y"] spDif := by
  refine F.ok scDif (fun vs H Q E h => ?_) (fun cdv A outer s H vs Q E hr h => ?_)
  · obtain ⟨x, y, rfl, _⟩ := h
    rfl
  · obtain ⟨x, y, rfl, k⟩ := h
    refine ⟨_, pss_one (ps_ret (pe_ifExp (pt_cmpR (r := rIn K false) op_in_seq (pe_glob (v := .int 5) rfl mB ⟨_, rfl⟩) (pe_tup (pa_cons (pv 0) (pa_cons (pv 1) pa_nil))) (by with_unfolding_all rfl)) pe_int (pe_op op_sub (pv 0) (pv 1)))), ?_⟩
    refine ⟨_, rfl, _, rfl, by show 2 ≤ sizeLine; decide, fun T nT => ?_⟩
    have s1 := same_new (o := .tup [.int x, .int y]) nT
    refine ⟨T, _, rfl, .inr (SqT.of upd_same), rfl, rfl, _, rfl, ite2 (fun c => ?_) (fun c => ?_)⟩
    · have c : (5 : Int) ∈ [x, y] := inV_oi.mp c
      have e : difI x y = 1 := by
        unfold difI
        rw [if_pos]
        simp only [List.mem_cons, List.not_mem_nil, or_false] at c
        rcases c with c | c
        · exact .inl c.symm
        · exact .inr c.symm
      have := k _ s1
      rw [e] at this
      exact this
    · have c : ¬ (5 : Int) ∈ [x, y] := fun z => c (inV_oi.mpr z)
      have e : difI x y = x - y := by
        unfold difI
        rw [if_neg]
        rintro (z | z)
        · exact c (by rw [z]; exact List.mem_cons_self)
        · exact c (by rw [z]; exact List.mem_cons_of_mem _ List.mem_cons_self)
      have := k _ s1
      rw [e] at this
      exact ⟨_, rfl, _, rfl, _, _, rfl, rfl, this⟩
def spRatOf : Sp := fun vs H Q _ => ∃ x y z t : Nat, vs = [.int (x : Nat), .int (y : Nat), .int (z : Nat), .int (t : Nat)] ∧ x < 6 ∧ y < 6 ∧ z < 6 ∧ t < 6 ∧ ∀ H', Same H H' → Q (.int (ratN x y z t : Nat)) H'
theorem ok_ratOf {f : Addr} {fd : FuncData} (F : Fun K "ratio_of" "ratio_of" sRatOf f fd) (B : NoNames mg) {t : Tok} (mB : mg "BEYOND" = some (.int 5 t)) (OD : Own P w K mg base 1 "difference" ["x", "y"] spDif) : FnOk P w K mg base CX0 2 f fd ["x", "y", "z", "t"] spRatOf := by
  obtain ⟨fD, fdD, GD, mD, kD, bD⟩ := OD.ex
  refine F.ok scRatOf (fun vs H Q E h => ?_) (fun cdv A outer s H vs Q E hr h => ?_)
  · obtain ⟨x, y, z, t, rfl, _⟩ := h
    rfl
  · obtain ⟨x, y, z, t, rfl, hx, hy, hz, ht, k⟩ := h
    refine ⟨_, pss_cons (ps_set (i := 4) scRatOf.nd rfl (.inl rfl) (pe_op op_mul (pe_call GD hr rfl mD kD bD .nil pass0 (pa_cons (pv 0) (pa_cons (pv 2) pa_nil))) (pe_call GD hr rfl mD kD bD .nil pass0 (pa_cons (pv 1) (pa_cons (pv 3) pa_nil))))) <|
      pss_cons (ps_set (i := 5) scRatOf.nd rfl (.inl rfl) (pe_op op_mul (pe_call GD hr rfl mD kD bD .nil pass0 (pa_cons (pv 0) (pa_cons (pv 3) pa_nil))) (pe_call GD hr rfl mD kD bD .nil pass0 (pa_cons (pv 1) (pa_cons (pv 2) pa_nil))))) <|
      pss_one (ps_ret (pe_op (r := rI (fun _ j => 0 < j) fun i j => .int (i % j)) op_mod (pe_op op_mul (pv 4) (pe_op op_pow (pv 5) pe_int)) (pe_glob (v := .int 5) rfl mB ⟨_, rfl⟩))), ?_⟩
    have b1 := dif_le hx hz
    have b2 := dif_le hy ht
    have b3 := dif_le hx ht
    have b4 := dif_le hy hz
    have m1 := mul_le b1 b2
    have m2 := mul_le b3 b4
    refine ⟨_, rfl, _, rfl, _, _, rfl, fun H1 s1 => ⟨_, rfl, _, rfl, _, _, rfl, fun H2 s2 => ⟨_, _, rfl, rfl, .inl ⟨by omega, by omega⟩, ?_⟩⟩⟩
    refine ⟨_, rfl, _, rfl, _, _, rfl, fun H3 s3 => ⟨_, rfl, _, rfl, _, _, rfl, fun H4 s4 => ⟨_, _, rfl, rfl, .inl ⟨by omega, by omega⟩, ?_⟩⟩⟩
    refine ⟨_, rfl, _, rfl, _, _, rfl, rfl, ⟨by decide, by decide, by omega⟩, _, _, rfl, rfl, .inl ⟨by omega, by omega⟩, _, _, rfl, rfl, by show (0 : Int) < 5; decide, ?_⟩
    have := k H4 (s1.trans (s2.trans (s3.trans s4)))
    rw [← rat_is x hx y hy z hz t ht] at this
    exact this
def spRatAh : Sp := fun vs H Q _ => ∃ (a : Addr) (r : List Nat) (p : Nat), vs = [.ref a, .int (p : Nat)] ∧ H a = some (.tup ((intR r).map V.int)) ∧ RowP r ∧ p < 6 ∧ ∀ H', Same H H' → Q (.int (ratN (ap r 0) (ap r 1) (ap r 2) (ap r p) : Nat)) H'
theorem ok_ratAh {f : Addr} {fd : FuncData} (F : Fun K "ratio_ahead" "ratio_ahead" sRatAh f fd) (B : NoNames mg) (OR : Own P w K mg base 2 "ratio_of" ["x", "y", "z", "t"] spRatOf) : FnOk P w K mg base CX0 3 f fd ["row", "place"] spRatAh := by
  obtain ⟨fD, fdD, GD, mD, kD, bD⟩ := OR.ex
  refine F.ok scRatAh (fun vs H Q E h => ?_) (fun cdv A outer s H vs Q E hr h => ?_)
  · obtain ⟨a, r, p, rfl, _⟩ := h
    rfl
  · obtain ⟨a, r, p, rfl, ha, R, hp, k⟩ := h
    have l := R.len
    refine ⟨_, pss_one (ps_ret (pe_call GD hr rfl mD kD bD .nil pass0 (pa_cons (pe_ix ix_tup (pv 0) pe_int (fun _ _ => rfl)) (pa_cons (pe_ix ix_tup (pv 0) pe_int (fun _ _ => rfl)) (pa_cons (pe_ix ix_tup (pv 0) pe_int (fun _ _ => rfl)) (pa_cons (pe_ix ix_tup (pv 0) (pv 1) (fun _ _ => rfl)) pa_nil)))))), ?_⟩
    refine ⟨_, rfl, a, _, 0, _, rfl, rfl, SqT.of ha, at_row (p := 0) (by omega), _, rfl, a, _, 1, _, rfl, rfl, SqT.of ha, at_row (p := 1) (by omega), _, rfl, a, _, 2, _, rfl, rfl, SqT.of ha, at_row (p := 2) (by omega), _, rfl, _, rfl, a, _, (p : Nat), _, rfl, rfl, SqT.of ha, at_row (by omega), _, _, _, _, rfl, R.lt (by decide), R.lt (by decide), R.lt (by decide), R.lt hp, k⟩
def spAreBent : Sp := fun vs H Q _ => ∃ (a b : Addr) (r o : List Nat), vs = [.ref a, .ref b] ∧ H a = some (.tup ((intR r).map V.int)) ∧ H b = some (.tup ((intR o).map V.int)) ∧ RowP r ∧ RowP o ∧ ∀ H', Same H H' → Q (.bl (bentN r o)) H'
theorem ok_areBent {f : Addr} {fd : FuncData} (F : Fun K "are_bent" "are_bent" sAreBent f fd) (B : NoNames mg) (ball : mg "all" = none) (OR : Own P w K mg base 3 "ratio_ahead" ["row", "place"] spRatAh) : FnOk P w K mg base CX0 4 f fd ["row", "other"] spAreBent := by
  obtain ⟨fD, fdD, GD, mD, kD, bD⟩ := OR.ex
  refine F.ok scAreBent (fun vs H Q E h => ?_) (fun cdv A outer s H vs Q E hr h => ?_)
  · obtain ⟨a, b, r, o, rfl, _⟩ := h
    rfl
  · obtain ⟨a, b, r, o, rfl, ha, hb, R, O, k⟩ := h
    have l := R.len
    refine ⟨_, pss_one (ps_ret (pe_callB (cr_all rfl) (by rfl) ball (by decide +kernel) (pa_cons
      (pe_lc (own := [("place", 2)]) (g := gName 2) (tt := tYes) rfl scAreBent.nd (pi_range2 (by rfl) B.range (pa_cons pe_int (pa_cons (pe_callB call_len_seq (by rfl) B.len PySem.boot_len (pa_cons (pv 0) pa_nil)) pa_nil))) (blkOk_by (own := [("place", 2)]) (N := ["row", "other", "place"]) (sc := defScope sAreBent) (by decide +kernel))
        (fun _ _ _ _ _ => pg_name (i := 2) scAreBent.nd rfl (Or.inl rfl)) (fun _ _ _ _ _ => pts_nil)
        (fun _ _ _ _ _ => pe_cmpR op_eq (pe_call GD hr rfl mD kD bD .nil pass0 (pa_cons (pv 0) (pa_cons (pv 2) pa_nil))) (pe_call GD hr rfl mD kD bD .nil pass0 (pa_cons (pv 1) (pa_cons (pv 2) pa_nil))) (nomark _))) pa_nil))), ?_⟩
    refine ⟨_, rfl, a, _, rfl, .inr (SqT.of ha), 3, (6 : Nat), ?_, by decide, fun D nD => ?_⟩
    · rw [List.length_map, intR_len, l]
    refine lc_it walk_range (fun j Z => Z D = some (.lst (((List.range j).map fun i => ratN (ap r 0) (ap r 1) (ap r 2) (ap r (3 + i)) == ratN (ap o 0) (ap o 1) (ap o 2) (ap o (3 + i))).map V.bl)) ∧ Same H Z) ⟨upd_same, same_new nD⟩ (fun _ _ _ _ => trivial) ?_ ?_
    · rintro j x Hb Ha hj ⟨h1, h2⟩ ⟨rfl, rfl⟩
      have hj : j < 3 := hj
      have f0 : (3 : Int) + (j : Int) = ((3 + j : Nat) : Int) := by omega
      refine ⟨rfl, ?_⟩
      dsimp only [tYes]
      rw [if_pos rfl, f0]
      refine ⟨_, rfl, _, rfl, a, r, 3 + j, rfl, h2 _ _ ha, R, by omega, fun H1 s1 => ⟨_, rfl, _, rfl, b, o, 3 + j, rfl, s1 _ _ (h2 _ _ hb), O, by omega, fun H2 s2 => ?_⟩⟩
      have h1' := s2 _ _ (s1 _ _ h1)
      refine ⟨rfl, _, h1', by rw [List.length_map, List.length_map, List.length_range, sizeLine_eq]; omega, ?_, fun c u e => ?_⟩
      · rw [upd_same, List.range_succ, List.map_append, List.map_append]
        congr 3
        show [V.bl _] = [V.bl _]
        congr 2
        show decide (V.int _ = V.int _) = (_ == _)
        rw [Bool.eq_iff_iff, decide_eq_true_iff, beq_iff_eq, V.int.injEq]
        omega
      · rw [upd_ne (ne_of_none e nD)]
        exact s2 _ _ (s1 _ _ (h2 _ _ e))
    · rintro Ha ⟨h1, h2⟩
      refine ⟨D, _, rfl, SqL.of h1, ?_⟩
      have := k Ha h2
      have e : bentN r o = (((List.range 3).map fun i => ratN (ap r 0) (ap r 1) (ap r 2) (ap r (3 + i)) == ratN (ap o 0) (ap o 1) (ap o 2) (ap o (3 + i))).all id) := by
        rw [List.all_map]
        rfl
      rw [e] at this
      exact this
end
end Sw
namespace Sw
/-! ### numbers of rows -/
def fac : Nat → Nat
  | 0 => 1
  | n + 1 => (n + 1) * fac n
theorem fac_pos : ∀ n, 0 < fac n
  | 0 => Nat.one_pos
  | n + 1 => Nat.mul_pos (Nat.succ_pos n) (fac_pos n)
/-- how many things of r are less than x -/
def less (x : Int) (r : List Int) : Nat := (r.filter fun y => decide (y < x)).length
/-- the number of a row, from the left -/
def rkAcc : Nat → List Int → Nat
  | acc, [] => acc
  | acc, x :: r => rkAcc (acc * (r.length + 1) + less x r) r
def rk : List Int → Nat
  | [] => 0
  | x :: r => less x r * fac r.length + rk r
theorem less_le (x : Int) (r : List Int) : less x r ≤ r.length := List.length_filter_le _ _
theorem rkAcc_eq : ∀ (r : List Int) (acc : Nat), rkAcc acc r = acc * fac r.length + rk r
  | [], acc => by simp [rkAcc, rk, fac]
  | x :: r, acc => by
    rw [rkAcc, rkAcc_eq r, rk]
    simp only [List.length_cons, fac]
    rw [Nat.add_mul, Nat.mul_assoc, Nat.add_assoc]
theorem rk_lt : ∀ r : List Int, rk r < fac r.length
  | [] => Nat.one_pos
  | x :: r => by
    have h := rk_lt r
    have h2 := less_le x r
    have h3 : less x r * fac r.length ≤ r.length * fac r.length := Nat.mul_le_mul_right _ h2
    simp only [rk, List.length_cons, fac, Nat.add_mul, Nat.one_mul]
    omega
/-- a row again: so many things of what is left are less -/
def unrk : List Int → Nat → Nat → List Int
  | _, 0, _ => []
  | left, m + 1, num => left.getD (num / fac m) 0 :: unrk (left.eraseIdx (num / fac m)) m (num % fac m)
/-- in an ascending list a thing stands behind just those that are less -/
theorem asc_at : ∀ {left : List Int} {x : Int} {i : Nat}, left.Pairwise (· < ·) → left[i]? = some x → less x left = i
  | [], x, i, _, h => by simp at h
  | y :: l, x, 0, hp, h => by
    obtain rfl : y = x := by simpa using h
    have h1 := (List.pairwise_cons.mp hp).1
    unfold less
    rw [List.filter_cons_of_neg (by simp), List.length_eq_zero_iff]
    refine List.filter_eq_nil_iff.mpr fun z hz => ?_
    have := h1 z hz
    simp only [decide_eq_true_eq]
    omega
  | y :: l, x, i + 1, hp, h => by
    obtain ⟨h1, h2⟩ := List.pairwise_cons.mp hp
    have h3 : l[i]? = some x := by simpa using h
    have := asc_at h2 h3
    have hy := h1 x (List.mem_of_getElem? h3)
    unfold less at this ⊢
    rw [List.filter_cons_of_pos (by simpa using hy), List.length_cons, this]
theorem less_perm {x : Int} {r s : List Int} (h : r.Perm s) : less x r = less x s := (h.filter _).length_eq
theorem less_self (x : Int) (r : List Int) : less x (x :: r) = less x r := by
  unfold less
  rw [List.filter_cons_of_neg (by simp)]
theorem erase_at : ∀ {l : List Int} {x : Int} {i : Nat}, l.Nodup → l[i]? = some x → l.eraseIdx i = l.erase x
  | [], x, i, _, h => by simp at h
  | y :: l, x, 0, hn, h => by
    obtain rfl : y = x := by simpa using h
    simp
  | y :: l, x, i + 1, hn, h => by
    obtain ⟨h1, h2⟩ := List.nodup_cons.mp hn
    have h3 : l[i]? = some x := by simpa using h
    have ne : ¬ y = x := fun z => h1 (z ▸ List.mem_of_getElem? h3)
    rw [List.eraseIdx_cons_succ, List.erase_cons_tail (by simpa using ne), erase_at h2 h3]
theorem asc_nodup {l : List Int} (h : l.Pairwise (· < ·)) : l.Nodup := List.Pairwise.imp (fun {a b} h => by omega) h
theorem unrk_rk : ∀ (row left : List Int), left.Pairwise (· < ·) → row.Perm left → unrk left row.length (rk row) = row
  | [], left, _, _ => rfl
  | x :: r, left, hp, pm => by
    have hx : x ∈ left := pm.mem_iff.mp (by simp)
    obtain ⟨i, hi, e⟩ := List.getElem_of_mem hx
    have ei : left[i]? = some x := by rw [List.getElem?_eq_getElem hi, e]
    have el : less x r = i := by
      rw [← less_self, less_perm pm]
      exact asc_at hp ei
    have hf := fac_pos r.length
    have hlt := rk_lt r
    have d1 : (i * fac r.length + rk r) / fac r.length = i := by
      rw [Nat.mul_comm, Nat.mul_add_div hf, Nat.div_eq_of_lt hlt, Nat.add_zero]
    have d2 : (i * fac r.length + rk r) % fac r.length = rk r := by
      rw [Nat.mul_comm, Nat.mul_add_mod, Nat.mod_eq_of_lt hlt]
    have pe : r.Perm (left.eraseIdx i) := by
      rw [erase_at (asc_nodup hp) ei]
      have := pm.erase x
      rwa [List.erase_cons_head] at this
    have ae : (left.eraseIdx i).Pairwise (· < ·) := hp.sublist (List.eraseIdx_sublist _ _)
    rw [List.length_cons, unrk, rk, el, d1, d2, unrk_rk r _ ae pe, List.getD_eq_getElem?_getD, ei]
    rfl
/-- by the law: what is left is looked through -/
def lawAcc : Nat → List Int → List Int → Nat
  | acc, _, [] => acc
  | acc, left, x :: r => lawAcc (acc * left.length + left.idxOf x) (left.erase x) r
theorem idx_less {left : List Int} {x : Int} (hp : left.Pairwise (· < ·)) (hx : x ∈ left) : left.idxOf x = less x left := by
  have h := List.idxOf_lt_length_iff.mpr hx
  exact (asc_at hp (by rw [List.getElem?_eq_getElem h, List.getElem_idxOf])).symm
theorem lawAcc_eq : ∀ (row left : List Int) (acc : Nat), left.Pairwise (· < ·) → row.Perm left → lawAcc acc left row = rkAcc acc row
  | [], left, acc, _, _ => rfl
  | x :: r, left, acc, hp, pm => by
    have hx : x ∈ left := pm.mem_iff.mp (by simp)
    have pe := pm.erase x
    rw [List.erase_cons_head] at pe
    rw [lawAcc, rkAcc, lawAcc_eq r _ _ (hp.sublist List.erase_sublist) pe, idx_less hp hx, ← less_perm pm, less_self, ← pm.length_eq, List.length_cons]
end Sw
namespace Sw
/-! ### what runs do with rows -/
/-- what stands at i and at j changes places -/
def sw2 (xs : List Int) (i j : Nat) : List Int := (xs.set i (xs.getD j 0)).set j (xs.getD i 0)
theorem sw2_len (xs : List Int) (i j : Nat) : (sw2 xs i j).length = xs.length := by simp [sw2]
theorem sw2_get {xs : List Int} {i j : Nat} (hi : i < xs.length) (hj : j < xs.length) (k : Nat) : (sw2 xs i j)[k]? = if k = j then xs[i]? else if k = i then xs[j]? else xs[k]? := by
  unfold sw2
  rw [List.getElem?_set]
  by_cases h1 : k = j
  · subst h1
    rw [if_pos rfl, if_pos rfl, if_pos (by simpa using hj), List.getD_eq_getElem?_getD, List.getElem?_eq_getElem hi]
    rfl
  · rw [if_neg (Ne.symm h1), if_neg h1, List.getElem?_set]
    by_cases h2 : k = i
    · subst h2
      rw [if_pos rfl, if_pos rfl, if_pos hi, List.getD_eq_getElem?_getD, List.getElem?_eq_getElem hj]
      rfl
    · rw [if_neg (Ne.symm h2), if_neg h2]
theorem sw2_comm {xs : List Int} {i j : Nat} (hi : i < xs.length) (hj : j < xs.length) : sw2 xs i j = sw2 xs j i := by
  refine List.ext_getElem? fun k => ?_
  rw [sw2_get hi hj, sw2_get hj hi]
  by_cases h1 : k = j
  · by_cases h2 : k = i
    · rw [if_pos h1, if_pos h2, ← h1, ← h2]
    · rw [if_pos h1, if_neg h2, if_pos h1]
  · by_cases h2 : k = i
    · rw [if_neg h1, if_pos h2, if_pos h2]
    · rw [if_neg h1, if_neg h2, if_neg h2, if_neg h1]
/-- the row in pieces -/
theorem sw2_cut {xs : List Int} {i j : Nat} (hij : i < j) (hj : j < xs.length) : ∃ (A B C : List Int) (x y : Int), xs = A ++ x :: (B ++ y :: C) ∧ sw2 xs i j = A ++ y :: (B ++ x :: C) ∧ xs[i]? = some x ∧ xs[j]? = some y := by
  have hi : i < xs.length := by omega
  have e1 : xs = xs.take i ++ xs[i] :: xs.drop (i + 1) := by
    rw [List.getElem_cons_drop hi, List.take_append_drop]
  have hd : j - (i + 1) < (xs.drop (i + 1)).length := by
    rw [List.length_drop]
    omega
  have e2 : xs.drop (i + 1) = (xs.drop (i + 1)).take (j - (i + 1)) ++ (xs.drop (i + 1))[j - (i + 1)] :: (xs.drop (i + 1)).drop (j - (i + 1) + 1) := by
    rw [List.getElem_cons_drop hd, List.take_append_drop]
  have e3 : (xs.drop (i + 1))[j - (i + 1)] = xs[j] := by
    rw [List.getElem_drop]
    congr 1
    omega
  rw [e3] at e2
  rw [e2] at e1
  refine ⟨_, _, _, _, _, e1, ?_, List.getElem?_eq_getElem hi, List.getElem?_eq_getElem hj⟩
  have lA : (xs.take i).length = i := by rw [List.length_take]; omega
  have lB : ((xs.drop (i + 1)).take (j - (i + 1))).length = j - (i + 1) := by rw [List.length_take]; omega
  have gj : xs.getD j 0 = xs[j] := by rw [List.getD_eq_getElem?_getD, List.getElem?_eq_getElem hj]; rfl
  have gi : xs.getD i 0 = xs[i] := by rw [List.getD_eq_getElem?_getD, List.getElem?_eq_getElem hi]; rfl
  unfold sw2
  rw [gi, gj]
  generalize xs[i] = x at *
  generalize xs[j] = y at *
  generalize (xs.drop (i + 1)).drop (j - (i + 1) + 1) = C at *
  generalize (xs.drop (i + 1)).take (j - (i + 1)) = B at *
  generalize xs.take i = A at *
  subst e1
  rw [List.set_append_right _ _ (by omega), lA, Nat.sub_self, List.set_cons_zero, List.set_append_right _ _ (by omega), lA]
  obtain ⟨k, hk⟩ : ∃ k, j - i = k + 1 := ⟨j - i - 1, by omega⟩
  rw [hk, List.set_cons_succ, List.set_append_right _ _ (by omega), show k - B.length = 0 by omega, List.set_cons_zero]
theorem perm_two {A B C : List Int} {x y : Int} : (A ++ y :: (B ++ x :: C)).Perm (A ++ x :: (B ++ y :: C)) := by
  refine List.Perm.append_left A ?_
  have h1 : (y :: (B ++ x :: C)).Perm (y :: x :: (B ++ C)) := List.Perm.cons y List.perm_middle
  have h2 : (x :: (B ++ y :: C)).Perm (x :: y :: (B ++ C)) := List.Perm.cons x List.perm_middle
  exact (h1.trans (List.Perm.swap x y _)).trans h2.symm
theorem sw2_self {xs : List Int} {i : Nat} (hi : i < xs.length) : sw2 xs i i = xs := by
  refine List.ext_getElem? fun k => ?_
  rw [sw2_get hi hi]
  by_cases h : k = i
  · rw [if_pos h, h]
  · rw [if_neg h, if_neg h]
theorem sw2_perm {xs : List Int} {i j : Nat} (hi : i < xs.length) (hj : j < xs.length) : (sw2 xs i j).Perm xs := by
  rcases Nat.lt_trichotomy i j with h | h | h
  · obtain ⟨A, B, C, x, y, e1, e2, _⟩ := sw2_cut h hj
    rw [e2]
    conv => rhs; rw [e1]
    exact perm_two
  · subst h
    rw [sw2_self hi]
  · rw [sw2_comm hi hj]
    obtain ⟨A, B, C, x, y, e1, e2, _⟩ := sw2_cut h hi
    rw [e2]
    conv => rhs; rw [e1]
    exact perm_two
/-! ### even and odd rows -/
/-- how many pairs of things fall -/
def inv : List Int → Nat
  | [] => 0
  | x :: r => less x r + inv r
def more (x : Int) (r : List Int) : Nat := (r.filter fun y => decide (x < y)).length
theorem less_app (x : Int) (A B : List Int) : less x (A ++ B) = less x A + less x B := by
  unfold less
  rw [List.filter_append, List.length_append]
theorem less_cons (x y : Int) (r : List Int) : less x (y :: r) = (if y < x then 1 else 0) + less x r := by
  unfold less
  by_cases h : y < x
  · rw [List.filter_cons_of_pos (by simpa using h), if_pos h, List.length_cons, Nat.add_comm]
  · rw [List.filter_cons_of_neg (by simpa using h), if_neg h, Nat.zero_add]
theorem more_cons (x y : Int) (r : List Int) : more x (y :: r) = (if x < y then 1 else 0) + more x r := by
  unfold more
  by_cases h : x < y
  · rw [List.filter_cons_of_pos (by simpa using h), if_pos h, List.length_cons, Nat.add_comm]
  · rw [List.filter_cons_of_neg (by simpa using h), if_neg h, Nat.zero_add]
theorem less_more {x : Int} : ∀ {B : List Int}, x ∉ B → less x B + more x B = B.length
  | [], _ => rfl
  | b :: B, h => by
    have ih := less_more (x := x) (B := B) fun z => h (List.mem_cons_of_mem _ z)
    have ne : b ≠ x := fun z => h (z ▸ List.mem_cons_self)
    rw [less_cons, more_cons, List.length_cons]
    by_cases q : b < x
    · rw [if_pos q, if_neg (by omega)]
      omega
    · rw [if_neg q, if_pos (by omega)]
      omega
theorem inv_mid (y : Int) (C : List Int) : ∀ B : List Int, inv (B ++ y :: C) = inv (B ++ C) + more y B + less y C
  | [] => by simp [inv, more]; omega
  | b :: B => by
    have ih := inv_mid y C B
    rw [List.cons_append, inv, ih, List.cons_append, inv, less_app, less_app, less_cons, more_cons]
    by_cases q : y < b
    · rw [if_pos q]
      omega
    · rw [if_neg q]
      omega
theorem inv_two : ∀ {A B C : List Int} {x y : Int}, (A ++ x :: (B ++ y :: C)).Nodup → (inv (A ++ y :: (B ++ x :: C)) + inv (A ++ x :: (B ++ y :: C))) % 2 = 1
  | [], B, C, x, y, h => by
    rw [List.nil_append, List.nil_append, inv, inv, inv_mid, inv_mid, less_app, less_app, less_cons, less_cons]
    rw [List.nil_append] at h
    obtain ⟨h1, h2⟩ := List.nodup_cons.mp h
    have hx : x ∉ B := fun z => h1 (List.mem_append.mpr (.inl z))
    have hxy : x ≠ y := fun z => h1 (List.mem_append.mpr (.inr (z ▸ List.mem_cons_self)))
    have hy : y ∉ B := fun z => (List.nodup_append.mp h2).2.2 y z y List.mem_cons_self rfl
    have l1 := less_more hx
    have l2 := less_more hy
    by_cases q : x < y
    · rw [if_pos q, if_neg (by omega)]
      omega
    · rw [if_neg q, if_pos (by omega)]
      omega
  | a :: A, B, C, x, y, h => by
    obtain ⟨h1, h2⟩ := List.nodup_cons.mp (List.cons_append ▸ h)
    have ih := inv_two h2
    rw [List.cons_append, List.cons_append, inv, inv, less_perm (x := a) (perm_two (A := A) (B := B) (C := C) (x := x) (y := y))]
    omega
theorem inv_sw2 {xs : List Int} {i j : Nat} (hn : xs.Nodup) (hi : i < xs.length) (hj : j < xs.length) (hij : i ≠ j) : (inv (sw2 xs i j) + inv xs) % 2 = 1 := by
  rcases Nat.lt_or_gt_of_ne hij with h | h
  · obtain ⟨A, B, C, x, y, e1, e2, _⟩ := sw2_cut h hj
    rw [e2]
    rw [e1] at hn
    have := inv_two hn
    rw [← e1] at this
    exact this
  · rw [sw2_comm hi hj]
    obtain ⟨A, B, C, x, y, e1, e2, _⟩ := sw2_cut h hi
    rw [e2]
    rw [e1] at hn
    have := inv_two hn
    rw [← e1] at this
    exact this
theorem inv_asc : ∀ {xs : List Int}, xs.Pairwise (· < ·) → inv xs = 0
  | [], _ => rfl
  | x :: r, h => by
    obtain ⟨h1, h2⟩ := List.pairwise_cons.mp h
    rw [inv, inv_asc h2, Nat.add_zero]
    unfold less
    rw [List.length_eq_zero_iff]
    refine List.filter_eq_nil_iff.mpr fun z hz => ?_
    have := h1 z hz
    simp only [decide_eq_true_eq]
    omega
/-! ### runs -/
/-- what stands at i and what stands last change places -/
def stp (xs : List Int) (i : Nat) : List Int := sw2 xs i (xs.length - 1)
def ledI (xs os : List Int) : List Int := os.foldl (fun xs o => stp xs o.toNat) xs
theorem stp_len (xs : List Int) (i : Nat) : (stp xs i).length = xs.length := sw2_len _ _ _
theorem ledI_len : ∀ (os xs : List Int), (ledI xs os).length = xs.length
  | [], xs => rfl
  | o :: os, xs => by
    have h := ledI_len os (stp xs o.toNat)
    rw [stp_len] at h
    exact h
theorem ledI_app (xs os ps : List Int) : ledI xs (os ++ ps) = ledI (ledI xs os) ps := by
  unfold ledI
  rw [List.foldl_append]
theorem ledI_snoc (xs os : List Int) (o : Int) : ledI xs (os ++ [o]) = stp (ledI xs os) o.toNat := by
  rw [ledI_app]
  rfl
/-- stops of n -/
def Stops (n : Nat) (os : List Int) : Prop := ∀ o ∈ os, 0 ≤ o ∧ o < (n : Int)
theorem stp_perm {xs : List Int} {i : Nat} (hi : i < xs.length) : (stp xs i).Perm xs := sw2_perm hi (by omega)
theorem ledI_perm {n : Nat} : ∀ {os xs : List Int}, Stops n os → n < xs.length → (ledI xs os).Perm xs
  | [], xs, _, _ => .refl _
  | o :: os, xs, h, hn => by
    have ho := h o (by simp)
    have h1 := ledI_perm (os := os) (xs := stp xs o.toNat) (fun p hp => h p (by simp [hp])) (by rw [stp_len]; exact hn)
    exact h1.trans (stp_perm (by omega))
theorem stp_map {α : Type} {f : Int → Int} {xs : List Int} {i : Nat} (hi : i < xs.length) : stp (xs.map f) i = (stp xs i).map f := by
  refine List.ext_getElem? fun k => ?_
  unfold stp
  rw [List.length_map, List.getElem?_map, sw2_get (by rw [List.length_map]; exact hi) (by rw [List.length_map]; omega), sw2_get hi (by omega)]
  by_cases h1 : k = xs.length - 1
  · rw [if_pos h1, if_pos h1, List.getElem?_map]
  · by_cases h2 : k = i
    · rw [if_neg h1, if_neg h1, if_pos h2, if_pos h2, List.getElem?_map]
    · rw [if_neg h1, if_neg h1, if_neg h2, if_neg h2, List.getElem?_map]
theorem ledI_map {n : Nat} {f : Int → Int} : ∀ {os xs : List Int}, Stops n os → n < xs.length → ledI (xs.map f) os = (ledI xs os).map f
  | [], xs, _, _ => rfl
  | o :: os, xs, h, hn => by
    have ho := h o (by simp)
    show ledI (stp (xs.map f) o.toNat) os = _
    rw [stp_map (α := Int) (by omega), ledI_map (os := os) (fun p hp => h p (by simp [hp])) (by rw [stp_len]; exact hn)]
    rfl
/-! ### ends -/
theorem idx_at {l : List Int} {x : Int} {i : Nat} (hn : l.Nodup) (h : l[i]? = some x) : l.idxOf x = i := by
  obtain ⟨hi, e⟩ := List.getElem?_eq_some_iff.mp h
  have hm : x ∈ l := List.mem_of_getElem? h
  have h2 := List.idxOf_lt_length_iff.mpr hm
  have e2 : l[l.idxOf x] = x := List.getElem_idxOf h2
  exact (List.getElem_inj hn).mp (e2.trans e.symm)
theorem idx_get {l : List Int} {x : Int} (h : x ∈ l) : l[l.idxOf x]? = some x := by
  have h2 := List.idxOf_lt_length_iff.mpr h
  rw [List.getElem?_eq_getElem h2, List.getElem_idxOf h2]
end Sw
namespace Sw
open PySem PySem.Spec PyProof.Rows L2
/-! ### row[stop], row[-1] = row[-1], row[stop] -/
def tSwap (i j : Nat) : TS := fun D σ H => ∃ (l : Addr) (xs : List Int) (s : Int), σ[i]? = some (some (.ref l)) ∧ σ[j]? = some (some (.int s)) ∧ H l = some (.lst (xs.map V.int)) ∧ 0 ≤ s ∧ s < (xs.length : Int) ∧
  ∀ H', (∀ b o, H b = some o → b ≠ l → H' b = some o) → H' l = some (.lst ((stp xs s.toNat).map V.int)) → D.nx σ H'
theorem ixN_neg {n : Nat} (h : 0 < n) : ixN n (-1) = some (n - 1) := by
  unfold ixN
  rw [if_neg (by decide), if_pos (by omega)]
  congr 1
  omega
theorem ixN_pos {n : Nat} {s : Int} (h0 : 0 ≤ s) (h1 : s < (n : Int)) : ixN n s = some s.toNat := by
  unfold ixN
  rw [if_pos h0, if_pos h1]
theorem atI_neg {α : Type} {xs : List α} {v : α} (h : 0 < xs.length) (e : xs[xs.length - 1]? = some v) : atI xs (-1) = some v := by
  unfold atI
  rw [ixN_neg h]
  exact e
section
variable {X : Cx} {i j kt k2 n1 n2 : Nat} {x y : Str} {px1 px2 px3 px4 py1 py2 pn1 pn2 pu1 pu2 ps1 ps2 ps3 ps4 pt pt2 pos : Pos}
theorem ps_swap (hc : X.calm = true) (hx : ∀ p, PE X (.Name x p) (tVar i)) (hy : ∀ p, PE X (.Name y p) (tVar j)) :
    PS X (.Assign [.Tuple [.Subscript (.Name x px1) (.Name y py1) ps1, .Subscript (.Name x px2) (.UnaryOp .USub (.Constant (.int 1) n1 pn1) pu1) ps2] kt pt]
      (.Tuple [.Subscript (.Name x px3) (.UnaryOp .USub (.Constant (.int 1) n2 pn2) pu2) ps3, .Subscript (.Name x px4) (.Name y py2) ps4] k2 pt2) pos) (tSwap i j) := by
  have hw : swappedStores [.Tuple [.Subscript (.Name x px1) (.Name y py1) ps1, .Subscript (.Name x px2) (.UnaryOp .USub (.Constant (.int 1) n1 pn1) pu1) ps2] kt pt]
      (.Tuple [.Subscript (.Name x px3) (.UnaryOp .USub (.Constant (.int 1) n2 pn2) pu2) ps3, .Subscript (.Name x px4) (.Name y py2) ps4] k2 pt2) X.env = pure none := by
    unfold swappedStores
    cases h : X.env.blockKind != .function <;> simp [h] <;> rfl
  refine ⟨fun pins s σ H D I q => (ps_asg (hw := hw) (pe_tup (pa_cons (pe_ix ix_list (hx px3) (pe_un un_neg pe_int) (fun _ _ => rfl)) (pa_cons (pe_ix ix_list (hx px4) (hy py2) (fun _ _ => rfl)) pa_nil)))
    (pg_tup hc (pgs_cons (pg_sub (hx px1) (hy py1) set_list) (pgs_cons (pg_sub (hx px2) (pe_un un_neg pe_int) set_list) pgs_nil)))).run pins s σ H D I ?_⟩
  obtain ⟨l, xs, st, e1, e2, hl, s0, s1, nx⟩ := q
  have pos : 0 < (xs.map V.int).length := by rw [List.length_map]; omega
  have lx : (xs.map V.int).length = xs.length := List.length_map _
  have g1 : (xs.map V.int)[(xs.map V.int).length - 1]? = some (.int (xs.getD (xs.length - 1) 0)) := by
    rw [lx, List.getElem?_map, List.getD_eq_getElem?_getD, List.getElem?_eq_getElem (by omega)]
    rfl
  have g2 : (xs.map V.int)[st.toNat]? = some (.int (xs.getD st.toNat 0)) := by
    rw [List.getElem?_map, List.getD_eq_getElem?_getD, List.getElem?_eq_getElem (by omega)]
    rfl
  refine ⟨_, e1, 1, rfl, l, _, -1, _, rfl, rfl, SqL.of hl, atI_neg pos g1, _, e1, _, e2, l, _, st, _, rfl, rfl, SqL.of hl, at_of (j := st.toNat) (by omega) g2, by show 2 ≤ sizeLine; decide, fun T nT => ?_⟩
  have sT : Same H (upd H T (.tup [.int (xs.getD (xs.length - 1) 0), .int (xs.getD st.toNat 0)])) := fun b o e => by
    rw [upd_ne (ne_of_none e nT)]
    exact e
  have hl1 := sT _ _ hl
  refine ⟨T, _, rfl, SqT.of upd_same, rfl, _, _, rfl, _, e1, _, e2, l, _, st, st.toNat, rfl, rfl, hl1, ixN_pos s0 (by rw [lx]; exact s1), _, _, rfl, _, e1, 1, rfl, l, _, -1, xs.length - 1, rfl, rfl, upd_same, ?_, ?_⟩
  · rw [List.length_set, lx]
    exact ixN_neg (by omega)
  · refine ⟨rfl, nx _ (fun b o e n => ?_) ?_⟩
    · rw [upd_ne n, upd_ne n]
      exact sT _ _ e
    · rw [upd_same]
      unfold stp sw2
      rw [List.map_set, List.map_set]
end
end Sw
namespace Sw
open PySem PySem.Spec PyProof.Rows L2
/-! ### tuples whose own object is known -/
def TupOb (Z : Bool) (ys : List V) (ob : HO) : Prop := if Z = true then ∃ o : Obj, o.dict = none ∧ ob = .frz o (.tup ys) else ob = .tup ys
theorem TupOb.tt {ys : List V} : TupOb false ys (.tup ys) := rfl
theorem TupOb.f {ys : List V} {ob : HO} (h : TupOb false ys ob) : ob = .tup ys := h
theorem TupOb.sq {K : PySem.W.Frag} {Z : Bool} {ys : List V} {ob : HO} {H : Hp} {a : Addr} (h : TupOb Z ys ob) (e : H a = some ob) : SqT K H a ys := by
  cases Z with
  | false => exact SqT.of (by rw [e, h.f])
  | true =>
    obtain ⟨o, _, rfl⟩ := h
    exact .inl (.inr ⟨o, e⟩)
theorem TupOb.nl {Z : Bool} {ys zs : List V} {ob : HO} (h : TupOb Z ys ob) : ob ≠ .lst zs := by
  cases Z with
  | false => rw [h.f]; exact fun z => nomatch z
  | true =>
    obtain ⟨o, _, rfl⟩ := h
    exact fun z => nomatch z
/-- tuple(xs), xs a list: a new tuple, as told -/
theorem call_tupZ {X : Cx} (Z : Bool) : CallR X (.type "tuple") (fun xs H Q => ∃ p ys, xs = [.ref p] ∧ SqL X.K H p ys ∧ ∀ l ob, H l = none → TupOb Z ys ob → Q (.ref l) (upd H l ob)) := by
  intro pins s σ H xs us Q I r h
  obtain ⟨p, ys, rfl, hq, q⟩ := h
  obtain ⟨u, rfl, rx⟩ := vals1 r
  cases rx
  obtain ⟨its, r', pl, hz⟩ := I.list hq
  have hlen := r'.length
  refine call_tuple_list pl.isList (fun h' kp => ?_) (by simp only [List.size_toArray] <;> omega)
  have I1 : Inv X pins σ H { s with heap := h' } := I.kept (t' := s.toks) kp
  cases Z with
  | false =>
    have I2 : Inv X pins σ (upd H h'.objs.size (.tup ys)) { s with heap := h'.push { cls := .type "tuple", data := .seq its.toArray } } :=
      I1.laid (t' := s.toks) (fun b o e => Heap.get?_push_of_some _ e) (Nat.le_refl _) (show ObjOk X.prog X.w _ _ _ (.tup ys) from ⟨hz, its, r', IsTup.new _ _⟩)
    exact ⟨.ref h'.objs.size, _, I2, rfl, q _ _ (I1.hok.fresh (Nat.le_refl _)) rfl⟩
  | true =>
    have I2 : Inv X pins σ (upd H h'.objs.size (.frz { cls := .type "tuple", data := .seq its.toArray } (.tup ys))) { s with heap := h'.push { cls := .type "tuple", data := .seq its.toArray } } :=
      I1.laid (t' := s.toks) (fun b o e => Heap.get?_push_of_some _ e) (Nat.le_refl _) (show ObjOk X.prog X.w _ _ _ (.frz _ (.tup ys)) from ⟨Heap.get?_push_size _ rfl, hz, its, r', IsTup.new _ _⟩)
    exact ⟨.ref h'.objs.size, _, I2, rfl, q _ _ (I1.hok.fresh (Nat.le_refl _)) ⟨_, rfl, rfl⟩⟩
/-! ### cuts -/
theorem cut_init {os : List Int} : cutV (os.map V.int) none (some (-1)) = os.dropLast.map V.int := by
  unfold cutV
  show ((os.map V.int).drop 0).take (((-1 : Int) + ((os.map V.int).length : Int)).toNat - 0) = _
  rw [List.drop_zero, List.length_map, List.dropLast_eq_take, List.map_take]
  congr 1
  omega
theorem not_whole {os : List Int} (h : os ≠ []) : ¬ (HT.sIx (os.map V.int).length 0 none = 0 ∧ HT.sIx (os.map V.int).length (os.map V.int).length (some (-1)) = (os.map V.int).length) := by
  rintro ⟨_, h2⟩
  have h2 : ((-1 : Int) + ((os.map V.int).length : Int)).toNat = (os.map V.int).length := h2
  rw [List.length_map] at h2
  have := List.length_pos_iff.mpr h
  omega
theorem last_at {os : List Int} {o : Int} (h : os.getLast? = some o) : atI (os.map V.int) (-1) = some (.int o) := by
  have ne : os ≠ [] := fun z => by
    rw [z] at h
    cases h
  have hl := List.length_pos_iff.mpr ne
  refine atI_neg (by rw [List.length_map]; exact hl) ?_
  rw [List.length_map, List.getElem?_map, ← List.getLast?_eq_getElem?, h]
  rfl
/-! ### done -/
abbrev sDone : Stmt := top 21
theorem scDone : FnScope ["standing", "run", "row", "stop"] ["standing", "run"] (defScope sDone) := ⟨rfl, rfl, rfl, by decide +kernel, rfl, by decide +kernel, by decide +kernel⟩
/-- a run as it lies -/
structure RunIn (H : Hp) (ru : Addr) (os : List Int) (last : Int) (m : Nat) : Prop where
  at' : H ru = some (.tup (os.map V.int))
  last : os.getLast? = some last
  stops : Stops m os
theorem RunIn.keep {H H' : Hp} {ru : Addr} {os : List Int} {last : Int} {m : Nat} (h : RunIn H ru os last m) (s : TupS H H') : RunIn H' ru os last m := ⟨s _ _ h.at', h.last, h.stops⟩
theorem RunIn.ne {H : Hp} {ru : Addr} {os : List Int} {last : Int} {m : Nat} (h : RunIn H ru os last m) : os ≠ [] := fun z => by
  have := h.last
  rw [z] at this
  cases this
theorem RunIn.init {H : Hp} {ru : Addr} {os : List Int} {last : Int} {m : Nat} (h : RunIn H ru os last m) : Stops m os.dropLast := fun o ho => h.stops o (List.dropLast_subset _ ho)
section
variable {P : Program} {w : World} {K : PySem.W.Frag} {mg : Str → Option Value} {base : Heap}
def spDoneS (K : PySem.W.Frag) (Z : Bool) : Sp := fun vs H Q _ => ∃ (t rw ru : Addr) (x : V) (row os : List Int) (last : Int) (m : Nat), vs = [.ref t, .ref ru] ∧ H t = some (.tup [.ref rw, x]) ∧ SqT K H rw (row.map V.int) ∧ RunIn H ru os last m ∧ row.length = m + 1 ∧ m ≤ 12 ∧
  ∀ q r H', Same H H' → H q = none → H r = none → H' q = some (.tup [.ref r, .int last]) → (∃ ob, H' r = some ob ∧ TupOb Z ((ledI row os.dropLast).map V.int) ob) → Q (.ref q) H'
theorem take_succ_led {row os : List Int} {i : Nat} {o : Int} (h : os[i]? = some o) : ledI row (os.take (i + 1)) = stp (ledI row (os.take i)) o.toNat := by
  rw [List.take_add_one, h]
  exact ledI_snoc row (os.take i) o
theorem ok_doneS (Z : Bool) {f : Addr} {fd : FuncData} (F : Fun K "done" "done" sDone f fd) (B : NoNames mg) : FnOk P w K mg base CX0 1 f fd ["standing", "run"] (spDoneS K Z) := by
  refine F.ok scDone (fun vs H Q E h => ?_) (fun cdv A outer s H vs Q E hr h => ?_)
  · obtain ⟨t, rw_, ru, x, row, os, last, m, rfl, _⟩ := h
    rfl
  · obtain ⟨t, rw_, ru, x, row, os, last, m, rfl, ht, hrw, R, hl, hm, k⟩ := h
    refine ⟨_, pss_cons (ps_set (i := 2) scDone.nd rfl (.inl rfl) (pe_callTy call_list_of (by rfl) B.list (by decide +kernel) (pa_cons (pe_ix ix_tup (pv 0) pe_int (fun _ _ => rfl)) pa_nil))) <|
      pss_cons (ps_for PassesOwn.never rfl (pi_tup (pe_slice sl_tupA (pv 1) po_none (po_some (pe_un un_neg pe_int)))) (pg_name (i := 3) scDone.nd rfl (.inl rfl)) (pss_one (ps_swap rfl (fun _ => pv 2) (fun _ => pv 3)))) <|
      pss_one (ps_ret (pe_tup (pa_cons (pe_callTy (call_tupZ Z) (by rfl) B.tuple (by decide +kernel) (pa_cons (pv 2) pa_nil)) (pa_cons (pe_ix ix_tup (pv 1) (pe_un un_neg pe_int) (fun _ _ => rfl)) pa_nil)))), ?_⟩
    refine ⟨_, rfl, t, _, 0, .ref rw_, rfl, rfl, SqT.of ht, at_of (j := 0) rfl rfl, rw_, _, rfl, .inr hrw, fun l nl => ?_⟩
    have s1 : Same H (upd H l (.lst (row.map V.int))) := same_new nl
    refine ⟨_, rfl, 1, rfl, -1, rfl, ru, _, rfl, SqT.of (s1 _ _ R.at'), fun z => absurd z (not_whole R.ne), fun _ c nc => ?_⟩
    rw [cut_init]
    have s2 := s1.trans (same_new (o := .tup (os.dropLast.map V.int)) nc)
    have lc : l ≠ c := fun z => by
      rw [← z, upd_same] at nc
      cases nc
    refine ⟨c, rfl, ⟨_, SqT.of upd_same⟩, ?_⟩
    have hc : (upd (upd H l (.lst (row.map V.int))) c (.tup (os.dropLast.map V.int))) c = some (.tup (os.dropLast.map V.int)) := upd_same
    have hl2 : (upd (upd H l (.lst (row.map V.int))) c (.tup (os.dropLast.map V.int))) l = some (.lst (row.map V.int)) := by rw [upd_ne lc, upd_same]
    generalize (upd (upd H l (.lst (row.map V.int))) c (.tup (os.dropLast.map V.int))) = H2 at s2 hc hl2 ⊢
    refine for_it (walk_tup (xs := os.dropLast.map V.int)) (fun i σ H' => ∃ s3, σ = [some (.ref t), some (.ref ru), some (.ref l), s3] ∧ Same H H' ∧ H' c = some (.tup (os.dropLast.map V.int)) ∧ H' l = some (.lst ((ledI row (os.dropLast.take i)).map V.int)))
      ⟨none, rfl, s2, hc, hl2⟩ (fun i σ H' _ h => by obtain ⟨_, _, _, h, _⟩ := h; exact SqT.of h) ?_ ?_
    · rintro i y σ H3 H4 hi ⟨s3, rfl, sm, hc3, hl3⟩ ⟨rfl, ey⟩
      obtain ⟨o, eo, rfl⟩ := int_at ey
      have bo := R.init o (List.mem_of_getElem? eo)
      refine ⟨l, _, o, rfl, rfl, hl3, bo.1, by rw [ledI_len]; omega, fun H5 keep h5 => ⟨_, rfl, fun b o' e => keep b o' (sm _ _ e) (ne_of_none e nl), keep _ _ hc3 lc.symm, ?_⟩⟩
      rw [take_succ_led eo]
      exact h5
    · rintro σ H3 ⟨s3, rfl, sm, hc3, hl3⟩
      rw [List.length_map, List.take_length] at hl3
      refine ⟨_, rfl, l, _, rfl, SqL.of hl3, fun r ob nr hob => ?_⟩
      have s4 := sm.trans (same_new (o := ob) nr)
      refine ⟨_, rfl, 1, rfl, ru, _, -1, .int last, rfl, rfl, SqT.of (s4 _ _ R.at'), last_at R.last, by show 2 ≤ sizeLine; decide, fun q nq => ?_⟩
      have s5 := s4.trans (same_new (o := .tup [.ref r, .int last]) nq)
      exact k q r _ s5 (s4.free nq) (sm.free nr) upd_same ⟨ob, same_new nq _ _ upd_same, hob⟩
def spDone (Z : Bool) : Sp := fun vs H Q _ => ∃ (t rw ru : Addr) (x : V) (row os : List Int) (last : Int) (m : Nat), vs = [.ref t, .ref ru] ∧ H t = some (.tup [.ref rw, x]) ∧ H rw = some (.tup (row.map V.int)) ∧ RunIn H ru os last m ∧ row.length = m + 1 ∧ m ≤ 12 ∧
  ∀ q r H', Same H H' → H q = none → H r = none → H' q = some (.tup [.ref r, .int last]) → (∃ ob, H' r = some ob ∧ TupOb Z ((ledI row os.dropLast).map V.int) ob) → Q (.ref q) H'
theorem ok_done (Z : Bool) {f : Addr} {fd : FuncData} (F : Fun K "done" "done" sDone f fd) (B : NoNames mg) : FnOk P w K mg base CX0 1 f fd ["standing", "run"] (spDone Z) :=
  (ok_doneS Z F B).imp fun _ _ _ _ h => by
    obtain ⟨t, rw_, ru, x, row, os, last, m, e, ht, hrw, r⟩ := h
    exact ⟨t, rw_, ru, x, row, os, last, m, e, ht, SqT.of hrw, r⟩
end
end Sw
namespace Sw
open PySem PySem.Spec PyProof.Rows L2
/-! ### taken, are_right -/
/-- a table as it lies -/
structure TabAt (H : Hp) (t : Addr) (us : List Addr) (T : List (List Nat)) : Prop where
  tup : H t = some (.tup (us.map V.ref))
  rows : TupsAt H us (T.map intR)
theorem TabAt.keep {H H' : Hp} {t : Addr} {us : List Addr} {T : List (List Nat)} (h : TabAt H t us T) (s : TupS H H') : TabAt H' t us T := ⟨s _ _ h.tup, h.rows.keep s⟩
theorem TabAt.row {H : Hp} {t : Addr} {us : List Addr} {T : List (List Nat)} (h : TabAt H t us T) (l : T.length = 5) {v : Nat} (hv : v < 5) : ∃ tr, us[v]? = some tr ∧ atI (us.map V.ref) (v : Int) = some (.ref tr) ∧ H tr = some (.tup ((intR (row' T v)).map V.int)) := by
  have lu := h.rows.len
  rw [List.length_map] at lu
  have hu : v < us.length := by omega
  obtain ⟨L, eL, hL⟩ := h.rows.at (List.getElem?_eq_getElem hu)
  rw [List.getElem?_map] at eL
  obtain ⟨r, er, rfl⟩ := Option.map_eq_some_iff.mp eL
  refine ⟨us[v], List.getElem?_eq_getElem hu, at_of (j := v) rfl (by rw [List.getElem?_map, List.getElem?_eq_getElem hu]; rfl), ?_⟩
  have : row' T v = r := by
    unfold row'
    rw [List.getD_eq_getElem?_getD, er]
    rfl
  rw [this]
  exact hL
theorem stp_row {r : List Nat} {v : Nat} (l : r.length = 6) : stp (intR r) v = intR (takN r v) := by
  unfold stp sw2 takN intR
  rw [List.length_map, l, List.map_set, List.map_set]
  congr 1
  · congr 1
    unfold ap
    rw [List.getD_eq_getElem?_getD, List.getD_eq_getElem?_getD, List.getElem?_map, List.getElem?_eq_getElem (by omega)]
    rfl
  · unfold ap
    rw [List.getD_eq_getElem?_getD, List.getD_eq_getElem?_getD, List.getElem?_map]
    cases r[v]? <;> rfl
section
variable {P : Program} {w : World} {K : PySem.W.Frag} {mg : Str → Option Value} {base : Heap}
abbrev sTaken : Stmt := top 26
abbrev sAreRight : Stmt := top 29
theorem scTaken : FnScope ["row", "v", "w"] ["row", "v", "w"] (defScope sTaken) := ⟨rfl, rfl, rfl, by decide +kernel, rfl, by decide +kernel, by decide +kernel⟩
theorem scAreRight : FnScope ["net", "table", "v", "w"] ["net", "table"] (defScope sAreRight) := ⟨rfl, rfl, rfl, by decide +kernel, rfl, by decide +kernel, by decide +kernel⟩
def spTaken : Sp := fun vs H Q _ => ∃ (a : Addr) (r : List Nat) (v u : Nat), vs = [.ref a, .int (v : Nat), .int (u : Nat)] ∧ H a = some (.tup ((intR r).map V.int)) ∧ r.length = 6 ∧ v < 5 ∧ u < 5 ∧ ∀ q H', Same H H' → H' q = some (.tup ((intR (takN r v)).map V.int)) → Q (.ref q) H'
theorem ok_taken {f : Addr} {fd : FuncData} (F : Fun K "taken" "taken" sTaken f fd) (B : NoNames mg) (OD : Own P w K mg base 1 "done" ["standing", "run"] (spDone false)) : FnOk P w K mg base CX0 2 f fd ["row", "v", "w"] spTaken := by
  obtain ⟨fD, fdD, GD, mD, kD, bD⟩ := OD.ex
  refine F.ok scTaken (fun vs H Q E h => ?_) (fun cdv A outer s H vs Q E hr h => ?_)
  · obtain ⟨a, r, v, u, rfl, _⟩ := h
    rfl
  · obtain ⟨a, r, v, u, rfl, ha, l, hv, hu', k⟩ := h
    refine ⟨_, pss_one (ps_ret (pe_ix ix_tup (pe_call GD hr rfl mD kD bD .nil pass0 (pa_cons (pe_tup (pa_cons (pv 0) (pa_cons (pv 1) pa_nil))) (pa_cons (pe_tup (pa_cons (pv 1) (pa_cons (pv 2) pa_nil))) pa_nil))) pe_int (fun _ _ => rfl))), ?_⟩
    refine ⟨_, rfl, _, rfl, by show 2 ≤ sizeLine; decide, fun t nt => ⟨_, rfl, _, rfl, by show 2 ≤ sizeLine; decide, fun ru nru => ?_⟩⟩
    have s1 := same_new (o := .tup [.ref a, .int (v : Nat)]) nt
    have s2 := same_new (o := .tup [.int (v : Nat), .int (u : Nat)]) nru
    refine ⟨t, a, ru, _, intR r, [(v : Int), (u : Int)], (u : Int), 5, rfl, s2 _ _ upd_same, s2 _ _ (s1 _ _ ha), ⟨upd_same, rfl, fun o ho => ?_⟩, by rw [intR_len, l], by decide, fun q r' H3 s3 nq nr hq ⟨ob, hr3, hob⟩ => ?_⟩
    · simp only [List.mem_cons, List.not_mem_nil, or_false] at ho
      rcases ho with rfl | rfl <;> omega
    · have e := hob.f
      subst e
      have e2 : ledI (intR r) ([(v : Int), (u : Int)] : List Int).dropLast = intR (takN r v) := by
        show stp (intR r) ((v : Int)).toNat = _
        rw [Int.toNat_natCast, stp_row l]
      rw [e2] at hr3
      exact ⟨q, _, 0, .ref r', rfl, rfl, SqT.of hq, at_of (j := 0) rfl rfl, k r' H3 (s1.trans (s2.trans s3)) hr3⟩
def spAreRight : Sp := fun vs H Q _ => ∃ (a b t : Addr) (ts : List V) (ars : List (Int × Int)) (us : List Addr) (T : List (List Nat)), vs = [.ref a, .ref t] ∧ NetAt 5 H a b ts ∧ ArsAt H ts ars ∧ TabAt H t us T ∧ TabP T ∧ ∀ H', Same H H' → Q (.bl (rightN (ars.map toN) T)) H'
theorem ars_nat {n : Int} {H : Hp} {ts : List V} {ars : List (Int × Int)} (A : Arrs n H ts) (AR : ArsAt H ts ars) (hn : n = 5) : ArP (ars.map toN) ∧ ∀ e ∈ ars, e.1 = ((toN e).1 : Int) ∧ e.2 = ((toN e).2 : Int) := by
  subst hn
  have inn := inn_of A AR
  refine ⟨fun e he => ?_, fun e he => ?_⟩
  · obtain ⟨x, hx, rfl⟩ := List.mem_map.mp he
    have := inn x hx
    have h1 := this.1.1
    have h2 := this.1.2
    have h3 := this.2.1
    have h4 := this.2.2
    constructor
    · show x.1.toNat < 5
      omega
    · show x.2.toNat < 5
      omega
  · have := inn e he
    have h1 := this.1.1
    have h3 := this.2.1
    constructor
    · show e.1 = (e.1.toNat : Int)
      omega
    · show e.2 = (e.2.toNat : Int)
      omega
theorem ok_areRight {f : Addr} {fd : FuncData} (F : Fun K "are_right" "are_right" sAreRight f fd) (B : NoNames mg) (ball : mg "all" = none) (OB : Own P w K mg base 4 "are_bent" ["row", "other"] spAreBent) (OT : Own P w K mg base 2 "taken" ["row", "v", "w"] spTaken) : FnOk P w K mg base CX0 5 f fd ["net", "table"] spAreRight := by
  obtain ⟨fB, fdB, GB, mB, kB, bB⟩ := OB.ex
  obtain ⟨fT, fdT, GT, mT, kT, bT⟩ := OT.ex
  refine F.ok scAreRight (fun vs H Q E h => ?_) (fun cdv A outer s H vs Q E hr h => ?_)
  · obtain ⟨a, b, t, ts, ars, us, T, rfl, _⟩ := h
    rfl
  · obtain ⟨a, b, t, ts, ars, us, T, rfl, N, AR, TA, TP, k⟩ := h
    have hr2 := hr.mono (by decide : 2 ≤ 4)
    obtain ⟨AP, en⟩ := ars_nat N.arr AR rfl
    refine ⟨_, pss_one (ps_ret (pe_callB (cr_all rfl) (by rfl) ball (by decide +kernel) (pa_cons
      (pe_lc (own := [("v", 2), ("w", 3)]) (g := gTup K 2 (gCons (gName 2) (gCons (gName 3) gNil))) (tt := tYes) rfl scAreRight.nd (pi_tup (pe_ix ix_tup (pv 0) pe_int (fun _ _ => rfl))) (blkOk_by (own := [("v", 2), ("w", 3)]) (N := ["net", "table", "v", "w"]) (sc := defScope sAreRight) (by decide +kernel))
        (fun _ _ _ _ _ => pg_tup rfl (pgs_cons (pg_name (i := 2) scAreRight.nd rfl (Or.inl rfl)) (pgs_cons (pg_name (i := 3) scAreRight.nd rfl (Or.inl rfl)) pgs_nil))) (fun _ _ _ _ _ => pts_nil)
        (fun _ _ _ _ _ => pe_call GB hr rfl mB kB bB .nil pass0 (pa_cons (pe_call GT hr2 rfl mT kT bT .nil pass0 (pa_cons (pe_ix (r := rIxT K) ix_tup (pv 1) (pv 2) (fun _ _ => rfl)) (pa_cons (pv 2) (pa_cons (pv 3) pa_nil)))) (pa_cons (pe_ix (r := rIxT K) ix_tup (pv 1) (pv 3) (fun _ _ => rfl)) pa_nil)))) pa_nil))), ?_⟩
    refine ⟨_, rfl, a, _, 1, .ref b, rfl, rfl, SqT.of N.a, at_of (j := 1) rfl rfl, b, rfl, ⟨_, SqT.of N.b⟩, fun D nD => ?_⟩
    refine lc_it (walk_tup (xs := ts)) (fun j Z => Z D = some (.lst ((((ars.map toN).take j).map fun e => bentN (takN (row' T e.1) e.1) (row' T e.2)).map V.bl)) ∧ Same H Z) ⟨upd_same, same_new nD⟩ (fun j Z _ h => SqT.of (h.2 _ _ N.b)) ?_ ?_
    · rintro j x Hb Ha hj ⟨h1, h2⟩ ⟨rfl, ex⟩
      obtain ⟨e, te, he, rfl, hte⟩ := AR.at ex
      have me := List.mem_of_getElem? he
      obtain ⟨e1, e2⟩ := en e me
      obtain ⟨l1, l2⟩ := AP _ (List.mem_map.mpr ⟨e, me, rfl⟩)
      have TA2 := TA.keep (.of h2)
      obtain ⟨tv, _, av, hv⟩ := TA2.row TP.len l1
      have hte := h2 _ _ hte
      rw [e1, e2] at hte
      refine ⟨te, _, rfl, SqT.of hte, rfl, _, _, rfl, _, _, rfl, rfl, ?_⟩
      refine ⟨rfl, ?_⟩
      dsimp only [tYes]
      rw [if_pos rfl]
      refine ⟨_, rfl, _, rfl, t, _, ((toN e).1 : Int), _, rfl, rfl, SqT.of TA2.tup, av, _, rfl, _, rfl, tv, _, (toN e).1, (toN e).2, rfl, hv, (TP.row _ l1).len, l1, l2, fun q H3 s3 hq => ?_⟩
      obtain ⟨tw, _, aw, hw⟩ := (TA2.keep (.of s3)).row TP.len l2
      refine ⟨_, rfl, _, rfl, t, _, ((toN e).2 : Int), _, rfl, rfl, SqT.of (s3 _ _ TA2.tup), aw, q, tw, _, _, rfl, hq, hw, (TP.row _ l1).take l1, TP.row _ l2, fun H4 s4 => ?_⟩
      have h1' := s4 _ _ (s3 _ _ h1)
      have lt := AR.len
      have lN := N.len
      refine ⟨_, h1', by rw [List.length_map, List.length_map, List.length_take, List.length_map, sizeLine_eq]; omega, ?_, fun c u ec => ?_⟩
      · rw [upd_same, List.take_add_one, List.getElem?_map, he, List.map_append, List.map_append]
        rfl
      · rw [upd_ne (ne_of_none ec nD)]
        exact s4 _ _ (s3 _ _ (h2 _ _ ec))
    · rintro Ha ⟨h1, h2⟩
      rw [List.take_of_length_le (by rw [List.length_map, AR.len]; exact Nat.le_refl _)] at h1
      refine ⟨D, _, rfl, SqL.of h1, ?_⟩
      have := k Ha h2
      have e : rightN (ars.map toN) T = (((ars.map toN).map fun e => bentN (takN (row' T e.1) e.1) (row' T e.2)).all id) := by
        rw [List.all_map]
        rfl
      rw [e] at this
      exact this
end
end Sw
namespace Sw
open PySem PySem.Spec PyProof.Rows L2
/-! ### sorted(t), t a tuple of whole numbers -/
section
variable {prog : Program} {w : World} {A : Around} {E : Value → Shared → Prop} {s : Shared}
theorem sorted_tup {l : Addr} {o : Obj} {n : Nat} {vs : List Value} {ltv : Value → Value → Bool} {Q : Value → Shared → Prop} (O : SrtO.Swo ltv) (ho : s.heap.get? l = some o) (hc : o.cls = .type "tuple") (hd : o.data = .seq vs.toArray n) (hz : vs.length ≤ sizeLine)
    (hS : 2 ≤ vs.length → ∀ (h₁ : Heap) (a : Addr), h₁.get? a = some (seqObj "list" vs.toArray 0) → (∀ b o, s.heap.get? b = some o → b ≠ a ∧ h₁.get? b = some o) → SrtO.SortableO prog w A.in1.in1 { s with heap := h₁ } a vs ltv)
    (h : ∀ (out : List Value) (h1 h' : Heap) (ep : Nat), SrtO.Srtd ltv out → SrtO.Stb ltv out vs → (∀ b o, s.heap.get? b = some o → h1.get? b = some o) → (∀ b o, h1.get? b = some o → h'.get? b = some o) →
      h'.get? h1.objs.size = some (seqObj "list" out.toArray ep) → Q (.ref h1.objs.size) { s with heap := h' }) :
    wpAny (model prog w) A (call (.builtin "sorted") [.ref l]) Q E s := by
  refine Calls.call_function_entry kind_sorted plain_sorted entry_sorted (args_sorted1 _) ?_
  unfold Builtin.«sorted»
  refine wpAny_bind (m := checkCount "sorted" 1 1 _) (wpAny_pure ?_)
  refine wpAny_bind (wpAny_collect_seq l (.inr rfl) ho hc hd (fun h1 k1 => ?_) (by rw [List.size_toArray]; exact hz))
  have el : vs.toArray.toList = vs := by simp
  rw [el]
  refine wpAny_bind (wpAny_newList ?_ hz)
  have hoL : (h1.push (seqObj "list" vs.toArray 0)).get? h1.objs.size = some (seqObj "list" vs.toArray 0) := Heap.get?_push_size _ rfl
  have keep : ∀ b o, s.heap.get? b = some o → b ≠ h1.objs.size ∧ (h1.push (seqObj "list" vs.toArray 0)).get? b = some o := fun b o q =>
    ⟨Nat.ne_of_lt (Heap.lt_size (k1 b o q)), Heap.get?_push_of_some _ (k1 b o q)⟩
  refine wpAny_bind (wpAny_holding (wpAny_call_entry slot_list_sort ⟨_, hoL, rfl⟩ entry_list_sort (SrtO.list_sort_ord O hoL hz (fun h2 => hS h2 _ _ hoL keep) fun out hs hb => ⟨_, rfl, ?_⟩) (args_list_sort _)))
  obtain ⟨c, he⟩ := sortedHeap_at (vs := vs) (out := out.toArray) hoL
  refine wpAny_pure ⟨_, rfl, h out h1 _ c hs hb k1 (fun b u e => ?_) he⟩
  have hlt := Heap.lt_size e
  rw [sortedHeap_old (Nat.ne_of_lt hlt) (by rw [size_push']; exact Nat.lt_succ_of_lt hlt)]
  exact Heap.get?_push_of_some _ e
end
def rSortedTI (K : PySem.W.Frag) : List V → Hp → VK → Prop := fun vs H Q => ∃ (a : Addr) (ns : List Int), vs = [V.ref a] ∧ SqT K H a (ns.map V.int) ∧
  ∀ (ns' : List Int) (p : Addr), ns'.Perm ns → ns'.Pairwise (· ≤ ·) → H p = none → Q (.ref p) (upd H p (.lst (ns'.map V.int)))
theorem cr_sortedTI {X : Cx} : CallR X (.builtin "sorted") (rSortedTI X.K) := by
  intro pins s σ H vs us Q I r h
  obtain ⟨a, ns, rfl, hs, q⟩ := h
  obtain ⟨its, rv, hl, hz⟩ := I.tuple hs
  rw [Vals.ref1 r]
  have hi := rv.ints
  obtain ⟨o, ho, hcl, n, hd⟩ := hl
  refine sorted_tup SrtO.swo_int ho hcl hd (by rw [← rv.length]; exact hz) (fun h2 h₁ a' _ _ => SrtO.ints_sortable hi h2) fun out h1 h' ep e1 e2 k1 k2 he => ?_
  obtain ⟨g1, g2, g3⟩ := SrtO.ints_out hi e1 e2
  have hlen : ((out.map SrtO.iv).map V.int).length ≤ sizeLine := by
    rw [List.length_map, g2.length_eq]
    rw [List.length_map] at hz
    exact hz
  have I1 : Inv X pins σ H { s with heap := h1 } := I.kept (t' := s.toks) k1
  exact ⟨.ref _, upd H h1.objs.size (.lst ((out.map SrtO.iv).map V.int)), I1.laid (t' := s.toks) k2 (Nat.le_refl _) ⟨hlen, out, ep, vals_of_ints g1, he⟩, rfl, q _ _ g2 g3 (I1.hok.fresh (Nat.le_refl _))⟩
end Sw
namespace Sw
open PySem PySem.Spec PyProof.Rows L2
def six : List Int := [0, 1, 2, 3, 4, 5]
end Sw
namespace Sw
open PySem PySem.Spec PyProof.Rows L2
/-! ### a tuple of the module, as deep as it is; x in such a tuple -/
def all2 {α β : Type} (f : α → β → Bool) : List α → List β → Bool
  | [], [] => true
  | a :: r, b :: t => f a b && all2 f r t
  | _, _ => false
def isTupT : Value → Bool
  | .type t => t == "tuple"
  | _ => false
theorem isTupT_eq {v : Value} (h : isTupT v = true) : v = .type "tuple" := by
  unfold isTupT at h
  split at h
  · rw [eq_of_beq h]
  · cases h
def dataIn (K : PySem.W.Frag) : Nat → Value → PyData → Bool
  | 0, _, _ => false
  | n + 1, u, d => match u, d with
    | .int i _, .int j => i == j
    | .str x _, .str y => x == y
    | .ref a, .tuple ds => match K.lookup a with
      | some o => match o.data with
        | .seq its _ => isTupT o.cls && decide (its.size ≤ sizeLine) && all2 (dataIn K n) its.toList ds
        | _ => false
      | none => false
    | _, _ => false
theorem all2_is {K : PySem.W.Frag} {f : Value → PyData → Bool} (h : ∀ u d, f u d = true → ∃ v, RelV v u ∧ ∀ H, Dp K H v d) : ∀ (us : List Value) (ds : List PyData), all2 f us ds = true → ∃ vs, Vals vs us ∧ ∀ H, DpAll K H vs ds
  | [], [], _ => ⟨[], .nil, fun _ => .nil⟩
  | u :: us, d :: ds, e => by
    have e : (f u d && all2 f us ds) = true := e
    rw [Bool.and_eq_true] at e
    obtain ⟨v, r, k⟩ := h u d e.1
    obtain ⟨vs, rs, ks⟩ := all2_is h us ds e.2
    exact ⟨v :: vs, .cons r rs, fun H => .cons (k H) (ks H)⟩
  | [], _ :: _, e => by cases e
  | _ :: _, [], e => by cases e
theorem dataIn_is {K : PySem.W.Frag} : ∀ (n : Nat) (u : Value) (d : PyData), dataIn K n u d = true → ∃ v, RelV v u ∧ ∀ H, Dp K H v d
  | 0, _, _, h => by cases h
  | n + 1, u, d, h => by
    unfold dataIn at h
    split at h
    · rename_i i t j
      obtain rfl := eq_of_beq h
      exact ⟨.int i, ⟨t, rfl⟩, fun _ => .int i⟩
    · rename_i x t y
      obtain rfl := eq_of_beq h
      exact ⟨.str x, ⟨t, rfl⟩, fun _ => .str x⟩
    · rename_i a ds
      split at h
      · rename_i o ho
        split at h
        · rename_i its m hd
          rw [Bool.and_eq_true, Bool.and_eq_true] at h
          obtain ⟨vs, r, k⟩ := all2_is (dataIn_is n) _ _ h.2
          exact ⟨.ref a, rfl, fun H => .tup (.inr ⟨o, its, m, ho, isTupT_eq h.1.1, hd, of_decide_eq_true h.1.2, r⟩) (k H)⟩
        · cases h
      · cases h
    · cases h
/-- a name of the module that stands for these data -/
def GData (K : PySem.W.Frag) (mg : Str → Option Value) (x : Str) (d : PyData) : Prop := ∃ a : Addr, mg x = some (.ref a) ∧ ∀ H, Dp K H (.ref a) d
theorem gdata_mk {K : PySem.W.Frag} {mg : Str → Option Value} {h : Heap} {x : Str} {d : PyData} {a : Addr} (X : K.In h) (G : h.Ns mainGlobals mg) (e : PySem.W.nsIn K mainGlobals x = some (some (.ref a))) (k : dataIn K 9 (.ref a) d = true) : GData K mg x d := by
  obtain ⟨v, r, q⟩ := dataIn_is 9 _ _ k
  have q1 := q fun _ => none
  cases d with
  | tuple ds =>
    cases q1 with
    | tup hs ha =>
      have r : Value.ref a = .ref _ := r
      cases r
      exact ⟨a, PySem.W.mg_of X G e, q⟩
  | _ => cases k
section
variable {X : Cx}
def rInTD (K : PySem.W.Frag) : R2 := fun x y H Q => ∃ d ds, Dp K H x d ∧ Dp K H y (.tuple ds) ∧ SeqAt.shaped d = true ∧ SeqAt.shaped (.tuple ds) = true ∧ Q (.bl (ds.any fun z => PyData.eqv z d)) H
theorem op_inTD (hu : X.A.units + 65 < cLine) : OpR X (compareOp .In) (rInTD X.K) := by
  intro pins s σ H x y v u Q I rx ry h
  obtain ⟨d, ds, hd, he, sd, se, q⟩ := h
  obtain ⟨as, r1⟩ := Dp.reads I d x v hd rx
  obtain ⟨bs, r2⟩ := Dp.reads I (.tuple ds) y u he ry
  have h1 := SeqAt.depth_of_shaped sd
  refine SeqAt.in_tuple_reads r2 r1 (SeqAt.canLay_of_shaped se) (SeqAt.canLay_of_shaped sd) ?_ ⟨.bl _, H, I, rfl, q⟩
  have h2 : min (PyData.depthAll ds) d.depth ≤ d.depth := Nat.min_le_right _ _
  omega
end
/-! ### pairs as data -/
def e2l (e : Int × Int) : List Int := [e.1, e.2]
def arsD (ars : List (Int × Int)) : PyData := .tuple ((ars.map e2l).map tupD)
theorem e2l_inj : ∀ {l m : List (Int × Int)}, l.map e2l = m.map e2l → l = m
  | [], [], _ => rfl
  | [], _ :: _, h => by cases h
  | _ :: _, [], h => by cases h
  | (a, b) :: r, (c, d) :: t, h => by
    rw [List.map_cons, List.map_cons] at h
    injection h with h1 h2
    injection h1 with h3 h4
    injection h4 with h4 _
    obtain rfl : a = c := h3
    obtain rfl : b = d := h4
    rw [e2l_inj h2]
theorem eqv_arsD (l m : List (Int × Int)) : PyData.eqv (arsD l) (arsD m) = decide (l = m) := by
  unfold arsD
  rw [PyData.eqv, eqvAll_tups]
  by_cases h : l = m
  · rw [decide_eq_true h, decide_eq_true (congrArg _ h)]
  · rw [decide_eq_false h, decide_eq_false fun z => h (e2l_inj z)]
theorem shaped_arsD (l : List (Int × Int)) : SeqAt.shaped (arsD l) = true := by
  have h := tups_depth (l.map e2l)
  have d : PyData.depth (arsD l) ≤ 64 := by
    simp only [arsD, PyData.depth]
    omega
  unfold SeqAt.shaped
  rw [decide_eq_true d, Bool.and_true]
  simp only [arsD, PyData.canLay0]
  exact tups_lay _
theorem dp_ars {K : PySem.W.Frag} {H : Hp} : ∀ {ts : List V} {ars : List (Int × Int)}, ArsAt H ts ars → DpAll K H ts ((ars.map e2l).map tupD)
  | _, _, .nil => .nil
  | _, _, .cons (b := e) q t => by
    obtain ⟨t', rfl, h⟩ := q
    exact .cons (dp_tup (L := e2l e) h) (dp_ars t)
theorem dp_arsT {K : PySem.W.Frag} {H : Hp} {b : Addr} {ts : List V} {ars : List (Int × Int)} (h : H b = some (.tup ts)) (A : ArsAt H ts ars) : Dp K H (.ref b) (arsD ars) := .tup (SqT.of h) (dp_ars A)
end Sw
namespace Sw
open PySem PySem.Spec PyProof.Rows L2
/-! ### is_ring, is_five -/
abbrev sIsRing : Stmt := top 18
abbrev sIsFive : Stmt := top 19
abbrev nIsFive : List Str := ["net", "n", "arrows", "called", "v", "w"]
theorem scIsRing : FnScope ["net", "n", "arrows"] ["net"] (defScope sIsRing) := ⟨rfl, rfl, rfl, by decide +kernel, rfl, by decide +kernel, by decide +kernel⟩
theorem scIsFive : FnScope nIsFive ["net"] (defScope sIsFive) := ⟨rfl, rfl, rfl, by decide +kernel, rfl, by decide +kernel, by decide +kernel⟩
def fivesD : PyData := .tuple [arsD (fiveS false), arsD (fiveS true)]
theorem fives_shaped : SeqAt.shaped fivesD = true := by decide
theorem fives_any (l : List (Int × Int)) : (([arsD (fiveS false), arsD (fiveS true)]).any fun z => PyData.eqv z (arsD l)) = true ↔ ∃ b, fiveS b = l := by
  rw [List.any_eq_true]
  constructor
  · rintro ⟨d, hd, h⟩
    simp only [List.mem_cons, List.not_mem_nil, or_false] at hd
    rcases hd with rfl | rfl
    · rw [eqv_arsD] at h
      exact ⟨false, of_decide_eq_true h⟩
    · rw [eqv_arsD] at h
      exact ⟨true, of_decide_eq_true h⟩
  · rintro ⟨b, rfl⟩
    refine ⟨arsD (fiveS b), by cases b <;> simp, ?_⟩
    rw [eqv_arsD]
    exact decide_eq_true rfl
section
variable {P : Program} {w : World} {K : PySem.W.Frag} {mg : Str → Option Value} {base : Heap}
def spIsRing : Sp := fun vs H Q _ => ∃ (a b : Addr) (n : Int) (ts : List V) (ars : List (Int × Int)), vs = [.ref a] ∧ NetAt n H a b ts ∧ ArsAt H ts ars ∧
  ∀ (c : Bool), (c = true ↔ 3 ≤ n ∧ (ars.length : Int) = n) → Q (.bl c) H
theorem ok_isRing {f : Addr} {fd : FuncData} (F : Fun K "is_ring" "is_ring" sIsRing f fd) (B : NoNames mg) : FnOk P w K mg base CX0 1 f fd ["net"] spIsRing := by
  refine F.ok scIsRing (fun vs H Q E h => ?_) (fun cdv A outer s H vs Q E hr h => ?_)
  · obtain ⟨a, b, n, ts, ars, rfl, _⟩ := h
    rfl
  · obtain ⟨a, b, n, ts, ars, rfl, N, AR, k⟩ := h
    have ln := AR.len
    refine ⟨_, pss_cons (ps_asg (pv 0) (pg_tup (by rfl) (pgs_cons (pg_name (i := 1) scIsRing.nd rfl (.inl rfl)) (pgs_cons (pg_name (i := 2) scIsRing.nd rfl (.inl rfl)) pgs_nil)))) <|
      pss_one (ps_ret (pe_and (pe_cmpR op_ge (pv 1) pe_int (nomark _)) (pe_one (pe_cmpR op_eq (pe_callB call_len_seq (by rfl) B.len PySem.boot_len (pa_cons (pv 2) pa_nil)) (pv 1) (nomark _))))), ?_⟩
    refine ⟨_, rfl, a, _, rfl, SqT.of N.a, rfl, _, _, rfl, _, _, rfl, rfl, ?_⟩
    refine ⟨_, rfl, _, _, rfl, rfl, _, rfl, ite2 (fun y => ?_) (fun y => ?_)⟩
    · have y := of_decide_eq_true y
      refine ⟨_, rfl, b, _, rfl, .inr (SqT.of N.b), _, rfl, rfl, k _ ?_⟩
      rw [decide_eq_true_iff, V.int.injEq, ln]
      exact ⟨fun z => ⟨y, z⟩, fun z => z.2⟩
    · exact k _ ⟨fun z => (nomatch z), fun z => (y (decide_eq_true z.1)).elim⟩
def spIsFive : Sp := fun vs H Q _ => ∃ (a b : Addr) (n : Int) (ts : List V) (ars : List (Int × Int)), vs = [.ref a] ∧ NetAt n H a b ts ∧ ArsAt H ts ars ∧
  ∀ (c : Bool) (H' : Hp), Same H H' → (c = true ↔ FiveP n ars) → Q (.bl c) H'
theorem ok_isFive {f : Addr} {fd : FuncData} (F : Fun K "is_five" "is_five" sIsFive f fd) (B : NoNames mg) (mP : mg "permutations" = some (.type "itertools.permutations")) (GF : GData K mg "FIVES" fivesD) : FnOk P w K mg base CX0 1 f fd ["net"] spIsFive := by
  obtain ⟨af, mF, dF⟩ := GF
  refine F.ok scIsFive (fun vs H Q E h => ?_) (fun cdv A outer s H vs Q E hr h => ?_)
  · obtain ⟨a, b, n, ts, ars, rfl, _⟩ := h
    rfl
  · obtain ⟨a, b, n, ts, ars, rfl, N, AR, k⟩ := h
    have ln := AR.len
    have inn := inn_of N.arr AR
    have h65 := un65 hr
    refine ⟨_, pss_cons (ps_asg (pv 0) (pg_tup (by rfl) (pgs_cons (pg_name (i := 1) scIsFive.nd rfl (.inl rfl)) (pgs_cons (pg_name (i := 2) scIsFive.nd rfl (.inl rfl)) pgs_nil)))) <|
      pss_cons (ps_if (PW.pt (pw_or (pt_cmpR op_ne (pv 1) pe_int (nomark _)) (pw_or1 (pt_cmpR op_ne (pe_callB call_len_seq (by rfl) B.len PySem.boot_len (pa_cons (pv 2) pa_nil)) pe_int (nomark _))))) (pss_one (ps_ret pe_bl)) pss_nil) <|
      pss_cons (ps_for PassesOwn.never rfl (pi_perm5 rfl (by rfl) mP (by rfl) B.range (pa_cons pe_int pa_nil)) (pg_name (i := 3) scIsFive.nd rfl (.inr rfl))
        (pss_one (ps_if (pt_cmpR (op_inTD h65) (pe_callTy call_tuple_of (by rfl) B.tuple (by decide +kernel) (pa_cons (pe_callB cr_sortedPO (by rfl) B.sorted (by decide +kernel) (pa_cons
          (pe_lc (own := [("v", 4), ("w", 5)]) (g := gTup K 2 (gCons (gName 4) (gCons (gName 5) gNil))) (tt := tYes) (te := tTup (tCons (tOp (rIxT K) (tVar 3) (tVar 4)) (tCons (tOp (rIxT K) (tVar 3) (tVar 5)) tNil))) rfl scIsFive.nd (pi_tup (pv 2)) (blkOk_by (own := [("v", 4), ("w", 5)]) (N := nIsFive) (sc := defScope sIsFive) (by decide +kernel))
            (fun _ _ _ _ _ => pg_tup rfl (pgs_cons (pg_name (i := 4) scIsFive.nd rfl (Or.inl rfl)) (pgs_cons (pg_name (i := 5) scIsFive.nd rfl (Or.inl rfl)) pgs_nil))) (fun _ _ _ _ _ => pts_nil)
            (fun _ _ _ _ _ => pe_tup (pa_cons (pe_ix (r := rIxT K) ix_tup (pv 3) (pv 4) (fun _ _ => rfl)) (pa_cons (pe_ix (r := rIxT K) ix_tup (pv 3) (pv 5) (fun _ _ => rfl)) pa_nil)))) pa_nil)) pa_nil))
          (pe_glob (v := .ref af) (by rfl) mF rfl) (by with_unfolding_all rfl)) (pss_one (ps_ret pe_bl)) pss_nil))) <|
      pss_one (ps_ret pe_bl), ?_⟩
    refine ⟨_, rfl, a, _, rfl, SqT.of N.a, rfl, _, _, rfl, _, _, rfl, rfl, ?_⟩
    have no : ¬ (n = 5 ∧ ars.length = 6) → ∀ H', Same H H' → Q (.bl false) H' := fun z H' s => k _ _ s ⟨fun q => (nomatch q), fun q => (z ⟨q.1, q.2.1⟩).elim⟩
    refine ⟨_, rfl, rfl, _, rfl, ite2 (fun y => ?_) (fun y => ?_)⟩
    · refine no (fun z => ?_) _ (.refl _)
      rw [z.1] at y
      cases y
    have n5 : n = 5 := by
      by_cases z : n = 5
      · exact z
      · refine (y ?_).elim
        show (!decide (V.int n = V.int 5)) = true
        rw [decide_eq_false fun q => z (V.int.inj q)]
        rfl
    subst n5
    refine ⟨_, rfl, b, _, rfl, .inr (SqT.of N.b), rfl, _, rfl, ite2 (fun y => ?_) (fun y => ?_)⟩
    · refine no (fun z => ?_) _ (.refl _)
      rw [ln, z.2] at y
      cases y
    have l6 : ars.length = 6 := by
      by_cases z : ars.length = 6
      · exact z
      · refine (y ?_).elim
        show (!decide (V.int (ts.length : Nat) = V.int 6)) = true
        rw [decide_eq_false fun q => z (by have := V.int.inj q; omega)]
        rfl
    clear y no
    refine ⟨rfl, for_it walk_perm (fun i σ Z => ∃ s3 s4 s5 : Option V, σ = [some (.ref a), some (.int 5), some (.ref b), s3, s4, s5] ∧ Same H Z ∧ ∀ j, j < i → ∀ c, ¬ (ars.map (renE (permAt j))).Perm (fiveS c))
      ⟨_, _, _, rfl, .refl _, fun j hj => (by omega)⟩ (fun _ _ _ _ _ => trivial) ?_ ?_⟩
    · rintro i x σ Hb Hc hi ⟨s3, s4, s5, rfl, x4, no⟩ ⟨T, rfl, nT, rfl⟩
      obtain ⟨pl, pin, _⟩ := perm_ok hi
      have xT := x4.trans (same_new (o := .tup ((permAt i).map V.int)) nT)
      have hT : (upd Hb T (.tup ((permAt i).map V.int))) T = some (.tup ((permAt i).map V.int)) := upd_same
      generalize (upd Hb T (.tup ((permAt i).map V.int))) = H1 at xT hT ⊢
      clear x4 nT
      refine ⟨_, rfl, b, rfl, ⟨_, SqT.of (xT _ _ N.b)⟩, fun D nD => ?_⟩
      refine lc_it (walk_tup (xs := ts)) (fun i' H' => ∃ xs : List V, H' D = some (.lst xs) ∧ xs.length = i' ∧ ArsAt H' xs ((ars.take i').map (renE (permAt i))) ∧ Same H1 H') ⟨[], upd_same, rfl, by rw [List.take_zero]; exact .nil, same_new nD⟩ (fun i _ _ h => by obtain ⟨_, _, _, _, e⟩ := h; exact SqT.of (e _ _ (xT _ _ N.b))) ?_ ?_
      · rintro j x Hb2 Ha hj ⟨xs, h1, h2, h3, h5⟩ ⟨rfl, ex⟩
        obtain ⟨e, t, he, rfl, ht⟩ := AR.at ex
        have me := List.mem_of_getElem? he
        have ie := inn e me
        refine ⟨t, _, rfl, SqT.of (h5 _ _ (xT _ _ ht)), rfl, _, _, rfl, _, _, rfl, rfl, ?_⟩
        refine ⟨rfl, ?_⟩
        dsimp only [tYes]
        rw [if_pos rfl]
        refine ⟨_, rfl, _, rfl, T, _, e.1, _, rfl, rfl, SqT.of (h5 _ _ hT), ren_at ie.1 pl, _, rfl, _, rfl, T, _, e.2, _, rfl, rfl, SqT.of (h5 _ _ hT), ren_at ie.2 pl, by show 2 ≤ sizeLine; decide, fun q nq => ?_⟩
        have sq : Same Ha (upd Ha q (.tup [.int (ren (permAt i) e.1), .int (ren (permAt i) e.2)])) := same_new nq
        have h1' := sq _ _ h1
        have hq : (upd Ha q (.tup [.int (ren (permAt i) e.1), .int (ren (permAt i) e.2)])) q = some (.tup [.int (ren (permAt i) e.1), .int (ren (permAt i) e.2)]) := upd_same
        have s6 := h5.trans sq
        have h3' := h3.keep (.of sq)
        generalize (upd Ha q (.tup [.int (ren (permAt i) e.1), .int (ren (permAt i) e.2)])) = H6 at h1' hq s6 h3' ⊢
        have tu : TupS H6 (upd H6 D (.lst (xs ++ [.ref q]))) := TupS.upd fun ys z => by
          rw [h1'] at z
          cases z
        refine ⟨xs, h1', by rw [h2, sizeLine_eq]; omega, xs ++ [.ref q], upd_same, by rw [List.length_append, h2]; rfl, ?_, fun c o ec => ?_⟩
        · rw [List.take_add_one, he, List.map_append]
          exact ars_app (h3'.keep tu) (.cons ⟨q, rfl, tu _ _ hq⟩ .nil)
        · rw [upd_ne (ne_of_none ec nD)]
          exact s6 _ _ ec
      · rintro Ha ⟨xs, h1, h2, h3, h5⟩
        rw [List.take_of_length_le (Nat.le_of_eq ln.symm)] at h3
        have ek := ars_kAt h3
        have ea := ars_each h3
        refine ⟨D, xs, kAt Ha, rfl, SqL.of h1, ea, fun ys p sy st np => ?_⟩
        have sk : SrtA (ys.map (kAt Ha)) := List.pairwise_map.mpr sy
        have pm := st.perm
        have AY := ars_back (ys := ys) fun x hx => ea x (pm.mem_iff.mp hx)
        have py : (ys.map (kAt Ha)).Perm (ars.map (renE (permAt i))) := ek ▸ pm.map _
        have s1 : Same Ha (upd Ha p (.lst ys)) := same_new np
        have hp : (upd Ha p (.lst ys)) p = some (.lst ys) := upd_same
        have AY1 := AY.keep (.of s1)
        have s5 := (xT.trans h5).trans s1
        generalize ys.map (kAt Ha) = ars' at AY1 py sk
        generalize (upd Ha p (.lst ys)) = H2 at hp AY1 s5 ⊢
        refine ⟨p, ys, rfl, .inl ⟨SqL.of hp, fun T1 nT1 => ?_⟩⟩
        have s2 : Same H2 (upd H2 T1 (.tup ys)) := same_new nT1
        have e1 := (upd_same (H := H2) (a := T1) (o := .tup ys))
        have A4 := AY1.keep (.of s2)
        have s6 := s5.trans s2
        generalize (upd H2 T1 (.tup ys)) = H3 at e1 A4 s6 ⊢
        have is : ∀ c, fiveS c = ars' ↔ (ars.map (renE (permAt i))).Perm (fiveS c) := fun c => ⟨fun z => z ▸ py.symm, fun z => srt_eq (fiveS_srt c) sk (z.symm.trans py.symm)⟩
        refine ⟨arsD ars', _, dp_arsT e1 A4, dF H3, shaped_arsD _, fives_shaped, _, rfl, ite2 (fun y => ?_) (fun y => ?_)⟩
        · obtain ⟨c, z⟩ := (fives_any ars').mp y
          exact k true H3 s6 ⟨fun _ => ⟨rfl, l6, i, hi, c, (is c).mp z⟩, fun _ => rfl⟩
        · refine ⟨_, _, _, rfl, s6, fun j hj c z => ?_⟩
          by_cases q : j = i
          · subst q
            exact y ((fives_any ars').mpr ⟨c, (is c).mpr z⟩)
          · exact no j (by omega) c z
    · rintro σ H3 ⟨s3, s4, s5, rfl, x4, no⟩
      exact k false H3 x4 ⟨fun z => (nomatch z), fun ⟨_, _, i, hi, c, z⟩ => (no i hi c z).elim⟩
end
end Sw
namespace Sw
open PySem PySem.Spec PyProof.Rows L2 LamX
/-! ### colours -/
section
variable {ars : List (Int × Int)} {n : Int}
/-- from 0 to each stop and back -/
def Joined (n : Int) (ars : List (Int × Int)) : Prop := ∀ v, Inn n v → Both2 ars 0 v
theorem rgn_nd (n : Nat) : ((List.range n).map fun k : Nat => (k : Int)).Nodup := List.pairwise_map.mpr (List.nodup_range.imp fun h z => h (by omega))
theorem rgn_mem {n v : Int} (h : Inn n v) : v ∈ (List.range n.toNat).map fun k : Nat => (k : Int) := by
  obtain ⟨k, rfl⟩ := Int.eq_ofNat_of_zero_le h.1
  have := h.2
  exact List.mem_map.mpr ⟨k, List.mem_range.mpr (by omega), rfl⟩
theorem sub_lenN {l m : List Int} (nd : l.Nodup) (h : ∀ x ∈ l, x ∈ m) : l.length ≤ m.length := by
  induction l generalizing m with
  | nil => exact Nat.zero_le _
  | cons a r ih =>
    obtain ⟨n1, n2⟩ := List.nodup_cons.mp nd
    obtain ⟨u, v, rfl⟩ := List.append_of_mem (h a List.mem_cons_self)
    have q := ih (m := u ++ v) n2 fun x hx => by
      rcases List.mem_append.mp (h x (List.mem_cons_of_mem _ hx)) with z | z
      · exact List.mem_append_left _ z
      · rcases List.mem_cons.mp z with z | z
        · subst z
          exact (n1 hx).elim
        · exact List.mem_append_right _ z
    rw [List.length_append] at q
    rw [List.length_cons, List.length_append, List.length_cons]
    omega
/-- a lot of so many stops is all -/
theorem joined_len {os : List Int} (n1 : 1 ≤ n) (asc : os.Pairwise (· < ·)) (own : ∀ o, o ∈ os ↔ Inn n o ∧ Both2 ars 0 o) : Joined n ars ↔ (os.length : Int) = n := by
  have nd : os.Nodup := asc.imp fun h z => by omega
  have le := pig n.toNat os nd fun v hv => by
    have := ((own v).mp hv).1
    exact ⟨this.1, by have := this.2; omega⟩
  constructor
  · intro J
    have := sub_lenN (rgn_nd n.toNat) (m := os) fun x hx => by
      obtain ⟨k, hk, rfl⟩ := List.mem_map.mp hx
      have := List.mem_range.mp hk
      have i : Inn n (k : Int) := ⟨by omega, by omega⟩
      exact (own _).mpr ⟨i, J _ i⟩
    rw [List.length_map, List.length_range] at this
    omega
  · intro e v hv
    by_cases q : v ∈ os
    · exact ((own v).mp q).2
    · have := pig n.toNat (v :: os) (List.nodup_cons.mpr ⟨q, nd⟩) fun u hu => by
        rcases List.mem_cons.mp hu with rfl | z
        · exact ⟨hv.1, by have := hv.2; omega⟩
        · have := ((own u).mp z).1
          exact ⟨this.1, by have := this.2; omega⟩
      rw [List.length_cons] at this
      omega
/-- each stop's colour: whether oddly many steps lead there -/
structure ColP (n : Int) (ars : List (Int × Int)) (cs : List Int) : Prop where
  len : (cs.length : Int) = n
  is : ∀ v : Nat, (v : Int) < n → ∃ k, Rch ars k 0 (v : Int) ∧ cs[v]? = some ((k % 2 : Nat) : Int)
theorem even_two {s v : Int} {g k j : Nat} (G : Great (Divs ars s) g) (ev : g % 2 = 0) (inn : ∀ e ∈ ars, Inn n e.1 ∧ Inn n e.2) (b : ∃ i, Path (nextOf ars) i v s) (h1 : Rch ars k s v) (h2 : Rch ars j s v) : k % 2 = j % 2 := by
  have nx : ∀ b c, c ∈ nextOf ars b ↔ (b, c) ∈ ars := fun b c => next_mem.trans ⟨fun h => h.2, fun h => ⟨(inn _ h).1.1, h⟩⟩
  obtain ⟨i, p⟩ := b
  have p := (rch_path nx).mpr p
  have d : 2 ∣ g := Nat.dvd_of_mod_eq_zero ev
  have a1 := Nat.dvd_trans d (G.is _ (h1.app p))
  have a2 := Nat.dvd_trans d (G.is _ (h2.app p))
  omega
theorem ColP.uniq {cs ds : List Int} {g : Nat} (J : Joined n ars) (inn : ∀ e ∈ ars, Inn n e.1 ∧ Inn n e.2) (G : Great (Divs ars 0) g) (ev : g % 2 = 0) (a : ColP n ars cs) (b : ColP n ars ds) : cs = ds := by
  refine List.ext_getElem? fun v => ?_
  by_cases z : (v : Int) < n
  · obtain ⟨k, hk, ek⟩ := a.is v z
    obtain ⟨j, hj, ej⟩ := b.is v z
    rw [ek, ej, even_two G ev inn (J v ⟨by omega, z⟩).2 hk hj]
  · have la := a.len
    have lb := b.len
    rw [List.getElem?_eq_none (by omega), List.getElem?_eq_none (by omega)]
theorem ColP.few {cs : List Int} (a : ColP n ars cs) : ∀ c ∈ cs, 0 ≤ c ∧ c < 2 := fun c hc => by
  obtain ⟨v, hv⟩ := List.getElem?_of_mem hc
  have l := (List.getElem?_eq_some_iff.mp hv).1
  have la := a.len
  obtain ⟨k, _, e⟩ := a.is v (by omega)
  rw [hv] at e
  have e := Option.some.inj e
  omega
end
section
variable {P : Program} {w : World} {K : PySem.W.Frag} {mg : Str → Option Value} {base : Heap}
abbrev sIsJoined : Stmt := top 10
theorem scIsJoined : FnScope ["net"] ["net"] (defScope sIsJoined) := ⟨rfl, rfl, rfl, by decide +kernel, rfl, by decide +kernel, by decide +kernel⟩
def spIsJoined (tb : Addr) : Sp := fun vs H Q _ => ∃ (a b : Addr) (n : Int) (ts : List V) (ars : List (Int × Int)), vs = [.ref a] ∧ NetAt n H a b ts ∧ ArsAt H ts ars ∧ Tabs (lamT tb) H ∧
  ∀ (c : Bool) (H' : Hp), ExtN H H' → Tabs (lamT tb) H' → (c = true ↔ Joined n ars) → Q (.bl c) H'
theorem ok_isJoined {f tb : Addr} {fd : FuncData} (F : Fun K "is_joined" "is_joined" sIsJoined f fd) (B : NoNames mg) (OL : Own P w K mg base 6 "lot_of" ["net", "stop"] (spLotOf tb)) : FnOk P w K mg base CX0 7 f fd ["net"] (spIsJoined tb) := by
  obtain ⟨fL, fdL, GL, mL, kL, bL⟩ := OL.ex
  refine F.ok scIsJoined (fun vs H Q E h => ?_) (fun cdv A outer s H vs Q E hr h => ?_)
  · obtain ⟨a, b, n, ts, ars, rfl, _⟩ := h
    rfl
  · obtain ⟨a, b, n, ts, ars, rfl, N, AR, hT, k⟩ := h
    have n1 := N.n1
    have n2 := N.n2
    refine ⟨_, pss_one (ps_ret (pe_cmpR op_eq (pe_callB call_len_seq (by rfl) B.len PySem.boot_len (pa_cons (pe_call GL hr rfl mL kL bL .nil pass0 (pa_cons (pv 0) (pa_cons pe_int pa_nil))) pa_nil)) (pe_ix ix_tup (pv 0) pe_int (fun _ _ => rfl)) (nomark _))), ?_⟩
    refine ⟨_, rfl, a, b, n, 0, ts, ars, rfl, N, AR, ⟨by decide, by omega⟩, hT, fun ro os H1 x1 hT1 hro asc own => ?_⟩
    have t1 : TupS H H1 := fun b xs e => x1 _ _ e fun ps z => nomatch z
    refine ⟨ro, _, rfl, .inr (SqT.of hro), _, rfl, a, _, 0, .int n, rfl, rfl, SqT.of (N.keep t1).a, at_of (j := 0) rfl rfl, rfl, ?_⟩
    refine k _ H1 x1 hT1 ?_
    rw [decide_eq_true_iff, V.int.injEq, List.length_map, joined_len (by omega) asc own]
end
end Sw
namespace Sw
open PySem PySem.Spec PyProof.Rows L2
/-! ### raise C() -/
section
variable {X : Cx} {C : Addr} {bmB : List Value} {B newId initId : String}
theorem pmk_own0 {x : Str} {p pos : Pos} (F : ExcBaseFacts B newId initId bmB) (q : PySem.W.excIn X.K C bmB newId = true) (gC : X.mg x = some (.ref C)) (kC : PySem.W.keepIn X.K (.ref C) = true) (r : Raises X (.ref C)) (hg : Gl X x)
    (hdb : (x == ("__debug__" : Str)) = false := by decide) : PMk X (.Call (.Name x p) [] [] pos) (fun _ H Q => Q (.ref C) none H) := by
  intro pins s σ H Q I h
  refine wpAny_Call_Name_kw (ld_glob I hg gC ?_ hdb)
  refine PySem.W.callWith_K0 (first := []) I.kIn kC ?_
  show wpAny _ _ (call (.ref C) []) _ _ _
  obtain ⟨bm, N, nm, qn, bs, hdct, sn, sub, ab, col, dd, k0, k1, k2, k3, k5, mN, hC, hN, hni, T⟩ := exc_obj I.kIn q
  exact wpAny_call_exc_subT F T hC hN hni (fun h' e hm => mk_of I hm r h (I.hok.gone hm.new)) (by show 0 ≤ sizeLine; omega)
end
end Sw
namespace Sw
open PySem PySem.Spec PyProof.Rows L2
/-! ### an own error x without __init__, under the error y of the package: raised, caught, asked -/
structure UErr (K : PySem.W.Frag) (mg : Str → Option Value) (x y : Str) (C S : Addr) : Prop where
  mx : mg x = some (.ref C)
  my : mg y = some (.ref S)
  made : PySem.W.excIn K C [.type "ValueError", .type "Exception", .type "BaseException", .type "object"] "ValueError.__new__" = true
  kC : PySem.W.keepIn K (.ref C) = true
  base : PySem.W.subIn K (.ref C) (.type "BaseException") = some true
  ty : PySem.W.typeIn K (.ref C) = some (.type "type")
  self : PySem.W.subIn K (.ref C) (.ref C) = some true
  ex : ExcC K C
  sub : PySem.W.kitOne K (.ref C) (.ref S) = some true
theorem UErr.raises {X : Cx} {x y : Str} {C S : Addr} (U : UErr X.K X.mg x y C S) : Raises X (.ref C) := raises_own U.base U.ty
theorem UErr.takes {K : PySem.W.Frag} {mg : Str → Option Value} {x y : Str} {C S : Addr} (U : UErr K mg x y C S) : PySem.W.exmOne K (.ref C) (.ref C) = some true := PySem.W.exm_ref U.base U.ex.hd U.ty U.self
theorem UErr.mk0 {X : Cx} {x y : Str} {C S : Addr} {p pos : Pos} (U : UErr X.K X.mg x y C S) (hg : Gl X x) (hdb : (x == ("__debug__" : Str)) = false := by decide) : PMk X (.Call (.Name x p) [] [] pos) (fun _ H Q => Q (.ref C) none H) :=
  pmk_own0 PySem.F.excBase_ValueError U.made U.mx U.kC U.raises hg hdb
section
variable {X : Cx} {CX : CXT} {k : Nat} {f : Addr} {fd : FuncData} {ps ks : List Str} {sp : Sp} {E : L2.St → XK} {x : Str} {p pos : Pos} {kws : List Keyword} {tk : TA} {g : List Value → List Value → List Value} {gV : List V → List V → List V}
/-- f(k = v) in a try: what it may let out is wished for at the slots -/
theorem pe_callWS (F : FnOk X.prog X.w X.K X.mg X.base CX k f fd ps sp) (hr : Room k X.A) (hg : Gl X x) (hm : X.mg x = some (.ref f)) (hk : PySem.W.keepIn X.K (.ref f) = true) (hb : KBinds X.K fd ps ks g gV) (hx : ∀ σ, PassesAt CX X σ (E σ))
    (hkw : PK X kws tk) (hall : (backToKw pos (keywordEach kws X.env)).all (·.1.isSome) = true := by rfl) (hks : (backToKw pos (keywordEach kws X.env)).filterMap (·.1) = ks := by rfl)
    (hdb : (x == ("__debug__" : Str)) = false := by decide)
    (hpl : ((backTo pos (starEach [] X.env)).any (·.1) || (backToKw pos (keywordEach kws X.env)).any (·.1.isNone)) = false := by rfl) :
    PE X (.Call (.Name x p) [] kws pos) (fun σ H Q => tk σ H fun zs H2 => sp (gV [] zs) H2 Q (E σ)) := by
  refine ⟨fun pins s σ H Q I h => wpAny_Call_Name_kw (ld_glob I hg hm ?_ hdb)⟩
  refine PySem.W.callWith_KW0 (first := []) (h₀ := X.base) I.ok.mod.kin hk hall (thn (hkw.run pos pins s σ H _ I h) fun ws s2 ⟨zs, H2, I2, rz, q2⟩ => ⟨I2.kIn, ?_⟩) hpl
  rw [hks]
  have r2 := hb.rel (us := []) .nil rz
  have hl : (g [] ws).length = ps.length := by
    rw [← r2.length]
    exact F.len _ _ _ _ q2
  refine wpAny_call (codeAny_mono (F.run X.A X.stack s2 H2 ⟨[], ks.zip ws⟩ (g [] ws) (gV [] zs) Q (E σ) hr I2.env0 (hb.to s2 [] ws I2.kIn hl) r2 q2) fun r s' hq => ?_)
  rcases r with e | fl
  · exact hx σ pins H2 s2 e s' I2 hq
  rcases fl with _ | _ | _ | u
  all_goals first | exact hq.elim | skip
  exact I2.after hq
end
end Sw
namespace Sw
open PySem PySem.Spec PyProof.Rows L2 PySem.W
theorem uerr_mk {K : Frag} {mg : Str → Option Value} {h : Heap} {x y : Str} {C S : Addr} (X : K.In h) (G : h.Ns mainGlobals mg) (aC : nsIn K mainGlobals x = some (some (.ref C))) (aS : nsIn K mainGlobals y = some (some (.ref S)))
    (made : excIn K C [.type "ValueError", .type "Exception", .type "BaseException", .type "object"] "ValueError.__new__" = true) (kC : keepIn K (.ref C) = true) (base : subIn K (.ref C) (.type "BaseException") = some true)
    (ty : typeIn K (.ref C) = some (.type "type")) (self : subIn K (.ref C) (.ref C) = some true)
    (e1 : findIn K (.ref C) "__getattribute__" = some (some (.builtin "BaseException.__getattribute__"))) (e2 : findIn K (.ref C) "__getattr__" = some none) (e4 : hasDictIn K C = true)
    (e5 : findIn K (.ref C) "__class__" = some (some (.builtin "object.__class__"))) (e6 : specialIn K (.builtin "object.__class__") "__get__" = some (some (.builtin "getset_descriptor.__get__"))) (e7 : takesIn K (.builtin "object.__class__") = some true)
    (e8 : mroIn K C (.type "object") = some true) (sub : kitOne K (.ref C) (.ref S) = some true) : ∃ C S, UErr K mg x y C S :=
  ⟨C, S, mg_of X G aC, mg_of X G aS, made, kC, base, ty, self, ⟨e1, e2, base, e4, e5, e6, e7, e8⟩, sub⟩
/-- two own errors: neither the other -/
structure UErr2 (K : PySem.W.Frag) (mg : Str → Option Value) (x1 x2 y : Str) (C1 C2 S : Addr) : Prop where
  a : UErr K mg x1 y C1 S
  b : UErr K mg x2 y C2 S
  ab : kitOne K (.ref C1) (.ref C2) = some false
  ba : subIn K (.ref C2) (.ref C1) = some false
theorem UErr2.skips {K : PySem.W.Frag} {mg : Str → Option Value} {x1 x2 y : Str} {C1 C2 S : Addr} (U : UErr2 K mg x1 x2 y C1 C2 S) : PySem.W.exmOne K (.ref C2) (.ref C1) = some false := PySem.W.exm_ref U.a.base U.a.ex.hd U.a.ty U.ba
theorem uerr2_mk {K : Frag} {mg : Str → Option Value} {h : Heap} {x y z : Str} {C D S : Addr} (X : K.In h) (G : h.Ns mainGlobals mg) (aC : nsIn K mainGlobals x = some (some (.ref C))) (aD : nsIn K mainGlobals z = some (some (.ref D))) (aS : nsIn K mainGlobals y = some (some (.ref S)))
    (made : excIn K C [.type "ValueError", .type "Exception", .type "BaseException", .type "object"] "ValueError.__new__" = true) (kC : keepIn K (.ref C) = true) (base : subIn K (.ref C) (.type "BaseException") = some true)
    (ty : typeIn K (.ref C) = some (.type "type")) (self : subIn K (.ref C) (.ref C) = some true)
    (e1 : findIn K (.ref C) "__getattribute__" = some (some (.builtin "BaseException.__getattribute__"))) (e2 : findIn K (.ref C) "__getattr__" = some none) (e4 : hasDictIn K C = true)
    (e5 : findIn K (.ref C) "__class__" = some (some (.builtin "object.__class__"))) (e6 : specialIn K (.builtin "object.__class__") "__get__" = some (some (.builtin "getset_descriptor.__get__"))) (e7 : takesIn K (.builtin "object.__class__") = some true)
    (e8 : mroIn K C (.type "object") = some true) (sub : kitOne K (.ref C) (.ref S) = some true)
    (made2 : excIn K D [.type "ValueError", .type "Exception", .type "BaseException", .type "object"] "ValueError.__new__" = true) (kC2 : keepIn K (.ref D) = true) (base2 : subIn K (.ref D) (.type "BaseException") = some true)
    (ty2 : typeIn K (.ref D) = some (.type "type")) (self2 : subIn K (.ref D) (.ref D) = some true)
    (f1 : findIn K (.ref D) "__getattribute__" = some (some (.builtin "BaseException.__getattribute__"))) (f2 : findIn K (.ref D) "__getattr__" = some none) (f4 : hasDictIn K D = true)
    (f5 : findIn K (.ref D) "__class__" = some (some (.builtin "object.__class__"))) (f8 : mroIn K D (.type "object") = some true) (sub2 : kitOne K (.ref D) (.ref S) = some true)
    (ab : kitOne K (.ref C) (.ref D) = some false) (ba : subIn K (.ref D) (.ref C) = some false) : ∃ C1 C2 S, UErr2 K mg x z y C1 C2 S :=
  ⟨C, D, S, ⟨mg_of X G aC, mg_of X G aS, made, kC, base, ty, self, ⟨e1, e2, base, e4, e5, e6, e7, e8⟩, sub⟩, ⟨mg_of X G aD, mg_of X G aS, made2, kC2, base2, ty2, self2, ⟨f1, f2, base2, f4, f5, e6, e7, f8⟩, sub2⟩, ab, ba⟩
end Sw
namespace Sw
open PySem PySem.Spec PyProof.Rows L2 LamX
/-! ### kind_of -/
section
variable {P : Program} {w : World} {K : PySem.W.Frag} {mg : Str → Option Value} {base : Heap}
abbrev sKindOf : Stmt := top 17
theorem scKindOf : FnScope ["net"] ["net"] (defScope sKindOf) := ⟨rfl, rfl, rfl, by decide +kernel, rfl, by decide +kernel, by decide +kernel⟩
def spKind (tb C : Addr) : Sp := fun vs H Q E => ∃ (a b : Addr) (n : Int) (ts : List V) (ars : List (Int × Int)), vs = [.ref a] ∧ NetAt n H a b ts ∧ ArsAt H ts ars ∧ Tabs (lamT tb) H ∧
  (¬ Joined n ars → ∀ H', ExtN H H' → Tabs (lamT tb) H' → E (.ref C) none H') ∧
  (Joined n ars → ∀ (x : Str) (H' : Hp), ExtN H H' → Tabs (lamT tb) H' → KindP n ars x → Q (.str x) H')
theorem ok_kind {f tb C S : Addr} {fd : FuncData} (F : Fun K "kind_of" "kind_of" sKindOf f fd) (B : NoNames mg) (U : UErr K mg "Apart" "SwapError" C S) (OJ : Own P w K mg base 7 "is_joined" ["net"] (spIsJoined tb)) (OB : Own P w K mg base 7 "beat" ["net", "stop"] (spPBeat tb))
    (OR : Own P w K mg base 1 "is_ring" ["net"] spIsRing) (O5 : Own P w K mg base 1 "is_five" ["net"] spIsFive) :
    FnOk P w K mg base (L2.CX P w) 8 f fd ["net"] (spKind tb C) := by
  obtain ⟨fJ, fdJ, GJ, mJ, kJ, bJ⟩ := OJ.ex
  obtain ⟨fB, fdB, GB, mB, kB, bB⟩ := OB.ex
  obtain ⟨fR, fdR, GR, mR, kR, bR⟩ := OR.ex
  obtain ⟨f5, fd5, G5, m5, k5, b5⟩ := O5.ex
  refine F.okX scKindOf (fun vs H Q E h => ?_) (fun cdv A outer s H vs Q E hr h => ?_)
  · obtain ⟨a, b, n, ts, ars, rfl, _⟩ := h
    rfl
  · obtain ⟨a, b, n, ts, ars, rfl, N, AR, hT, k1, k2⟩ := h
    have hr1 := hr.mono (by decide : 1 ≤ 7)
    have n1 := N.n1
    have n2 := N.n2
    have i0 : Inn n 0 := ⟨by decide, by omega⟩
    refine ⟨_, pss_cons (ps_if (pt_not (pt_val (pe_call GJ hr rfl mJ kJ bJ .nil pass0 (pa_cons (pv 0) pa_nil)))) (pss_one (ps_raise rfl (takes_of rfl rfl rfl rfl) (U.mk0 rfl))) pss_nil) <|
      pss_cons (ps_if (pt_cmpR op_eq (pe_ix ix_tup (pv 0) pe_int (fun _ _ => rfl)) pe_int (nomark _)) (pss_one (ps_ret pe_str)) pss_nil) <|
      pss_cons (ps_if (pt_val (pe_call GR hr1 rfl mR kR bR .nil pass0 (pa_cons (pv 0) pa_nil))) (pss_one (ps_ret pe_str)) pss_nil) <|
      pss_cons (ps_if (pt_val (pe_call G5 hr1 rfl m5 k5 b5 .nil pass0 (pa_cons (pv 0) pa_nil))) (pss_one (ps_ret pe_str)) pss_nil) <|
      pss_cons (ps_if (pt_cmpR op_eq (pe_op op_mod (pe_call GB hr rfl mB kB bB .nil pass0 (pa_cons (pv 0) (pa_cons pe_int pa_nil))) pe_int) pe_int (nomark _)) (pss_one (ps_ret pe_str)) pss_nil) <|
      pss_one (ps_ret pe_str), ?_⟩
    refine ⟨_, rfl, a, b, n, ts, ars, rfl, N, AR, hT, fun c H1 x1 hT1 ec => ?_⟩
    have t1 : TupS H H1 := fun b xs e => x1 _ _ e fun ps z => nomatch z
    have N1 := N.keep t1
    have A1 := AR.keep t1
    refine ⟨c, rfl, ?_⟩
    cases c with
    | false => exact iteT (k1 (fun J => Bool.false_ne_true (ec.mpr J)) H1 x1 hT1)
    | true =>
      have J : Joined n ars := ec.mp rfl
      refine iteF ?_
      refine ⟨_, rfl, a, _, 0, .int n, rfl, rfl, SqT.of N1.a, at_of (j := 0) rfl rfl, rfl, _, rfl, ite2 (fun y => ?_) (fun y => ?_)⟩
      · have y : decide (V.int n = V.int 1) = true := y
        have y := V.int.inj (of_decide_eq_true y)
        exact k2 J _ H1 x1 hT1 ⟨fun _ => rfl, fun h => (h y).elim, fun h => (h y).elim, fun h => (h y).elim, fun h => (h y).elim⟩
      have ne : n ≠ 1 := fun z => y (by
        show decide (V.int n = V.int 1) = true
        rw [z]
        rfl)
      refine ⟨_, rfl, a, b, n, ts, ars, rfl, N1, A1, fun c ec => ⟨c, rfl, ?_⟩⟩
      cases c with
      | true =>
        have r := ec.mp rfl
        exact iteT (k2 J _ H1 x1 hT1 ⟨fun h => (ne h).elim, fun _ _ => rfl, fun _ h => (h r).elim, fun _ h => (h r).elim, fun _ h => (h r).elim⟩)
      | false =>
        have nr : ¬ (3 ≤ n ∧ (ars.length : Int) = n) := fun z => Bool.false_ne_true (ec.mpr z)
        refine iteF ⟨_, rfl, a, b, n, ts, ars, rfl, N1, A1, fun c H2 s2 ec => ⟨c, rfl, ?_⟩⟩
        have x2 := x1.trans (.of s2)
        have hT2 := hT1.ext s2
        cases c with
        | true =>
          have r := ec.mp rfl
          exact iteT (k2 J _ H2 x2 hT2 ⟨fun h => (ne h).elim, fun _ h => (nr h).elim, fun _ _ _ => rfl, fun _ _ h => (h r).elim, fun _ _ h => (h r).elim⟩)
        | false =>
          have n5 : ¬ FiveP n ars := fun z => Bool.false_ne_true (ec.mpr z)
          refine iteF ⟨_, rfl, a, b, n, 0, ts, ars, rfl, N1.keep (.of s2), A1.keep (.of s2), i0, hT2, fun g H3 x3 hT3 G => ?_⟩
          have x13 := x2.trans x3
          refine ⟨_, _, rfl, rfl, by show (0 : Int) < 2; decide, rfl, _, rfl, ite2 (fun y => ?_) (fun y => ?_)⟩
          · have y : decide (V.int ((g : Int) % 2) = V.int 0) = true := y
            have d := G.even.mpr (great_mod.mp (of_decide_eq_true y))
            exact k2 J _ H3 x13 hT3 ⟨fun h => (ne h).elim, fun _ h => (nr h).elim, fun _ _ h => (n5 h).elim, fun _ _ _ _ => rfl, fun _ _ _ h => (h d).elim⟩
          · have d : ¬ Divs ars 0 2 := fun z => y (decide_eq_true (great_mod.mpr (G.even.mp z)))
            exact k2 J _ H3 x13 hT3 ⟨fun h => (ne h).elim, fun _ h => (nr h).elim, fun _ _ h => (n5 h).elim, fun _ _ _ h => (d h).elim, fun _ _ _ _ => rfl⟩
end
end Sw
namespace Sw
open PySem PySem.Spec PyProof.Rows L2 PySem.W
/-- a block under a premise that its reading gives -/
theorem pss_ifC {X : Cx} {b : List Stmt} {t : TS} {p : Prop} (h : p → PSs X b t) : PSs X b (fun D σ H => p ∧ t D σ H) := ⟨fun pins s σ H D I q => (h q.1).run pins s σ H D I q.2⟩
/-- a def of one parameter that may raise: by place, and by its word -/
structure OwnX1 (P : Program) (w : World) (K : PySem.W.Frag) (mg : Str → Option Value) (base : Heap) (k : Nat) (x p1 : Str) (sp : Sp) : Prop where
  ex : ∃ f fd, FnOk P w K mg base (L2.CX P w) k f fd [p1] sp ∧ mg x = some (.ref f) ∧ PySem.W.keepIn K (.ref f) = true ∧ Binds K fd [p1] [] ∧ KBinds K fd [p1] [p1] (· ++ ·) (· ++ ·)
/-- a def of two parameters that may raise: by place, and by the words, the last one ahead -/
structure OwnX2 (P : Program) (w : World) (K : PySem.W.Frag) (mg : Str → Option Value) (base : Heap) (k : Nat) (x p1 p2 : Str) (sp : Sp) : Prop where
  ex : ∃ f fd, FnOk P w K mg base (L2.CX P w) k f fd [p1, p2] sp ∧ mg x = some (.ref f) ∧ PySem.W.keepIn K (.ref f) = true ∧ Binds K fd [p1, p2] [] ∧ KBinds K fd [p1, p2] [p2, p1] (fun us ws => us ++ ws.reverse) (fun us ws => us ++ ws.reverse)
section
variable {P : Program} {w : World} {K : PySem.W.Frag} {mg : Str → Option Value} {base : Heap}
theorem Has.ownX1 {k : Nat} {x p1 : Str} {st : Stmt} {sp : Sp} (hs : Has K mg x st) (ok : ∀ f fd, Fun K x x st f fd → FnOk P w K mg base (L2.CX P w) k f fd [p1] sp)
    (b : ∀ (kV doc pm : Value) (an : Option Addr) (cdv ct : Value) (us : List Value), us.length = ([p1] : List Str).length → bindArgs (PySem.W.fnOf x x (defArgs st) (defBody st) (defScope st) .none kV doc pm an cdv ct) ⟨us, []⟩ = pure (([p1] : List Str).zip us))
    (b1 : ∀ (kV doc pm : Value) (an : Option Addr) (cdv ct u : Value), bindArgs (PySem.W.fnOf x x (defArgs st) (defBody st) (defScope st) .none kV doc pm an cdv ct) ⟨[], ([p1] : List Str).zip [u]⟩ = pure (([p1] : List Str).zip [u]))
    (b2 : ∀ (kV doc pm : Value) (an : Option Addr) (cdv ct u : Value), bindArgs (PySem.W.fnOf x x (defArgs st) (defBody st) (defScope st) .none kV doc pm an cdv ct) ⟨[u], ([p1] : List Str).zip []⟩ = pure (([p1] : List Str).zip [u])) : OwnX1 P w K mg base k x p1 sp := by
  obtain ⟨f, fd, F, m⟩ := hs
  refine ⟨f, fd, ok f fd F, m, F.kp, F.binds b, ?_⟩
  obtain ⟨oc, od, kV, doc, pm, an, cdv, ct, osl, rfl, lk, hcd⟩ := F.ex
  refine ⟨fun s us ws _ hl => ?_, fun r q => r.append q⟩
  match us, ws, hl with
  | [], [u], _ => exact .of_eq (b1 kV doc pm an cdv ct u)
  | [u], [], _ => exact .of_eq (b2 kV doc pm an cdv ct u)
end
end Sw
namespace Sw
open PySem PySem.Spec PyProof.Rows L2
/-! ### a deck that is a list: its deep cells, what is stirred, the turn -/
abbrev sDrawL : Stmt := top 36
theorem scDrawL : FnScope ["deck", "many", "cell", "mixed"] ["deck", "many"] (defScope sDrawL) := ⟨rfl, rfl, rfl, by decide +kernel, rfl, by decide +kernel, by decide +kernel⟩
abbrev sPickL : Stmt := top 37
theorem scPickL : FnScope ["deck", "items"] ["deck", "items"] (defScope sPickL) := ⟨rfl, rfl, rfl, by decide +kernel, rfl, by decide +kernel, by decide +kernel⟩
structure DeckL (H : Hp) (p d : Addr) : Prop where
  ex : ∃ (ns : List Int) (st k : Int), H p = some (.lst [.ref d, .int st, .int k]) ∧ H d = some (.lst (ns.map V.int)) ∧ ns.length ≤ 63
/-- all stands but the deck -/
def KpL (p d : Addr) (H H' : Hp) : Prop := ∀ b o, H b = some o → b ≠ p → b ≠ d → H' b = some o
theorem KpL.refl {p d : Addr} {H : Hp} : KpL p d H H := fun _ _ e _ _ => e
theorem KpL.trans {p d : Addr} {H H1 H2 : Hp} (s : KpL p d H H1) (t : KpL p d H1 H2) : KpL p d H H2 := fun b o e n1 n2 => t b o (s b o e n1 n2) n1 n2
theorem KpL.of {p d : Addr} {H H' : Hp} (s : Same H H') : KpL p d H H' := fun b o e _ _ => s b o e
theorem DeckL.same {H H' : Hp} {p d : Addr} (D : DeckL H p d) (s : Same H H') : DeckL H' p d := by
  obtain ⟨ns, st, k, h1, h2, r⟩ := D.ex
  exact ⟨ns, st, k, s _ _ h1, s _ _ h2, r⟩
theorem DeckL.ne {H : Hp} {p d : Addr} (D : DeckL H p d) : p ≠ d := by
  obtain ⟨ns, st, k, h1, h2, r⟩ := D.ex
  intro z
  rw [z, h2] at h1
  have e := Option.some.inj h1
  injection e with e
  cases ns with
  | nil => cases e
  | cons a r => cases e
theorem DeckL.off {H : Hp} {p d a : Addr} (D : DeckL H p d) (h : H a = none) : a ≠ p ∧ a ≠ d := by
  obtain ⟨ns, st, k, h1, h2, r⟩ := D.ex
  exact ⟨(fun z => by rw [z, h1] at h; cases h), (fun z => by rw [z, h2] at h; cases h)⟩
theorem ix_0 {n : Nat} (h : 0 < n) : ixN n 0 = some 0 := by
  unfold ixN
  rw [if_pos (Int.le_refl 0), if_pos (by omega)]
  rfl
section
variable {P : Program} {w : World} {K : PySem.W.Frag} {mg : Str → Option Value} {base : Heap}
def spDrawL : Sp := fun vs H Q _ => ∃ (p d : Addr) (m : Int), vs = [.ref p, .int m] ∧ DeckL H p d ∧ 1 ≤ m ∧ m < 1000000 ∧ ∀ (r : Int) (H' : Hp), 0 ≤ r → r < m → DeckL H' p d → KpL p d H H' → Q (.int r) H'
theorem ok_drawL {f : Addr} {fd : FuncData} (F : Fun K "_law_draw" "_law_draw" sDrawL f fd) (B : NoNames mg) : FnOk P w K mg base CX0 1 f fd ["deck", "many"] spDrawL := by
  refine F.ok scDrawL (fun vs H Q E h => ?_) (fun cdv A outer s H vs Q E hr h => ?_)
  · obtain ⟨p, d, m, rfl, _⟩ := h
    rfl
  · obtain ⟨p, d, m, rfl, D, m1, m2, k⟩ := h
    refine ⟨_, pss_cons (ps_if (pt_cmpR (op_neNil hr.units0) (pe_ix ix_list (pv 0) pe_int (fun _ _ => rfl)) (pe_lst pa_nil) (nomark _))
        (pss_cons (ps_set (i := 2) scDrawL.nd rfl (.inl rfl) (pe_ix ix_list (pe_ix ix_list (pv 0) pe_int (fun _ _ => rfl)) pe_int (fun _ _ => rfl))) <|
        pss_cons (ps_asg (pe_op op_fdiv (pv 2) (pv 1)) (pg_sub (pe_ix ix_list (pv 0) pe_int (fun _ _ => rfl)) pe_int set_list)) <|
        pss_cons (ps_if (pt_cmpR op_lt (pv 2) (pv 1) (nomark _)) (pss_one (ps_expr (pe_bm PySem.F.plainAttrs_list PySem.F.slot_list_pop PySem.F.type_list_pop mt_popAt (pe_ix ix_list (pv 0) pe_int (fun _ _ => rfl)) (pa_cons pe_int pa_nil)))) pss_nil) <|
        pss_one (ps_ret (pe_op op_mod (pe_callTy call_int1 (by rfl) B.int (by decide +kernel) (pa_cons (pv 2) pa_nil)) (pv 1)))) pss_nil) <|
      pss_cons (ps_asg (pe_op op_add (pe_ix ix_list (pv 0) pe_int (fun _ _ => rfl)) pe_int) (pg_sub (pv 0) pe_int set_list)) <|
      pss_cons (ps_set (i := 3) scDrawL.nd rfl (.inl rfl) (pe_op op_mod (pe_callTy call_int1 (by rfl) B.int (by decide +kernel) (pa_cons (pe_op op_add (pe_ix ix_list (pv 0) pe_int (fun _ _ => rfl)) (pe_op op_mul pe_int (pe_ix ix_list (pv 0) pe_int (fun _ _ => rfl)))) pa_nil)) pe_int)) <|
      pss_cons (ps_set (i := 3) scDrawL.nd rfl (.inl rfl) (pe_op op_mod (pe_callTy call_int1 (by rfl) B.int (by decide +kernel) (pa_cons (pe_op op_add (pe_op op_add (pe_op op_mul (pv 3) (pv 3)) (pe_op op_mul pe_int (pe_ix ix_list (pv 0) pe_int (fun _ _ => rfl)))) pe_int) pa_nil)) pe_int)) <|
      pss_cons (ps_set (i := 3) scDrawL.nd rfl (.inl rfl) (pe_op op_mod (pe_callTy call_int1 (by rfl) B.int (by decide +kernel) (pa_cons (pe_op op_add (pe_op op_mul (pv 3) (pv 3)) (pe_ix ix_list (pv 0) pe_int (fun _ _ => rfl))) pa_nil)) pe_int)) <|
      pss_one (ps_ret (pe_op op_mod (pe_callTy call_int1 (by rfl) B.int (by decide +kernel) (pa_cons (pe_op op_fdiv (pv 3) pe_int) pa_nil)) (pv 1))), ?_⟩
    obtain ⟨ns, st, kk, hp, hd, hl⟩ := id D.ex
    have npd := D.ne
    refine ⟨_, rfl, p, _, 0, .ref d, rfl, rfl, SqL.of hp, at_of (j := 0) rfl rfl, Nat.zero_le _, fun e ne => ?_⟩
    have se : Same H (upd H e (.lst [])) := same_new ne
    refine ⟨d, e, _, rfl, rfl, SqL.of (se _ _ hd), SqL.of upd_same, _, rfl, ?_⟩
    have hp1 := se _ _ hp
    have hd1 := se _ _ hd
    have kp1 : KpL p d H (upd H e (.lst [])) := .of se
    generalize (upd H e (.lst [])) = H1 at hp1 hd1 kp1 ⊢
    refine ite2 (fun y => ?_) (fun y => ?_)
    · cases ns with
      | nil => cases y
      | cons n r =>
      refine ⟨_, rfl, p, _, 0, .ref d, rfl, rfl, SqL.of hp1, at_of (j := 0) rfl rfl, d, _, 0, .int n, rfl, rfl, SqL.of hd1, at_of (j := 0) rfl rfl, ?_⟩
      refine ⟨_, rfl, _, rfl, _, _, rfl, rfl, ⟨by omega, by omega⟩, _, rfl, p, _, 0, .ref d, rfl, rfl, SqL.of hp1, at_of (j := 0) rfl rfl, d, _, 0, 0, rfl, rfl, hd1, ix_0 (by rw [List.length_map]; exact Nat.succ_pos _), ?_⟩
      have hd2 : (upd H1 d (.lst (((n :: r).map V.int).set 0 (.int (n / m))))) d = some (.lst (((n / m) :: r).map V.int)) := upd_same
      have hp2 : (upd H1 d (.lst (((n :: r).map V.int).set 0 (.int (n / m))))) p = some (.lst [.ref d, .int st, .int kk]) := by
        rw [upd_ne npd]
        exact hp1
      have kp2 : KpL p d H (upd H1 d (.lst (((n :: r).map V.int).set 0 (.int (n / m))))) := fun b o e q1 q2 => by
        rw [upd_ne q2]
        exact kp1 b o e q1 q2
      generalize (upd H1 d (.lst (((n :: r).map V.int).set 0 (.int (n / m))))) = H2 at hd2 hp2 kp2 ⊢
      have lr : r.length + 1 ≤ 63 := by simpa using hl
      refine ⟨_, rfl, _, rfl, _, _, rfl, rfl, _, rfl, ite2 (fun _ => ?_) (fun _ => ?_)⟩
      · refine ⟨_, rfl, p, _, 0, .ref d, rfl, rfl, SqL.of hp2, at_of (j := 0) rfl rfl, .inl ⟨rfl, _, SqL.of hd2⟩, d, _, 0, 0, .int (n / m), rfl, rfl, hd2, by decide, by decide, (ixN_seq (ix_0 (by rw [List.length_map]; exact Nat.succ_pos _))).1, rfl, ?_⟩
        have hd3 : (upd H2 d (.lst ((((n / m) :: r).map V.int).eraseIdx 0))) d = some (.lst (r.map V.int)) := upd_same
        have hp3 : (upd H2 d (.lst ((((n / m) :: r).map V.int).eraseIdx 0))) p = some (.lst [.ref d, .int st, .int kk]) := by
          rw [upd_ne npd]
          exact hp2
        have kp3 : KpL p d H (upd H2 d (.lst ((((n / m) :: r).map V.int).eraseIdx 0))) := fun b o e q1 q2 => by
          rw [upd_ne q2]
          exact kp2 b o e q1 q2
        refine ⟨_, rfl, .inl ⟨_, rfl, _, rfl, _, _, rfl, rfl, by show 0 < m; omega, ?_⟩⟩
        exact k _ _ (Int.emod_nonneg _ (by omega)) (Int.emod_lt_of_pos _ (by omega)) ⟨r, st, kk, hp3, hd3, by omega⟩ kp3
      · refine ⟨_, rfl, .inl ⟨_, rfl, _, rfl, _, _, rfl, rfl, by show 0 < m; omega, ?_⟩⟩
        exact k _ _ (Int.emod_nonneg _ (by omega)) (Int.emod_lt_of_pos _ (by omega)) ⟨(n / m) :: r, st, kk, hp2, hd2, by rw [List.length_cons]; exact lr⟩ kp2
    · refine ⟨_, rfl, p, _, 2, .int kk, rfl, rfl, SqL.of hp1, at_of (j := 2) rfl rfl, _, _, rfl, rfl, _, rfl, p, _, 2, 2, rfl, rfl, hp1, rfl, ?_⟩
      have hp2 : (upd H1 p (.lst (([.ref d, .int st, .int kk] : List V).set 2 (.int (kk + 1))))) p = some (.lst [.ref d, .int st, .int (kk + 1)]) := upd_same
      have hd2 : (upd H1 p (.lst (([.ref d, .int st, .int kk] : List V).set 2 (.int (kk + 1))))) d = some (.lst (ns.map V.int)) := by
        rw [upd_ne npd.symm]
        exact hd1
      have kp2 : KpL p d H (upd H1 p (.lst (([.ref d, .int st, .int kk] : List V).set 2 (.int (kk + 1))))) := fun b o e q1 q2 => by
        rw [upd_ne q1]
        exact kp1 b o e q1 q2
      generalize (upd H1 p (.lst (([.ref d, .int st, .int kk] : List V).set 2 (.int (kk + 1))))) = H2 at hd2 hp2 kp2 ⊢
      refine ⟨_, rfl, p, _, 1, .int st, rfl, rfl, SqL.of hp2, at_of (j := 1) rfl rfl, _, rfl, p, _, 2, .int (kk + 1), rfl, rfl, SqL.of hp2, at_of (j := 2) rfl rfl, ?_⟩
      have D2 : DeckL H2 p d := ⟨ns, st, kk + 1, hp2, hd2, hl⟩
      have nn : ∀ (x : Int) {M : Int}, 0 < M → 0 ≤ x % M ∧ x % M < M := fun x M hM => ⟨Int.emod_nonneg _ (by omega), Int.emod_lt_of_pos _ hM⟩
      refine ⟨_, _, rfl, rfl, .inl ⟨by decide, by decide⟩, _, _, rfl, rfl, .inl ⟨_, rfl, _, _, rfl, rfl, (by show (0 : Int) < 4294967291; decide), ?_⟩⟩
      dsimp only
      obtain ⟨a1, a2⟩ := nn (st + 2654435761 * (kk + 1)) (M := 4294967291) (by decide)
      generalize (st + 2654435761 * (kk + 1)) % 4294967291 = one at a1 a2 ⊢
      refine ⟨_, rfl, _, rfl, _, _, rfl, rfl, .inl ⟨by omega, by omega⟩, _, rfl, p, _, 2, .int (kk + 1), rfl, rfl, SqL.of hp2, at_of (j := 2) rfl rfl, _, _, rfl, rfl, .inl ⟨by decide, by decide⟩, _, _, rfl, rfl, _, _, rfl, rfl, .inl ⟨_, rfl, _, _, rfl, rfl, (by show (0 : Int) < 4294967279; decide), ?_⟩⟩
      dsimp only
      obtain ⟨b1, b2⟩ := nn (one * one + 40503 * (kk + 1) + 11) (M := 4294967279) (by decide)
      generalize (one * one + 40503 * (kk + 1) + 11) % 4294967279 = two at b1 b2 ⊢
      refine ⟨_, rfl, _, rfl, _, _, rfl, rfl, .inl ⟨by omega, by omega⟩, _, rfl, p, _, 1, .int st, rfl, rfl, SqL.of hp2, at_of (j := 1) rfl rfl, _, _, rfl, rfl, .inl ⟨_, rfl, _, _, rfl, rfl, (by show (0 : Int) < 4294967231; decide), ?_⟩⟩
      dsimp only
      obtain ⟨c1, c2⟩ := nn (two * two + st) (M := 4294967231) (by decide)
      generalize (two * two + st) % 4294967231 = three at c1 c2 ⊢
      refine ⟨_, rfl, _, _, rfl, rfl, ⟨by decide, by decide⟩, .inl ⟨_, rfl, _, rfl, _, _, rfl, rfl, by show 0 < m; omega, ?_⟩⟩
      exact k _ _ (Int.emod_nonneg _ (by omega)) (Int.emod_lt_of_pos _ (by omega)) D2 kp2
def spPickL : Sp := fun vs H Q _ => ∃ (p d a : Addr) (xs : List V), vs = [.ref p, .ref a] ∧ DeckL H p d ∧ H a = some (.lst xs) ∧ a ≠ p ∧ a ≠ d ∧ xs ≠ [] ∧ xs.length < 1000000 ∧ ∀ (x : V) (H' : Hp), x ∈ xs → DeckL H' p d → KpL p d H H' → Q x H'
theorem ok_pickL {f : Addr} {fd : FuncData} (F : Fun K "_law_pick" "_law_pick" sPickL f fd) (B : NoNames mg) (O : Own P w K mg base 1 "_law_draw" ["deck", "many"] spDrawL) : FnOk P w K mg base CX0 2 f fd ["deck", "items"] spPickL := by
  obtain ⟨fD, fdD, GD, mD, kD, bD⟩ := O.ex
  refine F.ok scPickL (fun vs H Q E h => ?_) (fun cdv A outer s H vs Q E hr h => ?_)
  · obtain ⟨p, d, a, xs, rfl, _⟩ := h
    rfl
  · obtain ⟨p, d, a, xs, rfl, D, ha, np, nd, hx, hl, k⟩ := h
    refine ⟨_, pss_one (ps_ret (pe_ix ix_list (pv 1) (pe_call GD hr rfl mD kD bD .nil pass0 (pa_cons (pv 0) (pa_cons (pe_callB call_len_seq (by rfl) B.len PySem.boot_len (pa_cons (pv 1) pa_nil)) pa_nil))) (fun _ _ => rfl))), ?_⟩
    have hpos : 0 < xs.length := List.length_pos_iff.mpr hx
    refine ⟨_, rfl, _, rfl, _, rfl, a, xs, rfl, .inl (SqL.of ha), p, d, (xs.length : Int), rfl, D, by omega, by omega, fun r H' r0 r1 D' kp => ?_⟩
    have ha' := kp _ _ ha np nd
    obtain ⟨i, rfl⟩ := Int.eq_ofNat_of_zero_le r0
    have hi : i < xs.length := by omega
    exact ⟨a, xs, _, xs[i], rfl, rfl, SqL.of ha', at_of (j := i) rfl (List.getElem?_eq_getElem hi), k _ _ (List.getElem_mem hi) D' kp⟩
end
end Sw
namespace Sw
open PySem PySem.Spec PyProof.Rows L2
/-! ### a list's items in another order -/
abbrev sMixedL : Stmt := top 38
theorem scMixedL : FnScope ["deck", "items", "rest", "found"] ["deck", "items"] (defScope sMixedL) := ⟨rfl, rfl, rfl, by decide +kernel, rfl, by decide +kernel, by decide +kernel⟩
theorem erase_permA {α : Type} {l : List α} {i : Nat} (h : i < l.length) : (l[i] :: l.eraseIdx i).Perm l := by
  induction l generalizing i with
  | nil => exact absurd h (Nat.not_lt_zero _)
  | cons a l ih =>
    cases i with
    | zero => exact .refl _
    | succ i => exact (List.Perm.swap _ _ _).trans ((ih (by simpa using h)).cons a)
section
variable {P : Program} {w : World} {K : PySem.W.Frag} {mg : Str → Option Value} {base : Heap}
def spMixedL : Sp := fun vs H Q _ => ∃ (p d a : Addr) (xs : List V), vs = [.ref p, .ref a] ∧ DeckL H p d ∧ H a = some (.lst xs) ∧ xs.length < 1000000 ∧ ∀ (r : Addr) (ms : List V) (H' : Hp), DeckL H' p d → KpL p d H H' → H r = none → H' r = some (.lst ms) → ms.Perm xs → Q (.ref r) H'
theorem ok_mixedL {f : Addr} {fd : FuncData} (F : Fun K "_law_mixed" "_law_mixed" sMixedL f fd) (B : NoNames mg) (O : Own P w K mg base 1 "_law_draw" ["deck", "many"] spDrawL) : FnOk P w K mg base CX0 2 f fd ["deck", "items"] spMixedL := by
  obtain ⟨fD, fdD, GD, mD, kD, bD⟩ := O.ex
  refine F.ok scMixedL (fun vs H Q E h => ?_) (fun cdv A outer s H vs Q E hr h => ?_)
  · obtain ⟨p, d, a, xs, rfl, _⟩ := h
    rfl
  · obtain ⟨p, d, a, xs, rfl, D, ha, hl, k⟩ := h
    refine ⟨_, pss_cons (ps_par (i := 2) (j := 3) rfl scMixedL.nd rfl rfl (by decide) rfl rfl (pa_cons (pe_callTy call_list_of (by rfl) B.list (by decide +kernel) (pa_cons (pv 1) pa_nil)) (pa_cons (pe_lst pa_nil) pa_nil)) (by rfl)) <|
      pss_cons (ps_while PassesOwn.never (pt_cmpR (op_neNil hr.units0) (pv 2) (pe_lst pa_nil) (nomark _))
        (pss_one (ps_expr (pe_bm PySem.F.plainAttrs_list PySem.F.slot_list_append PySem.F.type_list_append mt_append (pv 3)
          (pa_cons (pe_bm PySem.F.plainAttrs_list PySem.F.slot_list_pop PySem.F.type_list_pop mt_popAt (pv 2)
            (pa_cons (pe_call GD hr rfl mD kD bD .nil pass0 (pa_cons (pv 0) (pa_cons (pe_callB call_len_seq (by rfl) B.len PySem.boot_len (pa_cons (pv 2) pa_nil)) pa_nil))) pa_nil)) pa_nil))))) <|
      pss_one (ps_ret (pv 3)), ?_⟩
    refine ⟨_, rfl, a, _, rfl, .inl (SqL.of ha), fun l nl => ⟨Nat.zero_le _, fun g ng => ⟨_, _, rfl, ?_⟩⟩⟩
    have s1 : Same H (L2.upd H l (.lst xs)) := same_new nl
    have s2 := s1.trans (same_new (o := .lst []) ng)
    have ngl : g ≠ l := fun z => by
      rw [z, upd_same] at ng
      cases ng
    have ol := D.off nl
    have og := D.off (s1.free ng)
    refine ⟨fun m σ H' => ∃ ls fs : List V, σ = [some (.ref p), some (.ref a), some (.ref l), some (.ref g)] ∧ DeckL H' p d ∧ KpL p d H H' ∧ H' l = some (.lst ls) ∧ H' g = some (.lst fs) ∧ ls.length = m ∧ (fs ++ ls).Perm xs,
      ⟨xs.length, xs, [], rfl, D.same s2, .of s2, by rw [upd_ne ngl.symm, upd_same], upd_same, rfl, .refl _⟩, ?_⟩
    rintro m σ H1 ⟨ls, fs, rfl, D1, k1, h1, h2, rfl, hpm⟩
    refine ⟨_, rfl, Nat.zero_le _, fun e ne => ?_⟩
    have se : Same H1 (L2.upd H1 e (.lst [])) := same_new ne
    refine ⟨l, e, _, rfl, rfl, SqL.of (se _ _ h1), SqL.of upd_same, _, rfl, ?_⟩
    have D2 := D1.same se
    have k2 := k1.trans (.of se)
    have h1' := se _ _ h1
    have h2' := se _ _ h2
    have hlen : fs.length + ls.length = xs.length := by
      rw [← hpm.length_eq, List.length_append]
    generalize (L2.upd H1 e (.lst [])) = H2 at D2 k2 h1' h2' ⊢
    refine ite2 (fun y => ?_) (fun y => ?_)
    · have hpos : 0 < ls.length := by
        cases ls with
        | nil => cases y
        | cons a r => exact Nat.succ_pos _
      refine ⟨fun σ' H' => ∃ m', m' < ls.length ∧ ∃ ls fs : List V, σ' = [some (.ref p), some (.ref a), some (.ref l), some (.ref g)] ∧ DeckL H' p d ∧ KpL p d H H' ∧ H' l = some (.lst ls) ∧ H' g = some (.lst fs) ∧ ls.length = m' ∧ (fs ++ ls).Perm xs, fun _ _ h => h, ?_⟩
      refine ⟨_, rfl, .inl ⟨rfl, _, SqL.of h2'⟩, _, rfl, .inl ⟨rfl, _, SqL.of h1'⟩, _, rfl, _, rfl, l, ls, rfl, .inl (SqL.of h1'), p, d, (ls.length : Int), rfl, D2, by omega, by omega, fun r H3 r0 r1 D3 k3 => ?_⟩
      have h1 := k3 _ _ h1' ol.1 ol.2
      have h2 := k3 _ _ h2' og.1 og.2
      obtain ⟨i, rfl⟩ := Int.eq_ofNat_of_zero_le r0
      have hi : i < ls.length := by omega
      refine ⟨l, _, _, i, ls[i], rfl, rfl, h1, by omega, by omega, PySem.seqIndex_of r0 r1, List.getElem?_eq_getElem hi, ?_⟩
      refine ⟨g, fs, _, rfl, rfl, by rw [upd_ne ngl]; exact h2, by rw [sizeLine_eq]; omega, ?_⟩
      have le : (ls.eraseIdx i).length + 1 = ls.length := by
        rw [List.length_eraseIdx_of_lt hi]
        omega
      refine ⟨(ls.eraseIdx i).length, by omega, ls.eraseIdx i, fs ++ [ls[i]], rfl, ?_, fun b o e q1 q2 => ?_, by rw [upd_ne ngl.symm, upd_same], upd_same, rfl, ?_⟩
      · obtain ⟨ns, st, kk, e1, e2, e3⟩ := D3.ex
        exact ⟨ns, st, kk, by rw [upd_ne og.1.symm, upd_ne ol.1.symm]; exact e1, by rw [upd_ne og.2.symm, upd_ne ol.2.symm]; exact e2, e3⟩
      · rw [upd_ne (ne_of_none e (s1.free ng)), upd_ne (ne_of_none e nl)]
        exact k3 _ _ (k2 _ _ e q1 q2) q1 q2
      · rw [List.append_assoc]
        exact ((erase_permA hi).append_left fs).trans hpm
    · have y : ls = [] := by
        cases ls with
        | nil => rfl
        | cons a r => exact absurd rfl y
      subst y
      rw [List.append_nil] at hpm
      exact ⟨_, rfl, k g fs H2 D2 k2 (s1.free ng) h2' hpm⟩
end
end Sw
namespace Sw
open PySem PySem.Spec PyProof.Rows L2
/-! ### what mixing gives -/
theorem TupS.kpl {p d : Addr} {H H' : Hp} (D : DeckL H p d) (s : KpL p d H H') : TupS H H' := by
  obtain ⟨ns, st, k, h1, h2, _⟩ := D.ex
  exact fun b xs e => s _ _ e (fun z => by rw [z, h1] at e; cases e) (fun z => by rw [z, h2] at e; cases e)
theorem rg_in {n : Int} {x : V} (h : x ∈ rgV 0 n) : ∃ i : Int, x = .int i ∧ 0 ≤ i ∧ i < n := by
  obtain ⟨i, hi, rfl⟩ := List.mem_map.mp h
  have := List.mem_range.mp hi
  exact ⟨_, rfl, by omega, by omega⟩
theorem rg_nd (n : Int) : (rgV 0 n).Nodup := by
  unfold rgV
  refine List.pairwise_map.mpr (List.nodup_range.imp fun h z => h ?_)
  have z := V.int.inj z
  omega
theorem two_mixed {n : Int} {ms : List V} (h : 1 < n) (hp : ms.Perm (rgV 0 n)) : ∃ x y : Int, cutV ms none (some 2) = [.int x, .int y] ∧ (0 ≤ x ∧ x < n) ∧ (0 ≤ y ∧ y < n) ∧ x ≠ y := by
  have len := hp.length_eq
  rw [rgV_length] at len
  have nd := hp.nodup_iff.mpr (rg_nd n)
  match ms, len with
  | [], len => rw [List.length_nil] at len; omega
  | [_], len => rw [List.length_singleton] at len; omega
  | x :: y :: r, len =>
    obtain ⟨i, rfl, hi⟩ := rg_in (hp.mem_iff.mp List.mem_cons_self)
    obtain ⟨j, rfl, hj⟩ := rg_in (hp.mem_iff.mp (List.mem_cons_of_mem _ List.mem_cons_self))
    refine ⟨i, j, ?_, hi, hj, fun z => ?_⟩
    · unfold cutV
      rw [show (some (2 : Int)) = some ((2 : Nat) : Int) from rfl, HT.sIx_nat, HT.sIx_none, List.drop_zero, Nat.sub_zero, show min 2 (V.int i :: V.int j :: r).length = 2 by rw [List.length_cons, List.length_cons]; omega]
      rfl
    · rw [z] at nd
      exact (List.nodup_cons.mp nd).1 List.mem_cons_self
theorem all_ints : ∀ {ms : List V}, (∀ x ∈ ms, ∃ i, x = V.int i) → ∃ os : List Int, ms = os.map V.int
  | [], _ => ⟨[], rfl⟩
  | x :: r, h => by
    obtain ⟨i, rfl⟩ := h x List.mem_cons_self
    obtain ⟨os, rfl⟩ := all_ints (ms := r) fun y hy => h y (List.mem_cons_of_mem _ hy)
    exact ⟨i :: os, rfl⟩
theorem mixed_ints {n : Int} {ms : List V} (h : ms.Perm (rgV 0 n)) : ∃ os : List Int, ms = os.map V.int ∧ os.length = n.toNat ∧ os.Nodup ∧ ∀ v, v ∈ os ↔ Inn n v := by
  obtain ⟨os, rfl⟩ := all_ints fun x hx => let ⟨i, e, _⟩ := rg_in (h.mem_iff.mp hx); ⟨i, e⟩
  refine ⟨os, rfl, ?_, ?_, fun v => ?_⟩
  · have := h.length_eq
    rw [List.length_map, rgV_length] at this
    omega
  · have := h.nodup_iff.mpr (rg_nd n)
    exact List.Pairwise.of_map V.int (fun a b q z => q (by rw [z])) this
  · constructor
    · intro hv
      obtain ⟨i, e, b⟩ := rg_in (h.mem_iff.mp (List.mem_map.mpr ⟨v, hv, rfl⟩))
      rw [V.int.inj e]
      exact b
    · rintro ⟨h0, h1⟩
      obtain ⟨k, rfl⟩ := Int.eq_ofNat_of_zero_le h0
      have : V.int (k : Nat) ∈ rgV 0 n := List.mem_map.mpr ⟨k, List.mem_range.mpr (by omega), by rw [Int.zero_add]⟩
      obtain ⟨i, hi, e⟩ := List.mem_map.mp (h.mem_iff.mpr this)
      rw [← V.int.inj e]
      exact hi
end Sw
namespace Sw
open PySem PySem.Spec PyProof.Rows L2 LamX
/-! ### decks, nets and tables through calls -/
theorem tabs_kpl {T : List (Addr × Str)} {p d : Addr} {H H' : Hp} (h : Tabs T H) (D : DeckL H p d) (k : KpL p d H H') : Tabs T H' := fun q hq => by
  obtain ⟨ns, st, kk, e1, e2, _⟩ := D.ex
  obtain ⟨ps, h1, h2, h3⟩ := h q hq
  refine ⟨ps, k _ _ h1 (fun z => by rw [z, e1] at h1; cases h1) (fun z => by rw [z, e2] at h1; cases h1), h2, fun pos cv hc => ?_⟩
  obtain ⟨c, g1, g2⟩ := h3 pos cv hc
  refine ⟨c, g1, k _ _ g2 (fun z => ?_) fun z => ?_⟩
  · rw [z, e1] at g2
    have g : HO.lst _ = HO.ext _ := Option.some.inj g2
    cases g
  · rw [z, e2] at g2
    have g : HO.lst _ = HO.ext _ := Option.some.inj g2
    cases g
theorem DeckL.extN {p d : Addr} {H H' : Hp} (D : DeckL H p d) (x : ExtN H H') : DeckL H' p d := by
  obtain ⟨ns, st, k, h1, h2, r⟩ := D.ex
  exact ⟨ns, st, k, x _ _ h1 (fun ps z => nomatch z), x _ _ h2 (fun ps z => nomatch z), r⟩
theorem TupS.extN {H H' : Hp} (x : ExtN H H') : TupS H H' := fun b xs e => x _ _ e (fun ps z => nomatch z)
/-- the deck and a net stand -/
structure NetS (p d tb : Addr) (H : Hp) (a b : Addr) (n : Int) (ts : List V) (ars : List (Int × Int)) : Prop where
  D : DeckL H p d
  T : Tabs (lamT tb) H
  N : NetAt n H a b ts
  A : ArsAt H ts ars
theorem NetS.same {p d tb : Addr} {H H' : Hp} {a b : Addr} {n : Int} {ts : List V} {ars : List (Int × Int)} (S : NetS p d tb H a b n ts ars) (s : Same H H') : NetS p d tb H' a b n ts ars := ⟨S.D.same s, S.T.ext s, S.N.keep (.of s), S.A.keep (.of s)⟩
theorem NetS.kpl {p d tb : Addr} {H H' : Hp} {a b : Addr} {n : Int} {ts : List V} {ars : List (Int × Int)} (S : NetS p d tb H a b n ts ars) (D : DeckL H' p d) (k : KpL p d H H') : NetS p d tb H' a b n ts ars := ⟨D, tabs_kpl S.T S.D k, S.N.keep (TupS.kpl S.D k), S.A.keep (TupS.kpl S.D k)⟩
theorem NetS.ext {p d tb : Addr} {H H' : Hp} {a b : Addr} {n : Int} {ts : List V} {ars : List (Int × Int)} (S : NetS p d tb H a b n ts ars) (x : ExtN H H') (T : Tabs (lamT tb) H') : NetS p d tb H' a b n ts ars := ⟨S.D.extN x, T, S.N.keep (TupS.extN x), S.A.keep (TupS.extN x)⟩
end Sw
namespace Sw
open PySem PySem.Spec PyProof.Rows L2 LamX
theorem rows_perm : ∀ r ∈ rowsN, RowP r := by
  have : rowsN.all (fun r => r.isPerm (List.range 6)) = true := by decide +kernel
  exact fun r hr => List.isPerm_iff.mp (List.all_eq_true.mp this r hr)
theorem kind_five {n : Int} {ars : List (Int × Int)} (h : KindP n ars "five") : FiveP n ars := by
  by_cases h1 : n = 1
  · exact absurd (h.lone h1) (by decide +kernel)
  by_cases h2 : 3 ≤ n ∧ (ars.length : Int) = n
  · exact absurd (h.ring h1 h2) (by decide +kernel)
  by_cases h3 : FiveP n ars
  · exact h3
  by_cases h4 : Divs ars 0 2
  · exact absurd (h.half h1 h2 h3 h4) (by decide +kernel)
  · exact absurd (h.all h1 h2 h3 h4) (by decide +kernel)
section
variable {P : Program} {w : World} {K : PySem.W.Frag} {mg : Str → Option Value} {base : Heap}
abbrev sCheck5 : Stmt := top 25
theorem scCheck5 : FnScope ["net"] ["net"] (defScope sCheck5) := ⟨rfl, rfl, rfl, by decide +kernel, rfl, by decide +kernel, by decide +kernel⟩
/-- what may be let out -/
def Outs (tb C D : Addr) (n : Int) (ars : List (Int × Int)) (H : Hp) (E : XK) : Prop := (¬ Joined n ars → ∀ H', ExtN H H' → Tabs (lamT tb) H' → E (.ref C) none H') ∧ (Joined n ars → ∀ (x : Str) (H' : Hp), ExtN H H' → Tabs (lamT tb) H' → KindP n ars x → x ≠ "five" → E (.ref D) none H')
def spCheck5 (tb C D : Addr) : Sp := fun vs H Q E => ∃ (a b : Addr) (n : Int) (ts : List V) (ars : List (Int × Int)), vs = [.ref a] ∧ NetAt n H a b ts ∧ ArsAt H ts ars ∧ Tabs (lamT tb) H ∧ Outs tb C D n ars H E ∧
  (Joined n ars → KindP n ars "five" → ∀ H', ExtN H H' → Tabs (lamT tb) H' → Q .non H')
theorem ok_check5 {f tb C D S : Addr} {fd : FuncData} (F : Fun K "check_five" "check_five" sCheck5 f fd) (B : NoNames mg) (U : UErr2 K mg "Apart" "Unfit" "SwapError" C D S) (OK : OwnX1 P w K mg base 8 "kind_of" "net" (spKind tb C)) :
    FnOk P w K mg base (L2.CX P w) 9 f fd ["net"] (spCheck5 tb C D) := by
  obtain ⟨fK, fdK, GK, mK, kK, bK, wK⟩ := OK.ex
  refine F.okX scCheck5 (fun vs H Q E h => ?_) (fun cdv A outer s H vs Q E hr h => ?_)
  · obtain ⟨a, b, n, ts, ars, rfl, _⟩ := h
    rfl
  · obtain ⟨a, b, n, ts, ars, rfl, N, AR, hT, ⟨k1, k2⟩, k3⟩ := h
    refine ⟨_, pss_one (ps_if (pt_cmpR op_ne (pe_callS GK hr (by rfl) mK kK bK (fun σ => passAt (takes_of rfl rfl rfl rfl) σ) (pa_cons (pv 0) pa_nil)) pe_str (nomark _)) (pss_one (ps_raise rfl (takes_of rfl rfl rfl rfl) (U.b.mk0 rfl))) pss_nil), ?_⟩
    refine ⟨_, rfl, a, b, n, ts, ars, rfl, N, AR, hT, k1, fun J x H1 x1 T1 KP => ⟨rfl, _, rfl, ite2 (fun y => ?_) (fun y => ?_)⟩⟩
    · have y : (!decide (V.str x = V.str "five")) = true := y
      refine k2 J x H1 x1 T1 KP fun z => ?_
      rw [z, decide_eq_true rfl] at y
      cases y
    · have e : x = "five" := by
        by_cases z : x = "five"
        · exact z
        · refine (y ?_).elim
          show (!decide (V.str x = V.str "five")) = true
          rw [decide_eq_false fun q => z (V.str.inj q)]
          rfl
      subst e
      exact k3 J KP H1 x1 T1
end
end Sw
namespace Sw
open PySem PySem.Spec PyProof.Rows L2
/-! ### lots, pairs of them and nets as data -/
def tupI (L : List Int) : D := .tup (L.map D.int)
def lotsI (Ls : List (List Int)) : D := .tup (Ls.map tupI)
def prL (e : Int × Int) : List Int := [e.1, e.2]
def netI (n : Int) (ars : List (Int × Int)) : D := .tup [.int n, lotsI (ars.map prL)]
section
variable {K : PySem.W.Frag} {H : Hp}
theorem rep_ints : ∀ L : List Int, RepAll K H (L.map D.int) (L.map V.int) []
  | [] => by simp [RepAll]
  | i :: r => by
    rw [List.map_cons, List.map_cons, RepAll]
    exact ⟨_, _, [], [], rfl, by simp [Rep], rep_ints r, rfl⟩
theorem rep_tupI {t : Addr} {L : List Int} (h : H t = some (.tup (L.map V.int))) : Rep K H (tupI L) (.ref t) [t] := by
  unfold tupI
  rw [Rep]
  exact ⟨t, _, [], rfl, h, rep_ints L, by simp, rfl⟩
theorem rep_tups {ts : List Addr} {Ls : List (List Int)} (U : TupsAt H ts Ls) : RepAll K H (Ls.map tupI) (ts.map V.ref) ts := by
  unfold TupsAt at U
  induction U with
  | nil => simp [RepAll]
  | @cons t L ts Ls q r ih =>
    rw [List.map_cons, List.map_cons, RepAll]
    exact ⟨_, _, [t], ts, rfl, rep_tupI q, ih, rfl⟩
theorem tups_ints {ts : List Addr} {Ls : List (List Int)} (U : TupsAt H ts Ls) {t : Addr} (h : t ∈ ts) : ∃ L : List Int, H t = some (.tup (L.map V.int)) := by
  obtain ⟨i, hi⟩ := List.getElem?_of_mem h
  obtain ⟨L, _, e⟩ := U.at hi
  exact ⟨L, e⟩
/-- a tuple of references is none of the tuples of numbers that it holds -/
theorem not_in {r : Addr} {ts : List Addr} {Ls : List (List Int)} (hr : H r = some (.tup (ts.map V.ref))) (U : TupsAt H ts Ls) : r ∉ ts := fun z => by
  obtain ⟨L, e⟩ := tups_ints U z
  rw [hr] at e
  have e := HO.tup.inj (Option.some.inj e)
  cases ts with
  | nil => cases z
  | cons t r =>
    cases L with
    | nil => cases e
    | cons i q => cases e
theorem rep_lots {r : Addr} {ts : List Addr} {Ls : List (List Int)} (hr : H r = some (.tup (ts.map V.ref))) (U : TupsAt H ts Ls) : Rep K H (lotsI Ls) (.ref r) (r :: ts) := by
  unfold lotsI
  rw [Rep]
  exact ⟨r, _, ts, rfl, hr, rep_tups U, not_in hr U, rfl⟩
theorem ars_tups {xs : List V} {es : List (Int × Int)} (h : ArsAt H xs es) : ∃ us : List Addr, xs = us.map V.ref ∧ TupsAt H us (es.map prL) := by
  unfold ArsAt at h
  induction h with
  | nil => exact ⟨[], rfl, .nil⟩
  | cons q t ih =>
    obtain ⟨us, rfl, U⟩ := ih
    obtain ⟨a, rfl, ha⟩ := q
    exact ⟨a :: us, rfl, .cons ha U⟩
theorem rep_net {n : Int} {a b : Addr} {ts : List V} {ars : List (Int × Int)} (N : NetAt n H a b ts) (A : ArsAt H ts ars) : ∃ as, Rep K H (netI n ars) (.ref a) as := by
  obtain ⟨us, rfl, U⟩ := ars_tups A
  have h := rep_lots (K := K) N.b U
  refine ⟨a :: (b :: us), ?_⟩
  unfold netI
  rw [Rep]
  refine ⟨a, _, b :: us, rfl, N.a, ?_, fun z => ?_, rfl⟩
  · rw [RepAll]
    refine ⟨_, _, [], b :: us, rfl, by simp [Rep], ?_, rfl⟩
    rw [RepAll]
    exact ⟨_, _, b :: us, [], rfl, h, by simp [RepAll], by simp⟩
  · rcases List.mem_cons.mp z with z | z
    · have e := N.b
      rw [← z, N.a] at e
      have e := HO.tup.inj (Option.some.inj e)
      cases us with
      | nil => cases e
      | cons u r => cases e
    · obtain ⟨L, e⟩ := tups_ints U z
      rw [N.a] at e
      have e := HO.tup.inj (Option.some.inj e)
      cases L with
      | nil => cases e
      | cons i q =>
        cases q with
        | nil => cases e
        | cons j q => cases e
/-- a list of two such tuples -/
theorem rep_both {l r q : Addr} {us vs : List Addr} {Ls Es : List (List Int)} (hl : H l = some (.lst [.ref r, .ref q])) (hr : H r = some (.tup (us.map V.ref))) (U : TupsAt H us Ls) (hq : H q = some (.tup (vs.map V.ref))) (W : TupsAt H vs Es) : ∃ as, Rep K H (.lst [lotsI Ls, lotsI Es]) (.ref l) as := by
  have h1 := rep_lots (K := K) hr U
  have h2 := rep_lots (K := K) hq W
  refine ⟨l :: ((r :: us) ++ (q :: vs)), ?_⟩
  rw [Rep]
  refine ⟨l, _, (r :: us) ++ (q :: vs), rfl, hl, ?_, fun z => ?_, rfl⟩
  · rw [RepAll]
    refine ⟨_, _, r :: us, q :: vs, rfl, h1, ?_, rfl⟩
    rw [RepAll]
    exact ⟨_, _, q :: vs, [], rfl, h2, by simp [RepAll], by simp⟩
  · have no : ∀ xs, H l ≠ some (.tup xs) := fun xs e => by
      rw [hl] at e
      cases e
    rcases List.mem_append.mp z with z | z
    · rcases List.mem_cons.mp z with z | z
      · subst z
        exact no _ hr
      · obtain ⟨L, e⟩ := tups_ints U z
        exact no _ e
    · rcases List.mem_cons.mp z with z | z
      · subst z
        exact no _ hq
      · obtain ⟨L, e⟩ := tups_ints W z
        exact no _ e
end
/-- all numbers small, the lists short -/
structure Few (Ls : List (List Int)) (m : Nat) : Prop where
  len : Ls.length ≤ 200
  each : ∀ L ∈ Ls, L.length ≤ m ∧ ∀ i ∈ L, 0 ≤ i ∧ i < 1000
theorem few_int {i : Int} (h : 0 ≤ i ∧ i < 1000) : small (.int i) ∧ wt (.int i) ≤ 4 := by
  have hi : i.natAbs < 10 ^ 3 := by omega
  constructor
  · rw [small]
    exact PySem.Spec.log2_small (Nat.lt_of_lt_of_le hi (Nat.le_trans (Nat.pow_le_pow_right (by decide) (by decide : 3 ≤ 40)) (by decide +kernel)))
  · rw [wt, PySem.ofString_length]
    exact int_text_length_le10 (by decide) hi
theorem few_ints : ∀ {L : List Int}, (∀ i ∈ L, 0 ≤ i ∧ i < 1000) → smallAll (L.map D.int) ∧ wtAll (L.map D.int) ≤ 6 * L.length ∧ depAll (L.map D.int) = 0
  | [], _ => ⟨by simp [smallAll], by simp [wtAll], by simp [depAll]⟩
  | i :: r, h => by
    obtain ⟨a, b⟩ := few_int (h i List.mem_cons_self)
    obtain ⟨c, d, e⟩ := few_ints (L := r) fun j hj => h j (List.mem_cons_of_mem _ hj)
    refine ⟨?_, ?_, ?_⟩
    · rw [List.map_cons, smallAll]
      exact ⟨a, c⟩
    · rw [List.map_cons, wtAll, List.length_cons]
      omega
    · rw [List.map_cons, depAll, e]
      simp [dep]
theorem few_tups {m : Nat} : ∀ {Ls : List (List Int)}, (∀ L ∈ Ls, L.length ≤ m ∧ ∀ i ∈ L, 0 ≤ i ∧ i < 1000) → smallAll (Ls.map tupI) ∧ wtAll (Ls.map tupI) ≤ (6 * m + 5) * Ls.length ∧ depAll (Ls.map tupI) ≤ 1
  | [], _ => ⟨by simp [smallAll], by simp [wtAll], by simp [depAll]⟩
  | L :: r, h => by
    obtain ⟨l, e⟩ := h L List.mem_cons_self
    obtain ⟨a, b, c⟩ := few_ints e
    obtain ⟨x, y, z⟩ := few_tups (m := m) (Ls := r) fun j hj => h j (List.mem_cons_of_mem _ hj)
    refine ⟨?_, ?_, ?_⟩
    · rw [List.map_cons, smallAll]
      refine ⟨?_, x⟩
      unfold tupI
      rw [small]
      exact a
    · rw [List.map_cons, wtAll, List.length_cons, Nat.mul_add]
      have : wt (tupI L) ≤ 6 * m + 3 := by
        unfold tupI
        rw [wt]
        omega
      omega
    · rw [List.map_cons, depAll]
      have : dep (tupI L) = 1 := by
        unfold tupI
        rw [dep, c]
      omega
theorem Few.lots {Ls : List (List Int)} {m : Nat} (h : Few Ls m) (hm : m ≤ 12) : smallAll (Ls.map tupI) ∧ wtAll (Ls.map tupI) ≤ 20000 ∧ depAll (Ls.map tupI) ≤ 1 := by
  obtain ⟨a, b, c⟩ := few_tups h.each
  refine ⟨a, Nat.le_trans b ?_, c⟩
  have := h.len
  have : (6 * m + 5) * Ls.length ≤ 77 * 200 := Nat.mul_le_mul (by omega) this
  omega
theorem few_pair {n : Int} {es : List (Int × Int)} (hn : n ≤ 12) (len : es.length ≤ 200) (h : ∀ e ∈ es, (0 ≤ e.1 ∧ e.1 < n) ∧ (0 ≤ e.2 ∧ e.2 < n)) : Few (es.map prL) 2 := by
  refine ⟨by rw [List.length_map]; exact len, fun L hL => ?_⟩
  obtain ⟨e, he, rfl⟩ := List.mem_map.mp hL
  refine ⟨Nat.le_refl _, fun i hi => ?_⟩
  obtain ⟨h1, h2⟩ := h e he
  rcases List.mem_cons.mp hi with z | z
  · subst z
    omega
  · rw [List.mem_singleton.mp z]
    omega
theorem wt_tup (xs : List D) : wt (.tup xs) = wtAll xs + 3 := by rw [wt]
theorem dep_tup (xs : List D) : dep (.tup xs) = depAll xs + 1 := by rw [dep]
theorem net_few {n : Int} {ars : List (Int × Int)} (n1 : 1 ≤ n) (n2 : n ≤ 12) (F : Few (ars.map prL) 2) : smallAll [.int n, lotsI (ars.map prL)] ∧ wtAll [.int n, lotsI (ars.map prL)] ≤ 30000 ∧ depAll [.int n, lotsI (ars.map prL)] ≤ 2 := by
  obtain ⟨a, b⟩ := few_int (i := n) (by omega)
  obtain ⟨x, y, z⟩ := F.lots (by decide)
  refine ⟨?_, ?_, ?_⟩
  · rw [smallAll, smallAll]
    refine ⟨a, ?_, ?_⟩
    · unfold lotsI
      rw [small]
      exact x
    · simp [smallAll]
  · rw [wtAll, wtAll, wtAll]
    unfold lotsI
    rw [wt_tup]
    omega
  · rw [depAll, depAll, depAll]
    unfold lotsI
    rw [dep_tup]
    simp only [dep]
    omega
theorem both_few {Ls Es : List (List Int)} {m k : Nat} (F : Few Ls m) (hm : m ≤ 12) (G : Few Es k) (hk : k ≤ 12) : smallAll [lotsI Ls, lotsI Es] ∧ wtAll [lotsI Ls, lotsI Es] ≤ 50000 ∧ depAll [lotsI Ls, lotsI Es] ≤ 2 := by
  obtain ⟨a, b, c⟩ := F.lots hm
  obtain ⟨x, y, z⟩ := G.lots hk
  unfold lotsI
  refine ⟨?_, ?_, ?_⟩
  · rw [smallAll, smallAll, smallAll, small, small]
    exact ⟨a, x, trivial⟩
  · rw [wtAll, wtAll, wtAll, wt, wt]
    omega
  · rw [depAll, depAll, depAll, dep, dep]
    omega
end Sw
namespace Sw
open PySem PySem.Spec PyProof.Rows L2
def tabD (T : List (List Nat)) : D := lotsI (T.map intR)
end Sw
namespace Sw
open PySem L2
abbrev sBetween : Stmt := top 3
theorem scBetween : FnScope ["value", "least", "most"] ["value", "least", "most"] (defScope sBetween) := ⟨rfl, rfl, rfl, by decide +kernel, rfl, by decide +kernel, by decide +kernel⟩
section
variable {P : Program} {w : World} {K : PySem.W.Frag} {mg : Str → Option Value} {base : Heap}
theorem ok_between {f : Addr} {fd : FuncData} (F : Fun K "is_integer_between" "is_integer_between" sBetween f fd) (B : NoNames mg) : FnOk P w K mg base CX0 1 f fd ["value", "least", "most"] (spBetween K) := by
  refine F.ok scBetween (fun vs H Q E h => ?_) (fun cdv A outer s H vs Q E hr h => ?_)
  · obtain ⟨x, d, as, lo, hi, rfl, _⟩ := h
    rfl
  · obtain ⟨x, d, as, lo, hi, rfl, hd, k⟩ := h
    refine ⟨_, pss_cons (ps_if (PW.pt (pw_or (pt_val (pe_isi (i := 0) (TN := "bool") rfl (Or.inl rfl) (by decide) (by decide) B.isi B.bool rfl rfl (by decide +kernel) (by decide) (by decide)))
        (pw_or1 (pt_not (pt_val (pe_isi (i := 0) (TN := "int") rfl (Or.inl rfl) (by decide) (by decide) B.isi B.int rfl rfl (by decide +kernel) (by decide) (by decide))))))) (pss_one (ps_ret pe_bl)) pss_nil)
      (pss_one (ps_ret (pe_chain op_le op_le (pv 1) (pv 0) (pv 2)))), ?_⟩
    refine ⟨_, rfl, x, d, as, "bool", rfl, by decide, hd, _, rfl, ?_⟩
    have no : isT "bool" d = true → isWhole lo hi d = false := fun e => by cases d <;> simp_all [isT, isWhole]
    have no2 : isT "bool" d = false → isT "int" d = false → isWhole lo hi d = false := fun e e2 => by cases d <;> simp_all [isT, isWhole]
    have yes : isT "bool" d = false → isT "int" d = true → ∃ i, d = .int i := fun e e2 => by cases d <;> first | exact ⟨_, rfl⟩ | (simp_all [isT])
    cases e1 : isT "bool" d with
    | true =>
      refine iteT (iteT ?_)
      rw [no e1] at k
      exact k
    | false =>
      refine iteF ⟨_, rfl, x, d, as, "int", rfl, by decide, hd, _, rfl, ?_⟩
      cases e2 : isT "int" d with
      | false =>
        refine iteT ?_
        rw [no2 e1 e2] at k
        exact k
      | true =>
        refine iteF ?_
        obtain ⟨i, rfl⟩ := yes e1 e2
        simp only [Rep] at hd
        obtain ⟨rfl, rfl⟩ := hd
        refine ⟨_, rfl, _, rfl, _, _, rfl, rfl, _, rfl, ?_⟩
        refine ite2 (fun z => ?_) (fun z => ?_)
        · refine ⟨_, rfl, _, _, rfl, rfl, ?_⟩
          simp only [isWhole] at k
          rw [z] at k
          exact k
        · simp only [isWhole] at k
          rw [Bool.eq_false_iff.mpr z] at k
          exact k
end
end Sw
namespace Sw
open PySem PySem.Spec PyProof.Rows L2
/-! ### is_row, is_table -/
def toI : D → Int
  | .int i => i
  | _ => 0
def isRowD : D → Bool
  | .tup ds => ds.all (isWhole 0 5) && decide ((ds.map toI).Perm six)
  | _ => false
def isTabD : D → Bool
  | .tup ds => decide (ds.length = 5) && ds.all isRowD
  | _ => false
theorem row_eq (ds : List D) : isRowD (.tup ds) = (ds.all (isWhole 0 5) && decide ((ds.map toI).Perm six)) := rfl
theorem tab_eq (ds : List D) : isTabD (.tup ds) = (decide (ds.length = 5) && ds.all isRowD) := rfl
theorem row_tup {d : D} (e : isT "tuple" d = false) : isRowD d = false := by cases d <;> simp_all [isT, isRowD]
theorem tab_tup {d : D} (e : isT "tuple" d = false) : isTabD d = false := by cases d <;> simp_all [isT, isTabD]
theorem whole_int {lo hi : Int} {d : D} (h : isWhole lo hi d = true) : d = .int (toI d) := by
  cases d <;> first | rfl | (simp_all [isWhole])
theorem rep_whole {K : PySem.W.Frag} {H : Hp} : ∀ {ds : List D} {ys : List V} {cs : List Addr}, RepAll K H ds ys cs → (∀ d ∈ ds, isWhole 0 5 d = true) → ys = (ds.map toI).map V.int
  | [], ys, cs, h, _ => by
    have := h.len
    exact List.length_eq_zero_iff.mp this
  | d :: r, ys, cs, h, a => by
    simp only [RepAll] at h
    obtain ⟨y, yr, c1, c2, rfl, hd, hr, _⟩ := h
    have e := whole_int (a d List.mem_cons_self)
    rw [rep_whole hr fun x hx => a x (List.mem_cons_of_mem _ hx), List.map_cons, List.map_cons]
    rw [e] at hd
    simp only [Rep] at hd
    rw [hd.1, e]
section
variable {P : Program} {w : World} {K : PySem.W.Frag} {mg : Str → Option Value} {base : Heap}
abbrev sIsRow : Stmt := top 28
abbrev sIsTable : Stmt := top 27
theorem scIsRow : FnScope ["value", "name"] ["value"] (defScope sIsRow) := ⟨rfl, rfl, rfl, by decide +kernel, rfl, by decide +kernel, by decide +kernel⟩
theorem scIsTable : FnScope ["n", "value", "row"] ["n", "value"] (defScope sIsTable) := ⟨rfl, rfl, rfl, by decide +kernel, rfl, by decide +kernel, by decide +kernel⟩
def spIsRow (K : PySem.W.Frag) : Sp := fun vs H Q _ => ∃ (x : V) (d : D) (as : List Addr), vs = [x] ∧ Rep K H d x as ∧ wt d ≤ 100000 ∧ ∀ H', Same H H' → Q (.bl (isRowD d)) H'
theorem ok_isRow {f : Addr} {fd : FuncData} (F : Fun K "is_row" "is_row" sIsRow f fd) (B : NoNames mg) (ball : mg "all" = none) {t : Tok} (mB : mg "BEYOND" = some (.int 5 t)) (OB : Own P w K mg base 1 "is_integer_between" ["value", "least", "most"] (spBetween K)) : FnOk P w K mg base CX0 2 f fd ["value"] (spIsRow K) := by
  obtain ⟨fB, fdB, GB, mBe, kB, bB⟩ := OB.ex
  refine F.ok scIsRow (fun vs H Q E h => ?_) (fun cdv A outer s H vs Q E hr h => ?_)
  · obtain ⟨x, d, as, rfl, _⟩ := h
    rfl
  · obtain ⟨x, d, as, rfl, hd, hw, k⟩ := h
    refine ⟨_, pss_cons (ps_if (PW.pt (pw_or (pt_not (pt_val (pe_isi (i := 0) (TN := "tuple") rfl (Or.inl rfl) (by decide) (by decide) B.isi B.tuple rfl rfl (by decide +kernel) (by decide) (by decide))))
        (pw_or1 (pt_not (pt_val (pe_callB (cr_all rfl) (by rfl) ball (by decide +kernel) (pa_cons
          (pe_lc (own := [("name", 1)]) (g := gName 1) (tt := tYes) rfl scIsRow.nd (pi_tup (pv 0)) (blkOk_by (own := [("name", 1)]) (N := ["value", "name"]) (sc := defScope sIsRow) (by decide +kernel))
            (fun _ _ _ _ _ => pg_name (i := 1) scIsRow.nd rfl (Or.inl rfl)) (fun _ _ _ _ _ => pts_nil)
            (fun _ _ _ _ _ => pe_call GB hr rfl mBe kB bB .nil pass0 (pa_cons (pv 1) (pa_cons pe_int (pa_cons (pe_glob (v := .int 5) rfl mB ⟨_, rfl⟩) pa_nil))))) pa_nil))))))) (pss_one (ps_ret pe_bl)) pss_nil) <|
      pss_one (ps_ret (pe_cmpR (op_eqD hr.units) (pe_callB cr_sortedTI (by rfl) B.sorted (by decide +kernel) (pa_cons (pv 0) pa_nil)) (pe_listRg rfl (by rfl) B.list (prg_1 (by rfl) B.range (pe_op op_add (pe_glob (v := .int 5) rfl mB ⟨_, rfl⟩) pe_int))) (nomark _))), ?_⟩
    refine ⟨_, rfl, x, d, as, "tuple", rfl, by decide, hd, _, rfl, ?_⟩
    cases e : isT "tuple" d with
    | false =>
      refine iteT (iteT ?_)
      have := k H (.refl H)
      rw [row_tup e] at this
      exact this
    | true =>
      refine iteF ?_
      obtain ⟨ds, rfl⟩ := tup_of e
      simp only [Rep] at hd
      obtain ⟨p, ys, cs, rfl, hp, ra, nap, rfl⟩ := hd
      have hl := ra.len
      have hsz : ys.length ≤ 100000 := by
        simp only [wt] at hw
        have h2 := wt_len ds
        omega
      refine ⟨_, rfl, p, rfl, ⟨_, SqT.of hp⟩, fun D nD => ?_⟩
      refine lc_it (walk_tup (xs := ys)) (fun j Z => Z D = some (.lst (((ds.take j).map (isWhole 0 5)).map V.bl)) ∧ Same H Z) ⟨upd_same, same_new nD⟩ (fun j Z _ h => SqT.of (h.2 _ _ hp)) ?_ ?_
      · rintro j x Hb Ha hj ⟨h1, h2⟩ ⟨rfl, ex⟩
        obtain ⟨d2, b2, hd2, hr2, _⟩ := ra.at2 ex
        refine ⟨rfl, ?_⟩
        dsimp only [tYes]
        rw [if_pos rfl]
        refine ⟨_, rfl, x, d2, b2, 0, 5, rfl, hr2.same h2, ?_⟩
        refine ⟨_, h1, by rw [List.length_map, List.length_map, List.length_take, sizeLine_eq]; omega, ?_, fun c u ec => ?_⟩
        · rw [upd_same, List.take_add_one, hd2, List.map_append, List.map_append]
          rfl
        · rw [upd_ne (ne_of_none ec nD)]
          exact h2 _ _ ec
      · rintro Ha ⟨h1, h2⟩
        rw [List.take_of_length_le (by omega)] at h1
        refine ⟨D, _, rfl, SqL.of h1, _, rfl, ?_⟩
        have ea : (ds.map (isWhole 0 5)).all id = ds.all (isWhole 0 5) := by
          rw [List.all_map]
          rfl
        rw [ea]
        cases ew : ds.all (isWhole 0 5) with
        | false =>
          refine iteT ?_
          have := k Ha h2
          rw [row_eq, ew] at this
          exact this
        | true =>
          refine iteF ?_
          have ey := rep_whole ra (List.all_eq_true.mp ew)
          have hp2 := h2 _ _ hp
          rw [ey] at hp2
          refine ⟨_, rfl, p, _, rfl, SqT.of hp2, fun ns' q pm srt nq => ⟨_, _, rfl, rfl, 6, rfl, RgOk.of_le (by decide) (by decide) (by decide) (by decide), fun l nl => ?_⟩⟩
          have s3 := same_new (o := .lst (ns'.map V.int)) nq
          have s4 := same_new (o := .lst (rgV 0 6)) nl
          have e6 : rgV 0 6 = six.map V.int := by decide
          refine ⟨.list (ns'.map PyData.int), .list (six.map PyData.int), .lst (SqL.of (s4 _ _ upd_same)) (dp_ints ns'), .lst (SqL.of (by rw [upd_same, e6])) (dp_ints six), PySem.W.ke_shaped_ints ns', PySem.W.ke_shaped_ints six, ?_⟩
          have := k _ (h2.trans (s3.trans s4))
          have eq : isRowD (.tup ds) = PyData.eqv (.list (ns'.map PyData.int)) (.list (six.map PyData.int)) := by
            rw [row_eq, ew, Bool.true_and, PyData.eqv, eqvAll_ints]
            rw [Bool.eq_iff_iff, decide_eq_true_iff, decide_eq_true_iff]
            constructor
            · intro z
              have s6 : six.Pairwise (· ≤ ·) := by decide
              exact (pm.trans z).eq_of_pairwise (fun a b _ _ h1 h2 => by omega) srt s6
            · intro z
              rw [← z]
              exact pm.symm
          rw [eq] at this
          exact this
def spIsTable (K : PySem.W.Frag) : Sp := fun vs H Q _ => ∃ (x : V) (d : D) (as : List Addr), vs = [.int 5, x] ∧ Rep K H d x as ∧ wt d ≤ 100000 ∧ ∀ H', Same H H' → Q (.bl (isTabD d)) H'
theorem ok_isTable {f : Addr} {fd : FuncData} (F : Fun K "is_table" "is_table" sIsTable f fd) (B : NoNames mg) (ball : mg "all" = none) (OR : Own P w K mg base 2 "is_row" ["value"] (spIsRow K)) : FnOk P w K mg base CX0 3 f fd ["n", "value"] (spIsTable K) := by
  obtain ⟨fR, fdR, GR, mR, kR, bR⟩ := OR.ex
  refine F.ok scIsTable (fun vs H Q E h => ?_) (fun cdv A outer s H vs Q E hr h => ?_)
  · obtain ⟨x, d, as, rfl, _⟩ := h
    rfl
  · obtain ⟨x, d, as, rfl, hd, hw, k⟩ := h
    refine ⟨_, pss_one (ps_ret (pe_and (pe_isi (i := 1) (TN := "tuple") rfl (Or.inl rfl) (by decide) (by decide) B.isi B.tuple rfl rfl (by decide +kernel) (by decide) (by decide))
      (pe_and (pe_cmpR op_eq (pe_callB call_len_seq (by rfl) B.len PySem.boot_len (pa_cons (pv 1) pa_nil)) (pv 0) (nomark _)) (pe_one (pe_callB (cr_all rfl) (by rfl) ball (by decide +kernel) (pa_cons
          (pe_lc (own := [("row", 2)]) (g := gName 2) (tt := tYes) rfl scIsTable.nd (pi_tup (pv 1)) (blkOk_by (own := [("row", 2)]) (N := ["n", "value", "row"]) (sc := defScope sIsTable) (by decide +kernel))
            (fun _ _ _ _ _ => pg_name (i := 2) scIsTable.nd rfl (Or.inl rfl)) (fun _ _ _ _ _ => pts_nil)
            (fun _ _ _ _ _ => pe_call GR hr rfl mR kR bR .nil pass0 (pa_cons (pv 2) pa_nil))) pa_nil)))))), ?_⟩
    refine ⟨_, rfl, x, d, as, "tuple", rfl, by decide, hd, _, rfl, ?_⟩
    cases e : isT "tuple" d with
    | false =>
      refine iteF ?_
      have := k H (.refl H)
      rw [tab_tup e] at this
      exact this
    | true =>
      refine iteT ?_
      obtain ⟨ds, rfl⟩ := tup_of e
      simp only [Rep] at hd
      obtain ⟨p, ys, cs, rfl, hp, ra, nap, rfl⟩ := hd
      have hl := ra.len
      simp only [wt] at hw
      refine ⟨_, rfl, p, _, rfl, .inr (SqT.of hp), _, rfl, rfl, _, rfl, ite2 (fun y => ?_) (fun y => ?_)⟩
      · have y : decide (V.int (ys.length : Nat) = V.int 5) = true := y
        have y := V.int.inj (of_decide_eq_true y)
        have l5 : ds.length = 5 := by omega
        refine ⟨_, rfl, p, rfl, ⟨_, SqT.of hp⟩, fun D nD => ?_⟩
        refine lc_it (walk_tup (xs := ys)) (fun j Z => Z D = some (.lst (((ds.take j).map isRowD).map V.bl)) ∧ Same H Z) ⟨upd_same, same_new nD⟩ (fun j Z _ h => SqT.of (h.2 _ _ hp)) ?_ ?_
        · rintro j x Hb Ha hj ⟨h1, h2⟩ ⟨rfl, ex⟩
          obtain ⟨d2, b2, hd2, hr2, _⟩ := ra.at2 ex
          have w2 := wt_mem (List.mem_of_getElem? hd2)
          refine ⟨rfl, ?_⟩
          dsimp only [tYes]
          rw [if_pos rfl]
          refine ⟨_, rfl, x, d2, b2, rfl, hr2.same h2, by omega, fun H3 s3 => ?_⟩
          have h1' := s3 _ _ h1
          refine ⟨_, h1', by rw [List.length_map, List.length_map, List.length_take, sizeLine_eq]; omega, ?_, fun c u ec => ?_⟩
          · rw [upd_same, List.take_add_one, hd2, List.map_append, List.map_append]
            rfl
          · rw [upd_ne (ne_of_none ec nD)]
            exact s3 _ _ (h2 _ _ ec)
        · rintro Ha ⟨h1, h2⟩
          rw [List.take_of_length_le (by omega)] at h1
          refine ⟨D, _, rfl, SqL.of h1, ?_⟩
          have := k Ha h2
          have eq : isTabD (.tup ds) = (ds.map isRowD).all id := by
            rw [tab_eq, decide_eq_true l5, Bool.true_and, List.all_map]
            rfl
          rw [eq] at this
          exact this
      · have n5 : ¬ ds.length = 5 := fun z => y (by
          show decide (V.int (ys.length : Nat) = V.int 5) = true
          rw [hl, z]
          rfl)
        have := k H (.refl H)
        rw [tab_eq, decide_eq_false n5] at this
        exact this
end
/-- a table is one -/
theorem tab_isD {T : List (List Nat)} (h : TabP T) : isTabD (.tup (T.map fun r => .tup ((intR r).map D.int))) = true := by
  rw [tab_eq, List.length_map, h.len, decide_eq_true rfl, Bool.true_and]
  refine List.all_eq_true.mpr fun d hd => ?_
  obtain ⟨r, hr, rfl⟩ := List.mem_map.mp hd
  obtain ⟨v, hv, e⟩ := List.getElem_of_mem hr
  have R : RowP r := by
    have := h.row v (by have := h.len; omega)
    unfold row' at this
    rw [List.getD_eq_getElem?_getD, List.getElem?_eq_getElem hv, e] at this
    exact this
  have e2 : (((intR r).map D.int).map toI) = intR r := by
    rw [List.map_map]
    exact List.map_id _
  rw [row_eq, e2, Bool.and_eq_true]
  refine ⟨List.all_eq_true.mpr fun x hx => ?_, decide_eq_true ?_⟩
  · obtain ⟨i, hi, rfl⟩ := List.mem_map.mp hx
    obtain ⟨k, hk, rfl⟩ := List.mem_map.mp hi
    have := List.mem_range.mp (R.mem_iff.mp hk)
    simp only [isWhole, decide_eq_true_eq, Bool.and_eq_true]
    omega
  · exact List.Perm.map (fun k : Nat => (k : Int)) R
end Sw
namespace Sw
open PySem PySem.Spec PyProof.Rows L2 LamX
/-! ### names_hold -/
theorem tabD_is {T : List (List Nat)} (h : TabP T) : isTabD (tabD T) = true := by
  have := tab_isD h
  unfold tabD lotsI tupI
  rw [List.map_map]
  exact this
section
variable {P : Program} {w : World} {K : PySem.W.Frag} {mg : Str → Option Value} {base : Heap}
abbrev sHold : Stmt := top 24
theorem scHold : FnScope ["net", "value"] ["net", "value"] (defScope sHold) := ⟨rfl, rfl, rfl, by decide +kernel, rfl, by decide +kernel, by decide +kernel⟩
def spHold (tb C D : Addr) (K : PySem.W.Frag) : Sp := fun vs H Q E => ∃ (a b : Addr) (n : Int) (ts : List V) (ars : List (Int × Int)) (x : V) (d : Sw.D), vs = [.ref a, x] ∧ NetAt n H a b ts ∧ ArsAt H ts ars ∧ Tabs (lamT tb) H ∧ Outs tb C D n ars H E ∧
  (∀ H', ExtN H H' → ∃ as, Rep K H' d x as) ∧ wt d ≤ 100000 ∧
  (Joined n ars → KindP n ars "five" → (isTabD d = false ∧ ∀ H', ExtN H H' → Tabs (lamT tb) H' → Q (.bl false) H') ∨
    ∃ (t : Addr) (us : List Addr) (T : List (List Nat)), x = .ref t ∧ d = tabD T ∧ TabAt H t us T ∧ TabP T ∧ ∀ H', ExtN H H' → Tabs (lamT tb) H' → Q (.bl (rightN (ars.map toN) T)) H')
theorem ok_hold {f tb C D : Addr} {fd : FuncData} (F : Fun K "names_hold" "names_hold" sHold f fd) (B : NoNames mg) (OC : OwnX1 P w K mg base 9 "check_five" "net" (spCheck5 tb C D))
    (OT : Own P w K mg base 3 "is_table" ["n", "value"] (spIsTable K)) (OA : Own P w K mg base 5 "are_right" ["net", "table"] spAreRight) : FnOk P w K mg base (L2.CX P w) 10 f fd ["net", "value"] (spHold tb C D K) := by
  obtain ⟨fC, fdC, GC, mC, kC, bC, wC⟩ := OC.ex
  obtain ⟨fT, fdT, GT, mT, kT, bT⟩ := OT.ex
  obtain ⟨fA, fdA, GA, mA, kA, bA⟩ := OA.ex
  refine F.okX scHold (fun vs H Q E h => ?_) (fun cdv A outer s H vs Q E hr h => ?_)
  · obtain ⟨a, b, n, ts, ars, x, d, rfl, _⟩ := h
    rfl
  · obtain ⟨a, b, n, ts, ars, x, d, rfl, N, AR, hT, O, hd, hw, k⟩ := h
    have hr3 := hr.mono (by decide : 3 ≤ 9)
    have hr5 := hr.mono (by decide : 5 ≤ 9)
    refine ⟨_, pss_cons (ps_expr (pe_callS GC hr (by rfl) mC kC bC (fun σ => passAt (takes_of rfl rfl rfl rfl) σ) (pa_cons (pv 0) pa_nil))) <|
      pss_one (ps_ret (pe_and (pe_call GT hr3 rfl mT kT bT .nil pass0 (pa_cons (pe_ix ix_tup (pv 0) pe_int (fun _ _ => rfl)) (pa_cons (pv 1) pa_nil))) (pe_one (pe_call GA hr5 rfl mA kA bA .nil pass0 (pa_cons (pv 0) (pa_cons (pv 1) pa_nil)))))), ?_⟩
    refine ⟨_, rfl, a, b, n, ts, ars, rfl, N, AR, hT, O, fun J KF H1 x1 T1 => ?_⟩
    have kk := k J KF
    obtain rfl := (kind_five KF).1
    have t1 := TupS.extN x1
    have N1 := N.keep t1
    have A1 := AR.keep t1
    obtain ⟨as, hd1⟩ := hd H1 x1
    refine ⟨_, rfl, a, _, 0, .int 5, rfl, rfl, SqT.of N1.a, at_of (j := 0) rfl rfl, _, rfl, x, d, as, rfl, hd1, hw, fun H2 s2 => ⟨_, rfl, ?_⟩⟩
    have x2 := x1.trans (.of s2)
    have T2 := T1.ext s2
    rcases kk with ⟨e, k⟩ | ⟨t, us, T, rfl, rfl, TA, TP, k⟩
    · rw [e]
      exact iteF (k H2 x2 T2)
    · rw [tabD_is TP]
      refine iteT ⟨_, rfl, _, rfl, a, b, t, ts, ars, us, T, rfl, N1.keep (.of s2), A1.keep (.of s2), (TA.keep t1).keep (.of s2), TP, fun H3 s3 => k H3 (x2.trans (.of s3)) (T2.ext s3)⟩
end
end Sw
namespace Sw
open PySem PySem.Spec PyProof.Rows L2
/-! ### the law's ratios -/
theorem cross_is : ∀ x, x < 6 → ∀ y, y < 6 → ∀ z, z < 6 → ∀ t, t < 6 → (1 * difI (x : Nat) (z : Nat) * difI (y : Nat) (t : Nat)) * (1 * difI (x : Nat) (t : Nat) * difI (y : Nat) (z : Nat)) * (1 * difI (x : Nat) (t : Nat) * difI (y : Nat) (z : Nat)) * (1 * difI (x : Nat) (t : Nat) * difI (y : Nat) (z : Nat)) % 5 = ((ratN x y z t : Nat) : Int) := by decide +kernel
theorem dif_in {a b : Int} : (5 : Int) ∈ [a, b] → difI a b = 1 := fun c => by
  unfold difI
  rw [if_pos]
  simp only [List.mem_cons, List.not_mem_nil, or_false] at c
  rcases c with c | c
  · exact .inl c.symm
  · exact .inr c.symm
theorem dif_out {a b : Int} : (5 : Int) ∉ [a, b] → difI a b = a - b := fun c => by
  unfold difI
  rw [if_neg]
  rintro (z | z)
  · exact c (by rw [z]; exact List.mem_cons_self)
  · exact c (by rw [z]; exact List.mem_cons_of_mem _ List.mem_cons_self)
def upto (ps : List (Nat × Nat)) : Int := ps.foldl (fun u p => u * difI (p.1 : Nat) (p.2 : Nat)) 1
section
variable {P : Program} {w : World} {K : PySem.W.Frag} {mg : Str → Option Value} {base : Heap}
abbrev sShare : Stmt := top 41
abbrev sCross : Stmt := top 42
abbrev sIsBending : Stmt := top 43
abbrev sMoved : Stmt := top 44
abbrev nCross : List Str := ["x", "y", "z", "t", "above", "below", "one", "other"]
theorem scShare : FnScope ["above", "below"] ["above", "below"] (defScope sShare) := ⟨rfl, rfl, rfl, by decide +kernel, rfl, by decide +kernel, by decide +kernel⟩
theorem scCross : FnScope nCross ["x", "y", "z", "t"] (defScope sCross) := ⟨rfl, rfl, rfl, by decide +kernel, rfl, by decide +kernel, by decide +kernel⟩
theorem scIsBending : FnScope ["goals", "x"] ["goals"] (defScope sIsBending) := ⟨rfl, rfl, rfl, by decide +kernel, rfl, by decide +kernel, by decide +kernel⟩
theorem scMoved : FnScope ["place", "v"] ["place", "v"] (defScope sMoved) := ⟨rfl, rfl, rfl, by decide +kernel, rfl, by decide +kernel, by decide +kernel⟩
theorem mul_lt {a b m k : Int} (ha : -m < a ∧ a < m) (hb : -k < b ∧ b < k) : -(m * k) < a * b ∧ a * b < m * k := by
  have h : a.natAbs * b.natAbs < m.natAbs * k.natAbs := Nat.mul_lt_mul'' (by omega) (by omega)
  rw [← Int.natAbs_mul, ← Int.natAbs_mul] at h
  have hm : 0 < m * k := Int.mul_pos (by omega) (by omega)
  omega
def spShare : Sp := fun vs H Q _ => ∃ u l : Int, vs = [.int u, .int l] ∧ (-1000 < u ∧ u < 1000) ∧ (-1000 < l ∧ l < 1000) ∧ Q (.int (u * l * l * l % 5)) H
theorem ok_share {f : Addr} {fd : FuncData} (F : Fun K "_law_share" "_law_share" sShare f fd) (B : NoNames mg) : FnOk P w K mg base CX0 1 f fd ["above", "below"] spShare := by
  refine F.ok scShare (fun vs H Q E h => ?_) (fun cdv A outer s H vs Q E hr h => ?_)
  · obtain ⟨u, l, rfl, _⟩ := h
    rfl
  · obtain ⟨u, l, rfl, hu, hl, k⟩ := h
    refine ⟨_, pss_one (ps_ret (pe_op (r := rI (fun _ j => 0 < j) fun i j => .int (i % j)) op_mod (pe_callTy call_int1 (by rfl) B.int (by decide +kernel) (pa_cons (pe_op op_mul (pe_op op_mul (pe_op op_mul (pv 0) (pv 1)) (pv 1)) (pv 1)) pa_nil)) pe_int)), ?_⟩
    have m1 := mul_lt hu hl
    have m2 := mul_lt m1 hl
    exact ⟨_, rfl, _, rfl, _, _, rfl, rfl, .inl ⟨by omega, by omega⟩, _, rfl, _, _, rfl, rfl, .inl ⟨by omega, by omega⟩, _, rfl, _, _, rfl, rfl, .inl ⟨by omega, by omega⟩, .inl ⟨_, rfl, _, _, rfl, rfl, by show (0 : Int) < 5; decide, k⟩⟩
def spMoved : Sp := fun vs H Q _ => ∃ p v : Nat, vs = [.int (p : Nat), .int (v : Nat)] ∧ Q (.int (mvN v p : Nat)) H
theorem ok_moved {f : Addr} {fd : FuncData} (F : Fun K "_law_moved" "_law_moved" sMoved f fd) (B : NoNames mg) : FnOk P w K mg base CX0 1 f fd ["place", "v"] spMoved := by
  refine F.ok scMoved (fun vs H Q E h => ?_) (fun cdv A outer s H vs Q E hr h => ?_)
  · obtain ⟨p, v, rfl, _⟩ := h
    rfl
  · obtain ⟨p, v, rfl, k⟩ := h
    refine ⟨_, pss_one (ps_ret (pe_ifExp (pt_cmpR op_eq (pv 0) (pv 1) (nomark _)) pe_int (pe_ifExp (pt_cmpR op_eq (pv 0) pe_int (nomark _)) (pv 1) (pv 0)))), ?_⟩
    unfold mvN at k
    refine ⟨_, rfl, _, rfl, rfl, _, rfl, ite2 (fun y => ?_) (fun y => ?_)⟩
    · have y : decide (V.int (p : Nat) = V.int (v : Nat)) = true := y
      have y := V.int.inj (of_decide_eq_true y)
      rw [beq_iff_eq.mpr (show p = v by omega)] at k
      exact k
    · have y : ¬ p = v := fun z => y (by
        show decide (V.int (p : Nat) = V.int (v : Nat)) = true
        rw [z]
        exact decide_eq_true rfl)
      rw [beq_false_of_ne y] at k
      refine ⟨_, rfl, rfl, _, rfl, ite2 (fun y => ?_) (fun y => ?_)⟩
      · have y : decide (V.int (p : Nat) = V.int 5) = true := y
        have y := V.int.inj (of_decide_eq_true y)
        rw [beq_iff_eq.mpr (show p = 5 by omega)] at k
        exact ⟨_, rfl, k⟩
      · have y : ¬ p = 5 := fun z => y (by
          show decide (V.int (p : Nat) = V.int 5) = true
          rw [z]
          exact decide_eq_true rfl)
        rw [beq_false_of_ne y] at k
        exact ⟨_, rfl, k⟩
def spCross : Sp := fun vs H Q _ => ∃ x y z t : Nat, vs = [.int (x : Nat), .int (y : Nat), .int (z : Nat), .int (t : Nat)] ∧ x < 6 ∧ y < 6 ∧ z < 6 ∧ t < 6 ∧ ∀ H', Same H H' → Q (.int (ratN x y z t : Nat)) H'
theorem two_at {H : Hp} {t1 t2 : Addr} {a1 b1 a2 b2 : Nat} {j : Nat} {x : V} (h1 : H t1 = some (.tup [.int (a1 : Nat), .int (b1 : Nat)])) (h2 : H t2 = some (.tup [.int (a2 : Nat), .int (b2 : Nat)])) (e : ([V.ref t1, .ref t2])[j]? = some x) :
    ∃ (t : Addr) (p : Nat × Nat), x = .ref t ∧ H t = some (.tup [.int (p.1 : Nat), .int (p.2 : Nat)]) ∧ [(a1, b1), (a2, b2)][j]? = some p := by
  match j, e with
  | 0, e => exact ⟨t1, (a1, b1), (Option.some.inj e).symm, h1, rfl⟩
  | 1, e => exact ⟨t2, (a2, b2), (Option.some.inj e).symm, h2, rfl⟩
theorem upto_le {ps : List (Nat × Nat)} (h : ∀ p ∈ ps, p.1 < 6 ∧ p.2 < 6) (l : ps.length = 2) : ∀ j, j < 2 → -10 < upto (ps.take j) ∧ upto (ps.take j) < 10 := by
  match ps, l with
  | [p, q], _ =>
    intro j hj
    have hp := h p List.mem_cons_self
    have := dif_le hp.1 hp.2
    match j, hj with
    | 0, _ =>
      show (-10 : Int) < 1 ∧ (1 : Int) < 10
      omega
    | 1, _ =>
      show -10 < 1 * difI _ _ ∧ 1 * difI _ _ < 10
      rw [Int.one_mul]
      omega
theorem ok_cross {f : Addr} {fd : FuncData} (F : Fun K "_law_cross" "_law_cross" sCross f fd) (B : NoNames mg) (OS : Own P w K mg base 1 "_law_share" ["above", "below"] spShare) : FnOk P w K mg base CX0 2 f fd ["x", "y", "z", "t"] spCross := by
  obtain ⟨fS, fdS, GS, mS, kS, bS⟩ := OS.ex
  refine F.ok scCross (fun vs H Q E h => ?_) (fun cdv A outer s H vs Q E hr h => ?_)
  · obtain ⟨x, y, z, t, rfl, _⟩ := h
    rfl
  · obtain ⟨x, y, z, t, rfl, hx, hy, hz, ht, k⟩ := h
    refine ⟨_, pss_cons (ps_asg (pe_tup (pa_cons pe_int (pa_cons pe_int pa_nil))) (pg_tup (by rfl) (pgs_cons (pg_name (i := 4) scCross.nd rfl (.inl rfl)) (pgs_cons (pg_name (i := 5) scCross.nd rfl (.inl rfl)) pgs_nil)))) <|
      pss_cons (ps_for PassesOwn.never rfl (pi_tup (pe_tup (pa_cons (pe_tup (pa_cons (pv 0) (pa_cons (pv 2) pa_nil))) (pa_cons (pe_tup (pa_cons (pv 1) (pa_cons (pv 3) pa_nil))) pa_nil)))) (pg_tup rfl (pgs_cons (pg_name (i := 6) scCross.nd rfl (.inl rfl)) (pgs_cons (pg_name (i := 7) scCross.nd rfl (.inl rfl)) pgs_nil)))
        (pss_one (ps_set (i := 4) scCross.nd rfl (.inl rfl) (pe_ifExp (pt_cmpR (r := rIn K true) op_notIn_seq pe_int (pe_tup (pa_cons (pv 6) (pa_cons (pv 7) pa_nil))) (by with_unfolding_all rfl)) (pe_op op_mul (pv 4) (pe_op op_sub (pv 6) (pv 7))) (pv 4))))) <|
      pss_cons (ps_for PassesOwn.never rfl (pi_tup (pe_tup (pa_cons (pe_tup (pa_cons (pv 0) (pa_cons (pv 3) pa_nil))) (pa_cons (pe_tup (pa_cons (pv 1) (pa_cons (pv 2) pa_nil))) pa_nil)))) (pg_tup rfl (pgs_cons (pg_name (i := 6) scCross.nd rfl (.inl rfl)) (pgs_cons (pg_name (i := 7) scCross.nd rfl (.inl rfl)) pgs_nil)))
        (pss_one (ps_set (i := 5) scCross.nd rfl (.inl rfl) (pe_ifExp (pt_cmpR (r := rIn K true) op_notIn_seq pe_int (pe_tup (pa_cons (pv 6) (pa_cons (pv 7) pa_nil))) (by with_unfolding_all rfl)) (pe_op op_mul (pv 5) (pe_op op_sub (pv 6) (pv 7))) (pv 5))))) <|
      pss_one (ps_ret (pe_call GS hr rfl mS kS bS .nil pass0 (pa_cons (pv 4) (pa_cons (pv 5) pa_nil)))), ?_⟩
    refine ⟨by show 2 ≤ sizeLine; decide, fun T0 nT0 => ⟨T0, _, rfl, SqT.of upd_same, rfl, _, _, rfl, _, _, rfl, rfl, ?_⟩⟩
    have s00 := same_new (o := .tup [.int 1, .int 1]) nT0
    have k : ∀ H', Same (upd H T0 (.tup [.int 1, .int 1])) H' → Q (.int (ratN x y z t : Nat)) H' := fun H' s => k H' (s00.trans s)
    generalize (upd H T0 (.tup [.int 1, .int 1])) = H at k ⊢
    clear s00 nT0
    refine ⟨_, rfl, _, rfl, by show 2 ≤ sizeLine; decide, fun t1 n1 => ⟨_, rfl, _, rfl, by show 2 ≤ sizeLine; decide, fun t2 n2 => ⟨by show 2 ≤ sizeLine; decide, fun T nT => ?_⟩⟩⟩
    have z1 := same_new (o := .tup [.int (x : Nat), .int (z : Nat)]) n1
    have z2 := same_new (o := .tup [.int (y : Nat), .int (t : Nat)]) n2
    have z3 := same_new (o := .tup [.ref t1, .ref t2]) nT
    have h1 := z3 _ _ (z2 _ _ (upd_same (H := H) (a := t1) (o := .tup [.int (x : Nat), .int (z : Nat)])))
    have h2 := z3 _ _ (upd_same (H := upd H t1 (.tup [.int (x : Nat), .int (z : Nat)])) (a := t2) (o := .tup [.int (y : Nat), .int (t : Nat)]))
    have hT := (upd_same (H := upd (upd H t1 (.tup [.int (x : Nat), .int (z : Nat)])) t2 (.tup [.int (y : Nat), .int (t : Nat)])) (a := T) (o := .tup [.ref t1, .ref t2]))
    have sA := z1.trans (z2.trans z3)
    generalize (upd (upd (upd H t1 (.tup [.int (x : Nat), .int (z : Nat)])) t2 (.tup [.int (y : Nat), .int (t : Nat)])) T (.tup [.ref t1, .ref t2])) = H1 at h1 h2 hT sA ⊢
    have b1 : ∀ p ∈ [(x, z), (y, t)], p.1 < 6 ∧ p.2 < 6 := by
      intro p hp
      simp only [List.mem_cons, List.not_mem_nil, or_false] at hp
      rcases hp with rfl | rfl
      · exact ⟨hx, hz⟩
      · exact ⟨hy, ht⟩
    have b2 : ∀ p ∈ [(x, t), (y, z)], p.1 < 6 ∧ p.2 < 6 := by
      intro p hp
      simp only [List.mem_cons, List.not_mem_nil, or_false] at hp
      rcases hp with rfl | rfl
      · exact ⟨hx, ht⟩
      · exact ⟨hy, hz⟩
    refine ⟨T, rfl, ⟨_, SqT.of hT⟩, for_it (walk_tup (xs := [.ref t1, .ref t2])) (fun j σ Z => ∃ s6 s7 : Option V, σ = [some (.int (x : Nat)), some (.int (y : Nat)), some (.int (z : Nat)), some (.int (t : Nat)), some (.int (upto ([(x, z), (y, t)].take j))), some (.int 1), s6, s7] ∧ Same H1 Z)
      ⟨_, _, rfl, .refl _⟩ (fun j σ Z _ h => by obtain ⟨_, _, _, h⟩ := h; exact SqT.of (h _ _ hT)) ?_ ?_⟩
    · rintro j v σ Hb Hc hj ⟨s6, s7, rfl, s1⟩ ⟨rfl, ex⟩
      obtain ⟨tt, p, rfl, htt, ep⟩ := two_at (s1 _ _ h1) (s1 _ _ h2) ex
      have bp := b1 p (List.mem_of_getElem? ep)
      have bu := upto_le b1 rfl j hj
      have eu : upto ([(x, z), (y, t)].take (j + 1)) = upto ([(x, z), (y, t)].take j) * difI (p.1 : Nat) (p.2 : Nat) := by
        unfold upto
        rw [List.take_add_one, ep, List.foldl_append]
        rfl
      rw [eu]
      refine ⟨tt, _, rfl, SqT.of htt, rfl, _, _, rfl, _, _, rfl, rfl, ?_⟩
      refine ⟨_, rfl, _, rfl, by show 2 ≤ sizeLine; decide, fun q nq => ?_⟩
      have sq := s1.trans (same_new (o := .tup [.int (p.1 : Nat), .int (p.2 : Nat)]) nq)
      refine ⟨q, _, rfl, .inr (SqT.of upd_same), rfl, rfl, _, rfl, ite2 (fun c => ?_) (fun c => ?_)⟩
      · have c : (5 : Int) ∉ [(p.1 : Int), (p.2 : Int)] := fun m => by
          have m : inV (.int 5) ([(p.1 : Int), (p.2 : Int)].map V.int) = true := inV_oi.mpr m
          have c : (!inV (.int 5) ([(p.1 : Int), (p.2 : Int)].map V.int)) = true := c
          rw [m] at c
          cases c
        rw [dif_out c]
        exact ⟨_, rfl, _, rfl, _, rfl, _, _, rfl, rfl, _, _, rfl, rfl, .inl ⟨by omega, by omega⟩, _, _, rfl, sq⟩
      · have c : (5 : Int) ∈ [(p.1 : Int), (p.2 : Int)] := by
          by_cases m : (5 : Int) ∈ [(p.1 : Int), (p.2 : Int)]
          · exact m
          · refine (c ?_).elim
            show (!inV (.int 5) ([(p.1 : Int), (p.2 : Int)].map V.int)) = true
            cases q : inV (.int 5) ([(p.1 : Int), (p.2 : Int)].map V.int) with
            | false => rfl
            | true => exact (m (inV_oi.mp q)).elim
        rw [dif_in c, Int.mul_one]
        exact ⟨_, rfl, _, _, rfl, sq⟩
    · rintro σ H2 ⟨s6, s7, rfl, s1⟩
      have sB := sA.trans s1
      clear h1 h2 hT sA s1 z1 z2 z3 n1 n2 nT
      refine ⟨_, rfl, _, rfl, by show 2 ≤ sizeLine; decide, fun t1 n1 => ⟨_, rfl, _, rfl, by show 2 ≤ sizeLine; decide, fun t2 n2 => ⟨by show 2 ≤ sizeLine; decide, fun T nT => ?_⟩⟩⟩
      have z1 := same_new (o := .tup [.int (x : Nat), .int (t : Nat)]) n1
      have z2 := same_new (o := .tup [.int (y : Nat), .int (z : Nat)]) n2
      have z3 := same_new (o := .tup [.ref t1, .ref t2]) nT
      have h1 := z3 _ _ (z2 _ _ (upd_same (H := H2) (a := t1) (o := .tup [.int (x : Nat), .int (t : Nat)])))
      have h2 := z3 _ _ (upd_same (H := upd H2 t1 (.tup [.int (x : Nat), .int (t : Nat)])) (a := t2) (o := .tup [.int (y : Nat), .int (z : Nat)]))
      have hT := (upd_same (H := upd (upd H2 t1 (.tup [.int (x : Nat), .int (t : Nat)])) t2 (.tup [.int (y : Nat), .int (z : Nat)])) (a := T) (o := .tup [.ref t1, .ref t2]))
      have sA := sB.trans (z1.trans (z2.trans z3))
      generalize (upd (upd (upd H2 t1 (.tup [.int (x : Nat), .int (t : Nat)])) t2 (.tup [.int (y : Nat), .int (z : Nat)])) T (.tup [.ref t1, .ref t2])) = H3 at h1 h2 hT sA ⊢
      refine ⟨T, rfl, ⟨_, SqT.of hT⟩, for_it (walk_tup (xs := [.ref t1, .ref t2])) (fun j σ Z => ∃ s6 s7 : Option V, σ = [some (.int (x : Nat)), some (.int (y : Nat)), some (.int (z : Nat)), some (.int (t : Nat)), some (.int (upto [(x, z), (y, t)])), some (.int (upto ([(x, t), (y, z)].take j))), s6, s7] ∧ Same H3 Z)
        ⟨_, _, rfl, .refl _⟩ (fun j σ Z _ h => by obtain ⟨_, _, _, h⟩ := h; exact SqT.of (h _ _ hT)) ?_ ?_⟩
      · rintro j v σ Hb Hc hj ⟨s6, s7, rfl, s1⟩ ⟨rfl, ex⟩
        obtain ⟨tt, p, rfl, htt, ep⟩ := two_at (s1 _ _ h1) (s1 _ _ h2) ex
        have bp := b2 p (List.mem_of_getElem? ep)
        have bu := upto_le b2 rfl j hj
        have eu : upto ([(x, t), (y, z)].take (j + 1)) = upto ([(x, t), (y, z)].take j) * difI (p.1 : Nat) (p.2 : Nat) := by
          unfold upto
          rw [List.take_add_one, ep, List.foldl_append]
          rfl
        rw [eu]
        refine ⟨tt, _, rfl, SqT.of htt, rfl, _, _, rfl, _, _, rfl, rfl, ?_⟩
        refine ⟨_, rfl, _, rfl, by show 2 ≤ sizeLine; decide, fun q nq => ?_⟩
        have sq := s1.trans (same_new (o := .tup [.int (p.1 : Nat), .int (p.2 : Nat)]) nq)
        refine ⟨q, _, rfl, .inr (SqT.of upd_same), rfl, rfl, _, rfl, ite2 (fun c => ?_) (fun c => ?_)⟩
        · have c : (5 : Int) ∉ [(p.1 : Int), (p.2 : Int)] := fun m => by
            have m : inV (.int 5) ([(p.1 : Int), (p.2 : Int)].map V.int) = true := inV_oi.mpr m
            have c : (!inV (.int 5) ([(p.1 : Int), (p.2 : Int)].map V.int)) = true := c
            rw [m] at c
            cases c
          rw [dif_out c]
          exact ⟨_, rfl, _, rfl, _, rfl, _, _, rfl, rfl, _, _, rfl, rfl, .inl ⟨by omega, by omega⟩, _, _, rfl, sq⟩
        · have c : (5 : Int) ∈ [(p.1 : Int), (p.2 : Int)] := by
            by_cases m : (5 : Int) ∈ [(p.1 : Int), (p.2 : Int)]
            · exact m
            · refine (c ?_).elim
              show (!inV (.int 5) ([(p.1 : Int), (p.2 : Int)].map V.int)) = true
              cases q : inV (.int 5) ([(p.1 : Int), (p.2 : Int)].map V.int) with
              | false => rfl
              | true => exact (m (inV_oi.mp q)).elim
          rw [dif_in c, Int.mul_one]
          exact ⟨_, rfl, _, _, rfl, sq⟩
      · rintro σ H4 ⟨s6, s7, rfl, s1⟩
        have d1 := dif_le hx hz
        have d2 := dif_le hy ht
        have d3 := dif_le hx ht
        have d4 := dif_le hy hz
        have e1 : upto [(x, z), (y, t)] = 1 * difI (x : Nat) (z : Nat) * difI (y : Nat) (t : Nat) := rfl
        have e2 : upto ([(x, t), (y, z)].take 2) = 1 * difI (x : Nat) (t : Nat) * difI (y : Nat) (z : Nat) := rfl
        have m1 := mul_le d1 d2
        have m2 := mul_le d3 d4
        refine ⟨_, rfl, _, rfl, _, _, rfl, ?_, ?_, ?_⟩
        · rw [e1, Int.one_mul]
          omega
        · show _ < upto ([(x, t), (y, z)].take 2) ∧ upto ([(x, t), (y, z)].take 2) < _
          rw [e2, Int.one_mul]
          omega
        · have := k H4 (sA.trans s1)
          rw [← cross_is x hx y hy z hz t ht] at this
          exact this
def spIsBending : Sp := fun vs H Q _ => ∃ (a : Addr) (g : List Nat), vs = [.ref a] ∧ H a = some (.lst ((intR g).map V.int)) ∧ RowP g ∧ ∀ H', Same H H' → Q (.bl (bendB g)) H'
theorem ok_isBending {f : Addr} {fd : FuncData} (F : Fun K "_law_is_bending" "_law_is_bending" sIsBending f fd) (B : NoNames mg) (OC : Own P w K mg base 2 "_law_cross" ["x", "y", "z", "t"] spCross) : FnOk P w K mg base CX0 3 f fd ["goals"] spIsBending := by
  obtain ⟨fC, fdC, GC, mC, kC, bC⟩ := OC.ex
  refine F.ok scIsBending (fun vs H Q E h => ?_) (fun cdv A outer s H vs Q E hr h => ?_)
  · obtain ⟨a, g, rfl, _⟩ := h
    rfl
  · obtain ⟨a, g, rfl, ha, R, k⟩ := h
    have l := R.len
    refine ⟨_, pss_cons (ps_if (pt_cmpR (op_neD hr.units) (pe_callB cr_sortedI (by rfl) B.sorted (by decide +kernel) (pa_cons (pv 0) pa_nil)) (pe_lst (pa_cons pe_int (pa_cons pe_int (pa_cons pe_int (pa_cons pe_int (pa_cons pe_int (pa_cons pe_int pa_nil))))))) (nomark _)) (pss_one (ps_ret pe_bl)) pss_nil) <|
      pss_cons (ps_for PassesOwn.never rfl (pi_tup (pe_tup (pa_cons pe_int (pa_cons pe_int (pa_cons pe_int pa_nil))))) (pg_name (i := 1) scIsBending.nd rfl (.inl rfl))
        (pss_one (ps_if (pt_cmpR op_ne (pe_call GC hr rfl mC kC bC .nil pass0 (pa_cons (pe_ix ix_list (pv 0) pe_int (fun _ _ => rfl)) (pa_cons (pe_ix ix_list (pv 0) pe_int (fun _ _ => rfl)) (pa_cons (pe_ix ix_list (pv 0) pe_int (fun _ _ => rfl)) (pa_cons (pe_ix ix_list (pv 0) (pv 1) (fun _ _ => rfl)) pa_nil)))))
          (pe_call GC hr rfl mC kC bC .nil pass0 (pa_cons pe_int (pa_cons pe_int (pa_cons pe_int (pa_cons (pv 1) pa_nil))))) (nomark _)) (pss_one (ps_ret pe_bl)) pss_nil))) <|
      pss_one (ps_ret pe_bl), ?_⟩
    refine ⟨_, rfl, a, _, rfl, SqL.of ha, fun ns' q pm srt nq => ⟨by show 6 ≤ sizeLine; decide, fun e ne => ?_⟩⟩
    have s1 := same_new (o := .lst (ns'.map V.int)) nq
    have s2 := same_new (o := .lst [.int 0, .int 1, .int 2, .int 3, .int 4, .int 5]) ne
    have e6 : ns' = six := by
      have s6 : six.Pairwise (· ≤ ·) := by decide
      have p6 : (intR g).Perm six := List.Perm.map (fun k : Nat => (k : Int)) R
      exact (pm.trans p6).eq_of_pairwise (fun a b _ _ h1 h2 => by omega) srt s6
    subst e6
    refine ⟨.list (six.map PyData.int), .list (six.map PyData.int), .lst (SqL.of (s2 _ _ upd_same)) (dp_ints six), .lst (SqL.of upd_same) (dp_ints six), PySem.W.ke_shaped_ints six, PySem.W.ke_shaped_ints six, _, rfl, ?_⟩
    rw [PyData.eqv, eqvAll_ints, decide_eq_true rfl]
    refine iteF ?_
    have s3 := s1.trans s2
    generalize (upd (upd H q (.lst (six.map V.int))) e (.lst [.int 0, .int 1, .int 2, .int 3, .int 4, .int 5])) = H2 at s3 ⊢
    refine ⟨by show 3 ≤ sizeLine; decide, fun T nT => ?_⟩
    have s4 := s3.trans (same_new (o := .tup [.int 2, .int 3, .int 4]) nT)
    have hT := (upd_same (H := H2) (a := T) (o := .tup [.int 2, .int 3, .int 4]))
    generalize (upd H2 T (.tup [.int 2, .int 3, .int 4])) = H3 at s4 hT ⊢
    refine ⟨T, rfl, ⟨_, SqT.of hT⟩, for_it (walk_tup (xs := [.int 2, .int 3, .int 4])) (fun j σ Z => ∃ s1 : Option V, σ = [some (.ref a), s1] ∧ Same H3 Z ∧ ([2, 3, 4].take j).all (fun x => ratN (ap g 0) (ap g 1) (ap g 5) (ap g x) == ratN 0 1 5 x) = true)
      ⟨_, rfl, .refl _, rfl⟩ (fun j σ Z _ h => by obtain ⟨_, _, h, _⟩ := h; exact SqT.of (h _ _ hT)) ?_ ?_⟩
    · rintro j x σ Hb Hc hj ⟨s1', rfl, s5, al⟩ ⟨rfl, ex⟩
      obtain ⟨p, rfl, ep, hp⟩ : ∃ p : Nat, x = .int (p : Nat) ∧ [2, 3, 4][j]? = some p ∧ p < 6 := by
        match j, ex with
        | 0, ex => exact ⟨2, (Option.some.inj ex).symm, rfl, by decide⟩
        | 1, ex => exact ⟨3, (Option.some.inj ex).symm, rfl, by decide⟩
        | 2, ex => exact ⟨4, (Option.some.inj ex).symm, rfl, by decide⟩
      have ha2 := s5 _ _ (s4 _ _ ha)
      refine ⟨_, rfl, a, _, 0, _, rfl, rfl, SqL.of ha2, at_row (p := 0) (by omega), _, rfl, a, _, 1, _, rfl, rfl, SqL.of ha2, at_row (p := 1) (by omega), _, rfl, a, _, 5, _, rfl, rfl, SqL.of ha2, at_row (p := 5) (by omega), _, rfl, _, rfl, a, _, (p : Nat), _, rfl, rfl, SqL.of ha2, at_row (by omega), _, _, _, _, rfl, R.lt (by decide), R.lt (by decide), R.lt (by decide), R.lt hp, fun H4 s6 => ?_⟩
      refine ⟨_, rfl, 0, 1, 5, p, rfl, by decide, by decide, by decide, hp, fun H5 s7 => ⟨rfl, _, rfl, ite2 (fun y => ?_) (fun y => ?_)⟩⟩
      · have y : (!decide (V.int (ratN (ap g 0) (ap g 1) (ap g 5) (ap g p) : Nat) = V.int (ratN 0 1 5 p : Nat))) = true := y
        have := k H5 (s4.trans (s5.trans (s6.trans s7)))
        have eb : bendB g = false := by
          cases c : bendB g with
          | false => rfl
          | true =>
            have c := List.all_eq_true.mp c p (List.mem_of_getElem? ep)
            rw [beq_iff_eq.mp c, decide_eq_true rfl] at y
            cases y
        rw [eb] at this
        exact this
      · refine ⟨_, rfl, s5.trans (s6.trans s7), ?_⟩
        rw [List.take_add_one, ep, List.all_append, al, Bool.true_and]
        show (ratN _ _ _ _ == ratN _ _ _ _ && true) = true
        rw [Bool.and_true]
        cases c : (ratN (ap g 0) (ap g 1) (ap g 5) (ap g p) == ratN 0 1 5 p) with
        | true => rfl
        | false =>
          refine (y ?_).elim
          show (!decide (V.int (ratN (ap g 0) (ap g 1) (ap g 5) (ap g p) : Nat) = V.int (ratN 0 1 5 p : Nat))) = true
          rw [decide_eq_false fun z => by
            have z := V.int.inj z
            rw [beq_iff_eq.mpr (show ratN (ap g 0) (ap g 1) (ap g 5) (ap g p) = ratN 0 1 5 p by omega)] at c
            cases c]
          rfl
    · rintro σ Hb ⟨s1', rfl, s5, al⟩
      have := k Hb (s4.trans s5)
      have eb : bendB g = true := al
      rw [eb] at this
      exact this
end
end Sw
namespace Sw
open PySem PySem.Spec PyProof.Rows L2
/-! ### _law_are_names -/
def goalsK (a b : List Nat) (v k : Nat) : List Nat := (List.range k).foldl (fun g p => g.set (ap a p) (ap b (mvN v p))) [0, 0, 0, 0, 0, 0]
theorem goalsK_succ (a b : List Nat) (v k : Nat) : goalsK a b v (k + 1) = (goalsK a b v k).set (ap a k) (ap b (mvN v k)) := by
  unfold goalsK
  rw [List.range_succ, List.foldl_append]
  rfl
theorem goalsK_len (a b : List Nat) (v : Nat) : ∀ k, (goalsK a b v k).length = 6
  | 0 => rfl
  | k + 1 => by rw [goalsK_succ, List.length_set, goalsK_len a b v k]
section
variable {P : Program} {w : World} {K : PySem.W.Frag} {mg : Str → Option Value} {base : Heap}
abbrev sAreNames : Stmt := top 45
abbrev nAreNames : List Str := ["net", "value", "row", "own", "v", "w", "goals", "place"]
theorem scAreNames : FnScope nAreNames ["net", "value"] (defScope sAreNames) := ⟨rfl, rfl, rfl, by decide +kernel, rfl, by decide +kernel, by decide +kernel⟩
theorem rep_int1 {K : PySem.W.Frag} {H : Hp} (i : Int) : Rep K H (.int i) (.int i) [] := by
  simp [Rep]
def spAreNames : Sp := fun vs H Q _ => ∃ (a b t : Addr) (ts : List V) (ars : List (Int × Int)) (us : List Addr) (T : List (List Nat)), vs = [.ref a, .ref t] ∧ NetAt 5 H a b ts ∧ ArsAt H ts ars ∧ TabAt H t us T ∧ TabP T ∧ ∀ H', Same H H' → Q (.bl (namesN (ars.map toN) T)) H'
theorem ok_areNames {f : Addr} {fd : FuncData} (F : Fun K "_law_are_names" "_law_are_names" sAreNames f fd) (B : NoNames mg) (OM : Own P w K mg base 1 "_law_moved" ["place", "v"] spMoved) (OB : Own P w K mg base 3 "_law_is_bending" ["goals"] spIsBending) : FnOk P w K mg base CX0 4 f fd ["net", "value"] spAreNames := by
  obtain ⟨fM, fdM, GM, mM, kM, bM⟩ := OM.ex
  obtain ⟨fB, fdB, GB, mB, kB, bB⟩ := OB.ex
  refine F.ok scAreNames (fun vs H Q E h => ?_) (fun cdv A outer s H vs Q E hr h => ?_)
  · obtain ⟨a, b, t, ts, ars, us, T, rfl, _⟩ := h
    rfl
  · obtain ⟨a, b, t, ts, ars, us, T, rfl, N, AR, TA, TP, k⟩ := h
    have hr1 := hr.mono (by decide : 1 ≤ 3)
    obtain ⟨AP, en⟩ := ars_nat N.arr AR rfl
    have ln := AR.len
    have lN := N.len
    have lus := TA.rows.len
    rw [List.length_map, TP.len] at lus
    refine ⟨_, pss_cons (ps_if (PW.pt (pw_or (pt_not (pt_val (pe_isi (i := 1) (TN := "tuple") rfl (Or.inl rfl) (by decide) (by decide) B.isi B.tuple rfl rfl (by decide +kernel) (by decide) (by decide))))
        (pw_or1 (pt_cmpR op_ne (pe_callB call_len_seq (by rfl) B.len PySem.boot_len (pa_cons (pv 1) pa_nil)) pe_int (nomark _))))) (pss_one (ps_ret pe_bl)) pss_nil) <|
      pss_cons (ps_for PassesOwn.never rfl (pi_tup (pv 1)) (pg_name (i := 2) scAreNames.nd rfl (.inl rfl))
        (pss_cons (ps_if (PW.pt (pw_or (pt_not (pt_val (pe_isi (i := 2) (TN := "tuple") rfl (Or.inl rfl) (by decide) (by decide) B.isi B.tuple rfl rfl (by decide +kernel) (by decide) (by decide))))
          (pw_or1 (pt_cmpR op_ne (pe_callB call_len_seq (by rfl) B.len PySem.boot_len (pa_cons (pv 2) pa_nil)) pe_int (nomark _))))) (pss_one (ps_ret pe_bl)) pss_nil) <|
         pss_cons (ps_if (pt_cmpR (op_neD hr.units) (pe_lc (own := [("own", 3)]) (g := gName 3) (tt := tOr (tB (tCB (rIsD K) (tCons (tVar 3) (tCons (tC (.ty "bool")) tNil)))) (tNot (tB (tCB (rIsD K) (tCons (tVar 3) (tCons (tC (.ty "int")) tNil)))))) (te := tC (.int 1)) rfl scAreNames.nd (pi_tup (pv 2)) (blkOk_by (own := [("own", 3)]) (N := nAreNames) (sc := defScope sAreNames) (by decide +kernel))
            (fun _ _ _ _ _ => pg_name (i := 3) scAreNames.nd rfl (Or.inl rfl))
            (fun _ _ _ _ _ => pts_one (PW.pt (pw_or (pt_val (pe_isi (i := 3) (TN := "bool") (by rfl) (Or.inl (by rfl)) (by decide) (by decide) B.isi B.bool (by rfl) (by rfl) (by decide +kernel) (by decide) (by decide)))
              (pw_or1 (pt_not (pt_val (pe_isi (i := 3) (TN := "int") (by rfl) (Or.inl (by rfl)) (by decide) (by decide) B.isi B.int (by rfl) (by rfl) (by decide +kernel) (by decide) (by decide))))))))
            (fun _ _ _ _ _ => pe_int)) (pe_lst pa_nil) (nomark _)) (pss_one (ps_ret pe_bl)) pss_nil) <|
         pss_one (ps_if (pt_cmpR (op_neD hr.units) (pe_callB cr_sortedTI (by rfl) B.sorted (by decide +kernel) (pa_cons (pv 2) pa_nil)) (pe_listRg rfl (by rfl) B.list (prg_1 (by rfl) B.range pe_int)) (nomark _)) (pss_one (ps_ret pe_bl)) pss_nil))) <|
      pss_cons (ps_for PassesOwn.never rfl (pi_tup (pe_ix ix_tup (pv 0) pe_int (fun _ _ => rfl))) (pg_tup rfl (pgs_cons (pg_name (i := 4) scAreNames.nd rfl (.inl rfl)) (pgs_cons (pg_name (i := 5) scAreNames.nd rfl (.inl rfl)) pgs_nil)))
        (pss_cons (ps_set (i := 6) scAreNames.nd rfl (.inl rfl) (pe_op op_rep (pe_lst (pa_cons pe_int pa_nil)) pe_int)) <|
         pss_cons (ps_for PassesOwn.never rfl (pi_range1 (by rfl) B.range (pa_cons pe_int pa_nil)) (pg_name (i := 7) scAreNames.nd rfl (.inl rfl))
           (pss_one (ps_asg (pe_ix ix_tup (pe_ix ix_tup (pv 1) (pv 5) (fun _ _ => rfl)) (pe_call GM hr1 rfl mM kM bM .nil pass0 (pa_cons (pv 7) (pa_cons (pv 4) pa_nil))) (fun _ _ => rfl)) (pg_sub (pv 6) (pe_ix ix_tup (pe_ix ix_tup (pv 1) (pv 4) (fun _ _ => rfl)) (pv 7) (fun _ _ => rfl)) set_list)))) <|
         pss_one (ps_if (pt_not (pt_val (pe_call GB hr rfl mB kB bB .nil pass0 (pa_cons (pv 6) pa_nil)))) (pss_one (ps_ret pe_bl)) pss_nil))) <|
      pss_one (ps_ret pe_bl), ?_⟩
    have RT := rep_lots (K := K) TA.tup TA.rows
    refine ⟨_, rfl, _, _, _, "tuple", rfl, by decide, RT, _, rfl, ?_⟩
    refine iteF ⟨_, rfl, t, _, rfl, .inr (SqT.of TA.tup), rfl, _, rfl, ?_⟩
    rw [List.length_map, lus]
    refine iteF ?_
    refine ⟨_, rfl, t, rfl, ⟨_, SqT.of TA.tup⟩, for_it (walk_tup (xs := us.map V.ref)) (fun j σ Z => ∃ s2 s3 s4 s5 s6 s7 : Option V, σ = [some (.ref a), some (.ref t), s2, s3, s4, s5, s6, s7] ∧ Same H Z)
      ⟨_, _, _, _, _, _, rfl, .refl _⟩ (fun j σ Z _ h => by obtain ⟨_, _, _, _, _, _, _, h⟩ := h; exact SqT.of (h _ _ TA.tup)) ?_ ?_⟩
    · rintro j x σ Hb Hc hj ⟨s2, s3, s4, s5, s6, s7, rfl, s1⟩ ⟨rfl, ex⟩
      rw [List.getElem?_map] at ex
      obtain ⟨tr, etr, rfl⟩ := Option.map_eq_some_iff.mp ex
      have hj5 : j < 5 := by
        rw [List.length_map] at hj
        omega
      obtain ⟨tr', e1, _, htr⟩ := (TA.keep (.of s1)).row TP.len hj5
      rw [etr] at e1
      cases e1
      have R := TP.row j hj5
      have l6 := R.len
      generalize row' T j = r at htr R l6
      have ltr : ((intR r).map V.int).length = 6 := by rw [List.length_map, intR_len, l6]
      refine ⟨_, rfl, _, _, _, "tuple", rfl, by decide, rep_tupI (K := K) htr, _, rfl, ?_⟩
      refine iteF ⟨_, rfl, tr, _, rfl, .inr (SqT.of htr), rfl, _, rfl, ?_⟩
      rw [ltr]
      refine iteF ?_
      refine ⟨_, rfl, tr, rfl, ⟨_, SqT.of htr⟩, fun D nD => ?_⟩
      refine lc_it (walk_tup (xs := (intR r).map V.int)) (fun i Z => Z D = some (.lst []) ∧ Same Hc Z) ⟨upd_same, same_new nD⟩ (fun i Z _ h => SqT.of (h.2 _ _ htr)) ?_ ?_
      · rintro i x Hd He hi ⟨h1, h2⟩ ⟨rfl, ex⟩
        obtain ⟨o, _, rfl⟩ := int_at ex
        refine ⟨rfl, ?_⟩
        refine ⟨_, rfl, _, .int o, [], "bool", rfl, by decide, rep_int1 o, _, rfl, ?_⟩
        refine iteF ⟨_, rfl, _, .int o, [], "int", rfl, by decide, rep_int1 o, _, rfl, ?_⟩
        exact iteF ⟨h1, h2⟩
      · rintro Hd ⟨h1, h2⟩
        refine ⟨Nat.zero_le _, fun e ne => ?_⟩
        have se := same_new (o := .lst []) ne
        refine ⟨.list [], .list [], .lst (SqL.of (se _ _ h1)) .nil, .lst (SqL.of upd_same) .nil, rfl, rfl, _, rfl, ?_⟩
        refine iteF ?_
        have s3 := h2.trans se
        generalize (upd Hd e (.lst [])) = Hf at s3 ⊢
        refine ⟨_, rfl, tr, intR r, rfl, SqT.of (s3 _ _ htr), fun ns' q pm srt nq => ⟨6, rfl, RgOk.of_le (by decide) (by decide) (by decide) (by decide), fun l nl => ?_⟩⟩
        have s4 := same_new (o := .lst (ns'.map V.int)) nq
        have s5 := same_new (o := .lst (rgV 0 6)) nl
        have e6 : ns' = six := by
          have s6 : six.Pairwise (· ≤ ·) := by decide
          have p6 : (intR r).Perm six := List.Perm.map (fun k : Nat => (k : Int)) R
          exact (pm.trans p6).eq_of_pairwise (fun a b _ _ h1 h2 => by omega) srt s6
        subst e6
        have er : rgV 0 6 = six.map V.int := by decide
        refine ⟨.list (six.map PyData.int), .list (six.map PyData.int), .lst (SqL.of (s5 _ _ upd_same)) (dp_ints six), .lst (SqL.of (by rw [upd_same, er])) (dp_ints six), PySem.W.ke_shaped_ints six, PySem.W.ke_shaped_ints six, _, rfl, ?_⟩
        rw [PyData.eqv, eqvAll_ints, decide_eq_true rfl]
        exact iteF ⟨_, _, _, _, _, _, rfl, s1.trans (s3.trans (s4.trans s5))⟩
    · rintro σ Hb ⟨s2, s3, s4, s5, s6, s7, rfl, s1⟩
      have N1 := N.keep (.of s1)
      have A1 := AR.keep (.of s1)
      have TA1 := TA.keep (.of s1)
      refine ⟨_, rfl, a, _, 1, .ref b, rfl, rfl, SqT.of N1.a, at_of (j := 1) rfl rfl, b, rfl, ⟨_, SqT.of N1.b⟩, for_it (walk_tup (xs := ts)) (fun j σ Z => ∃ s2 s3 s4 s5 s6 s7 : Option V, σ = [some (.ref a), some (.ref t), s2, s3, s4, s5, s6, s7] ∧ Same Hb Z ∧ ((ars.map toN).take j).all (fun e => bendB (goalsN T e.1 e.2)) = true)
        ⟨_, _, _, _, _, _, rfl, .refl _, rfl⟩ (fun j σ Z _ h => by obtain ⟨_, _, _, _, _, _, _, h, _⟩ := h; exact SqT.of (h _ _ N1.b)) ?_ ?_⟩
      · rintro j x σ Hc Hd hj ⟨s2, s3, s4, s5, s6, s7, rfl, sc, al⟩ ⟨rfl, ex⟩
        obtain ⟨e, te, he, rfl, hte⟩ := A1.at ex
        have me := List.mem_of_getElem? he
        obtain ⟨e1, e2⟩ := en e me
        obtain ⟨l1, l2⟩ := AP _ (List.mem_map.mpr ⟨e, me, rfl⟩)
        have hte := sc _ _ hte
        rw [e1, e2] at hte
        refine ⟨te, _, rfl, SqT.of hte, rfl, _, _, rfl, _, _, rfl, rfl, ?_⟩
        refine ⟨by show 1 ≤ sizeLine; decide, fun l nl => ⟨l, 6, [.int 0], rfl, rfl, upd_same, by decide, by decide, by show 1 * 6 ≤ sizeLine; decide, fun gl ngl => ?_⟩⟩
        have sg := (same_new (o := .lst [.int 0]) nl).trans (same_new (o := .lst (List.replicate (6 : Int).toNat [V.int 0]).flatten) ngl)
        have hg0 := (upd_same (H := upd Hd l (.lst [.int 0])) (a := gl) (o := .lst (List.replicate (6 : Int).toNat [V.int 0]).flatten))
        have ngl0 : Hd gl = none := (same_new (o := .lst [.int 0]) nl).free ngl
        generalize (upd (upd Hd l (.lst [.int 0])) gl (.lst (List.replicate (6 : Int).toNat [V.int 0]).flatten)) = H1 at sg hg0 ⊢
        have Ra := TP.row _ l1
        have Rb := TP.row _ l2
        refine ⟨6, rfl, by decide, by decide, for_it walk_range (fun i σ Z => ∃ s2 s3 s7 : Option V, σ = [some (.ref a), some (.ref t), s2, s3, some (.int ((toN e).1 : Nat)), some (.int ((toN e).2 : Nat)), some (.ref gl), s7] ∧ Same Hd Z ∧ Z gl = some (.lst ((intR (goalsK (row' T (toN e).1) (row' T (toN e).2) (toN e).1 i)).map V.int)))
          ⟨_, _, _, rfl, sg, hg0⟩ (fun _ _ _ _ _ => trivial) ?_ ?_⟩
        · rintro i x σ He Hf hi ⟨s2, s3, s7, rfl, sh, hgl⟩ ⟨rfl, rfl⟩
          have hi : i < 6 := hi
          have f0 : (0 : Int) + (i : Int) = (i : Int) := Int.zero_add _
          have TA2 := (TA1.keep (.of sc)).keep (.of sh)
          obtain ⟨tv, _, av, hv⟩ := TA2.row TP.len l1
          obtain ⟨tw, _, aw, hw⟩ := TA2.row TP.len l2
          have lg := goalsK_len (row' T (toN e).1) (row' T (toN e).2) (toN e).1 i
          have la := Ra.len
          have lb := Rb.len
          have m6 := mv_lt l1 hi
          have a6 := Ra.lt hi
          dsimp only
          rw [f0]
          refine ⟨_, rfl, _, rfl, t, _, ((toN e).2 : Int), _, rfl, rfl, SqT.of TA2.tup, aw, _, rfl, _, rfl, i, (toN e).1, rfl, tw, _, (mvN (toN e).1 i : Nat), _, rfl, rfl, SqT.of hw, at_row (by omega), ?_⟩
          refine ⟨_, rfl, _, rfl, _, rfl, t, _, ((toN e).1 : Int), _, rfl, rfl, SqT.of TA2.tup, av, _, rfl, tv, _, (i : Nat), _, rfl, rfl, SqT.of hv, at_row (by omega), ?_⟩
          refine ⟨gl, _, (ap (row' T (toN e).1) i : Nat), ap (row' T (toN e).1) i, rfl, rfl, hgl, ?_, ?_⟩
          · rw [List.length_map, intR_len, lg]
            unfold ixN
            rw [if_pos (by omega), if_pos (by omega), Int.toNat_natCast]
          · refine ⟨_, _, _, rfl, fun c u ec => ?_, ?_⟩
            · rw [upd_ne (ne_of_none ec ngl0)]
              exact sh _ _ ec
            · rw [upd_same, goalsK_succ]
              unfold intR
              rw [List.map_set, List.map_set]
        · rintro σ He ⟨s2, s3, s7, rfl, sh, hgl⟩
          have eg : goalsK (row' T (toN e).1) (row' T (toN e).2) (toN e).1 6 = goalsN T (toN e).1 (toN e).2 := rfl
          have hgl : He gl = some (.lst ((intR (goalsN T (toN e).1 (toN e).2)).map V.int)) := hgl
          refine ⟨_, rfl, gl, _, rfl, hgl, (goals_is TP l1 l2).1, fun Hf sf => ⟨_, rfl, ?_⟩⟩
          have sAll := sc.trans (sh.trans sf)
          cases c : bendB (goalsN T (toN e).1 (toN e).2) with
          | false =>
            refine iteT ?_
            have := k Hf (s1.trans sAll)
            have eb : namesN (ars.map toN) T = false := by
              cases q : namesN (ars.map toN) T with
              | false => rfl
              | true =>
                have q := List.all_eq_true.mp q _ (List.mem_map.mpr ⟨e, me, rfl⟩)
                rw [c] at q
                cases q
            rw [eb] at this
            exact this
          | true =>
            refine iteF ⟨_, _, _, _, _, _, rfl, sAll, ?_⟩
            rw [List.take_add_one, List.getElem?_map, he, List.all_append, al, Bool.true_and]
            show (bendB (goalsN T (toN e).1 (toN e).2) && true) = true
            rw [c]
            rfl
      · rintro σ Hc ⟨s2, s3, s4, s5, s6, s7, rfl, sc, al⟩
        rw [List.take_of_length_le (by rw [List.length_map, ln]; exact Nat.le_refl _)] at al
        have := k Hc (s1.trans sc)
        have eb : namesN (ars.map toN) T = true := al
        rw [eb] at this
        exact this
end
end Sw
namespace Sw
open PySem PySem.Spec PyProof.Rows L2
/-! ### what is no table is no names -/
def rowN : D → List Nat
  | .tup es => es.map fun e => (toI e).toNat
  | _ => []
theorem row_dat {d : D} (h : isRowD d = true) : RowP (rowN d) ∧ d = tupI (intR (rowN d)) := by
  cases d with
  | tup es =>
    rw [row_eq, Bool.and_eq_true, List.all_eq_true] at h
    have pm := of_decide_eq_true h.2
    have nn : ∀ e ∈ es, e = .int (((toI e).toNat : Nat) : Int) := fun e he => by
      have w := h.1 e he
      have e1 := whole_int w
      have m := pm.mem_iff.mp (List.mem_map.mpr ⟨e, he, rfl⟩)
      have p : 0 ≤ toI e := by
        simp only [six, List.mem_cons, List.not_mem_nil, or_false] at m
        omega
      rw [Int.toNat_of_nonneg p]
      exact e1
    constructor
    · have q := pm.map Int.toNat
      rw [List.map_map] at q
      have e6 : six.map Int.toNat = List.range 6 := by decide
      rw [e6] at q
      exact q
    · show D.tup es = .tup ((intR (es.map fun e => (toI e).toNat)).map D.int)
      congr 1
      unfold intR
      rw [List.map_map, List.map_map]
      exact ((List.map_congr_left fun e he => (nn e he).symm).trans (List.map_id _)).symm
  | _ => cases h
theorem rep_rowP {K : PySem.W.Frag} {H : Hp} {x : V} {L : List Int} {as : List Addr} (h : Rep K H (tupI L) x as) : ∃ u, x = .ref u ∧ H u = some (.tup (L.map V.int)) := by
  unfold tupI at h
  simp only [Rep] at h
  obtain ⟨a, ys, bs, rfl, ha, ra, _, _⟩ := h
  have go : ∀ (L : List Int) (ys : List V) (bs : List Addr), RepAll K H (L.map D.int) ys bs → ys = L.map V.int := by
    intro L
    induction L with
    | nil =>
      intro ys bs r
      simp only [List.map_nil, RepAll] at r
      exact r.1
    | cons i L ih =>
      intro ys bs r
      simp only [List.map_cons, RepAll] at r
      obtain ⟨y, yr, c1, c2, rfl, hd, hr, _⟩ := r
      simp only [Rep] at hd
      rw [ih yr c2 hr, hd.1]
      rfl
  exact ⟨a, rfl, by rw [go L ys bs ra] at ha; exact ha⟩
theorem rows_dat {K : PySem.W.Frag} {H : Hp} : ∀ {ds : List D} {xs : List V} {bs : List Addr}, RepAll K H ds xs bs → (∀ d ∈ ds, isRowD d = true) → ∃ us : List Addr, xs = us.map V.ref ∧ TupsAt H us ((ds.map rowN).map intR) ∧ ds = ((ds.map rowN).map intR).map tupI ∧ ∀ r ∈ ds.map rowN, RowP r
  | [], xs, bs, h, _ => by
    simp only [RepAll] at h
    exact ⟨[], h.1, .nil, rfl, fun r hr => (List.not_mem_nil hr).elim⟩
  | d :: ds, xs, bs, h, a => by
    simp only [RepAll] at h
    obtain ⟨x, xr, c1, c2, rfl, hd, hr, _⟩ := h
    obtain ⟨us, rfl, U, e, R⟩ := rows_dat hr fun d hd => a d (List.mem_cons_of_mem _ hd)
    obtain ⟨R0, e0⟩ := row_dat (a d List.mem_cons_self)
    rw [e0] at hd
    obtain ⟨u, rfl, hu⟩ := rep_rowP hd
    refine ⟨u :: us, rfl, .cons hu U, ?_, fun r hr => ?_⟩
    · show d :: ds = tupI (intR (rowN d)) :: ((ds.map rowN).map intR).map tupI
      rw [← e0, ← e]
    · rcases List.mem_cons.mp hr with z | z
      · rw [z]
        exact R0
      · exact R r z
theorem rep_tab {K : PySem.W.Frag} {H : Hp} {d : D} {x : V} {as : List Addr} (h : Rep K H d x as) (b : isTabD d = true) : ∃ (t : Addr) (us : List Addr) (T : List (List Nat)), x = .ref t ∧ d = tabD T ∧ TabAt H t us T ∧ TabP T := by
  cases d with
  | tup ds =>
    rw [tab_eq, Bool.and_eq_true, List.all_eq_true] at b
    have l5 := of_decide_eq_true b.1
    simp only [Rep] at h
    obtain ⟨t, xs, bs, rfl, ht, ra, _, _⟩ := h
    obtain ⟨us, rfl, U, e, R⟩ := rows_dat ra b.2
    refine ⟨t, us, ds.map rowN, rfl, ?_, ⟨ht, U⟩, ⟨by rw [List.length_map, l5], fun v hv => ?_⟩⟩
    · show D.tup ds = .tup (((ds.map rowN).map intR).map tupI)
      rw [← e]
    · have hl : v < (ds.map rowN).length := by rw [List.length_map, l5]; exact hv
      unfold row'
      rw [List.getD_eq_getElem?_getD, List.getElem?_eq_getElem hl]
      exact R _ (List.getElem_mem hl)
  | _ => cases b
section
variable {P : Program} {w : World} {K : PySem.W.Frag} {mg : Str → Option Value} {base : Heap}
theorem FnOk.or {CX : CXT} {k : Nat} {f : Addr} {fd : FuncData} {ps : List Str} {sp sp' : Sp} (h : FnOk P w K mg base CX k f fd ps sp) (h' : FnOk P w K mg base CX k f fd ps sp') : FnOk P w K mg base CX k f fd ps (fun vs H Q E => sp vs H Q E ∨ sp' vs H Q E) :=
  ⟨fun vs H Q E q => q.elim (h.len vs H Q E) (h'.len vs H Q E), fun A outer s H args us vs Q E hr ev bt hv q => q.elim (h.run A outer s H args us vs Q E hr ev bt hv) (h'.run A outer s H args us vs Q E hr ev bt hv)⟩
def spNoNames (K : PySem.W.Frag) : Sp := fun vs H Q _ => ∃ (a : Addr) (x : V) (d : D) (as : List Addr), vs = [.ref a, x] ∧ Rep K H d x as ∧ wt d ≤ 100000 ∧ isTabD d = false ∧ ∀ H', Same H H' → Q (.bl false) H'
theorem ok_noNames {f : Addr} {fd : FuncData} (F : Fun K "_law_are_names" "_law_are_names" sAreNames f fd) (B : NoNames mg) (OM : Own P w K mg base 1 "_law_moved" ["place", "v"] spMoved) (OB : Own P w K mg base 3 "_law_is_bending" ["goals"] spIsBending) : FnOk P w K mg base CX0 4 f fd ["net", "value"] (spNoNames K) := by
  obtain ⟨fM, fdM, GM, mM, kM, bM⟩ := OM.ex
  obtain ⟨fB, fdB, GB, mB, kB, bB⟩ := OB.ex
  refine F.ok scAreNames (fun vs H Q E h => ?_) (fun cdv A outer s H vs Q E hr h => ?_)
  · obtain ⟨a, x, d, as, rfl, _⟩ := h
    rfl
  · obtain ⟨a, x, d, as, rfl, hd, hw, nt, k⟩ := h
    have hr1 := hr.mono (by decide : 1 ≤ 3)
    refine ⟨_, pss_cons (ps_if (PW.pt (pw_or (pt_not (pt_val (pe_isi (i := 1) (TN := "tuple") rfl (Or.inl rfl) (by decide) (by decide) B.isi B.tuple rfl rfl (by decide +kernel) (by decide) (by decide))))
        (pw_or1 (pt_cmpR op_ne (pe_callB call_len_seq (by rfl) B.len PySem.boot_len (pa_cons (pv 1) pa_nil)) pe_int (nomark _))))) (pss_one (ps_ret pe_bl)) pss_nil) <|
      pss_cons (ps_for PassesOwn.never rfl (pi_tup (pv 1)) (pg_name (i := 2) scAreNames.nd rfl (.inl rfl))
        (pss_cons (ps_if (PW.pt (pw_or (pt_not (pt_val (pe_isi (i := 2) (TN := "tuple") rfl (Or.inl rfl) (by decide) (by decide) B.isi B.tuple rfl rfl (by decide +kernel) (by decide) (by decide))))
          (pw_or1 (pt_cmpR op_ne (pe_callB call_len_seq (by rfl) B.len PySem.boot_len (pa_cons (pv 2) pa_nil)) pe_int (nomark _))))) (pss_one (ps_ret pe_bl)) pss_nil) <|
         pss_cons (ps_if (pt_cmpR (op_neD hr.units) (pe_lc (own := [("own", 3)]) (g := gName 3) (tt := tOr (tB (tCB (rIsD K) (tCons (tVar 3) (tCons (tC (.ty "bool")) tNil)))) (tNot (tB (tCB (rIsD K) (tCons (tVar 3) (tCons (tC (.ty "int")) tNil)))))) (te := tC (.int 1)) rfl scAreNames.nd (pi_tup (pv 2)) (blkOk_by (own := [("own", 3)]) (N := nAreNames) (sc := defScope sAreNames) (by decide +kernel))
            (fun _ _ _ _ _ => pg_name (i := 3) scAreNames.nd rfl (Or.inl rfl))
            (fun _ _ _ _ _ => pts_one (PW.pt (pw_or (pt_val (pe_isi (i := 3) (TN := "bool") (by rfl) (Or.inl (by rfl)) (by decide) (by decide) B.isi B.bool (by rfl) (by rfl) (by decide +kernel) (by decide) (by decide)))
              (pw_or1 (pt_not (pt_val (pe_isi (i := 3) (TN := "int") (by rfl) (Or.inl (by rfl)) (by decide) (by decide) B.isi B.int (by rfl) (by rfl) (by decide +kernel) (by decide) (by decide))))))))
            (fun _ _ _ _ _ => pe_int)) (pe_lst pa_nil) (nomark _)) (pss_one (ps_ret pe_bl)) pss_nil) <|
         pss_one (ps_if (pt_cmpR (op_neD hr.units) (pe_callB cr_sortedTI (by rfl) B.sorted (by decide +kernel) (pa_cons (pv 2) pa_nil)) (pe_listRg rfl (by rfl) B.list (prg_1 (by rfl) B.range pe_int)) (nomark _)) (pss_one (ps_ret pe_bl)) pss_nil))) <|
      pss_cons (ps_for PassesOwn.never rfl (pi_tup (pe_ix ix_tup (pv 0) pe_int (fun _ _ => rfl))) (pg_tup rfl (pgs_cons (pg_name (i := 4) scAreNames.nd rfl (.inl rfl)) (pgs_cons (pg_name (i := 5) scAreNames.nd rfl (.inl rfl)) pgs_nil)))
        (pss_cons (ps_set (i := 6) scAreNames.nd rfl (.inl rfl) (pe_op op_rep (pe_lst (pa_cons pe_int pa_nil)) pe_int)) <|
         pss_cons (ps_for PassesOwn.never rfl (pi_range1 (by rfl) B.range (pa_cons pe_int pa_nil)) (pg_name (i := 7) scAreNames.nd rfl (.inl rfl))
           (pss_one (ps_asg (pe_ix ix_tup (pe_ix ix_tup (pv 1) (pv 5) (fun _ _ => rfl)) (pe_call GM hr1 rfl mM kM bM .nil pass0 (pa_cons (pv 7) (pa_cons (pv 4) pa_nil))) (fun _ _ => rfl)) (pg_sub (pv 6) (pe_ix ix_tup (pe_ix ix_tup (pv 1) (pv 4) (fun _ _ => rfl)) (pv 7) (fun _ _ => rfl)) set_list)))) <|
         pss_one (ps_if (pt_not (pt_val (pe_call GB hr rfl mB kB bB .nil pass0 (pa_cons (pv 6) pa_nil)))) (pss_one (ps_ret pe_bl)) pss_nil))) <|
      pss_one (ps_ret pe_bl), ?_⟩
    refine ⟨_, rfl, x, d, as, "tuple", rfl, by decide, hd, _, rfl, ?_⟩
    cases e : isT "tuple" d with
    | false => exact iteT (iteT (k H (.refl H)))
    | true =>
      refine iteF ?_
      obtain ⟨ds, rfl⟩ := tup_of e
      simp only [Rep] at hd
      obtain ⟨t, ys, cs, rfl, hp, ra, nap, rfl⟩ := hd
      have hl := ra.len
      simp only [wt] at hw
      refine ⟨_, rfl, t, _, rfl, .inr (SqT.of hp), rfl, _, rfl, ite2 (fun _ => k H (.refl H)) (fun y => ?_)⟩
      have l5 : ds.length = 5 := by
        by_cases z : ds.length = 5
        · exact z
        · refine (y ?_).elim
          show (!decide (V.int (ys.length : Nat) = V.int 5)) = true
          rw [decide_eq_false fun e => z (by have := V.int.inj e; omega)]
          rfl
      refine ⟨_, rfl, t, rfl, ⟨_, SqT.of hp⟩, for_it (walk_tup (xs := ys)) (fun j σ Z => ∃ s2 s3 s4 s5 s6 s7 : Option V, σ = [some (.ref a), some (.ref t), s2, s3, s4, s5, s6, s7] ∧ Same H Z ∧ ∀ d ∈ ds.take j, isRowD d = true)
        ⟨_, _, _, _, _, _, rfl, .refl _, fun d hd => by rw [List.take_zero] at hd; exact (List.not_mem_nil hd).elim⟩ (fun j σ Z _ h => by obtain ⟨_, _, _, _, _, _, _, h, _⟩ := h; exact SqT.of (h _ _ hp)) ?_ ?_⟩
      · rintro j x σ Hb Hc hj ⟨s2, s3, s4, s5, s6, s7, rfl, s1, al⟩ ⟨rfl, ex⟩
        obtain ⟨d2, b2, hd2, hr2, _⟩ := ra.at2 ex
        have hr2 := hr2.same s1
        have w2 := wt_mem (List.mem_of_getElem? hd2)
        have kk : ∀ H', Same Hc H' → Q (.bl false) H' := fun H' s' => k H' (s1.trans s')
        refine ⟨_, rfl, x, d2, b2, "tuple", rfl, by decide, hr2, _, rfl, ?_⟩
        cases e2 : isT "tuple" d2 with
        | false => exact iteT (iteT (kk Hc (.refl _)))
        | true =>
          refine iteF ?_
          obtain ⟨es, rfl⟩ := tup_of e2
          simp only [Rep] at hr2
          obtain ⟨tr, zs, c2, rfl, htr, rb, _, _⟩ := hr2
          have hlz := rb.len
          refine ⟨_, rfl, tr, _, rfl, .inr (SqT.of htr), rfl, _, rfl, ite2 (fun _ => kk Hc (.refl _)) (fun y => ?_)⟩
          have l6 : es.length = 6 := by
            by_cases z : es.length = 6
            · exact z
            · refine (y ?_).elim
              show (!decide (V.int (zs.length : Nat) = V.int 6)) = true
              rw [decide_eq_false fun e => z (by have := V.int.inj e; omega)]
              rfl
          refine ⟨_, rfl, tr, rfl, ⟨_, SqT.of htr⟩, fun D nD => ?_⟩
          refine lc_it (walk_tup (xs := zs)) (fun i Z => ∃ m : Nat, Z D = some (.lst ((List.replicate m (1 : Int)).map V.int)) ∧ Same Hc Z ∧ m ≤ i ∧ (m = 0 → ∀ e ∈ es.take i, ∃ z, e = Sw.D.int z)) ⟨0, upd_same, same_new nD, Nat.le_refl _, fun _ e he => by rw [List.take_zero] at he; exact (List.not_mem_nil he).elim⟩ (fun i Z _ h => by obtain ⟨_, _, h, _⟩ := h; exact SqT.of (h _ _ htr)) ?_ ?_
          · rintro i x Hd He hi ⟨m, h1, h2, h3, h4⟩ ⟨rfl, ex⟩
            obtain ⟨d3, b3, hd3, hr3, _⟩ := rb.at2 ex
            have hr3 := hr3.same h2
            have more : ∃ acc, He D = some (.lst acc) ∧ acc.length < sizeLine ∧ ∃ m' : Nat, (upd He D (.lst (acc ++ [.int 1]))) D = some (.lst ((List.replicate m' (1 : Int)).map V.int)) ∧ Same Hc (upd He D (.lst (acc ++ [.int 1]))) ∧ m' ≤ i + 1 ∧ (m' = 0 → ∀ e ∈ es.take (i + 1), ∃ z, e = Sw.D.int z) :=
              ⟨_, h1, by rw [List.length_map, List.length_replicate, sizeLine_eq]; omega, m + 1, by rw [upd_same, List.replicate_succ', List.map_append]; rfl, fun c o ec => by
                rw [upd_ne (ne_of_none ec nD)]
                exact h2 _ _ ec, by omega, fun z => absurd z (Nat.succ_ne_zero m)⟩
            refine ⟨rfl, ?_⟩
            refine ⟨_, rfl, x, d3, b3, "bool", rfl, by decide, hr3, _, rfl, ?_⟩
            cases eb : isT "bool" d3 with
            | true => exact iteT more
            | false =>
              refine iteF ⟨_, rfl, x, d3, b3, "int", rfl, by decide, hr3, _, rfl, ?_⟩
              cases ei : isT "int" d3 with
              | false => exact iteT more
              | true =>
                refine iteF ⟨m, h1, h2, by omega, fun z e he => ?_⟩
                rw [List.take_add_one, hd3] at he
                rcases List.mem_append.mp he with q | q
                · exact h4 z e q
                · rw [show e = d3 from List.mem_singleton.mp q]
                  cases d3 <;> simp_all [isT]
          · rintro Hd ⟨m, h1, h2, h3, h4⟩
            refine ⟨Nat.zero_le _, fun e ne => ?_⟩
            have se := same_new (o := .lst []) ne
            refine ⟨.list ((List.replicate m (1 : Int)).map PyData.int), .list (([] : List Int).map PyData.int), .lst (SqL.of (se _ _ h1)) (dp_ints _), .lst (SqL.of upd_same) .nil, PySem.W.ke_shaped_ints _, rfl, _, rfl, ?_⟩
            rw [PyData.eqv, eqvAll_ints]
            refine ite2 (fun _ => kk _ (h2.trans se)) (fun y => ?_)
            have m0 : m = 0 := by
              cases m with
              | zero => rfl
              | succ m =>
                refine (y ?_).elim
                rw [decide_eq_false (by rw [List.replicate_succ]; exact fun z => nomatch z)]
                rfl
            subst m0
            have intz := h4 rfl
            rw [List.take_of_length_le (by omega)] at intz
            have zi : zs = (es.map toI).map V.int := by
              have go : ∀ (es : List Sw.D) (zs : List V) (cs : List Addr), RepAll K Hc es zs cs → (∀ e ∈ es, ∃ z, e = Sw.D.int z) → zs = (es.map toI).map V.int := by
                intro es
                induction es with
                | nil =>
                  intro zs cs r _
                  simp only [RepAll] at r
                  exact r.1
                | cons e es ih =>
                  intro zs cs r a
                  simp only [RepAll] at r
                  obtain ⟨y, yr, c1, c2, rfl, hd, hr, _⟩ := r
                  obtain ⟨z, rfl⟩ := a e List.mem_cons_self
                  simp only [Rep] at hd
                  rw [ih yr c2 hr fun e he => a e (List.mem_cons_of_mem _ he), hd.1]
                  rfl
              exact go es zs c2 rb intz
            have s3 := h2.trans se
            generalize (upd Hd e (.lst [])) = Hf at s3 ⊢
            have htf := s3 _ _ htr
            rw [zi] at htf
            refine ⟨_, rfl, tr, es.map toI, rfl, SqT.of htf, fun ns' q pm srt nq => ⟨6, rfl, RgOk.of_le (by decide) (by decide) (by decide) (by decide), fun l nl => ?_⟩⟩
            have s4 := same_new (o := .lst (ns'.map V.int)) nq
            have s5 := same_new (o := .lst (rgV 0 6)) nl
            have er : rgV 0 6 = six.map V.int := by decide
            refine ⟨.list (ns'.map PyData.int), .list (six.map PyData.int), .lst (SqL.of (s5 _ _ upd_same)) (dp_ints _), .lst (SqL.of (by rw [upd_same, er])) (dp_ints six), PySem.W.ke_shaped_ints _, PySem.W.ke_shaped_ints six, _, rfl, ?_⟩
            rw [PyData.eqv, eqvAll_ints]
            refine ite2 (fun _ => kk _ (s3.trans (s4.trans s5))) (fun y => ?_)
            have e6 : ns' = six := by
              by_cases z : ns' = six
              · exact z
              · refine (y ?_).elim
                rw [decide_eq_false z]
                rfl
            refine ⟨_, _, _, _, _, _, rfl, s1.trans (s3.trans (s4.trans s5)), fun d hd => ?_⟩
            rw [List.take_add_one, hd2] at hd
            rcases List.mem_append.mp hd with q | q
            · exact al d q
            · rw [show d = .tup es from List.mem_singleton.mp q, row_eq, Bool.and_eq_true]
              have pm6 : (es.map toI).Perm six := by
                rw [← e6]
                exact pm.symm
              refine ⟨List.all_eq_true.mpr fun e he => ?_, decide_eq_true pm6⟩
              obtain ⟨z, rfl⟩ := intz e he
              have mz := pm6.mem_iff.mp (List.mem_map.mpr ⟨_, he, rfl⟩)
              simp only [six, toI, List.mem_cons, List.not_mem_nil, or_false] at mz
              rcases mz with rfl | rfl | rfl | rfl | rfl | rfl <;> decide
      · rintro σ Hb ⟨s2, s3, s4, s5, s6, s7, rfl, s1, al⟩
        rw [List.take_of_length_le (by omega)] at al
        rw [tab_eq, decide_eq_true l5, Bool.true_and, List.all_eq_true.mpr al] at nt
        cases nt
end
end Sw
namespace Sw
open PySem PySem.Spec PyProof.Rows L2
/-! ### an own def that raises nothing here; few pairs; stops called otherwise -/
theorem passF {X : Cx} (σ : L2.St) : PassesAt (L2.CX X.prog X.w) X σ (fun _ _ _ => False) := fun pins H s e s' I c => by
  obtain ⟨_, _, _, _, _, _, _, _, _, _, _, _, h⟩ := c
  exact h.elim
theorem pt_weakT {X : Cx} {e : Expr} {t t' : TT} (h : PT X e t) (hw : ∀ σ H Q, t' σ H Q → t σ H Q) : PT X e t' := ⟨fun pins s σ H Q I q => h.run pins s σ H Q I (hw σ H Q q)⟩
theorem ite_join {c : Prop} [Decidable c] {A B N : Prop} (n : N) (h2 : N → B) (h1 : N → A) : if c then A else B := by
  by_cases z : c
  · rw [if_pos z]
    exact h1 n
  · rw [if_neg z]
    exact h2 n
theorem ite_joinC {c : Prop} [Decidable c] {A B N : Prop} (n : N) (h2 : N → B) (h1 : c → N → A) : if c then A else B := by
  by_cases z : c
  · rw [if_pos z]
    exact h1 z n
  · rw [if_neg z]
    exact h2 n
theorem pairs_few {n : Int} {es : List (Int × Int)} (n2 : n ≤ 12) (nd : es.Nodup) (inn : ∀ e ∈ es, Inn n e.1 ∧ Inn n e.2) : es.length ≤ 144 := by
  have ndm : (es.map fun e : Int × Int => e.1 * 12 + e.2).Nodup := by
    refine List.pairwise_map.mpr (nd.imp_of_mem fun {a b} ha hb ne z => ne ?_)
    have a1 := inn a ha
    have b1 := inn b hb
    unfold Inn at a1 b1
    exact Prod.ext (by omega) (by omega)
  have q := pig 144 _ ndm fun k hk => by
    obtain ⟨e, he, rfl⟩ := List.mem_map.mp hk
    have a1 := inn e he
    unfold Inn at a1
    omega
  rwa [List.length_map] at q
theorem nodup_ren {n : Int} {os : List Int} {ars ars' : List (Int × Int)} (O : Ord n os) (inn : ∀ e ∈ ars, Inn n e.1 ∧ Inn n e.2) (nd : ars.Nodup) (pm : ars'.Perm (ars.map (renE os))) : ars'.Nodup :=
  pm.nodup_iff.mpr (List.pairwise_map.mpr (nd.imp_of_mem fun {a b} ha hb ne z => ne (Prod.ext (O.inj (inn a ha).1 (inn b hb).1 (congrArg Prod.fst z)) (O.inj (inn a ha).2 (inn b hb).2 (congrArg Prod.snd z)))))
end Sw
namespace Sw
open PySem PySem.Spec PyProof.Rows L2
/-! ### _law_five -/
abbrev sLFive : Stmt := top 49
abbrev nLFive : List Str := ["deck", "order", "last"]
theorem scLFive : FnScope nLFive ["deck"] (defScope sLFive) := ⟨rfl, rfl, rfl, by decide +kernel, rfl, by decide +kernel, by decide +kernel⟩
theorem fiveS_in : ∀ b, ∀ e ∈ fiveS b, (0 ≤ e.1 ∧ e.1 < 5) ∧ (0 ≤ e.2 ∧ e.2 < 5) := by decide
theorem fiveS_srtd : ∀ b, (fiveS b).Nodup := by decide
theorem fivesS_at {H : Hp} {a0 a1 a2 a3 a4 L : Addr} {c : Bool} (h0 : H a0 = some (.tup [.int 0, .int 1])) (h1 : H a1 = some (.tup [.int 0, .int 3])) (h2 : H a2 = some (.tup [.int 1, .int 2])) (h3 : H a3 = some (.tup [.int 2, .int 0])) (h4 : H a4 = some (.tup [.int 3, .int 4])) (h5 : H L = some (.tup [.int 4, .int (if c then 2 else 0)])) :
    ArsAt H [.ref a0, .ref a1, .ref a2, .ref a3, .ref a4, .ref L] (fiveS c) := .cons ⟨_, rfl, h0⟩ (.cons ⟨_, rfl, h1⟩ (.cons ⟨_, rfl, h2⟩ (.cons ⟨_, rfl, h3⟩ (.cons ⟨_, rfl, h4⟩ (.cons ⟨_, rfl, h5⟩ .nil)))))
section
variable {P : Program} {w : World} {K : PySem.W.Frag} {mg : Str → Option Value} {base : Heap}
def spLFiveR : Sp := fun vs H Q _ => ∃ (p d : Addr), vs = [.ref p] ∧ DeckL H p d ∧
  ∀ (r b : Addr) (ts : List V) (ars : List (Int × Int)) (os : List Int) (c : Bool) (H' : Hp), DeckL H' p d → KpL p d H H' → NetAt 5 H' r b ts → ArsAt H' ts ars → AscA ars → Ord 5 os → ars.Perm ((fiveS c).map (renE os)) → Q (.ref r) H'
def spLFive : Sp := fun vs H Q _ => ∃ (p d : Addr), vs = [.ref p] ∧ DeckL H p d ∧
  ∀ (r b : Addr) (ts : List V) (ars : List (Int × Int)) (H' : Hp), DeckL H' p d → KpL p d H H' → NetAt 5 H' r b ts → ArsAt H' ts ars → AscA ars → Q (.ref r) H'
theorem ok_lFiveR {f : Addr} {fd : FuncData} (F : Fun K "_law_five" "_law_five" sLFive f fd) (B : NoNames mg) (OP : Own P w K mg base 2 "_law_pick" ["deck", "items"] spPickL) (OM : Own P w K mg base 2 "_law_mixed" ["deck", "items"] spMixedL) (OC : Own P w K mg base 1 "_law_called" ["net", "order"] spCalledA) : FnOk P w K mg base CX0 3 f fd ["deck"] spLFiveR := by
  obtain ⟨fP, fdP, GP, mP, kP, bP⟩ := OP.ex
  obtain ⟨fM, fdM, GM, mM, kM, bM⟩ := OM.ex
  obtain ⟨fC, fdC, GC, mC, kC, bC⟩ := OC.ex
  refine F.ok scLFive (fun vs H Q E h => ?_) (fun cdv A outer s H vs Q E hr h => ?_)
  · obtain ⟨p, d, rfl, _⟩ := h
    rfl
  · obtain ⟨p, d, rfl, D, k⟩ := h
    have hr1 := hr.mono (by decide : 1 ≤ 2)
    refine ⟨_, pss_cons (ps_set (i := 1) scLFive.nd rfl (.inl rfl) (pe_call GM hr rfl mM kM bM .nil pass0 (pa_cons (pv 0) (pa_cons (pe_listRg rfl (by rfl) B.list (prg_1 (by rfl) B.range pe_int)) pa_nil)))) <|
      pss_cons (ps_set (i := 2) scLFive.nd rfl (.inl rfl) (pe_call GP hr rfl mP kP bP .nil pass0 (pa_cons (pv 0) (pa_cons (pe_lst (pa_cons (pe_tup (pa_cons pe_int (pa_cons pe_int pa_nil))) (pa_cons (pe_tup (pa_cons pe_int (pa_cons pe_int pa_nil))) pa_nil))) pa_nil)))) <|
      pss_one (ps_ret (pe_call GC hr1 rfl mC kC bC .nil pass0 (pa_cons (pe_tup (pa_cons pe_int (pa_cons
        (pe_tup (pa_cons (pe_tup (pa_cons pe_int (pa_cons pe_int pa_nil))) (pa_cons (pe_tup (pa_cons pe_int (pa_cons pe_int pa_nil))) (pa_cons (pe_tup (pa_cons pe_int (pa_cons pe_int pa_nil))) (pa_cons (pe_tup (pa_cons pe_int (pa_cons pe_int pa_nil))) (pa_cons (pe_tup (pa_cons pe_int (pa_cons pe_int pa_nil))) (pa_cons (pv 2) pa_nil))))))) pa_nil))) (pa_cons (pv 1) pa_nil)))), ?_⟩
    refine ⟨_, rfl, 5, rfl, RgOk.of_le (by decide) (by decide) (by decide) (by decide), fun q nq => ?_⟩
    have sq := same_new (o := .lst (rgV 0 5)) nq
    refine ⟨p, d, q, _, rfl, D.same sq, upd_same, by rw [rgV_length]; decide, fun so ms H3 D3 k3 nr hr3 pm => ?_⟩
    obtain ⟨os, rfl, lo, nd, io⟩ := mixed_ints pm
    have o3 := (D.same sq).off nr
    have kA := (KpL.of sq).trans k3
    refine ⟨_, rfl, by show 2 ≤ sizeLine; decide, fun L0 nL0 => ⟨by show 2 ≤ sizeLine; decide, fun L1 nL1 => ⟨by show 2 ≤ sizeLine; decide, fun l nl => ?_⟩⟩⟩
    have z0 := same_new (o := .tup [.int 4, .int 0]) nL0
    have z1 := same_new (o := .tup [.int 4, .int 2]) nL1
    have z2 := same_new (o := .lst [.ref L0, .ref L1]) nl
    have hL0 := z2 _ _ (z1 _ _ (upd_same (H := H3) (a := L0) (o := .tup [.int 4, .int 0])))
    have hL1 := z2 _ _ (upd_same (H := (upd H3 L0 (.tup [.int 4, .int 0]))) (a := L1) (o := .tup [.int 4, .int 2]))
    have hl := (upd_same (H := (upd (upd H3 L0 (.tup [.int 4, .int 0])) L1 (.tup [.int 4, .int 2]))) (a := l) (o := .lst [.ref L0, .ref L1]))
    have s4 := z0.trans (z1.trans z2)
    have D4 := D3.same s4
    have hs4 := s4 _ _ hr3
    have off := (D3.same (z0.trans z1)).off nl
    have k4 := kA.trans (KpL.of s4)
    generalize (upd (upd (upd H3 L0 (.tup [.int 4, .int 0])) L1 (.tup [.int 4, .int 2])) l (.lst [.ref L0, .ref L1])) = H4 at hL0 hL1 hl D4 hs4 k4 ⊢
    clear z0 z1 z2 s4 nL0 nL1 nl kA k3 D3 hr3 sq nq
    refine ⟨p, d, l, _, rfl, D4, hl, off.1, off.2, by simp, by show 2 < 1000000; decide, fun x H5 mx D5 k5 => ?_⟩
    have t5 := TupS.kpl D4 k5
    obtain ⟨L, c, rfl, hL⟩ : ∃ (L : Addr) (c : Bool), x = .ref L ∧ H5 L = some (.tup [.int 4, .int (if c then 2 else 0)]) := by
      simp only [List.mem_cons, List.not_mem_nil, or_false] at mx
      rcases mx with rfl | rfl
      · exact ⟨L0, false, rfl, t5 _ _ hL0⟩
      · exact ⟨L1, true, rfl, t5 _ _ hL1⟩
    have hs5 := k5 _ _ hs4 o3.1 o3.2
    have kB := k4.trans k5
    clear hL0 hL1 hl hs4 k4 k5 t5
    refine ⟨by show 2 ≤ sizeLine; decide, fun a0 m0 => ⟨by show 2 ≤ sizeLine; decide, fun a1 m1 => ⟨by show 2 ≤ sizeLine; decide, fun a2 m2 => ⟨by show 2 ≤ sizeLine; decide, fun a3 m3 => ⟨by show 2 ≤ sizeLine; decide, fun a4 m4 => ⟨_, rfl, by show 6 ≤ sizeLine; decide, fun q mq => ⟨by show 2 ≤ sizeLine; decide, fun T mT => ⟨_, rfl, ?_⟩⟩⟩⟩⟩⟩⟩⟩
    have w0 := same_new (o := .tup [.int 0, .int 1]) m0
    have w1 := same_new (o := .tup [.int 0, .int 3]) m1
    have w2 := same_new (o := .tup [.int 1, .int 2]) m2
    have w3 := same_new (o := .tup [.int 2, .int 0]) m3
    have w4 := same_new (o := .tup [.int 3, .int 4]) m4
    have w5 := same_new (o := .tup [.ref a0, .ref a1, .ref a2, .ref a3, .ref a4, .ref L]) mq
    have w6 := same_new (o := .tup [.int 5, .ref q]) mT
    have wA := w0.trans (w1.trans (w2.trans (w3.trans (w4.trans (w5.trans w6)))))
    have G := fivesS_at (c := c) (w6 _ _ (w5 _ _ (w4 _ _ (w3 _ _ (w2 _ _ (w1 _ _ upd_same)))))) (w6 _ _ (w5 _ _ (w4 _ _ (w3 _ _ (w2 _ _ upd_same))))) (w6 _ _ (w5 _ _ (w4 _ _ (w3 _ _ upd_same)))) (w6 _ _ (w5 _ _ (w4 _ _ upd_same))) (w6 _ _ (w5 _ _ upd_same)) (wA _ _ hL)
    have hq := w6 _ _ (upd_same (H := (upd (upd (upd (upd (upd H5 a0 (.tup [.int 0, .int 1])) a1 (.tup [.int 0, .int 3])) a2 (.tup [.int 1, .int 2])) a3 (.tup [.int 2, .int 0])) a4 (.tup [.int 3, .int 4]))) (a := q) (o := .tup [.ref a0, .ref a1, .ref a2, .ref a3, .ref a4, .ref L]))
    have hT := (upd_same (H := (upd (upd (upd (upd (upd (upd H5 a0 (.tup [.int 0, .int 1])) a1 (.tup [.int 0, .int 3])) a2 (.tup [.int 1, .int 2])) a3 (.tup [.int 2, .int 0])) a4 (.tup [.int 3, .int 4])) q (.tup [.ref a0, .ref a1, .ref a2, .ref a3, .ref a4, .ref L]))) (a := T) (o := .tup [.int 5, .ref q]))
    have D6 := D5.same wA
    have hs6 := wA _ _ hs5
    have kC := kB.trans (KpL.of wA)
    generalize (upd (upd (upd (upd (upd (upd (upd H5 a0 (.tup [.int 0, .int 1])) a1 (.tup [.int 0, .int 3])) a2 (.tup [.int 1, .int 2])) a3 (.tup [.int 2, .int 0])) a4 (.tup [.int 3, .int 4])) q (.tup [.ref a0, .ref a1, .ref a2, .ref a3, .ref a4, .ref L])) T (.tup [.int 5, .ref q])) = H6 at G hq hT D6 hs6 kC ⊢
    clear w0 w1 w2 w3 w4 w5 w6 wA m0 m1 m2 m3 m4 mq mT hL hs5 kB D5
    have ls : os.length = (5 : Int).toNat := by omega
    refine ⟨T, q, so, 5, _, fiveS c, os, rfl, ⟨hT, hq, arrs_of G fun e he => fiveS_in c e he, by show 6 ≤ 200; decide, by decide, by decide⟩, G, hs6, ls, fun v hv => (io v).mp hv, fun r b' ts' ars' H7 s7 nr7 N7 A7 pm7 srt => ?_⟩
    exact k r b' ts' ars' os c H7 (D6.same s7) (kC.trans (KpL.of s7)) N7 A7 (srt.asc (nodup_ren ⟨ls, nd, io⟩ (fun e he => fiveS_in c e he) (fiveS_srtd c) pm7)) ⟨ls, nd, io⟩ pm7
theorem ok_lFive {f : Addr} {fd : FuncData} (F : Fun K "_law_five" "_law_five" sLFive f fd) (B : NoNames mg) (OP : Own P w K mg base 2 "_law_pick" ["deck", "items"] spPickL) (OM : Own P w K mg base 2 "_law_mixed" ["deck", "items"] spMixedL) (OC : Own P w K mg base 1 "_law_called" ["net", "order"] spCalledA) : FnOk P w K mg base CX0 3 f fd ["deck"] spLFive :=
  (ok_lFiveR F B OP OM OC).imp fun _ _ _ _ h => by
    obtain ⟨p, d, e, D, k⟩ := h
    exact ⟨p, d, e, D, fun r b ts ars os c H' D' k' N A as _ _ => k r b ts ars H' D' k' N A as⟩
end
end Sw
namespace Sw
open PySem PySem.Spec PyProof.Rows L2 PySem.W
section
variable {K : Frag}
/-- a def of two parameters p1, p2 that may be called by the words p2, p1 -/
theorem kb_pair {x p1 p2 : Str} {st : Stmt} {f : Addr} {fd : FuncData} (F : Fun K x x st f fd)
    (b1 : ∀ (kV doc pm : Value) (an : Option Addr) (cdv ct u v : Value), bindArgs (fnOf x x (defArgs st) (defBody st) (defScope st) .none kV doc pm an cdv ct) ⟨[], ([p2, p1] : List Str).zip [u, v]⟩ = pure (([p1, p2] : List Str).zip [v, u]))
    (b2 : ∀ (kV doc pm : Value) (an : Option Addr) (cdv ct u v : Value), bindArgs (fnOf x x (defArgs st) (defBody st) (defScope st) .none kV doc pm an cdv ct) ⟨[u], ([p2, p1] : List Str).zip [v]⟩ = pure (([p1, p2] : List Str).zip [u, v]))
    (b3 : ∀ (kV doc pm : Value) (an : Option Addr) (cdv ct u v : Value), bindArgs (fnOf x x (defArgs st) (defBody st) (defScope st) .none kV doc pm an cdv ct) ⟨[u, v], ([p2, p1] : List Str).zip []⟩ = pure (([p1, p2] : List Str).zip [u, v])) :
    KBinds K fd [p1, p2] [p2, p1] (fun us ws => us ++ ws.reverse) (fun us ws => us ++ ws.reverse) := by
  obtain ⟨oc, od, kV, doc, pm, an, cdv, ct, osl, rfl, lk, hcd⟩ := F.ex
  refine ⟨fun s us ws _ hl => ?_, fun r q => r.append q.reverse⟩
  have hl2 : us.length + ws.length = 2 := by
    rw [List.length_append, List.length_reverse] at hl
    exact hl
  rcases us with _ | ⟨u, _ | ⟨v, _ | ⟨z, us⟩⟩⟩
  · rcases ws with _ | ⟨a, _ | ⟨b, _ | ⟨z, ws⟩⟩⟩
    · cases hl2
    · cases hl2
    · exact .of_eq (b1 kV doc pm an cdv ct a b)
    · simp only [List.length_cons, List.length_nil] at hl2
      omega
  · rcases ws with _ | ⟨a, _ | ⟨z, ws⟩⟩
    · cases hl2
    · exact .of_eq (b2 kV doc pm an cdv ct u a)
    · simp only [List.length_cons, List.length_nil] at hl2
      omega
  · rcases ws with _ | ⟨z, ws⟩
    · exact .of_eq (b3 kV doc pm an cdv ct u v)
    · simp only [List.length_cons, List.length_nil] at hl2
      omega
  · simp only [List.length_cons] at hl2
    omega
end
end Sw
namespace Sw
open PySem PySem.Spec PyProof.Rows L2
/-- a def of two parameters: by place, and by the words, the last one ahead -/
structure Own2 (P : Program) (w : World) (K : PySem.W.Frag) (mg : Str → Option Value) (base : Heap) (k : Nat) (x p1 p2 : Str) (sp : Sp) : Prop where
  ex : ∃ f fd, FnOk P w K mg base CX0 k f fd [p1, p2] sp ∧ mg x = some (.ref f) ∧ PySem.W.keepIn K (.ref f) = true ∧ Binds K fd [p1, p2] [] ∧ KBinds K fd [p1, p2] [p2, p1] (fun us ws => us ++ ws.reverse) (fun us ws => us ++ ws.reverse)
section
variable {P : Program} {w : World} {K : PySem.W.Frag} {mg : Str → Option Value} {base : Heap}
theorem Has.own2 {k : Nat} {x p1 p2 : Str} {st : Stmt} {sp : Sp} (hs : Has K mg x st) (ok : ∀ f fd, Fun K x x st f fd → FnOk P w K mg base CX0 k f fd [p1, p2] sp)
    (b : ∀ (kV doc pm : Value) (an : Option Addr) (cdv ct : Value) (us : List Value), us.length = ([p1, p2] : List Str).length → bindArgs (PySem.W.fnOf x x (defArgs st) (defBody st) (defScope st) .none kV doc pm an cdv ct) ⟨us, []⟩ = pure (([p1, p2] : List Str).zip us))
    (b1 : ∀ (kV doc pm : Value) (an : Option Addr) (cdv ct u v : Value), bindArgs (PySem.W.fnOf x x (defArgs st) (defBody st) (defScope st) .none kV doc pm an cdv ct) ⟨[], ([p2, p1] : List Str).zip [u, v]⟩ = pure (([p1, p2] : List Str).zip [v, u]))
    (b2 : ∀ (kV doc pm : Value) (an : Option Addr) (cdv ct u v : Value), bindArgs (PySem.W.fnOf x x (defArgs st) (defBody st) (defScope st) .none kV doc pm an cdv ct) ⟨[u], ([p2, p1] : List Str).zip [v]⟩ = pure (([p1, p2] : List Str).zip [u, v]))
    (b3 : ∀ (kV doc pm : Value) (an : Option Addr) (cdv ct u v : Value), bindArgs (PySem.W.fnOf x x (defArgs st) (defBody st) (defScope st) .none kV doc pm an cdv ct) ⟨[u, v], ([p2, p1] : List Str).zip []⟩ = pure (([p1, p2] : List Str).zip [u, v])) : Own2 P w K mg base k x p1 p2 sp := by
  obtain ⟨f, fd, F, m⟩ := hs
  exact ⟨f, fd, ok f fd F, m, F.kp, F.binds b, kb_pair F b1 b2 b3⟩
end
end Sw
namespace Sw
open PySem PySem.Spec PyProof.Rows L2 PySem.W
section
variable {P : Program} {w : World} {K : PySem.W.Frag} {mg : Str → Option Value} {base : Heap}
theorem Has.ownX2 {k : Nat} {x p1 p2 : Str} {st : Stmt} {sp : Sp} (hs : Has K mg x st) (ok : ∀ f fd, Fun K x x st f fd → FnOk P w K mg base (L2.CX P w) k f fd [p1, p2] sp)
    (b : ∀ (kV doc pm : Value) (an : Option Addr) (cdv ct : Value) (us : List Value), us.length = ([p1, p2] : List Str).length → bindArgs (PySem.W.fnOf x x (defArgs st) (defBody st) (defScope st) .none kV doc pm an cdv ct) ⟨us, []⟩ = pure (([p1, p2] : List Str).zip us))
    (b1 : ∀ (kV doc pm : Value) (an : Option Addr) (cdv ct u v : Value), bindArgs (PySem.W.fnOf x x (defArgs st) (defBody st) (defScope st) .none kV doc pm an cdv ct) ⟨[], ([p2, p1] : List Str).zip [u, v]⟩ = pure (([p1, p2] : List Str).zip [v, u]))
    (b2 : ∀ (kV doc pm : Value) (an : Option Addr) (cdv ct u v : Value), bindArgs (PySem.W.fnOf x x (defArgs st) (defBody st) (defScope st) .none kV doc pm an cdv ct) ⟨[u], ([p2, p1] : List Str).zip [v]⟩ = pure (([p1, p2] : List Str).zip [u, v]))
    (b3 : ∀ (kV doc pm : Value) (an : Option Addr) (cdv ct u v : Value), bindArgs (PySem.W.fnOf x x (defArgs st) (defBody st) (defScope st) .none kV doc pm an cdv ct) ⟨[u, v], ([p2, p1] : List Str).zip []⟩ = pure (([p1, p2] : List Str).zip [u, v])) : OwnX2 P w K mg base k x p1 p2 sp := by
  obtain ⟨f, fd, F, m⟩ := hs
  exact ⟨f, fd, ok f fd F, m, F.kp, F.binds b, kb_pair F b1 b2 b3⟩
end
/-! ### the fives: joined, of their kind, with names -/
theorem ords_nat : ords 5 5 = (ordsN 5 5).map fun o => o.map fun k : Nat => (k : Int) := by decide +kernel
theorem ord_mem {os : List Int} (O : Ord 5 os) : os ∈ ords 5 5 := by
  have eo : os = (os.map Int.toNat).map fun k : Nat => (k : Int) := by
    rw [List.map_map]
    refine ((List.map_congr_left fun x hx => ?_).trans (List.map_id _)).symm
    have := (O.is x).mp hx
    show ((x.toNat : Nat) : Int) = x
    exact Int.toNat_of_nonneg this.1
  have mo : os.map Int.toNat ∈ ordsN 5 5 := by
    refine mem_ordsN 5 _ (by rw [List.length_map]; exact O.len) ?_ fun x hx => ?_
    · refine List.pairwise_map.mpr (O.nd.imp_of_mem fun {a b} ha hb n z => n ?_)
      have a1 := ((O.is a).mp ha).1
      have b1 := ((O.is b).mp hb).1
      omega
    · obtain ⟨y, hy, rfl⟩ := List.mem_map.mp hx
      have := (O.is y).mp hy
      have h1 := this.1
      have h2 := this.2
      omega
  rw [ords_nat, eo]
  exact List.mem_map.mpr ⟨_, mo, rfl⟩
section
variable {os : List Int} {c : Bool} {ars : List (Int × Int)}
theorem five_inn (O : Ord 5 os) (pm : ars.Perm ((fiveS c).map (renE os))) : ∀ e ∈ ars, Inn 5 e.1 ∧ Inn 5 e.2 := fun e he => by
  obtain ⟨x, hx, rfl⟩ := List.mem_map.mp (pm.mem_iff.mp he)
  have := fiveS_in c x hx
  exact ⟨O.inn this.1, O.inn this.2⟩
theorem five_is (O : Ord 5 os) (pm : ars.Perm ((fiveS c).map (renE os))) : FiveP 5 ars := by
  refine (five_law (five_inn O pm)).mpr ⟨rfl, ?_, os, ord_mem O, c, ?_⟩
  · rw [pm.length_eq, List.length_map]
    cases c <;> rfl
  · exact ((fiveGS c).map _).trans pm.symm
theorem five_kind (h : FiveP 5 ars) : KindP 5 ars "five" := by
  refine ⟨fun z => absurd z (by decide), fun _ z => ?_, fun _ _ _ => rfl, fun _ _ z => (z h).elim, fun _ _ z => (z h).elim⟩
  have := h.2.1
  omega
theorem base_joined (c : Bool) : Joined 5 (fiveS c) := by
  have inn : ∀ e ∈ fiveS c, Inn 5 e.1 ∧ Inn 5 e.2 := fun e he => fiveS_in c e he
  have nx : ∀ b d, d ∈ nextOf (fiveS c) b ↔ (b, d) ∈ fiveS c := nx_mem inn
  have m1 : ((0 : Int), (1 : Int)) ∈ fiveS c := by cases c <;> decide
  have m2 : ((0 : Int), (3 : Int)) ∈ fiveS c := by cases c <;> decide
  have m3 : ((1 : Int), (2 : Int)) ∈ fiveS c := by cases c <;> decide
  have m4 : ((2 : Int), (0 : Int)) ∈ fiveS c := by cases c <;> decide
  have m5 : ((3 : Int), (4 : Int)) ∈ fiveS c := by cases c <;> decide
  have b4 : ∃ k, Rch (fiveS c) k 4 0 := by
    cases c with
    | false => exact ⟨_, .cons (by decide) (.nil 0)⟩
    | true => exact ⟨_, .cons (c := 0) (show ((4 : Int), (2 : Int)) ∈ fiveS true by decide) (.cons (by decide) (.nil 0))⟩
  obtain ⟨k4, r4⟩ := b4
  intro v hv
  have h0 := hv.1
  have h1 := hv.2
  have : v = 0 ∨ v = 1 ∨ v = 2 ∨ v = 3 ∨ v = 4 := by omega
  rcases this with rfl | rfl | rfl | rfl | rfl
  · exact .refl _
  · exact ⟨⟨_, (rch_path nx).mp (.cons m1 (.nil _))⟩, _, (rch_path nx).mp (.cons m3 (.cons m4 (.nil _)))⟩
  · exact ⟨⟨_, (rch_path nx).mp (.cons m1 (.cons m3 (.nil _)))⟩, _, (rch_path nx).mp (.cons m4 (.nil _))⟩
  · exact ⟨⟨_, (rch_path nx).mp (.cons m2 (.nil _))⟩, _, (rch_path nx).mp (.cons m5 r4)⟩
  · exact ⟨⟨_, (rch_path nx).mp (.cons m2 (.cons m5 (.nil _)))⟩, _, (rch_path nx).mp r4⟩
theorem five_joined (O : Ord 5 os) (pm : ars.Perm ((fiveS c).map (renE os))) : Joined 5 ars := by
  have J := base_joined c
  have i0 : Inn 5 0 := ⟨by decide, by decide⟩
  intro v hv
  obtain ⟨u0, h0, e0⟩ := O.onto i0
  obtain ⟨u, hu, eu⟩ := O.onto hv
  have b : Both2 (fiveS c) u0 u := (J u0 h0).symm.trans (J u hu)
  have := (O.both (fun e he => fiveS_in c e he) (five_inn O pm) pm h0 hu).mpr b
  rw [e0, eu] at this
  exact this
end
theorem nm_tab {A : List (Nat × Nat)} {T : List (List Nat)} (AP : ArP A) (FN : fullN A = true) (h : nmT A = some T) : TabP T := by
  unfold nmT at h
  have hm := List.mem_of_head? h
  obtain ⟨r, hr, rfl⟩ := List.mem_map.mp (List.mem_filter.mp hm).1
  exact (tab_p AP FN (rows_perm r hr)).1
theorem TabP.few {T : List (List Nat)} (h : TabP T) : smallAll ((T.map intR).map tupI) ∧ wtAll ((T.map intR).map tupI) ≤ 20000 ∧ depAll ((T.map intR).map tupI) ≤ 1 := by
  refine Few.lots (m := 6) ⟨by rw [List.length_map, h.len]; decide, fun L hL => ?_⟩ (by decide)
  obtain ⟨r, hr, rfl⟩ := List.mem_map.mp hL
  obtain ⟨v, hv, e⟩ := List.getElem_of_mem hr
  have R : RowP r := by
    have := h.row v (by have := h.len; omega)
    unfold row' at this
    rw [List.getD_eq_getElem?_getD, List.getElem?_eq_getElem hv, e] at this
    exact this
  refine ⟨by rw [intR_len, R.len]; exact Nat.le_refl _, fun i hi => ?_⟩
  obtain ⟨k, hk, rfl⟩ := List.mem_map.mp hi
  have := List.mem_range.mp (R.mem_iff.mp hk)
  omega
theorem TabP.wt {T : List (List Nat)} (h : TabP T) : wt (tabD T) ≤ 100000 := by
  obtain ⟨_, b, _⟩ := h.few
  show Sw.wt (lotsI (T.map intR)) ≤ _
  unfold lotsI
  rw [wt_tup]
  omega
end Sw
namespace Sw
open PySem PySem.Spec PyProof.Rows L2 LamX
/-! ### data apart from the deck -/
def KX (p d : Addr) (H H' : Hp) : Prop := ∀ (b : Addr) (o : HO), H b = some o → b ≠ p → b ≠ d → (∀ ps : Array Value, o ≠ HO.tbl ps) → H' b = some o
theorem KX.refl {p d : Addr} {H : Hp} : KX p d H H := fun _ _ e _ _ _ => e
theorem KX.trans {p d : Addr} {H H1 H2 : Hp} (h : KX p d H H1) (g : KX p d H1 H2) : KX p d H H2 := fun b o e n1 n2 n3 => g b o (h b o e n1 n2 n3) n1 n2 n3
theorem KX.kpl {p d : Addr} {H H' : Hp} (k : KpL p d H H') : KX p d H H' := fun b o e n1 n2 _ => k b o e n1 n2
theorem KX.ext {p d : Addr} {H H' : Hp} (x : ExtN H H') : KX p d H H' := fun b o e _ _ n3 => x b o e n3
theorem KX.same {p d : Addr} {H H' : Hp} (x : Same H H') : KX p d H H' := KX.ext (.of x)
theorem KX.tup {p d : Addr} {H H' : Hp} (D : DeckL H p d) (x : KX p d H H') : TupS H H' := fun b xs e => by
  obtain ⟨ns, st, k, h1, h2, _⟩ := D.ex
  exact x b _ e (fun z => by rw [z, h1] at e; cases e) (fun z => by rw [z, h2] at e; cases e) fun ps z => nomatch z
mutual
theorem Rep.ntbl {K : PySem.W.Frag} {H : Hp} : ∀ {d : Sw.D} {v : V} {as : List Addr}, Rep K H d v as → ∀ b ∈ as, ∀ ps : Array Value, H b ≠ some (HO.tbl ps)
  | .non, v, as, h, b, hb, ps => by simp only [Rep] at h; rw [h.2] at hb; cases hb
  | .bl _, v, as, h, b, hb, ps => by simp only [Rep] at h; rw [h.2] at hb; cases hb
  | .int _, v, as, h, b, hb, ps => by simp only [Rep] at h; rw [h.2] at hb; cases hb
  | .str _, v, as, h, b, hb, ps => by simp only [Rep] at h; rw [h.2] at hb; cases hb
  | .tup ds, v, as, h, b, hb, ps => by
    simp only [Rep] at h
    obtain ⟨a, xs, bs, e, ha, r, na, rfl⟩ := h
    rcases List.mem_cons.mp hb with z | z
    · rw [z, ha]
      exact fun q => nomatch q
    · exact RepAll.ntbl r b z ps
  | .lst ds, v, as, h, b, hb, ps => by
    simp only [Rep] at h
    obtain ⟨a, xs, bs, e, ha, r, na, rfl⟩ := h
    rcases List.mem_cons.mp hb with z | z
    · rw [z, ha]
      exact fun q => nomatch q
    · exact RepAll.ntbl r b z ps
  | .dct, v, as, h, b, hb, ps => by
    simp only [Rep] at h
    obtain ⟨a, e, ha, rfl⟩ := h
    obtain rfl := List.mem_singleton.mp hb
    rw [ha]
    exact fun q => nomatch q
  | .dx ks ds, v, as, h, b, hb, ps => by
    simp only [Rep] at h
    obtain ⟨a, kvs, bs, e, ha, ek, r, na, rfl⟩ := h
    rcases List.mem_cons.mp hb with z | z
    · rw [z, ha]
      exact fun q => nomatch q
    · exact RepAll.ntbl r b z ps
  | .exc C n m, v, as, h, b, hb, ps => by
    simp only [Rep] at h
    obtain ⟨a, t, d, e, ha, ht, hd, g, rfl⟩ := h
    rcases List.mem_cons.mp hb with z | z
    · rw [z, ha]
      unfold xV
      exact fun q => nomatch q
    · rcases List.mem_cons.mp z with z | z
      · rw [z, ht]
        exact fun q => nomatch q
      · rw [hd b (by simpa using z)]
        exact fun q => nomatch q
theorem RepAll.ntbl {K : PySem.W.Frag} {H : Hp} : ∀ {ds : List Sw.D} {xs : List V} {as : List Addr}, RepAll K H ds xs as → ∀ b ∈ as, ∀ ps : Array Value, H b ≠ some (HO.tbl ps)
  | [], xs, as, h, b, hb, ps => by simp only [RepAll] at h; rw [h.2] at hb; cases hb
  | d :: ds, xs, as, h, b, hb, ps => by
    simp only [RepAll] at h
    obtain ⟨x, r, bs, cs, e, h1, h2, rfl⟩ := h
    rcases List.mem_append.mp hb with z | z
    · exact Rep.ntbl h1 b z ps
    · exact RepAll.ntbl h2 b z ps
end
/-- x is small data, all of it in U -/
def DKn (K : PySem.W.Frag) (U : Addr → Prop) (w k : Nat) (H : Hp) (x : V) : Prop := ∃ (dd : Sw.D) (as : List Addr), Rep K H dd x as ∧ (∀ a ∈ as, U a) ∧ small dd ∧ wt dd ≤ w ∧ dep dd ≤ k
/-- what is free is in U, and all tuples -/
structure UOk (U : Addr → Prop) (H : Hp) : Prop where
  free : ∀ a, H a = none → U a
  tup : ∀ a xs, H a = some (.tup xs) → U a
def Off2 (p d : Addr) : Addr → Prop := fun a => a ≠ p ∧ a ≠ d
def Off3 (p d l : Addr) : Addr → Prop := fun a => a ≠ p ∧ a ≠ d ∧ a ≠ l
theorem DeckL.tneL {H : Hp} {p d a : Addr} {xs : List V} (D : DeckL H p d) (h : H a = some (.tup xs)) : a ≠ p ∧ a ≠ d := by
  obtain ⟨ns, st, k, h1, h2, r⟩ := D.ex
  exact ⟨(fun z => by rw [z, h1] at h; cases h), (fun z => by rw [z, h2] at h; cases h)⟩
theorem off2_ok {H : Hp} {p d : Addr} (D : DeckL H p d) : UOk (Off2 p d) H := ⟨fun _ h => D.off h, fun _ _ h => D.tneL h⟩
theorem off3_ok {H : Hp} {p d l : Addr} {vs : List V} (D : DeckL H p d) (hl : H l = some (.lst vs)) : UOk (Off3 p d l) H :=
  ⟨fun a h => ⟨(D.off h).1, (D.off h).2, fun z => by rw [z, hl] at h; cases h⟩, fun a xs h => ⟨(D.tneL h).1, (D.tneL h).2, fun z => by rw [z, hl] at h; cases h⟩⟩
section
variable {K : PySem.W.Frag} {p d : Addr} {U : Addr → Prop} {w k : Nat} {H H' : Hp} {x : V}
theorem UOk.same (u : UOk U H) (s : Same H H') : UOk U H' := by
  refine ⟨fun a h => u.free a (s.free h), fun a xs h => ?_⟩
  cases e : H a with
  | none => exact u.free a e
  | some o =>
    have := s _ _ e
    rw [this] at h
    cases h
    exact u.tup a xs e
/-- all of U stands but tables -/
def KU (U : Addr → Prop) (H H' : Hp) : Prop := ∀ (b : Addr) (o : HO), H b = some o → U b → (∀ ps : Array Value, o ≠ HO.tbl ps) → H' b = some o
theorem KU.trans {H1 : Hp} (h : KU U H H1) (g : KU U H1 H') : KU U H H' := fun b o e n1 n3 => g b o (h b o e n1 n3) n1 n3
theorem KU.same (s : Same H H') : KU U H H' := fun b o e _ _ => s b o e
theorem KU.x2 (s : KX p d H H') : KU (Off2 p d) H H' := fun b o e n1 n3 => s b o e n1.1 n1.2 n3
theorem KU.x3 {l : Addr} (s : KX p d H H') : KU (Off3 p d l) H H' := fun b o e n1 n3 => s b o e n1.1 n1.2.1 n3
theorem KU.k2 (s : KpL p d H H') : KU (Off2 p d) H H' := .x2 (.kpl s)
theorem KU.k3 {l : Addr} (s : KpL p d H H') : KU (Off3 p d l) H H' := .x3 (.kpl s)
theorem DKn.keep (h : DKn K U w k H x) (s : KU U H H') : DKn K U w k H' x := by
  obtain ⟨dd, as, h1, h2, h4⟩ := h
  exact ⟨dd, as, h1.keep fun b hb o e => s b o e (h2 b hb) fun ps z => Rep.ntbl h1 b hb ps (by rw [e, z]), h2, h4⟩
theorem DKn.le {w' k' : Nat} (h : DKn K U w k H x) (hw : w ≤ w') (hk : k ≤ k') : DKn K U w' k' H x := by
  obtain ⟨dd, as, h1, h2, h4, h5, h6⟩ := h
  exact ⟨dd, as, h1, h2, h4, by omega, by omega⟩
theorem DKn.mono {U' : Addr → Prop} (h : DKn K U w k H x) (hu : ∀ a, U a → U' a) : DKn K U' w k H x := by
  obtain ⟨dd, as, h1, h2, h3⟩ := h
  exact ⟨dd, as, h1, fun a ha => hu a (h2 a ha), h3⟩
theorem DKn.off3 {l : Addr} (h : DKn K (Off2 p d) w k H x) (hl : H l = none) : DKn K (Off3 p d l) w k H x := by
  obtain ⟨dd, as, h1, h2, h3⟩ := h
  refine ⟨dd, as, h1, fun a ha => ⟨(h2 a ha).1, (h2 a ha).2, fun z => ?_⟩, h3⟩
  obtain ⟨o, e⟩ := h1.tracked a ha
  rw [z, hl] at e
  cases e
theorem DKn.off2 {l : Addr} (h : DKn K (Off3 p d l) w k H x) : DKn K (Off2 p d) w k H x := h.mono fun _ a => ⟨a.1, a.2.1⟩
theorem dk_at {dd : Sw.D} (h : Rep K H dd x []) (sm : small dd) (hw : wt dd ≤ w) (hk : dep dd ≤ k) : DKn K U w k H x := ⟨dd, [], h, by simp, sm, hw, hk⟩
theorem dk_int {i : Int} (h : i.natAbs < 1000) (hw : 4 ≤ w) : DKn K U w k H (.int i) := by
  refine dk_at (dd := .int i) (by simp [Rep]) ?_ ?_ (by simp only [dep]; omega)
  · simp only [small]
    exact PySem.Spec.log2_small (Nat.lt_of_lt_of_le (show i.natAbs < 10 ^ 3 from h) (by decide +kernel))
  · simp only [wt]
    rw [PySem.ofString_length]
    have := int_text_length_le10 (k := 3) (by decide) (show i.natAbs < 10 ^ 3 from h)
    omega
theorem dk_bl {b : Bool} (hw : 5 ≤ w) : DKn K U w k H (.bl b) := dk_at (dd := .bl b) (by simp [Rep]) (by simp [small]) (by simp only [wt]; omega) (by simp only [dep]; omega)
theorem dk_non (hw : 4 ≤ w) : DKn K U w k H .non := dk_at (dd := .non) (by simp [Rep]) (by simp [small]) (by simp only [wt]; omega) (by simp only [dep]; omega)
theorem dk_str {s : Str} (hw : (reprText s).length ≤ w) : DKn K U w k H (.str s) := dk_at (dd := .str s) (by simp [Rep]) (by simp [small]) (by simp only [wt]; omega) (by simp only [dep]; omega)
theorem dk_all : ∀ {xs : List V}, (∀ x ∈ xs, DKn K U w k H x) → ∃ (ds : List Sw.D) (as : List Addr), RepAll K H ds xs as ∧ (∀ a ∈ as, U a) ∧ smallAll ds ∧ wtAll ds ≤ xs.length * (w + 2) ∧ depAll ds ≤ k
  | [], _ => ⟨[], [], by simp [RepAll], by simp, by simp [smallAll], by simp [wtAll], by simp [depAll]⟩
  | x :: r, h => by
    obtain ⟨dd, as, h1, h2, h4, h5, h6⟩ := h x (by simp)
    obtain ⟨ds, bs, l1, l2, l4, l5, l6⟩ := dk_all (xs := r) fun y hy => h y (by simp [hy])
    refine ⟨dd :: ds, as ++ bs, ?_, fun c hc => (List.mem_append.mp hc).elim (h2 c) (l2 c), ?_, ?_, ?_⟩
    · simp only [RepAll]
      exact ⟨x, r, as, bs, rfl, h1, l1, rfl⟩
    · simp only [smallAll]
      exact ⟨h4, l4⟩
    · simp only [wtAll, List.length_cons, Nat.succ_mul]
      omega
    · simp only [depAll]
      omega
/-- a tuple made of what was there before it -/
theorem dk_tup {a : Addr} {xs : List V} (u : UOk U H) (h : ∀ x ∈ xs, DKn K U w k H x) (na : H a = none) (s : Same H H') (ha : H' a = some (.tup xs)) : DKn K U (xs.length * (w + 2) + 3) (k + 1) H' (.ref a) := by
  obtain ⟨ds, as, l1, l2, l4, l5, l6⟩ := dk_all h
  refine ⟨.tup ds, a :: as, ?_, fun c hc => (List.mem_cons.mp hc).elim (fun q => q ▸ u.free a na) (l2 c), by simp only [small]; exact l4, by simp only [wt]; omega, by simp only [dep]; omega⟩
  simp only [Rep]
  exact ⟨a, _, as, rfl, ha, l1.same s, nmem l1 na, rfl⟩
theorem dk_lst {a : Addr} {xs : List V} (u : UOk U H) (h : ∀ x ∈ xs, DKn K U w k H x) (na : H a = none) (s : Same H H') (ha : H' a = some (.lst xs)) : DKn K U (xs.length * (w + 2) + 3) (k + 1) H' (.ref a) := by
  obtain ⟨ds, as, l1, l2, l4, l5, l6⟩ := dk_all h
  refine ⟨.lst ds, a :: as, ?_, fun c hc => (List.mem_cons.mp hc).elim (fun q => q ▸ u.free a na) (l2 c), by simp only [small]; exact l4, by simp only [wt]; omega, by simp only [dep]; omega⟩
  simp only [Rep]
  exact ⟨a, _, as, rfl, ha, l1.same s, nmem l1 na, rfl⟩
theorem dk_dct {a : Addr} (u : UOk U H) (na : H a = none) (hw : 2 ≤ w) (ha : H' a = some (.dK [])) : DKn K U w (k + 1) H' (.ref a) := by
  refine ⟨.dct, [a], ?_, fun c hc => (List.mem_singleton.mp hc) ▸ u.free a na, by simp only [small], by simp only [wt]; omega, by simp only [dep]; omega⟩
  simp only [Rep]
  exact ⟨a, rfl, ha, rfl⟩
theorem rows_all : ∀ {L : List Int}, (∀ i ∈ L, i.natAbs < 1000) → smallAll (L.map Sw.D.int) ∧ wtAll (L.map Sw.D.int) ≤ L.length * 6 ∧ depAll (L.map Sw.D.int) = 0
  | [], _ => ⟨by simp [smallAll], by simp [wtAll], by simp [depAll]⟩
  | i :: L, h => by
    obtain ⟨a, b, c⟩ := rows_all (L := L) fun j hj => h j (List.mem_cons_of_mem _ hj)
    have hi := h i List.mem_cons_self
    have tx := int_text_length_le10 (k := 3) (by decide) (show i.natAbs < 10 ^ 3 from hi)
    refine ⟨?_, ?_, ?_⟩
    · simp only [List.map_cons, smallAll, small]
      exact ⟨PySem.Spec.log2_small (Nat.lt_of_lt_of_le (show i.natAbs < 10 ^ 3 from hi) (by decide +kernel)), a⟩
    · simp only [List.map_cons, wtAll, wt, List.length_cons]
      rw [PySem.ofString_length]
      omega
    · simp only [List.map_cons, depAll, dep]
      omega
/-- a tuple of small whole numbers -/
theorem dk_row {a : Addr} {L : List Int} (u : UOk U H) (h : ∀ i ∈ L, i.natAbs < 1000) (ha : H a = some (.tup (L.map V.int))) (hw : L.length * 6 + 3 ≤ w) : DKn K U w (k + 1) H (.ref a) := by
  obtain ⟨s1, s2, s3⟩ := rows_all h
  refine ⟨.tup (L.map Sw.D.int), [a], ?_, fun c hc => (List.mem_singleton.mp hc) ▸ u.tup a _ ha, by simp only [small]; exact s1, by simp only [wt]; omega, by simp only [dep]; omega⟩
  simp only [Rep]
  exact ⟨a, _, [], rfl, ha, rep_ints L, by simp, rfl⟩
theorem row_ints {r : List Nat} (R : RowP r) : ∀ i ∈ intR r, i.natAbs < 1000 := fun i hi => by
  obtain ⟨k, hk, rfl⟩ := List.mem_map.mp hi
  have := List.mem_range.mp (R.mem_iff.mp hk)
  omega
theorem dk_rowN {a : Addr} {r : List Nat} (u : UOk U H) (R : RowP r) (ha : H a = some (.tup ((intR r).map V.int))) (hw : 39 ≤ w) : DKn K U w (k + 1) H (.ref a) :=
  dk_row u (row_ints R) ha (by rw [intR_len, R.len]; omega)
theorem tab_all : ∀ T : List (List Nat), (∀ r ∈ T, RowP r) → smallAll ((T.map intR).map tupI) ∧ wtAll ((T.map intR).map tupI) ≤ T.length * 50 ∧ depAll ((T.map intR).map tupI) ≤ 1 := by
  intro T
  induction T with
  | nil => intro _; exact ⟨by simp [smallAll], by simp [wtAll], by simp [depAll]⟩
  | cons r T ih =>
    intro h
    obtain ⟨a, b, c⟩ := ih fun q hq => h q (List.mem_cons_of_mem _ hq)
    have R := h r List.mem_cons_self
    obtain ⟨s1, s2, s3⟩ := rows_all (row_ints R)
    rw [intR_len, R.len] at s2
    refine ⟨?_, ?_, ?_⟩
    · simp only [List.map_cons, smallAll, tupI, small]
      exact ⟨s1, a⟩
    · simp only [List.map_cons, wtAll, tupI, wt, List.length_cons]
      omega
    · simp only [List.map_cons, depAll, tupI, dep]
      omega
theorem TabP.mem {T : List (List Nat)} (TP : TabP T) : ∀ r ∈ T, RowP r := fun r hr => by
  obtain ⟨v, hv, e⟩ := List.getElem_of_mem hr
  have R := TP.row v (by have := TP.len; omega)
  unfold row' at R
  rw [List.getD_eq_getElem?_getD, List.getElem?_eq_getElem hv, e] at R
  exact R
theorem dk_tab {t : Addr} {us : List Addr} {T : List (List Nat)} (u : UOk U H) (TA : TabAt H t us T) (TP : TabP T) (hw : 300 ≤ w) : DKn K U w (k + 2) H (.ref t) := by
  obtain ⟨s1, s2, s3⟩ := tab_all T TP.mem
  rw [TP.len] at s2
  refine ⟨tabD T, t :: us, rep_lots (K := K) TA.tup TA.rows, fun b hb => ?_, ?_, ?_, ?_⟩
  · rcases List.mem_cons.mp hb with z | z
    · exact z ▸ u.tup t _ TA.tup
    · obtain ⟨i, hi, e⟩ := List.getElem_of_mem z
      obtain ⟨L, eL, hL⟩ := TA.rows.at (List.getElem?_eq_getElem hi)
      rw [e] at hL
      exact u.tup b _ hL
  · unfold tabD lotsI
    simp only [small]
    exact s1
  · unfold tabD lotsI
    simp only [wt]
    omega
  · unfold tabD lotsI
    simp only [dep]
    omega
theorem rows_dk {t : Addr} {us : List Addr} {T : List (List Nat)} (u : UOk U H) (TA : TabAt H t us T) (TP : TabP T) (hw : 39 ≤ w) : ∀ v ∈ us.map V.ref, DKn K U w (k + 1) H v := fun v hv => by
  obtain ⟨a, ha, rfl⟩ := List.mem_map.mp hv
  obtain ⟨i, hi, e⟩ := List.getElem_of_mem ha
  obtain ⟨L, eL, hL⟩ := TA.rows.at (List.getElem?_eq_getElem hi)
  rw [e] at hL
  rw [List.getElem?_map] at eL
  obtain ⟨r, er, rfl⟩ := Option.map_eq_some_iff.mp eL
  exact dk_rowN u (TP.mem r (List.mem_of_getElem? er)) hL hw
end
/-- no list of the heap H0 either -/
def OffL (p d : Addr) (H0 : Hp) : Addr → Prop := fun a => a ≠ p ∧ a ≠ d ∧ ∀ ws, H0 a ≠ some (.lst ws)
def OffM (p d : Addr) (H0 : Hp) (l : Addr) : Addr → Prop := fun a => OffL p d H0 a ∧ a ≠ l
theorem kp_free {H0 H : Hp} {p d l : Addr} (D : DeckL H p d) (k : KpL p d H0 H) (h : H l = none) : H0 l = none := by
  cases e : H0 l with
  | none => rfl
  | some o =>
    have := k l o e (D.off h).1 (D.off h).2
    rw [h] at this
    cases this
section
variable {K : PySem.W.Frag} {p d l : Addr} {H0 H H' : Hp} {w k : Nat} {x : V}
theorem offL_ok (D : DeckL H p d) (s : KpL p d H0 H) : UOk (OffL p d H0) H := by
  refine ⟨fun a h => ⟨(D.off h).1, (D.off h).2, fun ws z => ?_⟩, fun a xs h => ⟨(D.tneL h).1, (D.tneL h).2, fun ws z => ?_⟩⟩
  · rw [kp_free D s h] at z
    cases z
  · have := s a _ z (D.tneL h).1 (D.tneL h).2
    rw [h] at this
    cases this
theorem offM_ok {vs : List V} (D : DeckL H p d) (s : KpL p d H0 H) (hl : H l = some (.lst vs)) : UOk (OffM p d H0 l) H :=
  ⟨fun a h => ⟨(offL_ok D s).free a h, fun z => by rw [z, hl] at h; cases h⟩, fun a xs h => ⟨(offL_ok D s).tup a xs h, fun z => by rw [z, hl] at h; cases h⟩⟩
theorem KU.kL (s : KpL p d H H') : KU (OffL p d H0) H H' := fun b o e n _ => s b o e n.1 n.2.1
theorem KU.kM (s : KpL p d H H') : KU (OffM p d H0 l) H H' := fun b o e n _ => s b o e n.1.1 n.1.2.1
theorem DKn.offM (h : DKn K (OffL p d H0) w k H x) (hl : H l = none) : DKn K (OffM p d H0 l) w k H x := by
  obtain ⟨dd, as, h1, h2, h3⟩ := h
  refine ⟨dd, as, h1, fun a ha => ⟨h2 a ha, fun z => ?_⟩, h3⟩
  obtain ⟨o, e⟩ := h1.tracked a ha
  rw [z, hl] at e
  cases e
theorem DKn.offL (h : DKn K (OffM p d H0 l) w k H x) : DKn K (OffL p d H0) w k H x := h.mono fun _ a => a.1
end
theorem deck_lst {H : Hp} {p d l : Addr} {o : HO} (D : DeckL H p d) (n1 : l ≠ p) (n2 : l ≠ d) : DeckL (upd H l o) p d := by
  obtain ⟨ns, st, k, h1, h2, r⟩ := D.ex
  exact ⟨ns, st, k, by rw [upd_ne fun z => n1 z.symm]; exact h1, by rw [upd_ne fun z => n2 z.symm]; exact h2, r⟩
theorem ku_lst {p d l : Addr} {H : Hp} {o : HO} : KU (Off3 p d l) H (upd H l o) := fun b o' e u _ => by
  rw [upd_ne u.2.2]
  exact e
theorem ku_lstM {p d l : Addr} {H0 H : Hp} {o : HO} : KU (OffM p d H0 l) H (upd H l o) := fun b o' e u _ => by
  rw [upd_ne u.2]
  exact e
/-! ### expressions that give such data -/
structure SDk (U : L2.St → Addr → Prop) (p d : Addr) (S : L2.St → Hp → Prop) : Prop where
  uk : ∀ σ H, S σ H → UOk (U σ) H
  sub : ∀ σ H a, S σ H → U σ a → Off2 p d a
  dk : ∀ σ H, S σ H → DeckL H p d
  keep : ∀ σ H H', S σ H → DeckL H' p d → KpL p d H H' → S σ H'
theorem SDk.same {U : L2.St → Addr → Prop} {p d : Addr} {S : L2.St → Hp → Prop} (h : SDk U p d S) {σ : L2.St} {H H' : Hp} (s : S σ H) (e : Same H H') : S σ H' := h.keep σ H H' s ((h.dk _ _ s).same e) (.of e)
def tR (K : PySem.W.Frag) (U : L2.St → Addr → Prop) (p d : Addr) (S : L2.St → Hp → Prop) (w k : Nat) : TE := fun σ H Q => S σ H ∧ ∀ (x : V) (H' : Hp), DKn K (U σ) w k H' x → S σ H' → KpL p d H H' → Q x H'
def tRs (K : PySem.W.Frag) (U : L2.St → Addr → Prop) (p d : Addr) (S : L2.St → Hp → Prop) (w k m : Nat) : TA := fun σ H Q => S σ H ∧ ∀ (xs : List V) (H' : Hp), xs.length = m → (∀ x ∈ xs, DKn K (U σ) w k H' x) → S σ H' → KpL p d H H' → Q xs H'
section
variable {X : Cx} {U : L2.St → Addr → Prop} {p d : Addr} {S : L2.St → Hp → Prop} {e : Expr} {es : List Expr} {w k m : Nat}
theorem r_of {t : TE} (h : PE X e t) (ht : ∀ σ H Q, S σ H → (∀ (x : V) (H' : Hp), DKn X.K (U σ) w k H' x → S σ H' → KpL p d H H' → Q x H') → t σ H Q) : PE X e (tR X.K U p d S w k) := pe_weak h fun σ H Q q => ht σ H Q q.1 q.2
theorem rs_nil : PA X [] (tRs X.K U p d S w k 0) := pa_weak pa_nil fun σ H Q q => q.2 [] H rfl (fun _ h => absurd h (by simp)) q.1 fun _ _ e _ _ => e
theorem rs_cons (hS : SDk U p d S) (ha : PE X e (tR X.K U p d S w k)) (hr : PA X es (tRs X.K U p d S w k m)) (hs : starEach (e :: es) X.env = (false, eval e X.env) :: starEach es X.env := by rfl) : PA X (e :: es) (tRs X.K U p d S w k (m + 1)) :=
  pa_weak (pa_cons ha hr hs) fun σ H Q q => ⟨q.1, fun x H1 hx s1 k1 => ⟨s1, fun xs H2 lm hxs s2 k2 => q.2 (x :: xs) H2 (by rw [List.length_cons, lm]) (fun y hy => (List.mem_cons.mp hy).elim (fun z => by rw [z]; exact hx.keep fun b o e u _ => k2 b o e (hS.sub _ _ b s1 u).1 (hS.sub _ _ b s1 u).2) (hxs y)) s2 (k1.trans k2)⟩⟩
end
end Sw
namespace Sw
open PySem PySem.Spec PyProof.Rows L2
/-! ### _law_exchanged -/
def swN (r : List Nat) (i j : Nat) : List Nat := (r.set i (ap r j)).set j (ap r i)
theorem swN_ap {r : List Nat} {i j k : Nat} (l : r.length = 6) (hi : i < 6) (hj : j < 6) : ap (swN r i j) k = if k = j then ap r i else if k = i then ap r j else ap r k := by
  unfold swN
  rw [ap_set (by rw [List.length_set]; omega), ap_set (by omega)]
theorem RowP.sw {r : List Nat} {i j : Nat} (h : RowP r) (hi : i < 6) (hj : j < 6) : RowP (swN r i j) := by
  have l := h.len
  refine rowP_of (by unfold swN; rw [List.length_set, List.length_set, l]) (fun k hk => ?_) fun k m hk hm e => ?_
  · rw [swN_ap l hi hj]
    split
    · exact h.lt hi
    · split
      · exact h.lt hj
      · exact h.lt hk
  · rw [swN_ap l hi hj, swN_ap l hi hj] at e
    by_cases k1 : k = j
    · rw [if_pos k1] at e
      by_cases m1 : m = j
      · omega
      · rw [if_neg m1] at e
        by_cases m2 : m = i
        · rw [if_pos m2] at e
          have := h.inj hi hj e
          omega
        · rw [if_neg m2] at e
          have := h.inj hi hm e
          omega
    · rw [if_neg k1] at e
      by_cases k2 : k = i
      · rw [if_pos k2] at e
        by_cases m1 : m = j
        · rw [if_pos m1] at e
          have := h.inj hj hi e
          omega
        · rw [if_neg m1] at e
          by_cases m2 : m = i
          · omega
          · rw [if_neg m2] at e
            have := h.inj hj hm e
            omega
      · rw [if_neg k2] at e
        by_cases m1 : m = j
        · rw [if_pos m1] at e
          have := h.inj hk hi e
          omega
        · rw [if_neg m1] at e
          by_cases m2 : m = i
          · rw [if_pos m2] at e
            have := h.inj hk hj e
            omega
          · rw [if_neg m2] at e
            exact h.inj hk hm e
section
variable {P : Program} {w : World} {K : PySem.W.Frag} {mg : Str → Option Value} {base : Heap}
abbrev sExch : Stmt := top 50
abbrev nExch : List Str := ["row", "one", "other", "found"]
theorem scExch : FnScope nExch ["row", "one", "other"] (defScope sExch) := ⟨rfl, rfl, rfl, by decide +kernel, rfl, by decide +kernel, by decide +kernel⟩
def spExch : Sp := fun vs H Q _ => ∃ (a : Addr) (r : List Nat) (i j : Nat), vs = [.ref a, .int (i : Nat), .int (j : Nat)] ∧ H a = some (.tup ((intR r).map V.int)) ∧ r.length = 6 ∧ i < 6 ∧ j < 6 ∧
  ∀ (q : Addr) (H' : Hp), Same H H' → H' q = some (.tup ((intR (swN r i j)).map V.int)) → Q (.ref q) H'
theorem ok_exch {f : Addr} {fd : FuncData} (F : Fun K "_law_exchanged" "_law_exchanged" sExch f fd) (B : NoNames mg) : FnOk P w K mg base CX0 1 f fd ["row", "one", "other"] spExch := by
  refine F.ok scExch (fun vs H Q E h => ?_) (fun cdv A outer s H vs Q E hr h => ?_)
  · obtain ⟨a, r, i, j, rfl, _⟩ := h
    rfl
  · obtain ⟨a, r, i, j, rfl, ha, lr, hi, hj, k⟩ := h
    refine ⟨_, pss_cons (ps_set (i := 3) scExch.nd rfl (.inl rfl) (pe_callTy call_list_of (by rfl) B.list (by decide +kernel) (pa_cons (pv 0) pa_nil))) <|
      pss_cons (ps_asg (pe_tup (pa_cons (pe_ix ix_list (pv 3) (pv 2) (fun _ _ => rfl)) (pa_cons (pe_ix ix_list (pv 3) (pv 1) (fun _ _ => rfl)) pa_nil)))
        (pg_tup (by rfl) (pgs_cons (pg_sub (pv 3) (pv 1) set_list) (pgs_cons (pg_sub (pv 3) (pv 2) set_list) pgs_nil)))) <|
      pss_one (ps_ret (pe_callTy call_tuple_of (by rfl) B.tuple (by decide +kernel) (pa_cons (pv 3) pa_nil))), ?_⟩
    have li : ((intR r).map V.int).length = 6 := by rw [List.length_map, intR_len, lr]
    have ixi : ixN ((intR r).map V.int).length (i : Int) = some i := by
      unfold ixN
      rw [if_pos (by omega), if_pos (by omega)]
      rfl
    refine ⟨_, rfl, a, _, rfl, .inr (SqT.of ha), fun l nl => ?_⟩
    refine ⟨_, rfl, _, rfl, l, _, (j : Int), _, rfl, rfl, SqL.of upd_same, at_row (by omega), _, rfl, _, rfl, l, _, (i : Int), _, rfl, rfl, SqL.of upd_same, at_row (by omega), by show 2 ≤ sizeLine; decide, fun T nT => ?_⟩
    have s1 := same_new (o := .lst ((intR r).map V.int)) nl
    have s2 := same_new (o := .tup [.int (ap r j : Nat), .int (ap r i : Nat)]) nT
    have hl : (upd (upd H l (.lst ((intR r).map V.int))) T (.tup [.int (ap r j : Nat), .int (ap r i : Nat)])) l = some (.lst ((intR r).map V.int)) := s2 _ _ upd_same
    refine ⟨T, _, rfl, SqT.of upd_same, rfl, _, _, rfl, _, rfl, _, rfl, l, _, (i : Int), i, rfl, rfl, hl, ixi, _, _, rfl, _, rfl, _, rfl, l, _, (j : Int), j, rfl, rfl, upd_same, ?_, rfl, ?_⟩
    · rw [List.length_set]
      unfold ixN
      rw [if_pos (by omega), if_pos (by omega)]
      rfl
    · refine ⟨_, rfl, l, _, rfl, .inl ⟨SqL.of upd_same, fun q nq => ?_⟩⟩
      refine k q _ (fun b o e => ?_) ?_
      · refine same_new (o := .tup (((intR r).map V.int).set i (.int (ap r j : Nat))|>.set j (.int (ap r i : Nat)))) nq b o ?_
        rw [upd_ne (ne_of_none e nl), upd_ne (ne_of_none e nl)]
        exact s2 _ _ (s1 _ _ e)
      · rw [upd_same]
        unfold swN intR
        rw [List.map_set, List.map_set, List.map_set, List.map_set]
end
end Sw
namespace Sw
open PySem PySem.Spec PyProof.Rows L2 HT
/-! ### t[::-1], t a tuple -/
theorem back_pick (items : List Value) : ((List.range items.length).filterMap fun (m : Nat) => items.toArray[(((items.length : Int) - 1) + (m : Int) * (-1)).toNat]?) = items.reverse := by
  have e : ∀ m, m < items.length → items.toArray[(((items.length : Int) - 1) + (m : Int) * (-1)).toNat]? = some (items.reverse.getD m .none) := fun m hm => by
    have h1 : (((items.length : Int) - 1) + (m : Int) * (-1)).toNat = items.length - 1 - m := by omega
    rw [h1, List.getElem?_toArray, List.getD_eq_getElem?_getD, List.getElem?_reverse hm, List.getElem?_eq_getElem (by omega)]
    rfl
  have go : ∀ k, k ≤ items.length → (List.range k).filterMap (fun (m : Nat) => items.toArray[(((items.length : Int) - 1) + (m : Int) * (-1)).toNat]?) = items.reverse.take k := by
    intro k
    induction k with
    | zero => intro _; rfl
    | succ k ih =>
      intro hk
      have hk' : k < items.reverse.length := by rw [List.length_reverse]; exact hk
      rw [List.range_succ, List.filterMap_append, ih (by omega), List.take_add_one, List.getElem?_eq_getElem hk']
      congr 1
      have e1 := e k hk
      rw [List.getD_eq_getElem?_getD, List.getElem?_eq_getElem hk'] at e1
      show (List.filterMap (fun (m : Nat) => items.toArray[(((items.length : Int) - 1) + (m : Int) * (-1)).toNat]?) [k]) = [items.reverse[k]]
      simp only [List.filterMap, e1, Option.getD_some]
  have h := go items.length (Nat.le_refl _)
  rw [h, List.take_of_length_le (by rw [List.length_reverse]; exact Nat.le_refl _)]
section
variable {prog : Program} {w : World} {A : Around} {E : Value → Shared → Prop} {s : Shared}
theorem getItem_tuple_back {t sl : Addr} {items : List Value} {vl vu vs : Value} {Q : Value → Shared → Prop} (ht : IsTup s.heap t items.toArray) (hs : s.heap.IsSliceOf sl vl vu vs) (pl : IsPart vl none) (pu : IsPart vu none) (ps : IsPart vs (some (-1)))
    (h : Q (.ref s.heap.objs.size) { s with heap := s.heap.push { cls := .type "tuple", data := .seq items.reverse.toArray } }) (hsz : items.length ≤ sizeLine) : wpAny (model prog w) A (getItem (.ref t) (.ref sl)) Q E s := by
  obtain ⟨os, a1, a2, a3⟩ := id hs
  have tS : s.TypeIs (.ref sl) "slice" := ⟨os, a1, a2⟩
  unfold getItem
  try with_reducible refine wpAny_holding ?_
  first | refine wpAny_bind (wpAny_pure ?_) | skip
  refine wpAny_bind (wpAny_sequenceKey ht.typeIs (by decide) ?_)
  refine wpAny_bind (wpAny_callSpecial?_slot (name := Str.ofString "__getitem__") ht.typeIs PyProof.Rows.slot_tuple_getitem ?_)
  refine wpAny_call_entry PyProof.Rows.slot_tuple_getitem ht.typeIs entry_tuple_getitem ?_ (args_tuple_getitem _ _)
  show wpAny _ _ (Builtin.Tuple.tupleItemsOf (.ref t) >>= _) _ _ s
  refine wpAny_bind (tupleItemsOf_ ht (wpAny_bind (wpAny_typeOf tS ?_)))
  rw [if_pos (by decide)]
  refine wpAny_bind ?_
  unfold Builtin.Slice.sliceApplied Builtin.Slice.sliceFields
  refine wpAny_bind (wpAny_bind (wpAny_field a1 a3 (x := vl) rfl (wpAny_bind (wpAny_field a1 a3 (x := vu) rfl (wpAny_bind (wpAny_field a1 a3 (x := vs) rfl (wpAny_pure ?_)))))))
  refine wpAny_bind (slicePart_ ps ?_)
  show wpAny _ _ (if ((-1 : Int) == 0) = true then _ else _) _ _ s
  rw [if_neg (by decide)]
  refine wpAny_bind (slicePart_ pl (wpAny_bind (slicePart_ pu (wpAny_bind (wpAny_pure ?_)))))
  have adj : Builtin.Slice.sliceAdjust none none (-1) ((items.toArray.size : Nat) : Int) = (((items.length : Int) - 1), -1) := by
    rw [List.size_toArray]
    rfl
  have plc : Builtin.Slice.slicePlaces ((items.length : Int) - 1) (-1) (-1) = items.length := by
    unfold Builtin.Slice.slicePlaces
    rw [if_neg (by decide)]
    by_cases c : (items.length : Int) - 1 > -1
    · rw [if_pos c]
      simp only [Int.neg_neg, Int.ediv_one]
      omega
    · rw [if_neg c]
      omega
  show wpAny _ _ (match Builtin.Slice.sliceAdjust none none (-1) ((items.toArray.size : Nat) : Int) with | (lo, hi) => pure (lo, (-1 : Int), Builtin.Slice.slicePlaces lo hi (-1))) _ _ s
  rw [adj]
  show wpAny _ _ (pure ((items.length : Int) - 1, (-1 : Int), Builtin.Slice.slicePlaces ((items.length : Int) - 1) (-1) (-1))) _ _ s
  rw [plc]
  refine wpAny_pure ?_
  show wpAny _ _ (if ((((items.length : Int) - 1) == 0 && (-1 : Int) == 1 && items.length == items.toArray.size) = true) then _ else _) _ _ s
  rw [if_neg (by simp)]
  have pick := back_pick items
  have pick2 : ((List.range items.length).filterMap fun (m : Nat) => items.toArray[(((items.length : Int) - 1) + (m : Int) * (-1)).toNat]?).toArray = items.reverse.toArray := by rw [pick]
  rw [pick2]
  have ok : sizeOk (.seq items.reverse.toArray) := by
    show items.reverse.toArray.size ≤ sizeLine
    rw [List.size_toArray, List.length_reverse]
    exact hsz
  first
    | exact wpAny_bind (m := Builtin.Tuple.tupleExact _) (wpAny_newObj_type (wpAny_pure ⟨_, rfl, wpAny_pure h⟩) ok)
    | exact wpAny_bind (m := Builtin.Tuple.tupleExact _) (wpAny_newObj_type (wpAny_bind (wpAny_pure (wpAny_pure ⟨_, rfl, wpAny_pure h⟩))) ok)
    | exact wpAny_bind (wpAny_bind (m := Builtin.Tuple.tupleExact _) (wpAny_newObj_type (wpAny_pure (wpAny_pure ⟨_, rfl, wpAny_pure h⟩)) ok))
    | exact wpAny_bind (wpAny_bind (m := Builtin.Tuple.tupleExact _) (wpAny_newObj_type (wpAny_pure ⟨_, rfl, wpAny_pure h⟩) ok))
end
def tRevT (K : PySem.W.Frag) (te : TE) : TE := fun σ H Q => te σ H fun x H1 => ∃ a xs, x = .ref a ∧ SqT K H1 a xs ∧ ∀ p, H1 p = none → Q (.ref p) (upd H1 p (.tup xs.reverse))
theorem pe_revT {X : Cx} {e : Expr} {te : TE} {k : Nat} {p1 p2 p3 pos : Pos} (he : PE X e te) : PE X (.Subscript e (.Slice none none (some (.UnaryOp .USub (.Constant (.int 1) k p1) p2)) p3) pos) (tRevT X.K te) := by
  refine ⟨fun pins s σ H Q I h => Subscript_ (thn (he.run pins s σ H _ I h) fun v s1 ⟨x, H1, I1, r1, q1⟩ => ?_)⟩
  obtain ⟨a, xs, rfl, hx, q⟩ := q1
  cases r1
  have minus : PO X (some (.UnaryOp .USub (.Constant (.int 1) k p1) p2)) (tPart (tUn (rU fun i => .int (-i)) (tC (.int 1)))) := po_some (pe_un un_neg pe_int)
  refine wpAny_Slice (thn (po_none.run pins s1 σ H1 (fun o H2 => o = none ∧ H2 = H1) I1 ⟨rfl, rfl⟩) fun vl s2 ⟨l, H2, I2, pl, z1, z2⟩ => ?_)
  subst z1 z2
  refine thn (po_none.run pins s2 σ H2 (fun o H3 => o = none ∧ H3 = H2) I2 ⟨rfl, rfl⟩) fun vu s3 ⟨u, H3, I3, pu, z1, z2⟩ => ?_
  subst z1 z2
  refine thn (minus.run pins s3 σ H3 (fun o H4 => o = some (-1) ∧ H4 = H3) I3 ⟨1, rfl, -1, rfl, rfl, rfl⟩) fun vs s4 ⟨o, H4, I4, ps, z1, z2⟩ => ?_
  subst z1 z2
  have I5 : Inv X pins σ H4 { s4 with heap := s4.heap.push { cls := .type "slice", data := .fields #[vl, vu, vs] } } := I4.kept (t' := s4.toks) fun b ob z => Heap.get?_push_of_some _ z
  obtain ⟨its, r, ht, hz⟩ := I5.tuple hx
  show wpAny (model X.prog X.w) X.A (subscriptTail e (.Slice none none (some (.UnaryOp .USub (.Constant (.int 1) k p1) p2)) p3) (.ref a) (.ref s4.heap.objs.size)) (EP X pins σ Q) X.xe { s4 with heap := s4.heap.push { cls := .type "slice", data := .fields #[vl, vu, vs] } }
  refine tail_any (ops := [.ref a, .ref s4.heap.objs.size]) ht.typeIs PyProof.Rows.slot_tuple_getitem.lookup ?_ (by with_unfolding_all rfl)
  refine getItem_tuple_back ht (Heap.IsSliceOf.new _ vl vu vs) pl pu ps ?_ (by rw [← r.length]; exact hz)
  refine ⟨.ref _, _, I5.laid (t' := s4.toks) (o := .tup xs.reverse) (fun b ob z => Heap.get?_push_of_some _ z) (Nat.le_refl _) ?_, rfl, q _ (I5.hok.fresh (Nat.le_refl _))⟩
  exact ⟨by rw [List.length_reverse]; exact hz, _, r.reverse, IsTup.new _ _⟩
end Sw
namespace Sw
open PySem PySem.Spec PyProof.Rows L2
/-! ### _law_bent -/
def FitP (a b c : Nat) (x : Int) : Prop := ∃ k : Nat, x = (k : Nat) ∧ k < 5 ∧ ((a : Int) * (k : Int) - (b : Int) * (c : Int)) % 5 ≠ 0
theorem FitP.nat {a b c k : Nat} (ha : a < 5) (hb : b < 5) (hc : c < 5) (h : ((a : Int) * (k : Int) - (b : Int) * (c : Int)) % 5 ≠ 0) : (a * k + 125 - b * c) % 5 ≠ 0 := by
  have hbc : b * c ≤ 4 * 4 := Nat.mul_le_mul (by omega) (by omega)
  rw [← Int.natCast_mul, ← Int.natCast_mul] at h
  generalize a * k = x at h ⊢
  generalize b * c = y at h hbc ⊢
  omega
section
variable {P : Program} {w : World} {K : PySem.W.Frag} {mg : Str → Option Value} {base : Heap}
abbrev sBentL : Stmt := top 48
abbrev nBentL : List Str := ["deck", "row", "a", "b", "c", "fit", "d", "found", "x", "above", "below", "own"]
theorem scBentL : FnScope nBentL ["deck", "row"] (defScope sBentL) := ⟨rfl, rfl, rfl, by decide +kernel, rfl, by decide +kernel, by decide +kernel⟩
def B1 (p dk ra : Addr) (H0 : Hp) (_ : Unit) : L2.St → Hp → Prop := fun σ H => ∃ (a b c : Nat) (fl : Addr) (fs : List Int) (s6 s7 s8 s9 s10 s11 : Option V), σ = [some (.ref p), some (.ref ra), some (.int (a : Nat)), some (.int (b : Nat)), some (.int (c : Nat)), some (.ref fl), s6, s7, s8, s9, s10, s11] ∧ (a < 5 ∧ b < 5 ∧ c < 5) ∧
  DeckL H p dk ∧ KpL p dk H0 H ∧ H fl = some (.lst (fs.map V.int)) ∧ (fl ≠ p ∧ fl ≠ dk) ∧ fs.length ≤ 5 ∧ ∀ x ∈ fs, FitP a b c x
def B2 (p dk ra : Addr) (H0 : Hp) (_ : Unit) : L2.St → Hp → Prop := fun σ H => ∃ (a b c : Nat) (fl : Addr) (fs : List Int) (s6 s7 s8 s9 s10 s11 : Option V), σ = [some (.ref p), some (.ref ra), some (.int (a : Nat)), some (.int (b : Nat)), some (.int (c : Nat)), some (.ref fl), s6, s7, s8, s9, s10, s11] ∧ (a < 5 ∧ b < 5 ∧ c < 5) ∧
  DeckL H p dk ∧ KpL p dk H0 H ∧ H fl = some (.lst (fs.map V.int)) ∧ (fl ≠ p ∧ fl ≠ dk) ∧ fs.length ≤ 5 ∧ fs ≠ [] ∧ ∀ x ∈ fs, FitP a b c x
def spBentL : Sp := fun vs H Q _ => ∃ (p dk ra : Addr) (r : List Nat), vs = [.ref p, .ref ra] ∧ DeckL H p dk ∧ H ra = some (.tup ((intR r).map V.int)) ∧ RowP r ∧
  ∀ (t : Addr) (g : List Nat) (H' : Hp), DeckL H' p dk → KpL p dk H H' → H' t = some (.tup ((intR (r.map (ap g))).map V.int)) → Pres g → Q (.ref t) H'
theorem ok_bentL {f : Addr} {fd : FuncData} (F : Fun K "_law_bent" "_law_bent" sBentL f fd) (B : NoNames mg) (OD : Own P w K mg base 1 "_law_draw" ["deck", "many"] spDrawL) (OP : Own P w K mg base 2 "_law_pick" ["deck", "items"] spPickL) (OS : Own P w K mg base 1 "_law_share" ["above", "below"] spShare) : FnOk P w K mg base CX0 3 f fd ["deck", "row"] spBentL := by
  obtain ⟨fD, fdD, GD, mD, kD, bD⟩ := OD.ex
  obtain ⟨fP, fdP, GP, mP, kP, bP⟩ := OP.ex
  obtain ⟨fS, fdS, GS, mS, kS, bS⟩ := OS.ex
  refine F.ok scBentL (fun vs H Q E h => ?_) (fun cdv A outer s H vs Q E hr h => ?_)
  · obtain ⟨p, dk, ra, r, rfl, _⟩ := h
    rfl
  · obtain ⟨p, dk, ra, r, rfl, D, hra, R, k⟩ := h
    have hr1 := hr.mono (by decide : 1 ≤ 2)
    have l6 := R.len
    refine ⟨_, pss_cons (ps_asg (pe_tup (pa_cons (pe_call GD hr1 rfl mD kD bD .nil pass0 (pa_cons (pv 0) (pa_cons pe_int pa_nil))) (pa_cons (pe_call GD hr1 rfl mD kD bD .nil pass0 (pa_cons (pv 0) (pa_cons pe_int pa_nil))) (pa_cons (pe_call GD hr1 rfl mD kD bD .nil pass0 (pa_cons (pv 0) (pa_cons pe_int pa_nil))) pa_nil)))) (pg_tup (by rfl) (pgs_cons (pg_name (i := 2) scBentL.nd rfl (.inr rfl)) (pgs_cons (pg_name (i := 3) scBentL.nd rfl (.inr rfl)) (pgs_cons (pg_name (i := 4) scBentL.nd rfl (.inr rfl)) pgs_nil))))) <|
      pss_cons (ps_setLc (i := 5) (own := [("own", 11)]) (g := gName 11) (te := tVar 11) rfl scBentL.nd rfl rfl (sw_true rfl rfl rfl (by decide +kernel)) (pi_range1 (by rfl) B.range (pa_cons pe_int pa_nil)) (blkOk_by (own := [("own", 11)]) (N := nBentL) (sc := defScope sBentL) (by decide +kernel))
        (fun _ _ _ _ _ => pg_name (i := 11) scBentL.nd rfl (Or.inl rfl))
        (fun _ _ _ _ _ => pts_one (pt_cmpR op_ne (pe_op (r := rI (fun _ j => 0 < j) fun i j => .int (i % j)) op_mod (pe_callTy call_int1 (by rfl) B.int (by decide +kernel) (pa_cons (pe_op (r := rI0 fun i j => .int (i - j)) op_sub (pe_op (r := rI CMul fun i j => .int (i * j)) op_mul (pv 2) (pv 11)) (pe_op (r := rI CMul fun i j => .int (i * j)) op_mul (pv 3) (pv 4))) pa_nil)) pe_int) pe_int (nomark _)))
        (fun _ _ _ _ _ => pv 11)) <|
      pss_cons (ps_cutI (B1 p dk ra H) (B2 p dk ra H) (ps_if (pt_cmpR (op_eqD hr.units) (pv 5) (pe_lst pa_nil) (nomark _)) (pss_one (ps_asg (pe_tup (pa_cons pe_int (pa_cons (pe_call GD hr1 rfl mD kD bD .nil pass0 (pa_cons (pv 0) (pa_cons pe_int pa_nil))) (pa_cons pe_int (pa_cons (pe_lst (pa_cons pe_int (pa_cons pe_int pa_nil))) pa_nil)))))
        (pg_tup (by rfl) (pgs_cons (pg_name (i := 2) scBentL.nd rfl (.inr rfl)) (pgs_cons (pg_name (i := 3) scBentL.nd rfl (.inr rfl)) (pgs_cons (pg_name (i := 4) scBentL.nd rfl (.inr rfl)) (pgs_cons (pg_name (i := 5) scBentL.nd rfl (.inl rfl)) pgs_nil))))))) pss_nil) ?cf) <|
      pss_cons (ps_par (i := 6) (j := 7) rfl scBentL.nd rfl rfl (by decide) rfl rfl (pa_cons (pe_call GP hr rfl mP kP bP .nil pass0 (pa_cons (pv 0) (pa_cons (pv 5) pa_nil))) (pa_cons (pe_lst pa_nil) pa_nil)) (by rfl)) <|
      pss_cons (ps_for PassesOwn.never rfl (pi_tup (pv 1)) (pg_name (i := 8) scBentL.nd rfl (.inl rfl))
        (pss_cons (ps_asg (pe_ifExp (pt_cmpR op_eq (pv 8) pe_int (nomark _)) (pe_tup (pa_cons (pv 2) (pa_cons (pv 4) pa_nil))) (pe_tup (pa_cons (pe_op op_add (pe_op op_mul (pv 2) (pv 8)) (pv 3)) (pa_cons (pe_op op_add (pe_op op_mul (pv 4) (pv 8)) (pv 6)) pa_nil)))) (pg_tup (by rfl) (pgs_cons (pg_name (i := 9) scBentL.nd rfl (.inl rfl)) (pgs_cons (pg_name (i := 10) scBentL.nd rfl (.inl rfl)) pgs_nil)))) <|
         pss_one (ps_expr (pe_bm PySem.F.plainAttrs_list PySem.F.slot_list_append PySem.F.type_list_append mt_append (pv 7) (pa_cons (pe_ifExp (pt_cmpR op_eq (pe_op (r := rI (fun _ j => 0 < j) fun i j => .int (i % j)) op_mod (pe_callTy call_int1 (by rfl) B.int (by decide +kernel) (pa_cons (pv 10) pa_nil)) pe_int) pe_int (nomark _)) pe_int (pe_call GS hr1 rfl mS kS bS .nil pass0 (pa_cons (pv 9) (pa_cons (pv 10) pa_nil)))) pa_nil))))) <|
      pss_one (ps_ret (pe_callTy call_tuple_of (by rfl) B.tuple (by decide +kernel) (pa_cons (pv 7) pa_nil))), ?_⟩
    case cf =>
      rintro ⟨⟩ D0 σ H1 ⟨a, b, c, fl, fs, s6, s7, s8, s9, s10, s11, rfl, ⟨ha, hb, hc⟩, D1, k1, hfl, ofl, lf, fit⟩ nx
      refine ⟨_, rfl, Nat.zero_le _, fun e ne => ?_⟩
      have se := same_new (o := .lst []) ne
      refine ⟨.list (fs.map PyData.int), .list [], .lst (SqL.of (se _ _ hfl)) (dp_ints fs), .lst (SqL.of upd_same) .nil, PySem.W.ke_shaped_ints fs, rfl, _, rfl, ?_⟩
      have e0 : PyData.eqv (.list (fs.map PyData.int)) (.list []) = decide (fs = []) := by
        rw [PyData.eqv]
        exact eqvAll_ints fs []
      rw [e0]
      have D2 := D1.same se
      have k2 := k1.trans (KpL.of se)
      have hfl2 := se _ _ hfl
      generalize (upd H1 e (.lst [])) = H2 at D2 k2 hfl2 ⊢
      refine ite2 (fun y => ?_) (fun y => ?_)
      · refine ⟨_, rfl, p, dk, 5, rfl, D2, by decide, by decide, fun b' H3 b0 b1 D3 k3 => ⟨by show 2 ≤ sizeLine; decide, fun l nl => ⟨by show 4 ≤ sizeLine; decide, fun T nT => ⟨T, _, rfl, SqT.of upd_same, rfl, _, _, rfl, _, _, rfl, _, _, rfl, _, _, rfl, rfl, ?_⟩⟩⟩⟩
        obtain ⟨b', rfl⟩ := Int.eq_ofNat_of_zero_le b0
        have z1 := same_new (o := .lst [.int 1, .int 2]) nl
        have z2 := same_new (o := .tup [.int 1, .int (b' : Nat), .int 0, .ref l]) nT
        have zz := z1.trans z2
        refine nx _ _ ⟨1, b', 0, l, [1, 2], _, _, _, _, _, _, rfl, ⟨by decide, by omega, by decide⟩, D3.same zz, (k2.trans k3).trans (KpL.of zz), z2 _ _ upd_same, D3.off nl, by decide, by decide, fun x hx => ?_⟩
        simp only [List.mem_cons, List.not_mem_nil, or_false] at hx
        rcases hx with rfl | rfl
        · exact ⟨1, rfl, by decide, by show ((1 : Int) * 1 - (b' : Int) * 0) % 5 ≠ 0; omega⟩
        · exact ⟨2, rfl, by decide, by show ((1 : Int) * 2 - (b' : Int) * 0) % 5 ≠ 0; omega⟩
      · exact nx _ _ ⟨a, b, c, fl, fs, s6, s7, s8, s9, s10, s11, rfl, ⟨ha, hb, hc⟩, D2, k2, hfl2, ofl, lf, fun z => y (decide_eq_true z), fit⟩
    refine ⟨_, rfl, p, dk, 5, rfl, D, by decide, by decide, fun a H1 a0 a1 D1 k1 => ⟨_, rfl, p, dk, 5, rfl, D1, by decide, by decide, fun b H2 b0 b1 D2 k2 => ⟨_, rfl, p, dk, 5, rfl, D2, by decide, by decide, fun c H3 c0 c1 D3 k3 => ⟨by show 3 ≤ sizeLine; decide, fun T nT => ⟨T, _, rfl, SqT.of upd_same, rfl, _, _, rfl, _, _, rfl, _, _, rfl, rfl, ?_⟩⟩⟩⟩⟩
    obtain ⟨a, rfl⟩ := Int.eq_ofNat_of_zero_le a0
    obtain ⟨b, rfl⟩ := Int.eq_ofNat_of_zero_le b0
    obtain ⟨c, rfl⟩ := Int.eq_ofNat_of_zero_le c0
    have sT := same_new (o := .tup [.int (a : Nat), .int (b : Nat), .int (c : Nat)]) nT
    have D4 := D3.same sT
    have k4 := (k1.trans (k2.trans k3)).trans (KpL.of sT)
    generalize (upd H3 T (.tup [.int (a : Nat), .int (b : Nat), .int (c : Nat)])) = H4 at D4 k4 ⊢
    clear sT nT k1 k2 k3 D1 D2 D3
    refine ⟨5, rfl, by decide, by decide, fun F0 nF => ?_⟩
    have oF := D4.off nF
    refine lc_it walk_range (fun j Z => ∃ fs : List Int, Z F0 = some (.lst (fs.map V.int)) ∧ fs.length ≤ j ∧ (∀ x ∈ fs, FitP a b c x) ∧ Same H4 Z) ⟨[], upd_same, Nat.le_refl _, fun _ h => (List.not_mem_nil h).elim, same_new nF⟩ (fun _ _ _ _ => trivial) ?_ ?_
    · rintro j x Hb Ha hj ⟨fs, h1, h2, h3, h4⟩ ⟨rfl, rfl⟩
      have hj : j < 5 := hj
      have f0 : (0 : Int) + (j : Int) = (j : Int) := Int.zero_add _
      refine ⟨rfl, ?_⟩
      dsimp only
      rw [f0]
      refine ⟨_, rfl, _, rfl, _, _, rfl, rfl, .inl ⟨by omega, by omega⟩, _, rfl, _, rfl, _, _, rfl, rfl, .inl ⟨by omega, by omega⟩, _, _, rfl, rfl, .inl ⟨_, rfl, _, _, rfl, rfl, by show (0 : Int) < 5; decide, rfl, _, rfl, ite2 (fun y => ?_) (fun y => ?_)⟩⟩
      · have y : (!decide (V.int ((((a : Nat) : Int) * (j : Int) - ((b : Nat) : Int) * ((c : Nat) : Int)) % 5) = V.int 0)) = true := y
        refine ⟨_, rfl, _, h1, by rw [List.length_map, sizeLine_eq]; omega, fs ++ [(j : Int)], by rw [upd_same, List.map_append]; rfl, by rw [List.length_append]; show _ + 1 ≤ _; omega, fun x hx => ?_, fun u o ec => ?_⟩
        · rcases List.mem_append.mp hx with z | z
          · exact h3 x z
          · rw [List.mem_singleton.mp z]
            refine ⟨j, rfl, hj, fun z => ?_⟩
            rw [z] at y
            cases y
        · rw [upd_ne (ne_of_none ec nF)]
          exact h4 _ _ ec
      · exact ⟨fs, h1, by omega, h3, h4⟩
    · rintro Ha ⟨fs, h1, h2, h3, h4⟩
      have h2 : fs.length ≤ 5 := h2
      refine ⟨(), ⟨a, b, c, F0, fs, _, _, _, _, _, _, rfl, ⟨by omega, by omega, by omega⟩, D4.same h4, k4.trans (KpL.of h4), h1, oF, h2, h3⟩, ?_⟩
      clear h1 h2 h3 h4 oF nF D4 k4 a0 a1 b0 b1 c0 c1
      rintro σ H5 ⟨a, b, c, fl, fs, s6, s7, s8, s9, s10, s11, rfl, ⟨ha, hb, hc⟩, D5, k5, hfl, ofl, lf, nf, fit⟩
      refine ⟨_, rfl, _, rfl, p, dk, fl, fs.map V.int, rfl, D5, hfl, ofl.1, ofl.2, fun z => nf (List.map_eq_nil_iff.mp z), by rw [List.length_map]; omega, fun x H6 mx D6 k6 => ⟨Nat.zero_le _, fun fo nfo => ⟨_, _, rfl, ?_⟩⟩⟩
      obtain ⟨z, hz, rfl⟩ := List.mem_map.mp mx
      obtain ⟨d, rfl, hd, nd⟩ := fit z hz
      have nd := FitP.nat ha hb hc nd
      obtain ⟨PG, eG⟩ := bent_pres ha hb hc hd nd
      have so := same_new (o := .lst []) nfo
      have D7 := D6.same so
      have k7 := (k5.trans k6).trans (KpL.of so)
      have ofo := D6.off nfo
      have hfree : H fo = none := by
        cases e : H fo with
        | none => rfl
        | some o =>
          have := (k5.trans k6) _ _ e ofo.1 ofo.2
          rw [nfo] at this
          cases this
      have hfo := (upd_same (H := H6) (a := fo) (o := .lst []))
      have t7 := TupS.kpl D k7
      generalize (upd H6 fo (.lst [])) = H7 at so D7 k7 hfo t7 ⊢
      have hra7 := t7 _ _ hra
      refine ⟨_, rfl, ra, rfl, ⟨_, SqT.of hra7⟩, for_it (walk_tup (xs := (intR r).map V.int)) (fun j σ Z => ∃ s8 s9 s10 : Option V, σ = [some (.ref p), some (.ref ra), some (.int (a : Nat)), some (.int (b : Nat)), some (.int (c : Nat)), some (.ref fl), some (.int (d : Nat)), some (.ref fo), s8, s9, s10, s11] ∧ DeckL Z p dk ∧ KpL p dk H Z ∧ Z fo = some (.lst ((intR ((r.take j).map (bentX a b c d))).map V.int)))
        ⟨_, _, _, rfl, D7, k7, hfo⟩ (fun j σ Z _ h => by obtain ⟨_, _, _, _, _, h, _⟩ := h; exact SqT.of (TupS.kpl D h _ _ hra)) ?_ ?_⟩
      · rintro j x σ Hb Hc hj ⟨s8, s9, s10, rfl, Dc, kc, hfc⟩ ⟨rfl, ex⟩
        obtain ⟨z, ez, rfl⟩ := int_at ex
        unfold intR at ez
        rw [List.getElem?_map] at ez
        obtain ⟨q, eq, rfl⟩ := Option.map_eq_some_iff.mp ez
        have hq : q < 6 := List.mem_range.mp (R.mem_iff.mp (List.mem_of_getElem? eq))
        refine ⟨_, rfl, rfl, _, rfl, ite2 (fun y5 => ?_) (fun y5 => ?_)⟩
        · have y5 : decide (V.int ((q : Nat) : Int) = V.int 5) = true := y5
          have y5 := V.int.inj (of_decide_eq_true y5)
          have q5 : q = 5 := by omega
          have eb : bentX a b c d q = (bif c % 5 == 0 then 5 else a * c * c * c % 5) := by
            rw [q5]
            rfl
          refine ⟨_, rfl, _, rfl, by show 2 ≤ sizeLine; decide, fun T nT => ?_⟩
          have sq := same_new (o := .tup [.int (a : Nat), .int (c : Nat)]) nT
          refine ⟨T, _, rfl, SqT.of upd_same, rfl, _, _, rfl, _, _, rfl, rfl, ?_⟩
          have hf1 := sq _ _ hfc
          have D1 := Dc.same sq
          have k1 := kc.trans (KpL.of sq)
          generalize (upd Hc T (.tup [.int (a : Nat), .int (c : Nat)])) = H1 at hf1 D1 k1 ⊢
          have up : ∀ y : Nat, bentX a b c d q = y → ∃ s8 s9 s10 : Option V, ([some (.ref p), some (.ref ra), some (.int (a : Nat)), some (.int (b : Nat)), some (.int (c : Nat)), some (.ref fl), some (.int (d : Nat)), some (.ref fo), some (.int (q : Nat)), some (.int (a : Nat)), some (.int (c : Nat)), s11] : L2.St) = [some (.ref p), some (.ref ra), some (.int (a : Nat)), some (.int (b : Nat)), some (.int (c : Nat)), some (.ref fl), some (.int (d : Nat)), some (.ref fo), s8, s9, s10, s11] ∧
              DeckL (upd H1 fo (.lst ((intR ((r.take j).map (bentX a b c d))).map V.int ++ [.int (y : Nat)]))) p dk ∧ KpL p dk H (upd H1 fo (.lst ((intR ((r.take j).map (bentX a b c d))).map V.int ++ [.int (y : Nat)]))) ∧
              (upd H1 fo (.lst ((intR ((r.take j).map (bentX a b c d))).map V.int ++ [.int (y : Nat)]))) fo = some (.lst ((intR ((r.take (j + 1)).map (bentX a b c d))).map V.int)) := fun y ey => by
            refine ⟨_, _, _, rfl, ?_, fun v o ev n1 n2 => ?_, ?_⟩
            · obtain ⟨ms, st, kk, g1, g2, g3⟩ := D1.ex
              exact ⟨ms, st, kk, by rw [upd_ne fun z => ofo.1 z.symm]; exact g1, by rw [upd_ne fun z => ofo.2 z.symm]; exact g2, g3⟩
            · rw [upd_ne fun z => by rw [z, hfree] at ev; cases ev]
              exact k1 _ _ ev n1 n2
            · rw [upd_same, List.take_add_one, eq, List.map_append]
              unfold intR
              rw [List.map_append, List.map_append]
              show _ = some (HO.lst (_ ++ [V.int ((bentX a b c d q : Nat) : Int)]))
              rw [ey]
          refine ⟨_, rfl, .inl ⟨rfl, _, SqL.of hf1⟩, _, rfl, .inl ⟨_, rfl, _, _, rfl, rfl, by show (0 : Int) < 5; decide, rfl, _, rfl, ite2 (fun y => ?_) (fun y => ?_)⟩⟩
          · have y : decide (V.int (((c : Nat) : Int) % 5) = V.int 0) = true := y
            have y := V.int.inj (of_decide_eq_true y)
            have z : (c) % 5 = 0 := by omega
            refine ⟨fo, _, .int (5 : Nat), rfl, rfl, hf1, by rw [List.length_map, intR_len, List.length_map, List.length_take, sizeLine_eq]; omega, up 5 ?_⟩
            rw [eb, beq_iff_eq.mpr z]
            rfl
          · have z : ¬ (c) % 5 = 0 := fun z => y (by
              show decide (V.int (((c : Nat) : Int) % 5) = V.int 0) = true
              rw [show (((c : Nat) : Int) % 5) = 0 by omega]
              rfl)
            have ev : (((a : Nat) : Int) * ((c : Nat) : Int) * ((c : Nat) : Int) * ((c : Nat) : Int)) % 5 = (((a) * (c) * (c) * (c) % 5 : Nat) : Int) := by
              rw [Int.natCast_emod, Int.natCast_mul, Int.natCast_mul, Int.natCast_mul]
              rfl
            refine ⟨_, rfl, _, rfl, _, _, rfl, by omega, by omega, ?_⟩
            rw [ev]
            refine ⟨fo, _, _, rfl, rfl, hf1, by rw [List.length_map, intR_len, List.length_map, List.length_take, sizeLine_eq]; omega, up _ ?_⟩
            rw [eb, beq_false_of_ne z]
            rfl
        · have q5 : ¬ q = 5 := fun z => y5 (by
            show decide (V.int ((q : Nat) : Int) = V.int 5) = true
            rw [z]
            rfl)
          have eb : bentX a b c d q = (bif (c * q + d) % 5 == 0 then 5 else (a * q + b) * (c * q + d) * (c * q + d) * (c * q + d) % 5) := by
            unfold bentX
            rw [beq_false_of_ne q5]
            rfl
          have eu : ((a : Nat) : Int) * ((q : Nat) : Int) + ((b : Nat) : Int) = ((a * q + b : Nat) : Int) := by
            rw [Int.natCast_add, Int.natCast_mul]
          have el : ((c : Nat) : Int) * ((q : Nat) : Int) + ((d : Nat) : Int) = ((c * q + d : Nat) : Int) := by
            rw [Int.natCast_add, Int.natCast_mul]
          have bu : a * q ≤ 4 * 5 := Nat.mul_le_mul (by omega) (by omega)
          have bl : c * q ≤ 4 * 5 := Nat.mul_le_mul (by omega) (by omega)
          refine ⟨_, rfl, _, rfl, _, _, rfl, rfl, .inl ⟨by omega, by omega⟩, _, rfl, _, _, rfl, rfl, _, rfl, _, rfl, _, _, rfl, rfl, .inl ⟨by omega, by omega⟩, _, rfl, _, _, rfl, rfl, by show 2 ≤ sizeLine; decide, fun T nT => ?_⟩
          dsimp only
          rw [eu, el]
          have hu : a * q + b < 1000 := by omega
          have hl : c * q + d < 1000 := by omega
          generalize a * q + b = u at eb hu ⊢
          generalize c * q + d = l at eb hl ⊢
          have sq := same_new (o := .tup [.int (u : Nat), .int (l : Nat)]) nT
          refine ⟨T, _, rfl, SqT.of upd_same, rfl, _, _, rfl, _, _, rfl, rfl, ?_⟩
          have hf1 := sq _ _ hfc
          have D1 := Dc.same sq
          have k1 := kc.trans (KpL.of sq)
          generalize (upd Hc T (.tup [.int (u : Nat), .int (l : Nat)])) = H1 at hf1 D1 k1 ⊢
          have up : ∀ y : Nat, bentX a b c d q = y → ∃ s8 s9 s10 : Option V, ([some (.ref p), some (.ref ra), some (.int (a : Nat)), some (.int (b : Nat)), some (.int (c : Nat)), some (.ref fl), some (.int (d : Nat)), some (.ref fo), some (.int (q : Nat)), some (.int (u : Nat)), some (.int (l : Nat)), s11] : L2.St) = [some (.ref p), some (.ref ra), some (.int (a : Nat)), some (.int (b : Nat)), some (.int (c : Nat)), some (.ref fl), some (.int (d : Nat)), some (.ref fo), s8, s9, s10, s11] ∧
              DeckL (upd H1 fo (.lst ((intR ((r.take j).map (bentX a b c d))).map V.int ++ [.int (y : Nat)]))) p dk ∧ KpL p dk H (upd H1 fo (.lst ((intR ((r.take j).map (bentX a b c d))).map V.int ++ [.int (y : Nat)]))) ∧
              (upd H1 fo (.lst ((intR ((r.take j).map (bentX a b c d))).map V.int ++ [.int (y : Nat)]))) fo = some (.lst ((intR ((r.take (j + 1)).map (bentX a b c d))).map V.int)) := fun y ey => by
            refine ⟨_, _, _, rfl, ?_, fun v o ev n1 n2 => ?_, ?_⟩
            · obtain ⟨ms, st, kk, g1, g2, g3⟩ := D1.ex
              exact ⟨ms, st, kk, by rw [upd_ne fun z => ofo.1 z.symm]; exact g1, by rw [upd_ne fun z => ofo.2 z.symm]; exact g2, g3⟩
            · rw [upd_ne fun z => by rw [z, hfree] at ev; cases ev]
              exact k1 _ _ ev n1 n2
            · rw [upd_same, List.take_add_one, eq, List.map_append]
              unfold intR
              rw [List.map_append, List.map_append]
              show _ = some (HO.lst (_ ++ [V.int ((bentX a b c d q : Nat) : Int)]))
              rw [ey]
          refine ⟨_, rfl, .inl ⟨rfl, _, SqL.of hf1⟩, _, rfl, .inl ⟨_, rfl, _, _, rfl, rfl, by show (0 : Int) < 5; decide, rfl, _, rfl, ite2 (fun y => ?_) (fun y => ?_)⟩⟩
          · have y : decide (V.int (((l : Nat) : Int) % 5) = V.int 0) = true := y
            have y := V.int.inj (of_decide_eq_true y)
            have z : (l) % 5 = 0 := by omega
            refine ⟨fo, _, .int (5 : Nat), rfl, rfl, hf1, by rw [List.length_map, intR_len, List.length_map, List.length_take, sizeLine_eq]; omega, up 5 ?_⟩
            rw [eb, beq_iff_eq.mpr z]
            rfl
          · have z : ¬ (l) % 5 = 0 := fun z => y (by
              show decide (V.int (((l : Nat) : Int) % 5) = V.int 0) = true
              rw [show (((l : Nat) : Int) % 5) = 0 by omega]
              rfl)
            have ev : (((u : Nat) : Int) * ((l : Nat) : Int) * ((l : Nat) : Int) * ((l : Nat) : Int)) % 5 = (((u) * (l) * (l) * (l) % 5 : Nat) : Int) := by
              rw [Int.natCast_emod, Int.natCast_mul, Int.natCast_mul, Int.natCast_mul]
              rfl
            refine ⟨_, rfl, _, rfl, _, _, rfl, by omega, by omega, ?_⟩
            rw [ev]
            refine ⟨fo, _, _, rfl, rfl, hf1, by rw [List.length_map, intR_len, List.length_map, List.length_take, sizeLine_eq]; omega, up _ ?_⟩
            rw [eb, beq_false_of_ne z]
            rfl
      · rintro σ Hb ⟨s8, s9, s10, rfl, Dc, kc, hfc⟩
        have er : r.take ((intR r).map V.int).length = r := by
          rw [List.length_map, intR_len, List.take_length]
        rw [er] at hfc
        have em : r.map (bentX a b c d) = r.map (ap ((List.range 6).map (bentX a b c d))) := List.map_congr_left fun x hx => (eG x (List.mem_range.mp (R.mem_iff.mp hx))).symm
        rw [em] at hfc
        refine ⟨_, rfl, fo, _, rfl, .inl ⟨SqL.of hfc, fun t nt => ?_⟩⟩
        have st := same_new (o := .tup ((intR (r.map (ap ((List.range 6).map (bentX a b c d))))).map V.int)) nt
        exact k t _ _ (Dc.same st) (kc.trans (KpL.of st)) upd_same PG
end
end Sw
namespace Sw
open PySem PySem.Spec PyProof.Rows L2
/-! ### parts of tuples -/
theorem rep_nat {K : PySem.W.Frag} {H : Hp} (g : Nat) : Rep K H (.int (g : Nat)) (.int (g : Nat)) [] := by
  simp [Rep]
/-- t[lo:hi], wherever it then lies -/
def rSlC (K : PySem.W.Frag) : V → Option Int → Option Int → Hp → VK → Prop := fun x lo hi H Q => ∃ a xs, x = .ref a ∧ H a = some (.tup xs) ∧ ∀ (r : Addr) (Z : Hp), Same H Z → Z r = some (.tup (cutV xs lo hi)) → Q (.ref r) Z
theorem sl_tupC {X : Cx} : SlR X (rSlC X.K) := by
  intro pins s σ H x v vl vu lo hi sl Q I rx hs pl pu h
  obtain ⟨a, xs, rfl, hx, q⟩ := h
  refine sl_tupA pins s σ H _ v vl vu lo hi sl Q I rx hs pl pu ⟨a, xs, rfl, SqT.of hx, fun w => q a H (fun _ _ e => e) ?_, fun _ p np => q p _ (same_new np) upd_same⟩
  unfold cutV
  rw [w.1, w.2, List.drop_zero, Nat.sub_zero, List.take_length]
  exact hx
theorem cutV_mem {xs : List V} {lo hi : Option Int} {x : V} (h : x ∈ cutV xs lo hi) : x ∈ xs := List.mem_of_mem_drop (List.mem_of_mem_take h)
theorem cat_tup {K : PySem.W.Frag} {H : Hp} {a b : Addr} {xs ys : List V} {Q : VK} (ha : H a = some (.tup xs)) (hb : H b = some (.tup ys)) (l : xs.length + ys.length ≤ 10000) (q : ∀ (r : Addr) (Z : Hp), Same H Z → Z r = some (.tup (xs ++ ys)) → Q (.ref r) Z) : rCatA K (.ref a) (.ref b) H Q := by
  refine ⟨a, b, xs, ys, rfl, rfl, SqT.of ha, SqT.of hb, by rw [sizeLine_eq]; omega, fun z => ?_, fun _ z => ?_, fun _ _ T nT => q T _ (same_new nT) upd_same⟩
  · subst z
    exact q b H (.refl _) hb
  · subst z
    exact q a H (.refl _) (by rw [List.append_nil]; exact ha)
end Sw
namespace Sw
open PySem PySem.Spec PyProof.Rows L2
/-! ### _law_spoilt -/
theorem cat_newR {K : PySem.W.Frag} {H0 H : Hp} {a b : Addr} {xs ys : List V} {Q : VK} (ha : H a = some (.tup xs)) (hb : H b = some (.tup ys)) (ny : ys ≠ []) (nb : H0 b = none) (s : Same H0 H) (l : xs.length + ys.length ≤ 10000)
    (q : ∀ (r : Addr) (Z : Hp), Same H Z → H0 r = none → Z r = some (.tup (xs ++ ys)) → Q (.ref r) Z) : rCatA K (.ref a) (.ref b) H Q := by
  refine ⟨a, b, xs, ys, rfl, rfl, SqT.of ha, SqT.of hb, by rw [sizeLine_eq]; omega, fun z => ?_, fun _ z => absurd z ny, fun _ _ T nT => q T _ (same_new nT) (s.free nT) upd_same⟩
  subst z
  exact q b H (.refl _) nb hb
theorem cat_newL {K : PySem.W.Frag} {H0 H : Hp} {a b : Addr} {xs ys : List V} {Q : VK} (ha : H a = some (.tup xs)) (hb : H b = some (.tup ys)) (nx : xs ≠ []) (na : H0 a = none) (s : Same H0 H) (l : xs.length + ys.length ≤ 10000)
    (q : ∀ (r : Addr) (Z : Hp), Same H Z → H0 r = none → Z r = some (.tup (xs ++ ys)) → Q (.ref r) Z) : rCatA K (.ref a) (.ref b) H Q := by
  refine ⟨a, b, xs, ys, rfl, rfl, SqT.of ha, SqT.of hb, by rw [sizeLine_eq]; omega, fun z => absurd z nx, fun _ z => ?_, fun _ _ T nT => q T _ (same_new nT) (s.free nT) upd_same⟩
  subst z
  exact q a H (.refl _) na (by rw [List.append_nil]; exact ha)
theorem cut_ints (L : List Int) (lo hi : Option Int) : ∃ M : List Int, cutV (L.map V.int) lo hi = M.map V.int ∧ (∀ i ∈ M, i ∈ L) ∧ M.length ≤ L.length := by
  unfold cutV
  rw [← List.map_drop, ← List.map_take]
  exact ⟨_, rfl, fun i hi => List.mem_of_mem_drop (List.mem_of_mem_take hi), by rw [List.length_take, List.length_drop]; omega⟩
theorem dk_dx1 {K : PySem.W.Frag} {U : Addr → Prop} {a : Addr} {w k : Nat} {H H' : Hp} {i : Int} (u : UOk U H) (na : H a = none) (hi : i.natAbs < 1000) (hw : 20 ≤ w) (ha : H' a = some (.dK [(.inl i, .int 0)])) : DKn K U w (k + 1) H' (.ref a) := by
  have tx := int_text_length_le10 (k := 3) (by decide) (show i.natAbs < 10 ^ 3 from hi)
  refine ⟨.dx [.inl i] [.int 0], [a], ?_, fun c hc => (List.mem_singleton.mp hc) ▸ u.free a na, ?_, ?_, by simp only [dep, depAll]; omega⟩
  · simp only [Rep, RepAll]
    exact ⟨a, _, [], rfl, ha, rfl, ⟨_, _, [], [], rfl, ⟨rfl, rfl⟩, ⟨rfl, rfl⟩, rfl⟩, by simp, rfl⟩
  · simp only [small, smallAll]
    refine ⟨fun k hk => ?_, by decide, trivial⟩
    rw [List.mem_singleton.mp hk]
    exact PySem.Spec.log2_small (Nat.lt_of_lt_of_le (show i.natAbs < 10 ^ 3 from hi) (by decide +kernel))
  · simp only [wt, keysWt, wtAll, keyTxt]
    have e0 : (Str.ofString (toString (0 : Int))).length = 1 := by decide +kernel
    have e1 : (Str.ofString (toString i)).length ≤ 4 := by
      rw [PySem.ofString_length]
      omega
    omega
theorem ap_int {r : List Nat} (R : RowP r) {i : Nat} (hi : i < 6) : ((ap r i : Nat) : Int).natAbs < 1000 := by
  have := R.lt hi
  omega
theorem six_list {α : Type} {L : List α} (h : L.length = 6) : ∃ a b c d e f, L = [a, b, c, d, e, f] := by
  match L, h with
  | [a, b, c, d, e, f], _ => exact ⟨a, b, c, d, e, f, rfl⟩
theorem row_prev {H : Hp} {t : Addr} {us : List Addr} {T : List (List Nat)} (TA : TabAt H t us T) (TP : TabP T) {a : Nat} (ha : a < 5) : ∃ (tr : Addr) (v : Nat), v < 5 ∧ atI (us.map V.ref) ((a : Int) - 1) = some (.ref tr) ∧ H tr = some (.tup ((intR (row' T v)).map V.int)) := by
  have lu := TA.rows.len
  rw [List.length_map, TP.len] at lu
  cases a with
  | zero =>
    obtain ⟨tr, e, av, h⟩ := TA.row TP.len (v := 4) (by decide)
    refine ⟨tr, 4, by decide, ?_, h⟩
    show atI (us.map V.ref) (-1) = _
    unfold atI ixN
    rw [if_neg (by decide), List.length_map, lu]
    show (us.map V.ref)[4]? = _
    rw [List.getElem?_map, e]
    rfl
  | succ a =>
    obtain ⟨tr, e, av, h⟩ := TA.row TP.len (v := a) (by omega)
    refine ⟨tr, a, by omega, ?_, h⟩
    rw [show (((a + 1 : Nat) : Int) - 1) = (a : Int) by omega]
    exact av
structure SpI where
  at_ : Nat
  one : Nat
  other : Nat
  third : Nat
  rr : Addr
  ra : Addr
structure SpH (p d ta : Addr) (us : List Addr) (T : List (List Nat)) (H0 : Hp) (i : SpI) (H : Hp) : Prop where
  D : DeckL H p d
  K0 : KpL p d H0 H
  TA : TabAt H ta us T
  hr : H i.rr = some (.tup ((intR (row' T i.at_)).map V.int))
  ha : H i.ra = some (.tup ((intR (swN (row' T i.at_) i.one i.other)).map V.int))
  b : i.at_ < 5 ∧ i.one < 6 ∧ i.other < 6 ∧ i.third < 6
section
variable {p d ta : Addr} {us : List Addr} {T : List (List Nat)} {H0 H H' : Hp} {i : SpI}
theorem SpH.kpl (S : SpH p d ta us T H0 i H) (D' : DeckL H' p d) (k : KpL p d H H') : SpH p d ta us T H0 i H' :=
  ⟨D', S.K0.trans k, S.TA.keep (TupS.kpl S.D k), TupS.kpl S.D k _ _ S.hr, TupS.kpl S.D k _ _ S.ha, S.b⟩
theorem SpH.same (S : SpH p d ta us T H0 i H) (s : Same H H') : SpH p d ta us T H0 i H' := S.kpl (S.D.same s) (.of s)
end
def JA (p d ta : Addr) (us : List Addr) (T : List (List Nat)) (H0 : Hp) : L2.St → Hp → Prop := fun σ H => ∃ (i : SpI) (s8 s9 s10 : Option V),
  σ = [some (.ref p), some (.ref ta), some (.int (i.at_ : Nat)), some (.int (i.one : Nat)), some (.int (i.other : Nat)), some (.int (i.third : Nat)), some (.ref i.rr), some (.ref i.ra), s8, s9, s10] ∧ SpH p d ta us T H0 i H
def JO (K : PySem.W.Frag) (p d ta : Addr) (us : List Addr) (T : List (List Nat)) (H0 : Hp) (n : Nat) : L2.St → Hp → Prop := fun σ H => ∃ (i : SpI) (l : Addr) (vs : List V) (s9 s10 : Option V),
  σ = [some (.ref p), some (.ref ta), some (.int (i.at_ : Nat)), some (.int (i.one : Nat)), some (.int (i.other : Nat)), some (.int (i.third : Nat)), some (.ref i.rr), some (.ref i.ra), some (.ref l), s9, s10] ∧ SpH p d ta us T H0 i H ∧
  l ≠ p ∧ l ≠ d ∧ H0 l = none ∧ H l = some (.lst vs) ∧ vs.length = n ∧ ∀ v ∈ vs, DKn K (OffM p d H0 l) 300 3 H v
def UA (p d : Addr) (H0 : Hp) : L2.St → Addr → Prop := fun _ => OffL p d H0
/-- off the deck, and off the list in slot 8 -/
def UB (p d : Addr) (H0 : Hp) : L2.St → Addr → Prop := fun σ a => OffL p d H0 a ∧ σ[8]? ≠ some (some (.ref a))
theorem ub_of {p d l : Addr} {H0 : Hp} {s0 s1 s2 s3 s4 s5 s6 s7 : Option V} {r : L2.St} {a : Addr} : UB p d H0 (s0 :: s1 :: s2 :: s3 :: s4 :: s5 :: s6 :: s7 :: some (.ref l) :: r) a ↔ OffM p d H0 l a := by
  show (OffL p d H0 a ∧ some (some (V.ref l)) ≠ some (some (V.ref a))) ↔ _
  constructor
  · rintro ⟨h1, h3⟩
    exact ⟨h1, fun z => h3 (by rw [z])⟩
  · rintro ⟨h1, h3⟩
    exact ⟨h1, fun z => h3 (V.ref.inj (Option.some.inj (Option.some.inj z))).symm⟩
theorem ub_eq {p d l : Addr} {H0 : Hp} {s0 s1 s2 s3 s4 s5 s6 s7 : Option V} {r : L2.St} : UB p d H0 (s0 :: s1 :: s2 :: s3 :: s4 :: s5 :: s6 :: s7 :: some (.ref l) :: r) = OffM p d H0 l := funext fun _ => propext ub_of
theorem ja_dk {p d ta : Addr} {us : List Addr} {T : List (List Nat)} {H0 : Hp} : SDk (UA p d H0) p d (JA p d ta us T H0) := by
  refine ⟨fun σ H h => ?_, fun _ _ _ _ u => ⟨u.1, u.2.1⟩, fun σ H h => ?_, fun σ H H' h D' k => ?_⟩
  · obtain ⟨i, s8, s9, s10, e, S⟩ := h
    exact offL_ok S.D S.K0
  · obtain ⟨i, s8, s9, s10, e, S⟩ := h
    exact S.D
  · obtain ⟨i, s8, s9, s10, e, S⟩ := h
    exact ⟨i, s8, s9, s10, e, S.kpl D' k⟩
theorem jo_keep {K : PySem.W.Frag} {p d ta : Addr} {us : List Addr} {T : List (List Nat)} {H0 : Hp} {n : Nat} {σ : L2.St} {H H' : Hp} (h : JO K p d ta us T H0 n σ H) (D' : DeckL H' p d) (k : KpL p d H H') : JO K p d ta us T H0 n σ H' := by
  obtain ⟨i, l, vs, s9, s10, e, S, n1, n2, h0, hl, ln, al⟩ := h
  exact ⟨i, l, vs, s9, s10, e, S.kpl D' k, n1, n2, h0, k _ _ hl n1 n2, ln, fun v hv => (al v hv).keep (.kM k)⟩
theorem jo_dk {K : PySem.W.Frag} {p d ta : Addr} {us : List Addr} {T : List (List Nat)} {H0 : Hp} {n : Nat} : SDk (UA p d H0) p d (JO K p d ta us T H0 n) := by
  refine ⟨fun σ H h => ?_, fun _ _ _ _ u => ⟨u.1, u.2.1⟩, fun σ H h => ?_, fun σ H H' h D' k => jo_keep h D' k⟩
  · obtain ⟨i, l, vs, s9, s10, e, S, _⟩ := h
    exact offL_ok S.D S.K0
  · obtain ⟨i, l, vs, s9, s10, e, S, _⟩ := h
    exact S.D
theorem jb_dk {K : PySem.W.Frag} {p d ta : Addr} {us : List Addr} {T : List (List Nat)} {H0 : Hp} {n : Nat} : SDk (UB p d H0) p d (JO K p d ta us T H0 n) := by
  refine ⟨fun σ H h => ?_, fun _ _ _ _ u => ⟨u.1.1, u.1.2.1⟩, fun σ H h => ?_, fun σ H H' h D' k => jo_keep h D' k⟩
  · obtain ⟨i, l, vs, s9, s10, rfl, S, n1, n2, h0, hl, _⟩ := h
    rw [ub_eq]
    exact offM_ok S.D S.K0 hl
  · obtain ⟨i, l, vs, s9, s10, e, S, _⟩ := h
    exact S.D
/-- the list is written -/
theorem SpH.lst {p d ta l : Addr} {us : List Addr} {T : List (List Nat)} {H0 H : Hp} {i : SpI} {vs ws : List V} (S : SpH p d ta us T H0 i H) (n1 : l ≠ p) (n2 : l ≠ d) (h0 : H0 l = none) (hl : H l = some (.lst vs)) : SpH p d ta us T H0 i (upd H l (.lst ws)) := by
  have tu : TupS H (upd H l (.lst ws)) := TupS.upd fun xs z => by
    rw [hl] at z
    cases z
  refine ⟨deck_lst S.D n1 n2, fun b o e q1 q2 => ?_, S.TA.keep tu, tu _ _ S.hr, tu _ _ S.ha, S.b⟩
  rw [upd_ne fun z => by rw [z, h0] at e; cases e]
  exact S.K0 b o e q1 q2
section
variable {P : Program} {w : World} {K : PySem.W.Frag} {mg : Str → Option Value} {base : Heap}
abbrev sSpoilt : Stmt := top 51
abbrev nSpoilt : List Str := ["deck", "rows", "at", "one", "other", "third", "row", "apart", "odds", "item", "own"]
theorem scSpoilt : FnScope nSpoilt ["deck", "rows"] (defScope sSpoilt) := ⟨rfl, rfl, rfl, by decide +kernel, rfl, by decide +kernel, by decide +kernel⟩
def spSpoilt (K : PySem.W.Frag) : Sp := fun vs H Q _ => ∃ (p d ta : Addr) (us : List Addr) (T : List (List Nat)), vs = [.ref p, .ref ta] ∧ DeckL H p d ∧ TabAt H ta us T ∧ TabP T ∧
  ∀ (x : V) (H' : Hp), DeckL H' p d → KpL p d H H' → DKn K (OffL p d H) 4000 4 H' x → Q x H'
theorem ok_spoilt {f : Addr} {fd : FuncData} (F : Fun K "_law_spoilt" "_law_spoilt" sSpoilt f fd) (B : NoNames mg) (OD : Own P w K mg base 1 "_law_draw" ["deck", "many"] spDrawL) (OP : Own P w K mg base 2 "_law_pick" ["deck", "items"] spPickL)
    (OM : Own P w K mg base 2 "_law_mixed" ["deck", "items"] spMixedL) (OX : Own P w K mg base 1 "_law_exchanged" ["row", "one", "other"] spExch) (OB : Own P w K mg base 3 "_law_bent" ["deck", "row"] spBentL) : FnOk P w K mg base CX0 4 f fd ["deck", "rows"] (spSpoilt K) := by
  obtain ⟨fD, fdD, GD, mD, kD, bD⟩ := OD.ex
  obtain ⟨fP, fdP, GP, mP, kP, bP⟩ := OP.ex
  obtain ⟨fM, fdM, GM, mM, kM, bM⟩ := OM.ex
  obtain ⟨fX, fdX, GX, mX, kX, bX⟩ := OX.ex
  obtain ⟨fB, fdB, GB, mB, kB, bB⟩ := OB.ex
  refine F.ok scSpoilt (fun vs H Q E h => ?_) (fun cdv A outer s H vs Q E hr h => ?_)
  · obtain ⟨p, d, ta, us, T, rfl, _⟩ := h
    rfl
  · obtain ⟨p, d, ta, us, T, rfl, D, TA, TP, k⟩ := h
    have hr1 := hr.mono (by decide : 1 ≤ 3)
    have hr2 := hr.mono (by decide : 2 ≤ 3)
    refine ⟨_, pss_cons (ps_asg (pe_tup (pa_cons (pe_call GD hr1 rfl mD kD bD .nil pass0 (pa_cons (pv 0) (pa_cons pe_int pa_nil))) (pa_cons (pe_slice sl_list (pe_call GM hr2 rfl mM kM bM .nil pass0 (pa_cons (pv 0) (pa_cons (pe_listRg rfl (by rfl) B.list (prg_1 (by rfl) B.range pe_int)) pa_nil))) po_none (po_some pe_int)) pa_nil)))
        (pg_tup (by rfl) (pgs_cons (pg_name (i := 2) scSpoilt.nd rfl (.inl rfl)) (pgs_cons (pg_lst (by rfl) (pgs_cons (pg_name (i := 3) scSpoilt.nd rfl (.inl rfl)) (pgs_cons (pg_name (i := 4) scSpoilt.nd rfl (.inl rfl)) (pgs_cons (pg_name (i := 5) scSpoilt.nd rfl (.inl rfl)) pgs_nil)))) pgs_nil)))) <|
      pss_cons (ps_set (i := 6) scSpoilt.nd rfl (.inl rfl) (pe_ix (r := rIxT K) ix_tup (pv 1) (pv 2) (fun _ _ => rfl))) <|
      pss_cons (ps_set (i := 7) scSpoilt.nd rfl (.inl rfl) (pe_call GX hr1 rfl mX kX bX .nil pass0 (pa_cons (pv 6) (pa_cons (pv 3) (pa_cons (pv 4) pa_nil))))) <|
      pss_cons (ps_cut (J := JA p d ta us T H) (J' := (JO K p d ta us T H 4)) (ps_set (i := 8) scSpoilt.nd rfl (.inl rfl) (pe_lst (rs_cons ja_dk (r_of (U := (UA p d H)) (p := p) (d := d) (S := (JA p d ta us T H)) (w := 300) (k := 3) (pv 7) ?a1) (rs_cons ja_dk (r_of (U := (UA p d H)) (p := p) (d := d) (S := (JA p d ta us T H)) (w := 300) (k := 3) (pe_call GX hr1 rfl mX kX bX .nil pass0 (pa_cons (pv 7) (pa_cons (pv 4) (pa_cons (pv 5) pa_nil)))) ?a2) (rs_cons ja_dk (r_of (U := (UA p d H)) (p := p) (d := d) (S := (JA p d ta us T H)) (w := 300) (k := 3) (pe_ix (r := rIxT K) ix_tup (pv 1) (pe_op op_sub (pv 2) pe_int) (fun _ _ => rfl)) ?a3) (rs_cons ja_dk (r_of (U := (UA p d H)) (p := p) (d := d) (S := (JA p d ta us T H)) (w := 300) (k := 3) (pe_call GB hr rfl mB kB bB .nil pass0 (pa_cons (pv 0) (pa_cons (pv 7) pa_nil))) ?a4) rs_nil)))))) ?ca) <|
      pss_cons (ps_cut (J := (JO K p d ta us T H 4)) (J' := (JO K p d ta us T H 8)) (ps_set (i := 8) scSpoilt.nd rfl (.inl rfl) (pe_op op_cat (pv 8) (pe_lst (rs_cons jo_dk (r_of (U := (UA p d H)) (p := p) (d := d) (S := (JO K p d ta us T H 4)) (w := 300) (k := 3) (pe_call GB hr rfl mB kB bB .nil pass0 (pa_cons (pv 0) (pa_cons (pv 6) pa_nil))) ?b1) (rs_cons jo_dk (r_of (U := (UA p d H)) (p := p) (d := d) (S := (JO K p d ta us T H 4)) (w := 300) (k := 3) (pe_revT (pv 6)) ?b2) (rs_cons jo_dk (r_of (U := (UA p d H)) (p := p) (d := d) (S := (JO K p d ta us T H 4)) (w := 300) (k := 3) (pe_callTy call_list_of (by rfl) B.list (by decide +kernel) (pa_cons (pv 6) pa_nil)) ?b3) (rs_cons jo_dk (r_of (U := (UA p d H)) (p := p) (d := d) (S := (JO K p d ta us T H 4)) (w := 300) (k := 3) (pe_slice sl_tupC (pv 6) po_none (po_some pe_int)) ?b4) rs_nil))))))) ?cb) <|
      pss_cons (ps_cut (J := (JO K p d ta us T H 8)) (J' := (JO K p d ta us T H 13)) (ps_set (i := 8) scSpoilt.nd rfl (.inl rfl) (pe_op op_cat (pv 8) (pe_lst (rs_cons jo_dk (r_of (U := (UA p d H)) (p := p) (d := d) (S := (JO K p d ta us T H 8)) (w := 300) (k := 3) (pe_op (r := rCatA K) op_catA (pv 6) (pe_tup (pa_cons pe_int pa_nil))) ?c1) (rs_cons jo_dk (r_of (U := (UA p d H)) (p := p) (d := d) (S := (JO K p d ta us T H 8)) (w := 300) (k := 3) (pe_op (r := rCatA K) op_catA (pe_op (r := rCatA K) op_catA (pe_slice sl_tupC (pv 6) po_none (po_some (pv 3))) (pe_tup (pa_cons (pe_ix (r := rIxT K) ix_tup (pv 6) (pv 4) (fun _ _ => rfl)) pa_nil))) (pe_slice sl_tupC (pv 6) (po_some (pe_op op_add (pv 3) pe_int)) po_none)) ?c2) (rs_cons jo_dk (r_of (U := (UA p d H)) (p := p) (d := d) (S := (JO K p d ta us T H 8)) (w := 300) (k := 3) (pe_callTy call_tuple_of (by rfl) B.tuple (by decide +kernel) (pa_cons (pe_lc (own := [("own", 10)]) (g := gName 10) (tt := tYes) rfl scSpoilt.nd (pi_tup (pv 6)) (blkOk_by (own := [("own", 10)]) (N := nSpoilt) (sc := defScope sSpoilt) (by decide +kernel))
            (fun _ _ _ _ _ => pg_name (i := 10) scSpoilt.nd rfl (Or.inl rfl)) (fun _ _ _ _ _ => pts_nil) (fun _ _ _ _ _ => pe_op op_sub (pv 10) pe_int)) pa_nil)) ?c3) (rs_cons jo_dk (r_of (U := (UA p d H)) (p := p) (d := d) (S := (JO K p d ta us T H 8)) (w := 300) (k := 3) pe_non ?c4) (rs_cons jo_dk (r_of (U := (UA p d H)) (p := p) (d := d) (S := (JO K p d ta us T H 8)) (w := 300) (k := 3) (pe_tup pa_nil) ?c5) rs_nil)))))))) ?cc) <|
      pss_cons (ps_cut (J := (JO K p d ta us T H 13)) (J' := (JO K p d ta us T H 16)) (ps_set (i := 8) scSpoilt.nd rfl (.inl rfl) (pe_op op_cat (pv 8) (pe_lst (rs_cons jo_dk (r_of (U := (UA p d H)) (p := p) (d := d) (S := (JO K p d ta us T H 13)) (w := 300) (k := 3) (pe_callTy call_tuple_of (by rfl) B.tuple (by decide +kernel) (pa_cons (pe_lc (own := [("own", 10)]) (g := gName 10) (tt := tYes) rfl scSpoilt.nd (pi_tup (pv 6)) (blkOk_by (own := [("own", 10)]) (N := nSpoilt) (sc := defScope sSpoilt) (by decide +kernel))
            (fun _ _ _ _ _ => pg_name (i := 10) scSpoilt.nd rfl (Or.inl rfl)) (fun _ _ _ _ _ => pts_nil) (fun _ _ _ _ _ => pe_ifExp (pt_cmpR op_lt (pv 10) pe_int (nomark _)) (pe_cmpR op_eq (pv 10) pe_int (nomark _)) (pv 10))) pa_nil)) ?d1) (rs_cons jo_dk (r_of (U := (UA p d H)) (p := p) (d := d) (S := (JO K p d ta us T H 13)) (w := 300) (k := 3) (pe_callTy call_tuple_of (by rfl) B.tuple (by decide +kernel) (pa_cons (pe_lc (own := [("own", 10)]) (g := gName 10) (tt := tYes) rfl scSpoilt.nd (pi_tup (pv 6)) (blkOk_by (own := [("own", 10)]) (N := nSpoilt) (sc := defScope sSpoilt) (by decide +kernel))
            (fun _ _ _ _ _ => pg_name (i := 10) scSpoilt.nd rfl (Or.inl rfl)) (fun _ _ _ _ _ => pts_nil) (fun _ _ _ _ _ => pe_op op_add (pv 10) pe_int)) pa_nil)) ?d2) (rs_cons jo_dk (r_of (U := (UA p d H)) (p := p) (d := d) (S := (JO K p d ta us T H 13)) (w := 300) (k := 3) (pe_op (r := rRepT K) op_repT (pe_tup (pa_cons (pv 6) pa_nil)) pe_int) ?d3) rs_nil)))))) ?cd) <|
      pss_cons (ps_for PassesOwn.never rfl (pi_tup (pe_tup (rs_cons jb_dk (r_of (U := (UB p d H)) (p := p) (d := d) (S := (JO K p d ta us T H 16)) (w := 20) (k := 2) (pe_lst (pa_cons (pe_ix (r := rIxT K) ix_tup (pv 6) (pv 3) (fun _ _ => rfl)) pa_nil)) ?e1) (rs_cons jb_dk (r_of (U := (UB p d H)) (p := p) (d := d) (S := (JO K p d ta us T H 16)) (w := 20) (k := 2) pe_dnewK ?e2) (rs_cons jb_dk (r_of (U := (UB p d H)) (p := p) (d := d) (S := (JO K p d ta us T H 16)) (w := 20) (k := 2) (pe_disp (pps_cons (pe_ix (r := rIxT K) ix_tup (pv 6) (pv 3) (fun _ _ => rfl)) pe_int pps_nil) (by rfl) (by rfl) (by simp) (by decide)) ?e3) (rs_cons jb_dk (r_of (U := (UB p d H)) (p := p) (d := d) (S := (JO K p d ta us T H 16)) (w := 20) (k := 2) pe_non ?e4) (rs_cons jb_dk (r_of (U := (UB p d H)) (p := p) (d := d) (S := (JO K p d ta us T H 16)) (w := 20) (k := 2) (pe_callTy call_str_int (by rfl) B.str (by decide +kernel) (pa_cons (pe_ix (r := rIxT K) ix_tup (pv 6) (pv 3) (fun _ _ => rfl)) pa_nil)) ?e5) (rs_cons jb_dk (r_of (U := (UB p d H)) (p := p) (d := d) (S := (JO K p d ta us T H 16)) (w := 20) (k := 2) (pe_tup (pa_cons (pe_ix (r := rIxT K) ix_tup (pv 6) (pv 3) (fun _ _ => rfl)) pa_nil)) ?e6) (rs_cons jb_dk (r_of (U := (UB p d H)) (p := p) (d := d) (S := (JO K p d ta us T H 16)) (w := 20) (k := 2) (pe_lst (pa_cons (pe_lst pa_nil) pa_nil)) ?e7) rs_nil))))))))) (pg_name (i := 9) scSpoilt.nd rfl (.inl rfl))
        (pss_one (ps_expr (pe_bm PySem.F.plainAttrs_list PySem.F.slot_list_append PySem.F.type_list_append mt_append (pv 8) (pa_cons (pe_op (r := rCatA K) op_catA (pe_op (r := rCatA K) op_catA (pe_slice sl_tupC (pv 6) po_none (po_some (pv 3))) (pe_tup (pa_cons (pv 9) pa_nil))) (pe_slice sl_tupC (pv 6) (po_some (pe_op op_add (pv 3) pe_int)) po_none)) pa_nil))))) <|
      pss_one (ps_ret (pe_op (r := rCatA K) op_catA (pe_op (r := rCatA K) op_catA (pe_slice sl_tupC (pv 1) po_none (po_some (pv 2))) (pe_tup (pa_cons (pe_call GP hr2 rfl mP kP bP .nil pass0 (pa_cons (pv 0) (pa_cons (pv 8) pa_nil))) pa_nil))) (pe_slice sl_tupC (pv 1) (po_some (pe_op op_add (pv 2) pe_int)) po_none))), ?_⟩
    case a1 =>
      rintro σ H1 Q1 ⟨i, s8, s9, s10, rfl, S⟩ q
      exact ⟨_, rfl, q _ _ (dk_rowN (offL_ok S.D S.K0) ((TP.row _ S.b.1).sw S.b.2.1 S.b.2.2.1) S.ha (by decide)) ⟨i, s8, s9, s10, rfl, S⟩ KpL.refl⟩
    case a2 =>
      rintro σ H1 Q1 ⟨i, s8, s9, s10, rfl, S⟩ q
      have R := (TP.row _ S.b.1).sw S.b.2.1 S.b.2.2.1
      exact ⟨_, rfl, _, rfl, _, rfl, i.ra, _, i.other, i.third, rfl, S.ha, R.len, S.b.2.2.1, S.b.2.2.2, fun q' H2 s2 h2 => q _ _ (dk_rowN ((offL_ok S.D S.K0).same s2) (R.sw S.b.2.2.1 S.b.2.2.2) h2 (by decide)) ⟨i, s8, s9, s10, rfl, S.same s2⟩ (.of s2)⟩
    case a3 =>
      rintro σ H1 Q1 ⟨i, s8, s9, s10, rfl, S⟩ q
      obtain ⟨tr, v, hv, av, htr⟩ := row_prev S.TA TP S.b.1
      exact ⟨_, rfl, _, rfl, _, _, rfl, rfl, ta, _, ((i.at_ : Nat) : Int) - 1, .ref tr, rfl, rfl, SqT.of S.TA.tup, av, q _ _ (dk_rowN (offL_ok S.D S.K0) (TP.row v hv) htr (by decide)) ⟨i, s8, s9, s10, rfl, S⟩ KpL.refl⟩
    case a4 =>
      rintro σ H1 Q1 ⟨i, s8, s9, s10, rfl, S⟩ q
      have R := (TP.row _ S.b.1).sw S.b.2.1 S.b.2.2.1
      exact ⟨_, rfl, _, rfl, p, d, i.ra, _, rfl, S.D, S.ha, R, fun t g H2 D2 k2 h2 pg => q _ _ (dk_rowN (offL_ok D2 (S.K0.trans k2)) (R.map pg.row) h2 (by decide)) ⟨i, s8, s9, s10, rfl, S.kpl D2 k2⟩ k2⟩
    case ca =>
      rintro D1 σ H1 h nx
      refine ⟨h, fun xs H2 lx hx s2 k2 => ⟨by rw [lx]; decide, fun l nl => ?_⟩⟩
      obtain ⟨i, s8, s9, s10, rfl, S⟩ := s2
      have sl := same_new (o := .lst xs) nl
      exact nx _ _ ⟨i, l, xs, s9, s10, rfl, S.same sl, (S.D.off nl).1, (S.D.off nl).2, kp_free S.D S.K0 nl, upd_same, lx, fun v hv => ((hx v hv).offM nl).keep (.same sl)⟩
    case b1 =>
      rintro σ H1 Q1 ⟨i, l, vs, s9, s10, rfl, S, n1, n2, h0, hl, ln, al⟩ q
      have R := TP.row _ S.b.1
      exact ⟨_, rfl, _, rfl, p, d, i.rr, _, rfl, S.D, S.hr, R, fun t g H2 D2 k2 h2 pg => q _ _ (dk_rowN (offL_ok D2 (S.K0.trans k2)) (R.map pg.row) h2 (by decide)) (jo_dk.keep _ _ _ ⟨i, l, vs, s9, s10, rfl, S, n1, n2, h0, hl, ln, al⟩ D2 k2) k2⟩
    case b2 =>
      rintro σ H1 Q1 ⟨i, l, vs, s9, s10, rfl, S, n1, n2, h0, hl, ln, al⟩ q
      have R := TP.row _ S.b.1
      refine ⟨_, rfl, i.rr, _, rfl, SqT.of S.hr, fun q' nq => ?_⟩
      have s2 := same_new (o := .tup ((intR (row' T i.at_)).map V.int).reverse) nq
      refine q _ _ (dk_row (L := (intR (row' T i.at_)).reverse) ((offL_ok S.D S.K0).same s2) (fun z hz => row_ints R z (List.mem_reverse.mp hz)) (by rw [upd_same, List.map_reverse]) ?_) (jo_dk.same ⟨i, l, vs, s9, s10, rfl, S, n1, n2, h0, hl, ln, al⟩ s2) (.of s2)
      rw [List.length_reverse, intR_len, R.len]
      decide
    case b3 =>
      rintro σ H1 Q1 ⟨i, l, vs, s9, s10, rfl, S, n1, n2, h0, hl, ln, al⟩ q
      have R := TP.row _ S.b.1
      refine ⟨_, rfl, i.rr, _, rfl, .inr (SqT.of S.hr), fun q' nq => ?_⟩
      have s2 := same_new (o := .lst ((intR (row' T i.at_)).map V.int)) nq
      refine q _ _ ((dk_lst (w := 4) (k := 0) (offL_ok S.D S.K0) (fun z hz => ?_) nq s2 upd_same).le ?_ (by decide)) (jo_dk.same ⟨i, l, vs, s9, s10, rfl, S, n1, n2, h0, hl, ln, al⟩ s2) (.of s2)
      · obtain ⟨y, hy, rfl⟩ := List.mem_map.mp hz
        exact dk_int (row_ints R y hy) (by decide)
      · rw [List.length_map, intR_len, R.len]
        decide
    case b4 =>
      rintro σ H1 Q1 ⟨i, l, vs, s9, s10, rfl, S, n1, n2, h0, hl, ln, al⟩ q
      have R := TP.row _ S.b.1
      refine ⟨_, rfl, 5, rfl, i.rr, _, rfl, S.hr, fun r Z s2 hz => ?_⟩
      obtain ⟨M, eM, mM, lM⟩ := cut_ints (intR (row' T i.at_)) none (some 5)
      rw [eM] at hz
      rw [intR_len, R.len] at lM
      exact q _ _ (dk_row ((offL_ok S.D S.K0).same s2) (fun z hz => row_ints R z (mM z hz)) hz (by omega)) (jo_dk.same ⟨i, l, vs, s9, s10, rfl, S, n1, n2, h0, hl, ln, al⟩ s2) (.of s2)
    case cb =>
      rintro D1 σ H1 ⟨i, l, vs, s9, s10, rfl, S, n1, n2, h0, hl, ln, al⟩ nx
      refine ⟨_, rfl, ⟨i, l, vs, s9, s10, rfl, S, n1, n2, h0, hl, ln, al⟩, fun xs H2 lx hx s2 k2 => ⟨by rw [lx]; decide, fun l2 nl => ?_⟩⟩
      have D2 := jo_dk.dk _ _ s2
      have sl := same_new (o := .lst xs) nl
      refine ⟨l, l2, vs, xs, rfl, rfl, sl _ _ (k2 _ _ hl n1 n2), upd_same, by rw [ln, lx]; decide, fun q nq => ?_⟩
      have sq := same_new (o := .lst (vs ++ xs)) nq
      have oq := (D2.same sl).off nq
      have S2 := (S.kpl D2 k2).same sl
      exact nx _ _ ⟨i, q, vs ++ xs, s9, s10, rfl, S2.same sq, oq.1, oq.2, kp_free S2.D S2.K0 nq, upd_same, by rw [List.length_append, ln, lx], fun v hv => (List.mem_append.mp hv).elim (fun z => (((al v z).offL.keep ((KU.kL k2).trans (.same sl))).offM nq).keep (.same sq)) fun z => (((hx v z).keep (.same sl)).offM nq).keep (.same sq)⟩
    case c1 =>
      rintro σ H1 Q1 ⟨i, l, vs, s9, s10, rfl, S, n1, n2, h0, hl, ln, al⟩ q
      have R := TP.row _ S.b.1
      refine ⟨_, rfl, by show 1 ≤ sizeLine; decide, fun t nt => ?_⟩
      have st := same_new (o := .tup [.int 6]) nt
      refine cat_tup (st _ _ S.hr) upd_same (by rw [List.length_map, intR_len, R.len]; decide) fun r Z z2 hz => ?_
      have s2 := st.trans z2
      refine q _ _ (dk_row (L := intR (row' T i.at_) ++ [6]) ((offL_ok S.D S.K0).same s2) (fun z hz => ?_) (by rw [hz, List.map_append]; rfl) (by rw [List.length_append, intR_len, R.len]; decide)) (jo_dk.same ⟨i, l, vs, s9, s10, rfl, S, n1, n2, h0, hl, ln, al⟩ s2) (.of s2)
      rcases List.mem_append.mp hz with y | y
      · exact row_ints R z y
      · rw [List.mem_singleton.mp y]
        decide
    case c2 =>
      rintro σ H1 Q1 ⟨i, l, vs, s9, s10, rfl, S, n1, n2, h0, hl, ln, al⟩ q
      have R := TP.row _ S.b.1
      have lR := R.len
      obtain ⟨M1, eM1, mM1, lM1⟩ := cut_ints (intR (row' T i.at_)) none (some (i.one : Int))
      obtain ⟨M2, eM2, mM2, lM2⟩ := cut_ints (intR (row' T i.at_)) (some ((i.one : Int) + 1)) none
      rw [intR_len] at lM1 lM2
      refine ⟨_, rfl, _, rfl, _, rfl, i.rr, _, rfl, S.hr, fun r1 Z1 z1 h1 => ⟨_, rfl, _, rfl, i.rr, _, (i.other : Int), _, rfl, rfl, SqT.of (z1 _ _ S.hr), at_row (by have := S.b; omega), by show 1 ≤ sizeLine; decide, fun t nt => ?_⟩⟩
      rw [eM1] at h1
      have st := same_new (o := .tup [.int (ap (row' T i.at_) i.other : Nat)]) nt
      refine cat_tup (st _ _ h1) upd_same (by rw [List.length_map]; show _ + 1 ≤ _; omega) fun r2 Z2 z2 h2 => ?_
      have s2 := z1.trans (st.trans z2)
      refine ⟨_, rfl, _, rfl, _, _, rfl, rfl, _, rfl, i.rr, _, rfl, s2 _ _ S.hr, fun r3 Z3 z3 h3 => ?_⟩
      rw [eM2] at h3
      refine cat_tup (z3 _ _ h2) h3 (by rw [List.length_append, List.length_map, List.length_map]; show _ + 1 + _ ≤ _; omega) fun r4 Z4 z4 h4 => ?_
      have s4 := s2.trans (z3.trans z4)
      refine q _ _ (dk_row (L := (M1 ++ [((ap (row' T i.at_) i.other : Nat) : Int)]) ++ M2) ((offL_ok S.D S.K0).same s4) (fun z hz => ?_) (by rw [h4, List.map_append, List.map_append]; rfl) (by rw [List.length_append, List.length_append]; show (_ + 1 + _) * 6 + 3 ≤ 300; omega)) (jo_dk.same ⟨i, l, vs, s9, s10, rfl, S, n1, n2, h0, hl, ln, al⟩ s4) (.of s4)
      rcases List.mem_append.mp hz with y | y
      · rcases List.mem_append.mp y with x | x
        · exact row_ints R z (mM1 z x)
        · rw [List.mem_singleton.mp x]
          exact ap_int R S.b.2.2.1
      · exact row_ints R z (mM2 z y)
    case c3 =>
      rintro σ H1 Q1 ⟨i, l, vs, s9, s10, rfl, S, n1, n2, h0, hl, ln, al⟩ q
      have R := TP.row _ S.b.1
      have lR := R.len
      refine ⟨_, rfl, i.rr, rfl, ⟨_, SqT.of S.hr⟩, fun L nL => ?_⟩
      refine lc_it (walk_tup (xs := (intR (row' T i.at_)).map V.int)) (fun j Z => ∃ M : List Int, Z L = some (.lst (M.map V.int)) ∧ M.length ≤ j ∧ (∀ z ∈ M, z.natAbs < 1000) ∧ Same H1 Z) ⟨[], upd_same, Nat.le_refl _, fun _ h => absurd h (by simp), same_new nL⟩ (fun j Z _ h => by obtain ⟨_, _, _, _, h⟩ := h; exact SqT.of (h _ _ S.hr)) ?_ ?_
      · rintro j x Hb Ha hj ⟨M, h1, h2, h3, h4⟩ ⟨rfl, ex⟩
        obtain ⟨z, ez, rfl⟩ := int_at ex
        have hz := List.mem_of_getElem? ez
        unfold intR at hz
        obtain ⟨y, hy, rfl⟩ := List.mem_map.mp hz
        have y6 := List.mem_range.mp (R.mem_iff.mp hy)
        rw [List.length_map, intR_len] at hj
        refine ⟨rfl, ?_⟩
        dsimp only [tYes]
        rw [if_pos rfl]
        refine ⟨_, rfl, _, _, rfl, rfl, _, h1, by rw [List.length_map, sizeLine_eq]; omega, M ++ [(y : Int) - 1], by rw [upd_same, List.map_append]; rfl, by rw [List.length_append]; show _ + 1 ≤ _; omega, fun z hz => ?_, fun c o ec => ?_⟩
        · rcases List.mem_append.mp hz with t | t
          · exact h3 z t
          · rw [List.mem_singleton.mp t]
            omega
        · rw [upd_ne (ne_of_none ec nL)]
          exact h4 _ _ ec
      · rintro Ha ⟨M, h1, h2, h3, h4⟩
        rw [List.length_map, intR_len] at h2
        refine ⟨L, _, rfl, .inl ⟨SqL.of h1, fun tq nq => ?_⟩⟩
        have s2 := h4.trans (same_new (o := .tup (M.map V.int)) nq)
        exact q _ _ (dk_row ((offL_ok S.D S.K0).same s2) h3 upd_same (by omega)) (jo_dk.same ⟨i, l, vs, s9, s10, rfl, S, n1, n2, h0, hl, ln, al⟩ s2) (.of s2)
    case c4 =>
      rintro σ H1 Q1 h q
      exact q _ _ (dk_non (by decide)) h KpL.refl
    case c5 =>
      rintro σ H1 Q1 h q
      refine ⟨Nat.zero_le _, fun t nt => ?_⟩
      have s2 := same_new (o := .tup []) nt
      exact q _ _ (dk_row (L := []) ((jo_dk.uk _ _ h).same s2) (fun _ h => absurd h (by simp)) upd_same (by decide)) (jo_dk.same h s2) (.of s2)
    case cc =>
      rintro D1 σ H1 ⟨i, l, vs, s9, s10, rfl, S, n1, n2, h0, hl, ln, al⟩ nx
      refine ⟨_, rfl, ⟨i, l, vs, s9, s10, rfl, S, n1, n2, h0, hl, ln, al⟩, fun xs H2 lx hx s2 k2 => ⟨by rw [lx]; decide, fun l2 nl => ?_⟩⟩
      have D2 := jo_dk.dk _ _ s2
      have sl := same_new (o := .lst xs) nl
      refine ⟨l, l2, vs, xs, rfl, rfl, sl _ _ (k2 _ _ hl n1 n2), upd_same, by rw [ln, lx]; decide, fun q nq => ?_⟩
      have sq := same_new (o := .lst (vs ++ xs)) nq
      have oq := (D2.same sl).off nq
      have S2 := (S.kpl D2 k2).same sl
      exact nx _ _ ⟨i, q, vs ++ xs, s9, s10, rfl, S2.same sq, oq.1, oq.2, kp_free S2.D S2.K0 nq, upd_same, by rw [List.length_append, ln, lx], fun v hv => (List.mem_append.mp hv).elim (fun z => (((al v z).offL.keep ((KU.kL k2).trans (.same sl))).offM nq).keep (.same sq)) fun z => (((hx v z).keep (.same sl)).offM nq).keep (.same sq)⟩
    case d1 =>
      rintro σ H1 Q1 ⟨i, l, vs, s9, s10, rfl, S, n1, n2, h0, hl, ln, al⟩ q
      have R := TP.row _ S.b.1
      have lR := R.len
      refine ⟨_, rfl, i.rr, rfl, ⟨_, SqT.of S.hr⟩, fun L nL => ?_⟩
      refine lc_it (walk_tup (xs := (intR (row' T i.at_)).map V.int)) (fun j Z => ∃ M : List V, Z L = some (.lst M) ∧ M.length ≤ j ∧ (∀ z ∈ M, (∃ b, z = .bl b) ∨ ∃ y : Int, z = .int y ∧ y.natAbs < 1000) ∧ Same H1 Z) ⟨[], upd_same, Nat.le_refl _, fun _ h => absurd h (by simp), same_new nL⟩ (fun j Z _ h => by obtain ⟨_, _, _, _, h⟩ := h; exact SqT.of (h _ _ S.hr)) ?_ ?_
      · rintro j x Hb Ha hj ⟨M, h1, h2, h3, h4⟩ ⟨rfl, ex⟩
        obtain ⟨z, ez, rfl⟩ := int_at ex
        have hz := List.mem_of_getElem? ez
        unfold intR at hz
        obtain ⟨y, hy, rfl⟩ := List.mem_map.mp hz
        have y6 := List.mem_range.mp (R.mem_iff.mp hy)
        rw [List.length_map, intR_len] at hj
        have up : ∀ v : V, ((∃ b, v = .bl b) ∨ ∃ y : Int, v = .int y ∧ y.natAbs < 1000) → ∃ acc, Ha L = some (.lst acc) ∧ acc.length < sizeLine ∧ ∃ M : List V, (upd Ha L (.lst (acc ++ [v]))) L = some (.lst M) ∧ M.length ≤ j + 1 ∧ (∀ z ∈ M, (∃ b, z = .bl b) ∨ ∃ y : Int, z = .int y ∧ y.natAbs < 1000) ∧ Same H1 (upd Ha L (.lst (acc ++ [v]))) := fun v hv => by
          refine ⟨_, h1, by rw [sizeLine_eq]; omega, M ++ [v], upd_same, by rw [List.length_append]; show _ + 1 ≤ _; omega, fun z hz => ?_, fun c o ec => ?_⟩
          · rcases List.mem_append.mp hz with t | t
            · exact h3 z t
            · rw [List.mem_singleton.mp t]
              exact hv
          · rw [upd_ne (ne_of_none ec nL)]
            exact h4 _ _ ec
        refine ⟨rfl, ?_⟩
        dsimp only [tYes]
        rw [if_pos rfl]
        refine ⟨_, rfl, _, _, rfl, rfl, _, rfl, ite2 (fun _ => ?_) (fun _ => ?_)⟩
        · exact ⟨_, rfl, rfl, up _ (.inl ⟨_, rfl⟩)⟩
        · exact ⟨_, rfl, up _ (.inr ⟨_, rfl, by omega⟩)⟩
      · rintro Ha ⟨M, h1, h2, h3, h4⟩
        rw [List.length_map, intR_len] at h2
        refine ⟨L, _, rfl, .inl ⟨SqL.of h1, fun tq nq => ?_⟩⟩
        have sq := same_new (o := .tup M) nq
        have s2 := h4.trans sq
        refine q _ _ ((dk_tup (w := 5) (k := 0) ((offL_ok S.D S.K0).same h4) (fun z hz => ?_) nq sq upd_same).le (by omega) (by decide)) (jo_dk.same ⟨i, l, vs, s9, s10, rfl, S, n1, n2, h0, hl, ln, al⟩ s2) (.of s2)
        rcases h3 z hz with ⟨b, rfl⟩ | ⟨y, rfl, hy⟩
        · exact dk_bl (by decide)
        · exact dk_int hy (by decide)
    case d2 =>
      rintro σ H1 Q1 ⟨i, l, vs, s9, s10, rfl, S, n1, n2, h0, hl, ln, al⟩ q
      have R := TP.row _ S.b.1
      have lR := R.len
      refine ⟨_, rfl, i.rr, rfl, ⟨_, SqT.of S.hr⟩, fun L nL => ?_⟩
      refine lc_it (walk_tup (xs := (intR (row' T i.at_)).map V.int)) (fun j Z => ∃ M : List Int, Z L = some (.lst (M.map V.int)) ∧ M.length ≤ j ∧ (∀ z ∈ M, z.natAbs < 1000) ∧ Same H1 Z) ⟨[], upd_same, Nat.le_refl _, fun _ h => absurd h (by simp), same_new nL⟩ (fun j Z _ h => by obtain ⟨_, _, _, _, h⟩ := h; exact SqT.of (h _ _ S.hr)) ?_ ?_
      · rintro j x Hb Ha hj ⟨M, h1, h2, h3, h4⟩ ⟨rfl, ex⟩
        obtain ⟨z, ez, rfl⟩ := int_at ex
        have hz := List.mem_of_getElem? ez
        unfold intR at hz
        obtain ⟨y, hy, rfl⟩ := List.mem_map.mp hz
        have y6 := List.mem_range.mp (R.mem_iff.mp hy)
        rw [List.length_map, intR_len] at hj
        refine ⟨rfl, ?_⟩
        dsimp only [tYes]
        rw [if_pos rfl]
        refine ⟨_, rfl, _, _, rfl, rfl, _, h1, by rw [List.length_map, sizeLine_eq]; omega, M ++ [(y : Int) + 1], by rw [upd_same, List.map_append]; rfl, by rw [List.length_append]; show _ + 1 ≤ _; omega, fun z hz => ?_, fun c o ec => ?_⟩
        · rcases List.mem_append.mp hz with t | t
          · exact h3 z t
          · rw [List.mem_singleton.mp t]
            omega
        · rw [upd_ne (ne_of_none ec nL)]
          exact h4 _ _ ec
      · rintro Ha ⟨M, h1, h2, h3, h4⟩
        rw [List.length_map, intR_len] at h2
        refine ⟨L, _, rfl, .inl ⟨SqL.of h1, fun tq nq => ?_⟩⟩
        have s2 := h4.trans (same_new (o := .tup (M.map V.int)) nq)
        exact q _ _ (dk_row ((offL_ok S.D S.K0).same s2) h3 upd_same (by omega)) (jo_dk.same ⟨i, l, vs, s9, s10, rfl, S, n1, n2, h0, hl, ln, al⟩ s2) (.of s2)
    case d3 =>
      rintro σ H1 Q1 ⟨i, l, vs, s9, s10, rfl, S, n1, n2, h0, hl, ln, al⟩ q
      have R := TP.row _ S.b.1
      refine ⟨_, rfl, by show 1 ≤ sizeLine; decide, fun u nu => ⟨u, 6, _, rfl, rfl, SqT.of upd_same, by simp, by decide, by decide, by show 1 ≤ 1000; decide, fun t nt => ?_⟩⟩
      have su := same_new (o := .tup [.ref i.rr]) nu
      have st := same_new (o := .tup (List.replicate (6 : Int).toNat [V.ref i.rr]).flatten) nt
      have s2 := su.trans st
      refine q _ _ ((dk_tup (w := 39) (k := 1) ((offL_ok S.D S.K0).same su) (fun z hz => ?_) nt st upd_same).le (by show 6 * (39 + 2) + 3 ≤ 300; decide) (by decide)) (jo_dk.same ⟨i, l, vs, s9, s10, rfl, S, n1, n2, h0, hl, ln, al⟩ s2) (.of s2)
      obtain ⟨ys, hy, hz⟩ := List.mem_flatten.mp hz
      rw [(List.mem_replicate.mp hy).2] at hz
      rw [List.mem_singleton.mp hz]
      exact dk_rowN ((offL_ok S.D S.K0).same su) R (su _ _ S.hr) (by decide)
    case cd =>
      rintro D1 σ H1 ⟨i, l, vs, s9, s10, rfl, S, n1, n2, h0, hl, ln, al⟩ nx
      refine ⟨_, rfl, ⟨i, l, vs, s9, s10, rfl, S, n1, n2, h0, hl, ln, al⟩, fun xs H2 lx hx s2 k2 => ⟨by rw [lx]; decide, fun l2 nl => ?_⟩⟩
      have D2 := jo_dk.dk _ _ s2
      have sl := same_new (o := .lst xs) nl
      refine ⟨l, l2, vs, xs, rfl, rfl, sl _ _ (k2 _ _ hl n1 n2), upd_same, by rw [ln, lx]; decide, fun q nq => ?_⟩
      have sq := same_new (o := .lst (vs ++ xs)) nq
      have oq := (D2.same sl).off nq
      have S2 := (S.kpl D2 k2).same sl
      exact nx _ _ ⟨i, q, vs ++ xs, s9, s10, rfl, S2.same sq, oq.1, oq.2, kp_free S2.D S2.K0 nq, upd_same, by rw [List.length_append, ln, lx], fun v hv => (List.mem_append.mp hv).elim (fun z => (((al v z).offL.keep ((KU.kL k2).trans (.same sl))).offM nq).keep (.same sq)) fun z => (((hx v z).keep (.same sl)).offM nq).keep (.same sq)⟩
    case e1 =>
      rintro σ H1 Q1 ⟨i, l, vs, s9, s10, rfl, S, n1, n2, h0, hl, ln, al⟩ q
      rw [ub_eq] at q
      have R := TP.row _ S.b.1
      refine ⟨_, rfl, _, rfl, i.rr, _, (i.one : Int), _, rfl, rfl, SqT.of S.hr, at_row (by rw [R.len]; exact S.b.2.1), by show 1 ≤ sizeLine; decide, fun t nt => ?_⟩
      have s2 := same_new (o := .lst [.int (ap (row' T i.at_) i.one : Nat)]) nt
      refine q _ _ ((dk_lst (w := 4) (k := 0) (offM_ok S.D S.K0 hl) (fun z hz => ?_) nt s2 upd_same).le (by show 1 * (4 + 2) + 3 ≤ 20; decide) (by decide)) (jo_dk.same ⟨i, l, vs, s9, s10, rfl, S, n1, n2, h0, hl, ln, al⟩ s2) (.of s2)
      rw [List.mem_singleton.mp hz]
      exact dk_int (ap_int R S.b.2.1) (by decide)
    case e2 =>
      rintro σ H1 Q1 h q a na
      have s2 := same_new (o := .dK []) na
      exact q _ _ (dk_dct (jb_dk.uk _ _ h) na (by decide) upd_same) (jo_dk.same h s2) (.of s2)
    case e3 =>
      rintro σ H1 Q1 ⟨i, l, vs, s9, s10, rfl, S, n1, n2, h0, hl, ln, al⟩ q a na
      rw [ub_eq] at q
      have R := TP.row _ S.b.1
      have s1 := same_new (o := .dK []) na
      refine ⟨_, rfl, _, rfl, i.rr, _, (i.one : Int), _, rfl, rfl, SqT.of (s1 _ _ S.hr), at_row (by rw [R.len]; exact S.b.2.1), upd_same, [(.inl (ap (row' T i.at_) i.one : Nat), .int 0)], rfl, by show 1 ≤ 15; decide, ?_⟩
      have s2 : Same H1 (upd (upd H1 a (.dK [])) a (.dK (mergeK [] [((.inl ((ap (row' T i.at_) i.one : Nat) : Int) : Key), V.int 0)]))) := fun b o e => by
        rw [upd_ne (ne_of_none e na)]
        exact s1 _ _ e
      exact q _ _ (dk_dx1 (offM_ok S.D S.K0 hl) na (ap_int R S.b.2.1) (by decide) upd_same) (jo_dk.same ⟨i, l, vs, s9, s10, rfl, S, n1, n2, h0, hl, ln, al⟩ s2) (.of s2)
    case e4 =>
      rintro σ H1 Q1 h q
      exact q _ _ (dk_non (by decide)) h KpL.refl
    case e5 =>
      rintro σ H1 Q1 ⟨i, l, vs, s9, s10, rfl, S, n1, n2, h0, hl, ln, al⟩ q
      have R := TP.row _ S.b.1
      have a6 := R.lt S.b.2.1
      have few : ∀ n : Nat, n < 6 → (reprText (toString ((n : Nat) : Int))).length ≤ 20 := by decide +kernel
      refine ⟨_, rfl, _, rfl, i.rr, _, (i.one : Int), _, rfl, rfl, SqT.of S.hr, at_row (by rw [R.len]; exact S.b.2.1), _, rfl, ?_, q _ _ (dk_str (few _ a6)) ⟨i, l, vs, s9, s10, rfl, S, n1, n2, h0, hl, ln, al⟩ KpL.refl⟩
      exact PySem.Spec.log2_small (Nat.lt_of_lt_of_le (show ((ap (row' T i.at_) i.one : Nat) : Int).natAbs < 10 ^ 3 from ap_int R S.b.2.1) (by decide +kernel))
    case e6 =>
      rintro σ H1 Q1 ⟨i, l, vs, s9, s10, rfl, S, n1, n2, h0, hl, ln, al⟩ q
      rw [ub_eq] at q
      have R := TP.row _ S.b.1
      refine ⟨_, rfl, _, rfl, i.rr, _, (i.one : Int), _, rfl, rfl, SqT.of S.hr, at_row (by rw [R.len]; exact S.b.2.1), by show 1 ≤ sizeLine; decide, fun t nt => ?_⟩
      have s2 := same_new (o := .tup [.int (ap (row' T i.at_) i.one : Nat)]) nt
      refine q _ _ (dk_row (L := [((ap (row' T i.at_) i.one : Nat) : Int)]) ((offM_ok S.D S.K0 hl).same s2) (fun z hz => ?_) upd_same (by show 1 * 6 + 3 ≤ 20; decide)) (jo_dk.same ⟨i, l, vs, s9, s10, rfl, S, n1, n2, h0, hl, ln, al⟩ s2) (.of s2)
      rw [List.mem_singleton.mp hz]
      exact ap_int R S.b.2.1
    case e7 =>
      rintro σ H1 Q1 h q
      refine ⟨Nat.zero_le _, fun t nt => ⟨by show 1 ≤ sizeLine; decide, fun u nu => ?_⟩⟩
      have U1 := jb_dk.uk _ _ h
      have s1 := same_new (o := .lst []) nt
      have s2 := same_new (o := .lst [.ref t]) nu
      refine q _ _ ((dk_lst (w := 10) (k := 1) (U1.same s1) (fun z hz => ?_) nu s2 upd_same).le (by show 1 * (10 + 2) + 3 ≤ 20; decide) (by decide)) (jo_dk.same h (s1.trans s2)) (.of (s1.trans s2))
      rw [List.mem_singleton.mp hz]
      exact (dk_lst (w := 1) (k := 0) U1 (fun _ h => absurd h (by simp)) nt s1 upd_same).le (by decide) (by decide)
    -- the statements one by one
    refine ⟨_, rfl, p, d, 5, rfl, D, by decide, by decide, fun at_ H1 a0 a1 D1 k1 => ?_⟩
    refine ⟨_, rfl, 6, rfl, RgOk.of_le (by decide) (by decide) (by decide) (by decide), fun q nq => ?_⟩
    have sq := same_new (o := .lst (rgV 0 6)) nq
    refine ⟨p, d, q, _, rfl, D1.same sq, upd_same, by rw [rgV_length]; decide, fun so ms H3 D3 k3 nr hr3 pm => ?_⟩
    obtain ⟨os, rfl, lo, nd, io⟩ := mixed_ints pm
    obtain ⟨at_, rfl⟩ := Int.eq_ofNat_of_zero_le a0
    obtain ⟨o0, o1, o2, o3, o4, o5, rfl⟩ := six_list (show os.length = 6 by omega)
    have b0 := (io o0).mp (by simp)
    have b1 := (io o1).mp (by simp)
    have b2 := (io o2).mp (by simp)
    obtain ⟨o0, rfl⟩ := Int.eq_ofNat_of_zero_le b0.1
    obtain ⟨o1, rfl⟩ := Int.eq_ofNat_of_zero_le b1.1
    obtain ⟨o2, rfl⟩ := Int.eq_ofNat_of_zero_le b2.1
    have c0 := b0.2
    have c1 := b1.2
    have c2 := b2.2
    refine ⟨3, rfl, so, _, rfl, SqL.of hr3, fun c nc => ⟨by show 2 ≤ sizeLine; decide, fun t nt => ?_⟩⟩
    have sc := same_new (o := .lst (cutV ([(o0 : Int), (o1 : Int), (o2 : Int), o3, o4, o5].map V.int) none (some 3))) nc
    have st := same_new (o := .tup [.int (at_ : Nat), .ref c]) nt
    have hc := st _ _ (upd_same (H := H3) (a := c) (o := .lst (cutV ([(o0 : Int), (o1 : Int), (o2 : Int), o3, o4, o5].map V.int) none (some 3))))
    have D4 := D3.same (sc.trans st)
    have k4 := (k1.trans ((KpL.of sq).trans k3)).trans (KpL.of (sc.trans st))
    refine ⟨t, _, rfl, SqT.of upd_same, rfl, _, _, rfl, _, _, rfl, c, _, rfl, SqL.of hc, rfl, _, _, rfl, _, _, rfl, _, _, rfl, rfl, rfl, ?_⟩
    generalize (upd (upd H3 c (.lst (cutV ([(o0 : Int), (o1 : Int), (o2 : Int), o3, o4, o5].map V.int) none (some 3)))) t (.tup [.int (at_ : Nat), .ref c])) = H4 at D4 k4 ⊢
    clear hc sc st nc nt sq nq hr3 nr k3 D3 b0 b1 b2
    have TA4 := TA.keep (TupS.kpl D k4)
    have h5 : at_ < 5 := by omega
    obtain ⟨tr, _, av, htr⟩ := TA4.row TP.len h5
    have R := TP.row at_ h5
    refine ⟨_, rfl, _, rfl, ta, _, ((at_ : Nat) : Int), .ref tr, rfl, rfl, SqT.of TA4.tup, av, ?_⟩
    refine ⟨_, rfl, _, rfl, _, rfl, tr, _, o0, o1, rfl, htr, R.len, by omega, by omega, fun ra H5 s5 h5' => ?_⟩
    refine ⟨⟨⟨at_, o0, o1, o2, tr, ra⟩, _, _, _, rfl, D4.same s5, k4.trans (.of s5), TA4.keep (.of s5), s5 _ _ htr, h5', h5, show o0 < 6 by omega, show o1 < 6 by omega, show o2 < 6 by omega⟩, ?_⟩
    clear D4 k4 TA4 htr av R s5 h5'
    rintro σ H6 j4
    refine ⟨j4, ?_⟩
    clear j4
    rintro σ H7 j8
    refine ⟨j8, ?_⟩
    clear j8
    rintro σ H8 j13
    refine ⟨j13, ?_⟩
    clear j13
    rintro σ H9 j16
    refine ⟨j16, fun its HA lx hx j s1 => ⟨by rw [lx]; decide, fun tq nq => ⟨tq, rfl, ⟨_, SqT.of upd_same⟩, for_it (walk_tup (xs := its)) (fun j σ Z => JO K p d ta us T H (16 + j) σ Z ∧ Z tq = some (.tup its) ∧ ∀ v ∈ its, DKn K (UB p d H σ) 20 2 Z v) ⟨jo_dk.same j (same_new nq), upd_same, fun v hv => (hx v hv).keep (.same (same_new nq))⟩ (fun j σ Z _ h => SqT.of h.2.1) ?_ ?_⟩⟩⟩
    · rintro j x σ Hb Hc hj ⟨⟨i, l, vs, s9, s10, rfl, S, n1, n2, h0, hl, ln, al⟩, hq, it⟩ ⟨rfl, ex⟩
      rw [ub_eq] at it
      have dx := it x (List.mem_of_getElem? ex)
      have R := TP.row _ S.b.1
      have lR := R.len
      obtain ⟨M1, eM1, mM1, lM1⟩ := cut_ints (intR (row' T i.at_)) none (some (i.one : Int))
      obtain ⟨M2, eM2, mM2, lM2⟩ := cut_ints (intR (row' T i.at_)) (some ((i.one : Int) + 1)) none
      rw [intR_len] at lM1 lM2
      refine ⟨_, rfl, .inl ⟨rfl, _, SqL.of hl⟩, _, rfl, _, rfl, _, rfl, i.rr, _, rfl, S.hr, fun r1 Z1 z1 h1 => ⟨_, rfl, by show 1 ≤ sizeLine; decide, fun t nt => ?_⟩⟩
      rw [eM1] at h1
      have st := same_new (o := .tup [x]) nt
      refine cat_newR (H0 := Hc) (st _ _ h1) upd_same (by simp) (z1.free nt) (z1.trans st) (by rw [List.length_map]; show _ + 1 ≤ _; omega) fun r2 Z2 z2 nr2 h2 => ?_
      have s2 := z1.trans (st.trans z2)
      refine ⟨_, rfl, _, rfl, _, _, rfl, rfl, _, rfl, i.rr, _, rfl, s2 _ _ S.hr, fun r3 Z3 z3 h3 => ?_⟩
      rw [eM2] at h3
      refine cat_newL (H0 := Hc) (z3 _ _ h2) h3 (by simp) nr2 (s2.trans z3) (by rw [List.length_append, List.length_map, List.length_map]; show _ + 1 + _ ≤ _; omega) fun r4 Z4 z4 nr4 h4 => ?_
      have s4 := s2.trans (z3.trans z4)
      have intz : ∀ M : List Int, (∀ z ∈ M, z ∈ intR (row' T i.at_)) → ∀ v ∈ M.map V.int, DKn K (OffM p d H l) 20 2 Hc v := fun M hM v hv => by
        obtain ⟨y, hy, rfl⟩ := List.mem_map.mp hv
        exact dk_int (row_ints R y (hM y hy)) (by decide)
      have dr : DKn K (OffM p d H l) 300 3 Z4 (.ref r4) := by
        refine (dk_tup (w := 20) (k := 2) (offM_ok S.D S.K0 hl) (fun v hv => ?_) nr4 s4 h4).le ?_ (by decide)
        · rcases List.mem_append.mp hv with y | y
          · rcases List.mem_append.mp y with z | z
            · exact intz M1 mM1 v z
            · rw [List.mem_singleton.mp z]
              exact dx
          · exact intz M2 mM2 v y
        · rw [List.length_append, List.length_append, List.length_map, List.length_map]
          show (_ + 1 + _) * (20 + 2) + 3 ≤ 300
          omega
      have hl4 := s4 _ _ hl
      have S4 := S.same s4
      refine ⟨l, vs, _, rfl, rfl, hl4, by rw [ln, sizeLine_eq]; rw [lx] at hj; omega, ?_⟩
      have nql : tq ≠ l := fun z => by
        rw [z, hl] at hq
        cases hq
      refine ⟨⟨i, l, vs ++ [.ref r4], _, _, rfl, S4.lst n1 n2 h0 hl4, n1, n2, h0, upd_same, by rw [List.length_append, ln]; rfl, fun v hv => ?_⟩, ?_, fun v hv => ?_⟩
      · rcases List.mem_append.mp hv with z | z
        · exact ((al v z).keep (.same s4)).keep ku_lstM
        · rw [List.mem_singleton.mp z]
          exact dr.keep ku_lstM
      · rw [upd_ne nql]
        exact s4 _ _ hq
      · show DKn K (UB p d H (_ :: _ :: _ :: _ :: _ :: _ :: _ :: _ :: some (.ref l) :: _)) 20 2 _ v
        rw [ub_eq]
        exact ((it v hv).keep (.same s4)).keep ku_lstM
    · rintro σ Hb ⟨⟨i, l, vs, s9, s10, rfl, S, n1, n2, h0, hl, ln, al⟩, hq, it⟩
      have lus := S.TA.rows.len
      rw [List.length_map, TP.len] at lus
      have lu1 := cutV_length (us.map V.ref) none (some ((i.at_ : Nat) : Int))
      have lu2 := cutV_length (us.map V.ref) (some (((i.at_ : Nat) : Int) + 1)) none
      rw [List.length_map, lus] at lu1 lu2
      rw [lx] at ln
      refine ⟨_, rfl, _, rfl, _, rfl, ta, _, rfl, S.TA.tup, fun r1 Z1 z1 h1 => ?_⟩
      have hl1 := z1 _ _ hl
      have S1 := S.same z1
      refine ⟨_, rfl, _, rfl, p, d, l, vs, rfl, S1.D, hl1, n1, n2, fun z => (by rw [z] at ln; cases ln), by rw [ln]; decide, fun x H2 mx D2 k2 => ⟨by show 1 ≤ sizeLine; decide, fun t nt => ?_⟩⟩
      have t2 := TupS.kpl S1.D k2
      have dx := ((al x mx).keep (.same z1)).offL.keep (.kL k2)
      have S2 := S1.kpl D2 k2
      have st := same_new (o := .tup [x]) nt
      refine cat_newR (H0 := H2) (st _ _ (t2 _ _ h1)) upd_same (by simp) nt st (by show _ + 1 ≤ _; omega) fun r2 Z2 z2 nr2 h2 => ?_
      have s2 := st.trans z2
      refine ⟨_, rfl, _, rfl, _, _, rfl, rfl, _, rfl, ta, _, rfl, s2 _ _ S2.TA.tup, fun r3 Z3 z3 h3 => ?_⟩
      refine cat_newL (H0 := H2) (z3 _ _ h2) h3 (by simp) nr2 (s2.trans z3) (by rw [List.length_append]; show _ + 1 + _ ≤ _; omega) fun r4 Z4 z4 nr4 h4 => ?_
      have s4 := s2.trans (z3.trans z4)
      refine k _ _ (S2.D.same s4) (S2.K0.trans (.of s4)) ((dk_tup (w := 300) (k := 3) (offL_ok S2.D S2.K0) (fun v hv => ?_) nr4 s4 h4).le ?_ (by decide))
      · rcases List.mem_append.mp hv with y | y
        · rcases List.mem_append.mp y with z | z
          · exact rows_dk (offL_ok S2.D S2.K0) S2.TA TP (by decide) v (cutV_mem z)
          · rw [List.mem_singleton.mp z]
            exact dx
        · exact rows_dk (offL_ok S2.D S2.K0) S2.TA TP (by decide) v (cutV_mem y)
      · rw [List.length_append, List.length_append]
        show (_ + 1 + _) * (300 + 2) + 3 ≤ 4000
        omega
end
end Sw
namespace Sw
open PySem PySem.Spec PyProof.Rows L2
/-! ### rows_from -/
def kvR (us : List (Nat × Addr)) : List (Key × V) := us.map fun p => ((Sum.inl (p.1 : Int) : Key), V.ref p.2)
def StR (H : Hp) (us : List (Nat × Addr)) (st : List (Nat × List Nat)) : Prop := Paired (fun (u : Nat × Addr) (e : Nat × List Nat) => u.1 = e.1 ∧ H u.2 = some (.tup ((intR e.2).map V.int))) us st
theorem StR.keep {H H' : Hp} {us : List (Nat × Addr)} {st : List (Nat × List Nat)} (h : StR H us st) (s : TupS H H') : StR H' us st := by
  unfold StR at *
  induction h with
  | nil => exact .nil
  | cons q t ih => exact .cons ⟨q.1, s _ _ q.2⟩ ih
theorem StR.len {H : Hp} {us : List (Nat × Addr)} {st : List (Nat × List Nat)} (h : StR H us st) : us.length = st.length := by
  unfold StR at h
  induction h with
  | nil => rfl
  | cons q t ih => rw [List.length_cons, List.length_cons, ih]
theorem StR.snoc {H : Hp} {us : List (Nat × Addr)} {st : List (Nat × List Nat)} {v : Nat} {t : Addr} {r : List Nat} (h : StR H us st) (e : H t = some (.tup ((intR r).map V.int))) : StR H (us ++ [(v, t)]) (st ++ [(v, r)]) := by
  unfold StR at *
  induction h with
  | nil => exact .cons ⟨rfl, e⟩ .nil
  | cons q r ih => exact .cons q ih
theorem kvR_app (us : List (Nat × Addr)) (v : Nat) (t : Addr) : kvR us ++ [((.inl (v : Int) : Key), V.ref t)] = kvR (us ++ [(v, t)]) := by
  unfold kvR
  rw [List.map_append]
  rfl
theorem StR.val {H : Hp} {us : List (Nat × Addr)} {st : List (Nat × List Nat)} (h : StR H us st) (v : Nat) : (hasK st v = false → valV (kvR us) (.inl (v : Int) : Key) = none) ∧ (hasK st v = true → ∃ t, valV (kvR us) (.inl (v : Int) : Key) = some (.ref t) ∧ H t = some (.tup ((intR (getK st v)).map V.int))) := by
  unfold StR at h
  induction h with
  | nil => exact ⟨fun _ => rfl, fun z => by cases z⟩
  | @cons u e us st q t ih =>
    obtain ⟨q1, q2⟩ := q
    unfold valV kvR at *
    rw [List.map_cons, List.find?_cons]
    unfold hasK getK at *
    rw [List.any_cons, List.find?_cons]
    by_cases z : e.1 = v
    · rw [beq_iff_eq.mpr z]
      refine ⟨fun y => (by rw [Bool.true_or] at y; exact (nomatch y)), fun _ => ⟨u.2, ?_, q2⟩⟩
      rw [decide_eq_true (show (Sum.inl (u.1 : Int) : Key) = .inl (v : Int) by rw [q1, z])]
      rfl
    · rw [beq_false_of_ne z, Bool.false_or]
      rw [decide_eq_false (show ¬ (Sum.inl (u.1 : Int) : Key) = .inl (v : Int) from fun y => z (by have := Sum.inl.inj y; omega))]
      exact ih
theorem step_len (st : List (Nat × List Nat)) (e : Nat × Nat) : (stepP st e).length ≤ st.length + 1 := by
  unfold stepP
  cases hasK st e.1 && !hasK st e.2 with
  | true => exact Nat.le_of_eq (by show (_ ++ [_]).length = _; rw [List.length_append]; rfl)
  | false => exact Nat.le_succ _
def spRowsFrom : Sp := fun vs H Q _ => ∃ (a b ra : Addr) (ts : List V) (ars : List (Int × Int)) (r : List Nat), vs = [.ref a, .ref ra] ∧ NetAt 5 H a b ts ∧ ArsAt H ts ars ∧ H ra = some (.tup ((intR r).map V.int)) ∧ RowP r ∧ fullN (ars.map toN) = true ∧
  ∀ (t : Addr) (us : List Addr) (H' : Hp), Same H H' → TabAt H' t us (tabN (ars.map toN) r) → Q (.ref t) H'
end Sw
namespace Sw
open PySem PySem.Spec PyProof.Rows L2
/-! ### _law_orders of five -/
abbrev sOrders : Stmt := top 40
abbrev nOrders : List Str := ["many", "found", "turn", "elder", "row", "own"]
theorem scOrders : FnScope nOrders ["many"] (defScope sOrders) := ⟨rfl, rfl, rfl, by decide +kernel, rfl, by decide +kernel, by decide +kernel⟩
def rgO (m : Nat) : List Int := (List.range m).map fun k : Nat => (k : Int)
/-- a row, one longer -/
def oNext (m : Nat) (row : List Int) : List (List Int) := ((rgO m).filter fun o => decide (o ∉ row)).map fun o => row ++ [o]
theorem ords_succ (m k : Nat) : ords m (k + 1) = (ords m k).flatMap (oNext m) := rfl
theorem ords_few : ∀ m, m ≤ 5 → ∀ k, k ≤ m → (ords m k).length ≤ 120 := by decide +kernel
theorem ords_len (m : Nat) : ∀ (k : Nat) (r : List Int), r ∈ ords m k → r.length = k
  | 0, r, h => by rw [List.mem_singleton.mp h]; rfl
  | k + 1, r, h => by
    rw [ords_succ] at h
    obtain ⟨own, h1, h2⟩ := List.mem_flatMap.mp h
    obtain ⟨t, _, rfl⟩ := List.mem_map.mp h2
    rw [List.length_append, ords_len m k own h1]
    rfl
theorem flat_takeO {α β : Type} (f : α → List β) (l : List α) (i : Nat) : ((l.take i).flatMap f).length ≤ (l.flatMap f).length := by
  have : l.flatMap f = (l.take i).flatMap f ++ (l.drop i).flatMap f := by rw [← List.flatMap_append, List.take_append_drop]
  rw [this, List.length_append]
  omega
theorem prd_cat {α β : Type} {F : α → β → Prop} : ∀ {l l' : List α} {m m' : List β}, Paired F l m → Paired F l' m' → Paired F (l ++ l') (m ++ m')
  | _, _, _, _, .nil, h => h
  | _, _, _, _, .cons x t, h => .cons x (prd_cat t h)
theorem tups_app {H : Hp} {ts us : List Addr} {Ls Ms : List (List Int)} (a : TupsAt H ts Ls) (b : TupsAt H us Ms) : TupsAt H (ts ++ us) (Ls ++ Ms) := by
  unfold TupsAt at *
  exact prd_cat a b
theorem tups_nil {H : Hp} : TupsAt H [] [] := by
  unfold TupsAt
  exact .nil
section
variable {P : Program} {w : World} {K : PySem.W.Frag} {mg : Str → Option Value} {base : Heap}
def spOrders : Sp := fun vs H Q _ => ∃ m : Nat, m ≤ 5 ∧ vs = [.int (m : Nat)] ∧ ∀ (l : Addr) (ts : List Addr) (H' : Hp), Same H H' → H' l = some (.lst (ts.map V.ref)) → TupsAt H' ts (ords m m) → Q (.ref l) H'
theorem ok_orders {f : Addr} {fd : FuncData} (F : Fun K "_law_orders" "_law_orders" sOrders f fd) (B : NoNames mg) : FnOk P w K mg base CX0 1 f fd ["many"] spOrders := by
  refine F.ok scOrders (fun vs H Q E h => ?_) (fun cdv A outer s H vs Q E hr h => ?_)
  · obtain ⟨m, _, rfl, _⟩ := h
    rfl
  · obtain ⟨m0, m5, rfl, k⟩ := h
    refine ⟨_, pss_cons (ps_set (i := 1) scOrders.nd rfl (.inl rfl) (pe_lst (pa_cons (pe_tup pa_nil) pa_nil))) <|
      pss_cons (ps_for PassesOwn.never rfl (pi_range1 (by rfl) B.range (pa_cons (pv 0) pa_nil)) (pg_name (i := 2) scOrders.nd rfl (.inl rfl))
        (pss_cons (ps_par (i := 3) (j := 1) rfl scOrders.nd rfl rfl (by decide) rfl rfl (pa_cons (pv 1) (pa_cons (pe_lst pa_nil) pa_nil)) (by rfl)) <|
        pss_one (ps_for PassesOwn.never rfl (pi_list (pv 3)) (pg_name (i := 4) scOrders.nd rfl (.inr rfl))
          (pss_one (ps_set (i := 1) scOrders.nd rfl (.inl rfl) (pe_op op_cat (pv 1) (pe_lc (own := [("own", 5)]) (g := gName 5) (by rfl) scOrders.nd (pi_range1 (by rfl) B.range (pa_cons (pv 0) pa_nil)) (blkOk_by (own := [("own", 5)]) (N := nOrders) (sc := defScope sOrders) (by decide +kernel))
            (fun _ _ _ _ _ => pg_name (i := 5) scOrders.nd rfl (Or.inl rfl)) (fun _ _ _ _ _ => pts_one (pt_cmpR (r := rIn K true) op_notIn_seq (pv 5) (pv 4) (by with_unfolding_all rfl))) (fun _ _ _ _ _ => pe_op (r := rCatA K) op_catA (pv 4) (pe_tup (pa_cons (pv 5) pa_nil)))))))))) <|
      pss_one (ps_ret (pv 1)), ?_⟩
    refine ⟨Nat.zero_le _, fun T0 nT0 => ⟨by show 1 ≤ sizeLine; decide, fun l0 nl0 => ?_⟩⟩
    have s0 : Same H (upd H T0 (.tup [])) := same_new nT0
    have s1 := s0.trans (same_new (o := .lst [.ref T0]) nl0)
    refine ⟨_, rfl, (m0 : Nat), rfl, by omega, by omega, for_range (lo := 0) (n := ((m0 : Nat) : Int).toNat) (fun k σ H' => ∃ (l : Addr) (ts : List Addr) (s2 s3 s4 s5 : Option V), σ = [some (.int (m0 : Nat)), some (.ref l), s2, s3, s4, s5] ∧ Same H H' ∧ H' l = some (.lst (ts.map V.ref)) ∧ TupsAt H' ts (ords m0 k))
      ⟨l0, [T0], none, none, none, none, rfl, s1, upd_same, (tups_nil (H := _)).snoc (t := T0) (L := []) (same_new nl0 _ _ upd_same)⟩ ?_ ?_⟩
    · rintro j σ H1 hj ⟨l, ts, s2, s3, s4, s5, rfl, sH, hl, rw_⟩
      have hj : j < m0 := by omega
      refine ⟨_, rfl, Nat.zero_le _, fun f0 nf0 => ⟨_, _, rfl, ?_⟩⟩
      have sf : Same H1 (upd H1 f0 (.lst [])) := same_new nf0
      refine ⟨_, rfl, l, rfl, ⟨_, SqL.of (sf _ _ hl)⟩, for_it (walk_list (xs := ts.map V.ref)) (fun i σ H' => ∃ (fr : Addr) (us : List Addr) (s4 s5 : Option V), σ = [some (.int (m0 : Nat)), some (.ref fr), some (.int (0 + (j : Int))), some (.ref l), s4, s5] ∧ Same H1 H' ∧ H' fr = some (.lst (us.map V.ref)) ∧ TupsAt H' us (((ords m0 j).take i).flatMap (oNext m0)))
        ⟨f0, [], s4, s5, rfl, sf, upd_same, tups_nil⟩ (fun i σ H' _ h => by obtain ⟨_, _, _, _, _, h, _⟩ := h; exact SqL.of (h _ _ hl)) ?_ ?_⟩
      · rintro i x σ H2 H3 hi ⟨fr, us, s4, s5, rfl, s12, hf, ru⟩ ⟨rfl, ex⟩
        obtain ⟨own, eo, rfl⟩ : ∃ t, ts[i]? = some t ∧ x = .ref t := by
          have ex : (ts.map V.ref)[i]? = some x := ex
          rw [List.getElem?_map] at ex
          obtain ⟨t, e1, e2⟩ := Option.map_eq_some_iff.mp ex
          exact ⟨t, e1, e2.symm⟩
        obtain ⟨os, er, ho⟩ := (rw_.keep (.of s12)).at eo
        have ol : os.length = j := ords_len m0 j os (List.mem_of_getElem? er)
        refine ⟨_, rfl, _, rfl, (m0 : Nat), rfl, by omega, by omega, fun D nD => ?_⟩
        have few : (((ords m0 j).take i).flatMap (oNext m0)).length ≤ 120 := by
          refine Nat.le_trans (flat_takeO _ _ _) ?_
          exact ords_few m0 m5 (j + 1) (by omega)
        have ul := ru.len
        have sD : Same H3 (upd H3 D (.lst [])) := same_new nD
        refine lc_it walk_range (fun m H' => ∃ ms : List Addr, H' D = some (.lst (ms.map V.ref)) ∧ Same H3 H' ∧ TupsAt H' ms ((((rgO m0).take m).filter fun o => decide (o ∉ os)).map fun o => os ++ [o])) ⟨[], upd_same, sD, tups_nil⟩ (fun _ _ _ _ => trivial) ?_ ?_
        · rintro m x Hz Ha hm ⟨ms, h1, h2, h3⟩ ⟨rfl, rfl⟩
          have hm : m < m0 := by omega
          have f0 : (0 : Int) + (m : Int) = (m : Int) := Int.zero_add _
          have eg : (rgO m0)[m]? = some (m : Int) := by
            unfold rgO
            rw [List.getElem?_map, List.getElem?_range hm]
            rfl
          have et : (rgO m0).take (m + 1) = (rgO m0).take m ++ [(m : Int)] := by
            rw [List.take_add_one, eg]
            rfl
          have ef : (((rgO m0).take (m + 1)).filter fun o => decide (o ∉ os)) = (((rgO m0).take m).filter fun o => decide (o ∉ os)) ++ (if (m : Int) ∉ os then [(m : Int)] else []) := by
            rw [et, List.filter_append]
            congr 1
            by_cases c2 : (m : Int) ∉ os
            · rw [if_pos c2]
              exact List.filter_cons_of_pos (p := fun o : Int => decide (o ∉ os)) (decide_eq_true c2)
            · rw [if_neg c2]
              exact List.filter_cons_of_neg (p := fun o : Int => decide (o ∉ os)) fun z => c2 (of_decide_eq_true z)
          have ml := h3.len
          have mle : ms.length ≤ 13 := by
            rw [ml, List.length_map]
            refine Nat.le_trans (List.length_filter_le _ _) ?_
            rw [List.length_take]
            omega
          dsimp only
          rw [f0]
          refine ⟨rfl, _, rfl, _, rfl, own, _, rfl, .inr (SqT.of (h2 _ _ ho)), rfl, flat_ints os, _, rfl, ?_⟩
          refine ite2 (fun c => ?_) (fun c => ?_)
          · have c : (m : Int) ∉ os := fun z => by
              rw [inV_oi.mpr z] at c
              cases c
            have fin : ∀ (T2 : Addr) (H4 : Hp), Same Ha H4 → H4 T2 = some (.tup ((os ++ [(m : Int)]).map V.int)) → ∃ acc, H4 D = some (.lst acc) ∧ acc.length < sizeLine ∧ ∃ ms : List Addr, (upd H4 D (.lst (acc ++ [V.ref T2]))) D = some (.lst (ms.map V.ref)) ∧ Same H3 (upd H4 D (.lst (acc ++ [V.ref T2]))) ∧
                TupsAt (upd H4 D (.lst (acc ++ [V.ref T2]))) ms ((((rgO m0).take (m + 1)).filter fun o => decide (o ∉ os)).map fun o => os ++ [o]) := fun T2 H4 s4 hT => by
              have hD := s4 _ _ h1
              have tu : TupS H4 (upd H4 D (.lst (ms.map V.ref ++ [V.ref T2]))) := TupS.upd fun ys z => by
                rw [hD] at z
                cases z
              refine ⟨_, hD, by rw [List.length_map, sizeLine_eq]; omega, ms ++ [T2], by rw [upd_same, List.map_append]; rfl, fun b o e => ?_, ?_⟩
              · rw [upd_ne (ne_of_none e nD)]
                exact s4 _ _ (h2 _ _ e)
              · rw [ef, if_pos c, List.map_append]
                exact ((h3.keep (.of s4)).keep tu).snoc (tu _ _ hT)
            refine ⟨_, rfl, _, rfl, by show 1 ≤ sizeLine; decide, fun T nT => ?_⟩
            have sT : Same Ha (upd Ha T (.tup [.int (m : Int)])) := same_new nT
            refine ⟨own, T, os.map V.int, [.int (m : Int)], rfl, rfl, SqT.of (sT _ _ (h2 _ _ ho)), SqT.of upd_same, by rw [List.length_map, sizeLine_eq]; simp only [List.length_cons, List.length_nil]; omega, fun z => ?_, fun _ z => (nomatch z), fun z _ T2 nT2 => ?_⟩
            · have eo : os = [] := by simpa using z
              subst eo
              exact fin T _ sT upd_same
            · exact fin T2 _ (sT.trans (same_new nT2)) (by rw [upd_same, List.map_append]; rfl)
          · have c : ¬ (m : Int) ∉ os := fun z => c (by
              have : inV (.int (m : Int)) (os.map V.int) = false := by
                cases q : inV (.int (m : Int)) (os.map V.int) with
                | false => rfl
                | true => exact (z (inV_oi.mp q)).elim
              rw [this]
              rfl)
            rw [ef, if_neg c, List.append_nil]
            exact ⟨ms, h1, h2, h3⟩
        · rintro H4 ⟨ms, h1, h2, h3⟩
          rw [List.take_of_length_le (by unfold rgO; rw [List.length_map, List.length_range]; omega)] at h3
          have h3 : TupsAt H4 ms (oNext m0 os) := h3
          have ml := h3.len
          have ml2 : ms.length ≤ 13 := by
            rw [ml]
            unfold oNext
            rw [List.length_map]
            refine Nat.le_trans (List.length_filter_le _ _) ?_
            unfold rgO
            rw [List.length_map, List.length_range]
            omega
          refine ⟨fr, D, _, _, rfl, rfl, h2 _ _ hf, h1, by rw [List.length_map, List.length_map, sizeLine_eq]; omega, fun p np => ⟨p, us ++ ms, some (.ref own), _, rfl, (s12.trans h2).trans (same_new np), by rw [upd_same, List.map_append], ?_⟩⟩
          have sp : Same H4 (upd H4 p (.lst (us.map V.ref ++ ms.map V.ref))) := same_new np
          have e2 : (ords m0 j).take (i + 1) = (ords m0 j).take i ++ [os] := by
            rw [List.take_add_one, er]
            rfl
          have e3 : [os].flatMap (oNext m0) = oNext m0 os := by
            rw [List.flatMap_cons, List.flatMap_nil, List.append_nil]
          rw [e2, List.flatMap_append, e3]
          exact tups_app (ru.keep (.of (h2.trans sp))) (h3.keep (.of sp))
      · rintro σ H2 ⟨fr, us, s4, s5, rfl, s12, hf, ru⟩
        rw [List.length_map, rw_.len, List.take_length] at ru
        exact ⟨fr, us, _, _, _, _, rfl, sH.trans s12, hf, ru⟩
    · rintro σ H1 ⟨l, ts, s2, s3, s4, s5, rfl, sH, hl, rw_⟩
      rw [Int.toNat_natCast] at rw_
      exact ⟨_, rfl, k l ts H1 sH hl rw_⟩
end
end Sw
namespace Sw
open PySem PySem.Spec PyProof.Rows L2
/-! ### _law_led, _law_names -/
def freshK (r : List Nat) (v k : Nat) : List Nat := (List.range k).foldl (fun g p => g.set (mvN v p) (ap r p)) [0, 0, 0, 0, 0, 0]
theorem freshK_succ (r : List Nat) (v k : Nat) : freshK r v (k + 1) = (freshK r v k).set (mvN v k) (ap r k) := by
  unfold freshK
  rw [List.range_succ, List.foldl_append]
  rfl
theorem freshK_len (r : List Nat) (v : Nat) : ∀ k, (freshK r v k).length = 6
  | 0 => rfl
  | k + 1 => by rw [freshK_succ, List.length_set, freshK_len r v k]
theorem fresh_is {r : List Nat} {v : Nat} (l : r.length = 6) (hv : v < 5) : freshK r v 6 = takN r v := by
  match r, l with
  | [a, b, c, d, e, f], _ =>
    match v, hv with
    | 0, _ => rfl
    | 1, _ => rfl
    | 2, _ => rfl
    | 3, _ => rfl
    | 4, _ => rfl
theorem lrows_perm : ∀ r ∈ lrowsN, RowP r := by
  have : lrowsN.all (fun r => r.isPerm (List.range 6)) = true := by decide +kernel
  exact fun r hr => List.isPerm_iff.mp (List.all_eq_true.mp this r hr)
theorem lrows_at : ∀ {j : Nat} {o : List Int}, (ords 3 3)[j]? = some o → ∃ r, lrowsN[j]? = some r ∧ [V.int 0, .int 1, .int 5] ++ (o.map fun i => 2 + i).map V.int = (intR r).map V.int ∧ o.length = 3 := by
  have h : (ords 3 3).length = 6 := by decide +kernel
  intro j o e
  have hj := (List.getElem?_eq_some_iff.mp e).1
  rw [h] at hj
  match j, hj with
  | 0, _ => cases e; exact ⟨_, rfl, rfl, rfl⟩
  | 1, _ => cases e; exact ⟨_, rfl, rfl, rfl⟩
  | 2, _ => cases e; exact ⟨_, rfl, rfl, rfl⟩
  | 3, _ => cases e; exact ⟨_, rfl, rfl, rfl⟩
  | 4, _ => cases e; exact ⟨_, rfl, rfl, rfl⟩
  | 5, _ => cases e; exact ⟨_, rfl, rfl, rfl⟩
section
variable {P : Program} {w : World} {K : PySem.W.Frag} {mg : Str → Option Value} {base : Heap}
abbrev sLLed : Stmt := top 46
abbrev sLNames : Stmt := top 47
abbrev nLLed : List Str := ["net", "row", "found", "turn", "v", "w", "fresh", "place"]
abbrev nLNames : List Str := ["net", "own", "rows", "item"]
theorem scLLed : FnScope nLLed ["net", "row"] (defScope sLLed) := ⟨rfl, rfl, rfl, by decide +kernel, rfl, by decide +kernel, by decide +kernel⟩
theorem scLNames : FnScope nLNames ["net"] (defScope sLNames) := ⟨rfl, rfl, rfl, by decide +kernel, rfl, by decide +kernel, by decide +kernel⟩
theorem ok_lLed {f : Addr} {fd : FuncData} (F : Fun K "_law_led" "_law_led" sLLed f fd) (B : NoNames mg) (OM : Own P w K mg base 1 "_law_moved" ["place", "v"] spMoved) : FnOk P w K mg base CX0 2 f fd ["net", "row"] spRowsFrom := by
  obtain ⟨fM, fdM, GM, mM, kM, bM⟩ := OM.ex
  refine F.ok scLLed (fun vs H Q E h => ?_) (fun cdv A outer s H vs Q E hr h => ?_)
  · obtain ⟨a, b, ra, ts, ars, r, rfl, _⟩ := h
    rfl
  · obtain ⟨a, b, ra, ts, ars, r, rfl, N, AR, hra, R, FN, k⟩ := h
    have hu := hu_of hr
    obtain ⟨AP, en⟩ := ars_nat N.arr AR rfl
    have ln := AR.len
    have lN := N.len
    obtain ⟨TP, l5, all⟩ := tab_p AP FN R
    refine ⟨_, pss_cons (ps_set (i := 2) scLLed.nd rfl (.inr rfl) (pe_disp (pps_cons pe_int (pv 1) pps_nil) (by rfl) (by rfl) (by simp) (by decide))) <|
      pss_cons (ps_for PassesOwn.never rfl (pi_range1 (by rfl) B.range (pa_cons pe_int pa_nil)) (pg_name (i := 3) scLLed.nd rfl (.inl rfl))
        (pss_one (ps_for PassesOwn.never rfl (pi_tup (pe_ix ix_tup (pv 0) pe_int (fun _ _ => rfl))) (pg_tup rfl (pgs_cons (pg_name (i := 4) scLLed.nd rfl (.inl rfl)) (pgs_cons (pg_name (i := 5) scLLed.nd rfl (.inl rfl)) pgs_nil)))
          (pss_one (ps_if (PW.pt (pw_and (pt_cmp (pc_din hu (pv 4) (pv 2))) (pw_and1 (pt_cmp (pc_dnotin hu (pv 5) (pv 2))))))
            (pss_cons (ps_set (i := 6) scLLed.nd rfl (.inl rfl) (pe_op op_rep (pe_lst (pa_cons pe_int pa_nil)) pe_int)) <|
             pss_cons (ps_for PassesOwn.never rfl (pi_range1 (by rfl) B.range (pa_cons pe_int pa_nil)) (pg_name (i := 7) scLLed.nd rfl (.inl rfl))
               (pss_one (ps_asg (pe_ix ix_tup (pe_dget hu (pv 2) (pv 4) (fun _ _ => rfl)) (pv 7) (fun _ _ => rfl)) (pg_sub (pv 6) (pe_call GM hr rfl mM kM bM .nil pass0 (pa_cons (pv 7) (pa_cons (pv 4) pa_nil))) set_list)))) <|
             pss_one (ps_dput hu (pv 2) (pv 5) (pe_callTy call_tuple_of (by rfl) B.tuple (by decide +kernel) (pa_cons (pv 6) pa_nil)) rfl)) pss_nil))))) <|
      pss_one (ps_ret (pe_callTy call_tuple_of (by rfl) B.tuple (by decide +kernel) (pa_cons
        (pe_lc (own := [("v", 4)]) (g := gName 4) (tt := tYes) (te := tDGet (tVar 2) (tVar 4)) rfl scLLed.nd (pi_range1 (by rfl) B.range (pa_cons pe_int pa_nil)) (blkOk_by (own := [("v", 4)]) (N := nLLed) (sc := defScope sLLed) (by decide +kernel))
          (fun _ _ _ _ _ => pg_name (i := 4) scLLed.nd rfl (Or.inl rfl)) (fun _ _ _ _ _ => pts_nil) (fun _ _ _ _ _ => pe_dget hu (pv 2) (pv 4) (fun _ _ => rfl))) pa_nil))), ?_⟩
    refine fun kd nkd => ⟨_, rfl, ⟨by rw [upd_same], [(.inl 0, .ref ra)], rfl, by show 1 ≤ 15; decide, ?_⟩⟩
    have hk0 : (upd (upd H kd (.dK [])) kd (.dK (mergeK [] [(.inl 0, .ref ra)]))) kd = some (.dK (kvR [(0, ra)])) := by rw [upd_same]; rfl
    have sm0 : Same H (upd (upd H kd (.dK [])) kd (.dK (mergeK [] [(.inl 0, .ref ra)]))) := fun b o e => by
      rw [upd_ne (ne_of_none e nkd), upd_ne (ne_of_none e nkd)]
      exact e
    generalize (upd (upd H kd (.dK [])) kd (.dK (mergeK [] [(.inl 0, .ref ra)]))) = H1 at hk0 sm0 ⊢
    refine ⟨5, rfl, by decide, by decide, for_it walk_range (fun i σ Z => ∃ (us : List (Nat × Addr)) (s3 s4 s5 s6 s7 : Option V), σ = [some (.ref a), some (.ref ra), some (.ref kd), s3, s4, s5, s6, s7] ∧ Same H Z ∧ Z kd = some (.dK (kvR us)) ∧ StR Z us (passK (ars.map toN) i [(0, r)]) ∧ us.length ≤ 1 + 200 * i)
      ⟨[(0, ra)], none, none, none, none, none, rfl, sm0, hk0, .cons ⟨rfl, sm0 _ _ hra⟩ .nil, by show 1 ≤ 1; decide⟩ (fun _ _ _ _ _ => trivial) ?_ ?_⟩
    · rintro i x σ Hb0 H2 hi ⟨us, s3, s4, s5, s6, s7, rfl, sm2, hk2, S2, ul⟩ ⟨rfl, rfl⟩
      have hi : i < 5 := hi
      refine ⟨_, rfl, a, _, 1, .ref b, rfl, rfl, SqT.of (sm2 _ _ N.a), at_of (j := 1) rfl rfl, b, rfl, ⟨_, SqT.of (sm2 _ _ N.b)⟩, for_it (walk_tup (xs := ts)) (fun j σ Z => ∃ (us : List (Nat × Addr)) (s3 s4 s5 s6 s7 : Option V), σ = [some (.ref a), some (.ref ra), some (.ref kd), s3, s4, s5, s6, s7] ∧ Same H Z ∧ Z kd = some (.dK (kvR us)) ∧ StR Z us (passP ((ars.map toN).take j) (passK (ars.map toN) i [(0, r)])) ∧ RowsP (passP ((ars.map toN).take j) (passK (ars.map toN) i [(0, r)])) ∧ us.length ≤ 1 + 200 * i + j)
        ⟨us, _, s4, s5, s6, s7, rfl, sm2, hk2, S2, passK_rows AP i (fun e he => by rw [List.mem_singleton.mp he]; exact R), ul⟩ (fun j σ Z _ h => by obtain ⟨_, _, _, _, _, _, _, e, _⟩ := h; exact SqT.of (e _ _ N.b)) ?_ ?_⟩
      · rintro j x σ Hb H3 hj ⟨us, s3, s4, s5, s6, s7, rfl, sm3, hk3, S3, R3, ul3⟩ ⟨rfl, ex⟩
        obtain ⟨e, te, he, rfl, hte⟩ := AR.at ex
        have me := List.mem_of_getElem? he
        obtain ⟨e1, e2⟩ := en e me
        obtain ⟨l1, l2⟩ := AP _ (List.mem_map.mpr ⟨e, me, rfl⟩)
        have hte := sm3 _ _ hte
        rw [e1, e2] at hte
        have lu3 := S3.len
        have et : passP ((ars.map toN).take (j + 1)) (passK (ars.map toN) i [(0, r)]) = stepP (passP ((ars.map toN).take j) (passK (ars.map toN) i [(0, r)])) (toN e) := by
          unfold passP
          rw [List.take_add_one, List.getElem?_map, he, List.foldl_append]
          rfl
        rw [et]
        have Rn := step_rows R3 (e := toN e) l1
        have ln3 := step_len (passP ((ars.map toN).take j) (passK (ars.map toN) i [(0, r)])) (toN e)
        generalize passP ((ars.map toN).take j) (passK (ars.map toN) i [(0, r)]) = st at S3 R3 lu3 Rn ln3 ⊢
        refine ⟨te, _, rfl, SqT.of hte, rfl, _, _, rfl, _, _, rfl, rfl, ?_⟩
        obtain ⟨v0, v1⟩ := S3.val (toN e).1
        obtain ⟨w0, w1⟩ := S3.val (toN e).2
        refine ⟨_, rfl, _, rfl, kd, _, rfl, DGet.k (k := .inl ((toN e).1 : Int)) hk3, ?_⟩
        have skip : (hasK st (toN e).1 && !hasK st (toN e).2) = false → stepP st (toN e) = st := fun z => by
          unfold stepP
          rw [z]
          rfl
        cases c1 : hasK st (toN e).1 with
        | false =>
          rw [v0 c1]
          refine ⟨_, rfl, iteF (iteF ⟨us, _, _, _, _, _, rfl, sm3, hk3, ?_, ?_, by omega⟩)⟩
          · rw [skip (by rw [c1]; rfl)]
            exact S3
          · rw [skip (by rw [c1]; rfl)]
            exact R3
        | true =>
          obtain ⟨tv, ev, hv⟩ := v1 c1
          rw [ev]
          refine ⟨_, rfl, iteT ⟨_, rfl, _, rfl, kd, _, rfl, DGet.k (k := .inl ((toN e).2 : Int)) hk3, ?_⟩⟩
          cases c2 : hasK st (toN e).2 with
          | true =>
            obtain ⟨tw, ew, hw⟩ := w1 c2
            rw [ew]
            refine ⟨_, rfl, iteF ⟨us, _, _, _, _, _, rfl, sm3, hk3, ?_, ?_, by omega⟩⟩
            · rw [skip (by rw [c1, c2]; rfl)]
              exact S3
            · rw [skip (by rw [c1, c2]; rfl)]
              exact R3
          | false =>
            have emp := w0 c2
            rw [emp]
            refine ⟨_, rfl, iteT ?_⟩
            have lr := (getK_row R3 c1).len
            refine ⟨by show 1 ≤ sizeLine; decide, fun l nl => ⟨l, 6, [.int 0], rfl, rfl, upd_same, by decide, by decide, by show 1 * 6 ≤ sizeLine; decide, fun gl ngl => ?_⟩⟩
            have sg := (same_new (o := .lst [.int 0]) nl).trans (same_new (o := .lst (List.replicate (6 : Int).toNat [V.int 0]).flatten) ngl)
            have hg0 := (upd_same (H := upd H3 l (.lst [.int 0])) (a := gl) (o := .lst (List.replicate (6 : Int).toNat [V.int 0]).flatten))
            have ngl0 : H3 gl = none := (same_new (o := .lst [.int 0]) nl).free ngl
            generalize (upd (upd H3 l (.lst [.int 0])) gl (.lst (List.replicate (6 : Int).toNat [V.int 0]).flatten)) = H4 at sg hg0 ⊢
            refine ⟨6, rfl, by decide, by decide, for_it walk_range (fun i2 σ Z => ∃ s7 : Option V, σ = [some (.ref a), some (.ref ra), some (.ref kd), s3, some (.int ((toN e).1 : Nat)), some (.int ((toN e).2 : Nat)), some (.ref gl), s7] ∧ Same H3 Z ∧ Z gl = some (.lst ((intR (freshK (getK st (toN e).1) (toN e).1 i2)).map V.int)))
              ⟨_, rfl, sg, hg0⟩ (fun _ _ _ _ _ => trivial) ?_ ?_⟩
            · rintro i2 x σ He Hf hi2 ⟨s7, rfl, sh, hgl⟩ ⟨rfl, rfl⟩
              have hi2 : i2 < 6 := hi2
              have f0 : (0 : Int) + (i2 : Int) = (i2 : Int) := Int.zero_add _
              have lg := freshK_len (getK st (toN e).1) (toN e).1 i2
              have m6 := mv_lt l1 hi2
              dsimp only
              rw [f0]
              refine ⟨_, rfl, _, rfl, kd, .ref tv, rfl, by rw [← ev]; exact DGet.k (k := .inl ((toN e).1 : Int)) (sh _ _ hk3), _, rfl, tv, _, (i2 : Nat), _, rfl, rfl, SqT.of (sh _ _ hv), at_row (by omega), ?_⟩
              refine ⟨_, rfl, _, rfl, _, rfl, i2, (toN e).1, rfl, gl, _, (mvN (toN e).1 i2 : Nat), mvN (toN e).1 i2, rfl, rfl, hgl, ?_, ?_⟩
              · rw [List.length_map, intR_len, lg]
                unfold ixN
                rw [if_pos (by omega), if_pos (by omega), Int.toNat_natCast]
              · refine ⟨_, rfl, fun c u ec => ?_, ?_⟩
                · rw [upd_ne (ne_of_none ec ngl0)]
                  exact sh _ _ ec
                · rw [upd_same, freshK_succ]
                  unfold intR
                  rw [List.map_set, List.map_set]
            · rintro σ He ⟨s7, rfl, sh, hgl⟩
              have hgl : He gl = some (.lst ((intR (freshK (getK st (toN e).1) (toN e).1 6)).map V.int)) := hgl
              rw [fresh_is lr l1] at hgl
              refine ⟨_, rfl, gl, _, rfl, .inl ⟨SqL.of hgl, fun q nq => ?_⟩⟩
              have s4' := sh.trans (same_new (o := .tup ((intR (takN (getK st (toN e).1) (toN e).1)).map V.int)) nq)
              have hq := (upd_same (H := He) (a := q) (o := .tup ((intR (takN (getK st (toN e).1) (toN e).1)).map V.int)))
              generalize (upd He q (.tup ((intR (takN (getK st (toN e).1) (toN e).1)).map V.int))) = H5 at s4' hq ⊢
              have hk4 := s4' _ _ hk3
              refine ⟨_, rfl, _, rfl, kd, _, rfl, DPut.k (k := .inl ((toN e).2 : Int)) hk4 (by unfold kvR; rw [List.length_map, sizeLine_eq]; omega), ?_⟩
              rw [putK_new _ emp, kvR_app]
              have tu : TupS H5 (upd H5 kd (.dK (kvR (us ++ [((toN e).2, q)])))) := TupS.upd fun ys z => by
                rw [hk4] at z
                cases z
              refine ⟨us ++ [((toN e).2, q)], _, _, _, _, _, rfl, fun c u ec => ?_, upd_same, ?_, Rn, by rw [List.length_append]; show _ + 1 ≤ _; omega⟩
              · rw [upd_ne (ne_of_none ec nkd)]
                exact s4' _ _ (sm3 _ _ ec)
              · have es : stepP st (toN e) = st ++ [((toN e).2, takN (getK st (toN e).1) (toN e).1)] := by
                  unfold stepP
                  rw [c1, c2]
                  rfl
                rw [es]
                exact ((S3.keep (.of s4')).keep tu).snoc (tu _ _ hq)
      · rintro σ H3 ⟨us, s3, s4, s5, s6, s7, rfl, sm3, hk3, S3, R3, ul3⟩
        rw [List.take_of_length_le (by rw [List.length_map, ln]; exact Nat.le_refl _)] at S3
        exact ⟨us, _, _, _, _, _, rfl, sm3, hk3, S3, by omega⟩
    · rintro σ H2 ⟨us, s3, s4, s5, s6, s7, rfl, sm2, hk2, S2, ul⟩
      have S2 : StR H2 us (passK (ars.map toN) 5 [(0, r)]) := S2
      refine ⟨5, rfl, by decide, by decide, fun D nD => ?_⟩
      refine lc_it walk_range (fun j Z => ∃ vs : List Addr, Z D = some (.lst (vs.map V.ref)) ∧ Same H2 Z ∧ TupsAt Z vs (((tabN (ars.map toN) r).take j).map intR)) ⟨[], upd_same, same_new nD, by rw [List.take_zero]; exact .nil⟩ (fun _ _ _ _ => trivial) ?_ ?_
      · rintro j x Hb Ha hj ⟨vs, h1, h2, h3⟩ ⟨rfl, rfl⟩
        have hj : j < 5 := hj
        have f0 : (0 : Int) + (j : Int) = (j : Int) := Int.zero_add _
        obtain ⟨hs, er⟩ := all j hj
        obtain ⟨tj, ej, htj⟩ := (S2.keep (.of h2)).val j |>.2 hs
        have lv := h3.len
        rw [List.length_map, List.length_take] at lv
        refine ⟨rfl, ?_⟩
        dsimp only [tYes]
        rw [if_pos rfl, f0]
        refine ⟨_, rfl, _, rfl, kd, .ref tj, rfl, by rw [← ej]; exact DGet.k (k := .inl (j : Int)) (h2 _ _ hk2), ?_⟩
        have tu : TupS Ha (upd Ha D (.lst (vs.map V.ref ++ [.ref tj]))) := TupS.upd fun ys z => by
          rw [h1] at z
          cases z
        refine ⟨_, h1, by rw [List.length_map, sizeLine_eq]; omega, vs ++ [tj], by rw [upd_same, List.map_append]; rfl, fun c u ec => ?_, ?_⟩
        · rw [upd_ne (ne_of_none ec nD)]
          exact h2 _ _ ec
        · have eg : (tabN (ars.map toN) r)[j]? = some (row' (tabN (ars.map toN) r) j) := by
            unfold row'
            rw [List.getD_eq_getElem?_getD, List.getElem?_eq_getElem (by rw [TP.len]; exact hj)]
            rfl
          rw [List.take_add_one, eg, List.map_append]
          refine (h3.keep tu).snoc (tu _ _ ?_)
          rw [er]
          exact htj
      · rintro Ha ⟨vs, h1, h2, h3⟩
        have h3 : TupsAt Ha vs (((tabN (ars.map toN) r).take 5).map intR) := h3
        rw [List.take_of_length_le (by rw [TP.len]; exact Nat.le_refl _)] at h3
        refine ⟨D, _, rfl, .inl ⟨SqL.of h1, fun T nT => ?_⟩⟩
        have sT := same_new (o := .tup (vs.map V.ref)) nT
        exact k T vs _ (sm2.trans (h2.trans sT)) ⟨upd_same, h3.keep (.of sT)⟩
end
end Sw
namespace Sw
open PySem PySem.Spec PyProof.Rows L2
/-! ### _law_along -/
def natW : V → Nat
  | .int i => i.toNat
  | _ => 0
theorem perm_row {ms : List V} (pm : ms.Perm (rgV 0 6)) : ∃ r : List Nat, ms = (intR r).map V.int ∧ RowP r := by
  have e6 : rgV 0 6 = (intR (List.range 6)).map V.int := by decide
  rw [e6] at pm
  refine ⟨ms.map natW, ?_, ?_⟩
  · unfold intR
    rw [List.map_map, List.map_map]
    refine ((List.map_congr_left fun x hx => ?_).trans (List.map_id _)).symm
    have := pm.mem_iff.mp hx
    obtain ⟨i, hi, rfl⟩ := List.mem_map.mp this
    obtain ⟨n, hn, rfl⟩ := List.mem_map.mp hi
    rfl
  · have h := pm.map natW
    have e : ((intR (List.range 6)).map V.int).map natW = List.range 6 := by decide
    rw [e] at h
    exact h
theorem tabP_of {T : List (List Nat)} (l : T.length = 5) (h : ∀ r ∈ T, RowP r) : TabP T := ⟨l, fun v hv => by
  unfold row'
  rw [List.getD_eq_getElem?_getD, List.getElem?_eq_getElem (by omega)]
  exact h _ (List.getElem_mem _)⟩
/-- the rows of a table bent -/
def tRw (p d : Addr) : TE := fun σ H Q => ∃ (tx : Addr) (ux : List Addr) (Tx : List (List Nat)) (s1 s2 s3 s4 s5 s6 s7 s9 : Option V), σ = [some (.ref p), s1, s2, s3, s4, s5, s6, s7, some (.ref tx), s9] ∧ DeckL H p d ∧ TabAt H tx ux Tx ∧ TabP Tx ∧
  ∀ (q : Addr) (uq : List Addr) (Tq : List (List Nat)) (H' : Hp), DeckL H' p d → KpL p d H H' → TabAt H' q uq Tq → TabP Tq → Q (.ref q) H'
section
variable {P : Program} {w : World} {K : PySem.W.Frag} {mg : Str → Option Value} {base : Heap}
abbrev sAlong : Stmt := top 52
abbrev nAlong : List Str := ["deck", "net", "own", "one", "other", "apart", "drawn", "found", "rows", "row"]
theorem scAlong : FnScope nAlong ["deck", "net", "own"] (defScope sAlong) := ⟨rfl, rfl, rfl, by decide +kernel, rfl, by decide +kernel, by decide +kernel⟩
def scRows : Scope := { kind := .function, names := [(".0", .local), ("rows", .local), ("tuple", .globalImplicit), ("deck", .cell)], isGenerator := false, isCoroutine := false }
def spAlong (K : PySem.W.Frag) : Sp := fun vs H Q _ => ∃ (p d a b to : Addr) (ts : List V) (ars : List (Int × Int)) (us : List Addr) (T : List (List Nat)), vs = [.ref p, .ref a, .ref to] ∧ DeckL H p d ∧ NetAt 5 H a b ts ∧ ArsAt H ts ars ∧ fullN (ars.map toN) = true ∧ TabAt H to us T ∧ TabP T ∧
  ∀ (l : Addr) (xs : List V) (H' : Hp), DeckL H' p d → KpL p d H H' → H' l = some (.lst xs) → xs.length = 5 → (∀ x ∈ xs, DKn K (Off2 p d) 300 2 H' x) → Q (.ref l) H'
theorem ok_along {f : Addr} {fd : FuncData} (F : Fun K "_law_along" "_law_along" sAlong f fd) (B : NoNames mg) (OM : Own P w K mg base 2 "_law_mixed" ["deck", "items"] spMixedL) (OL : Own P w K mg base 2 "_law_led" ["net", "row"] spRowsFrom)
    (OX : Own P w K mg base 1 "_law_exchanged" ["row", "one", "other"] spExch) (OB : Own P w K mg base 3 "_law_bent" ["deck", "row"] spBentL) : FnOk P w K mg base CX0 4 f fd ["deck", "net", "own"] (spAlong K) := by
  obtain ⟨fM, fdM, GM, mM, kM, bM⟩ := OM.ex
  obtain ⟨fL, fdL, GL, mL, kL, bL⟩ := OL.ex
  obtain ⟨fX, fdX, GX, mX, kX, bX⟩ := OX.ex
  obtain ⟨fB, fdB, GB, mB, kB, bB⟩ := OB.ex
  refine F.ok scAlong (fun vs H Q E h => ?_) (fun cdv A outer s H vs Q E hr h => ?_)
  · obtain ⟨p, d, a, b, to, ts, ars, us, T, rfl, _⟩ := h
    rfl
  · obtain ⟨p, d, a, b, to, ts, ars, us, T, rfl, D, N, AR, FN, TO, TP, k⟩ := h
    have hr1 := hr.mono (by decide : 1 ≤ 3)
    have hr2 := hr.mono (by decide : 2 ≤ 3)
    have AP := (ars_nat N.arr AR rfl).1
    refine ⟨_, pss_cons (ps_asg (pe_slice sl_list (pe_call GM hr2 rfl mM kM bM .nil pass0 (pa_cons (pv 0) (pa_cons (pe_listRg rfl (by rfl) B.list (prg_1 (by rfl) B.range pe_int)) pa_nil))) po_none (po_some pe_int))
        (pg_lst (by rfl) (pgs_cons (pg_name (i := 3) scAlong.nd rfl (.inl rfl)) (pgs_cons (pg_name (i := 4) scAlong.nd rfl (.inl rfl)) pgs_nil)))) <|
      pss_cons (ps_set (i := 5) scAlong.nd rfl (.inl rfl) (pe_call GL hr2 rfl mL kL bL .nil pass0 (pa_cons (pv 1) (pa_cons (pe_call GX hr1 rfl mX kX bX .nil pass0 (pa_cons (pe_ix (r := rIxT K) ix_tup (pv 2) pe_int (fun _ _ => rfl)) (pa_cons (pv 3) (pa_cons (pv 4) pa_nil)))) pa_nil)))) <|
      pss_cons (ps_set (i := 6) scAlong.nd rfl (.inl rfl) (pe_call GL hr2 rfl mL kL bL .nil pass0 (pa_cons (pv 1) (pa_cons (pe_callTy call_tuple_of (by rfl) B.tuple (by decide +kernel) (pa_cons (pe_call GM hr2 rfl mM kM bM .nil pass0 (pa_cons (pv 0) (pa_cons (pe_listRg rfl (by rfl) B.list (prg_1 (by rfl) B.range pe_int)) pa_nil))) pa_nil)) pa_nil)))) <|
      pss_cons (ps_set (i := 7) scAlong.nd rfl (.inl rfl) (pe_lst (pa_cons (pv 5) (pa_cons (pv 6) (pa_cons (pe_call GL hr2 rfl mL kL bL .nil pass0 (pa_cons (pv 1) (pa_cons (pe_call GB hr rfl mB kB bB .nil pass0 (pa_cons (pv 0) (pa_cons (pe_ix (r := rIxT K) ix_tup (pv 2) pe_int (fun _ _ => rfl)) pa_nil))) pa_nil))) pa_nil))))) <|
      pss_one (ps_ret (pe_op op_cat (pv 7) (pe_lc (own := [("rows", 8)]) (g := gName 8) (tt := tYes) rfl scAlong.nd (pi_tup (pe_tup (pa_cons (pv 5) (pa_cons (pv 6) pa_nil)))) (blkOk_by (own := [("rows", 8)]) (N := nAlong) (sc := defScope sAlong) (by decide +kernel))
        (fun _ _ _ _ _ => pg_name (i := 8) scAlong.nd rfl (Or.inl rfl)) (fun _ _ _ _ _ => pts_nil)
        (fun _ _ _ _ _ => pe_weak (t' := tRw p d) (pe_callTy call_tuple_of (by rfl) B.tuple (by decide +kernel) (pa_cons
          (pe_lc (own := [("row", 9)]) (g := gName 9) (tt := tYes) rfl scAlong.nd (pi_tup (pv 8)) (blkOk_by (own := [("row", 9)]) (N := nAlong) (sc := scRows) (by decide +kernel))
            (fun _ _ _ _ _ => pg_name (i := 9) scAlong.nd rfl (Or.inl rfl)) (fun _ _ _ _ _ => pts_nil)
            (fun _ _ _ _ _ => pe_call GB hr rfl mB kB bB .nil pass0 (pa_cons (pv 0) (pa_cons (pv 9) pa_nil)))) pa_nil)) ?cn)))), ?_⟩
    case cn =>
      rintro σ H1 Q1 ⟨tx, ux, Tx, s1, s2, s3, s4, s5, s6, s7, s9, rfl, D1, TX, PX, q⟩
      refine ⟨_, rfl, tx, rfl, ⟨_, SqT.of TX.tup⟩, fun L nL => ?_⟩
      have oL := D1.off nL
      have sL := same_new (o := .lst []) nL
      have lux := TX.rows.len
      rw [List.length_map, PX.len] at lux
      refine lc_it (walk_tup (xs := ux.map V.ref)) (fun j Z => ∃ (ws : List Addr) (Bt : List (List Nat)), Z L = some (.lst (ws.map V.ref)) ∧ TupsAt Z ws (Bt.map intR) ∧ Bt.length = j ∧ (∀ r ∈ Bt, RowP r) ∧ DeckL Z p d ∧ KpL p d H1 Z)
        ⟨[], [], upd_same, .nil, rfl, fun _ h => (List.not_mem_nil h).elim, D1.same sL, .of sL⟩ (fun j Z _ h => by obtain ⟨_, _, _, _, _, _, _, h⟩ := h; exact SqT.of (TupS.kpl D1 h _ _ TX.tup)) ?_ ?_
      · rintro j x Hb Hc hj ⟨ws, Bt, h1, h2, h3, h4, h5, h6⟩ ⟨rfl, ex⟩
        rw [List.getElem?_map] at ex
        obtain ⟨tr, etr, rfl⟩ := Option.map_eq_some_iff.mp ex
        have hj5 : j < 5 := by
          rw [List.length_map] at hj
          omega
        obtain ⟨tr', e1, _, htr⟩ := (TX.keep (TupS.kpl D1 h6)).row PX.len hj5
        rw [etr] at e1
        cases e1
        have lw := h2.len
        rw [List.length_map, h3] at lw
        refine ⟨rfl, ?_⟩
        dsimp only [tYes]
        rw [if_pos rfl]
        refine ⟨_, rfl, _, rfl, p, d, tr, row' Tx j, rfl, h5, htr, PX.row j hj5, fun q2 g H' D' k' hq pg => ?_⟩
        have h1' := k' _ _ h1 oL.1 oL.2
        have tu : TupS H' (upd H' L (.lst (ws.map V.ref ++ [.ref q2]))) := TupS.upd fun ys z => by
          rw [h1'] at z
          cases z
        refine ⟨_, h1', by rw [List.length_map, sizeLine_eq]; omega, ws ++ [q2], Bt ++ [(row' Tx j).map (ap g)], by rw [upd_same, List.map_append]; rfl, ?_, by rw [List.length_append, h3]; rfl, fun r hr => ?_, deck_lst D' oL.1 oL.2, fun c o ec n1 n2 => ?_⟩
        · rw [List.map_append]
          exact ((h2.keep (TupS.kpl h5 k')).keep tu).snoc (tu _ _ hq)
        · rcases List.mem_append.mp hr with z | z
          · exact h4 r z
          · rw [List.mem_singleton.mp z]
            exact (PX.row j hj5).map pg.row
        · rw [upd_ne (ne_of_none ec nL)]
          exact k' _ _ (h6 _ _ ec n1 n2) n1 n2
      · rintro Ha ⟨ws, Bt, h1, h2, h3, h4, h5, h6⟩
        rw [List.length_map, lux] at h3
        refine ⟨L, _, rfl, .inl ⟨SqL.of h1, fun tq nq => ?_⟩⟩
        have sq := same_new (o := .tup (ws.map V.ref)) nq
        exact q tq ws Bt _ (h5.same sq) (h6.trans (.of sq)) ⟨upd_same, h2.keep (.of sq)⟩ (tabP_of h3 h4)
    refine ⟨_, rfl, 6, rfl, RgOk.of_le (by decide) (by decide) (by decide) (by decide), fun q nq => ?_⟩
    have sq := same_new (o := .lst (rgV 0 6)) nq
    refine ⟨p, d, q, _, rfl, D.same sq, upd_same, by rw [rgV_length]; decide, fun so ms H1 D1 k1 nr hr3 pm => ?_⟩
    obtain ⟨r0, rfl, R0⟩ := perm_row pm
    have k1 := (KpL.of sq).trans k1
    obtain ⟨o0, o1, o2, o3, o4, o5, rfl⟩ := six_list R0.len
    have lt : ∀ x ∈ [o0, o1, o2, o3, o4, o5], x < 6 := fun x hx => List.mem_range.mp (R0.mem_iff.mp hx)
    have b0 := lt o0 (by simp)
    have b1 := lt o1 (by simp)
    refine ⟨2, rfl, so, _, rfl, SqL.of hr3, fun c nc => ⟨c, _, rfl, SqL.of upd_same, rfl, _, _, rfl, _, _, rfl, rfl, ?_⟩⟩
    have sc := same_new (o := .lst (cutV ((intR [o0, o1, o2, o3, o4, o5]).map V.int) none (some 2))) nc
    have D2 := D1.same sc
    have k2 := k1.trans (.of sc)
    generalize (upd H1 c (.lst (cutV ((intR [o0, o1, o2, o3, o4, o5]).map V.int) none (some 2)))) = H2 at D2 k2 ⊢
    clear sc nc hr3 nr k1 D1 sq nq lt R0 pm
    have t2 := TupS.kpl D k2
    obtain ⟨tr, _, av, htr⟩ := (TO.keep t2).row TP.len (v := 0) (by decide)
    have RZ := TP.row 0 (by decide)
    have RX := RZ.sw b0 b1
    refine ⟨_, rfl, _, rfl, to, _, 0, .ref tr, rfl, rfl, SqT.of (t2 _ _ TO.tup), av, _, rfl, _, rfl, tr, _, o0, o1, rfl, htr, RZ.len, b0, b1, fun q3 H3 s3 h3 => ?_⟩
    refine ⟨a, b, q3, ts, ars, _, rfl, (N.keep t2).keep (.of s3), (AR.keep t2).keep (.of s3), h3, RX, FN, fun tA uA H4 s4 TA => ?_⟩
    have PA' := (tab_p AP FN RX).1
    have D4 := D2.same (s3.trans s4)
    have k4 := k2.trans (.of (s3.trans s4))
    clear htr av s3 s4 h3 t2 D2 k2
    have t4 := TupS.kpl D k4
    refine ⟨_, rfl, _, rfl, 6, rfl, RgOk.of_le (by decide) (by decide) (by decide) (by decide), fun q nq => ?_⟩
    have sq := same_new (o := .lst (rgV 0 6)) nq
    refine ⟨p, d, q, _, rfl, D4.same sq, upd_same, by rw [rgV_length]; decide, fun so ms H5 D5 k5 nr hr5 pm => ?_⟩
    obtain ⟨rD, rfl, RD⟩ := perm_row pm
    have k5' := (KpL.of sq).trans k5
    have k5 := k4.trans k5'
    have TA5 := TA.keep (TupS.kpl D4 k5')
    refine ⟨so, _, rfl, .inl ⟨SqL.of hr5, fun tq ntq => ?_⟩⟩
    have st := same_new (o := .tup ((intR rD).map V.int)) ntq
    have t5 := (TupS.kpl D k5).trans (.of st)
    refine ⟨a, b, tq, ts, ars, rD, rfl, N.keep t5, AR.keep t5, upd_same, RD, FN, fun tD uD H6 s6 TD => ?_⟩
    have PD := (tab_p AP FN RD).1
    have D6 := D5.same (st.trans s6)
    have k6 := k5.trans (.of (st.trans s6))
    have TA6 := TA5.keep (.of (st.trans s6))
    clear st s6 ntq t5 TA5 k5 k5' hr5 nr pm sq nq D4 k4 t4 TA D5
    have t6 := TupS.kpl D k6
    obtain ⟨tr, _, av, htr⟩ := (TO.keep t6).row TP.len (v := 0) (by decide)
    refine ⟨_, rfl, _, rfl, _, rfl, _, rfl, _, rfl, to, _, 0, .ref tr, rfl, rfl, SqT.of (t6 _ _ TO.tup), av, p, d, tr, _, rfl, D6, htr, RZ, fun tb g H7 D7 k7 h7 pg => ?_⟩
    have t7 := t6.trans (TupS.kpl D6 k7)
    have RB := RZ.map pg.row
    refine ⟨a, b, tb, ts, ars, _, rfl, N.keep t7, AR.keep t7, h7, RB, FN, fun tB uB H8 s8 TB => ⟨by show 3 ≤ sizeLine; decide, fun l nl => ?_⟩⟩
    have PB := (tab_p AP FN RB).1
    have sl := same_new (o := .lst [.ref tA, .ref tD, .ref tB]) nl
    have D8 := D7.same (s8.trans sl)
    have k8 := (k6.trans k7).trans (.of (s8.trans sl))
    have TA8 := (TA6.keep (TupS.kpl D6 k7)).keep (.of (s8.trans sl))
    have TD8 := (TD.keep (TupS.kpl D6 k7)).keep (.of (s8.trans sl))
    have TB8 := TB.keep (.of sl)
    have hl := upd_same (H := H8) (a := l) (o := .lst [.ref tA, .ref tD, .ref tB])
    have ol := (D7.same s8).off nl
    generalize (upd H8 l (.lst [.ref tA, .ref tD, .ref tB])) = H9 at D8 k8 TA8 TD8 TB8 hl ⊢
    clear sl nl s8 D7 k7 t7 k6 D6 TA6 TD TB h7 t6 av htr
    refine ⟨_, rfl, _, rfl, _, rfl, by show 2 ≤ sizeLine; decide, fun tt nt => ⟨tt, rfl, ⟨_, SqT.of upd_same⟩, fun L nL => ?_⟩⟩
    have st := same_new (o := .tup [.ref tA, .ref tD]) nt
    have htt := upd_same (H := H9) (a := tt) (o := .tup [.ref tA, .ref tD])
    have DT := D8.same st
    have oL := DT.off nL
    have sL := same_new (o := .lst []) nL
    have sTL := st.trans sL
    refine lc_it (walk_tup (xs := [.ref tA, .ref tD])) (fun j Z => ∃ vs : List V, Z L = some (.lst vs) ∧ vs.length = j ∧ (∀ v ∈ vs, DKn K (Off3 p d L) 300 2 Z v) ∧ DeckL Z p d ∧ KpL p d (upd H9 tt (.tup [.ref tA, .ref tD])) Z)
      ⟨[], upd_same, rfl, fun _ h => (List.not_mem_nil h).elim, DT.same sL, .of sL⟩ (fun j Z _ h => by obtain ⟨_, _, _, _, _, h⟩ := h; exact SqT.of (TupS.kpl DT h _ _ htt)) ?_ ?_
    · rintro j x Hb Hc hj ⟨vs, h1, h2, h3, h4, h5⟩ ⟨rfl, ex⟩
      have tc := (TupS.of st).trans (TupS.kpl DT h5)
      obtain ⟨tx, ux, Tx, rfl, TX, PX⟩ : ∃ (tx : Addr) (ux : List Addr) (Tx : List (List Nat)), x = .ref tx ∧ TabAt Hc tx ux Tx ∧ TabP Tx := by
        match j, ex with
        | 0, ex => exact ⟨tA, _, _, (Option.some.inj ex).symm, TA8.keep tc, PA'⟩
        | 1, ex => exact ⟨tD, _, _, (Option.some.inj ex).symm, TD8.keep tc, PD⟩
        | n + 2, ex => exact absurd ex (by simp)
      have hj2 : j < 2 := hj
      refine ⟨rfl, ?_⟩
      dsimp only [tYes]
      rw [if_pos rfl]
      refine ⟨tx, ux, Tx, _, _, _, _, _, _, _, _, rfl, h4, TX, PX, fun q uq Tq H' D' k' TQ PQ => ?_⟩
      have h1' := k' _ _ h1 oL.1 oL.2
      refine ⟨_, h1', by rw [h2, sizeLine_eq]; omega, vs ++ [.ref q], upd_same, by rw [List.length_append, h2]; rfl, fun v hv => ?_, deck_lst D' oL.1 oL.2, fun c o ec n1 n2 => ?_⟩
      · rcases List.mem_append.mp hv with z | z
        · exact ((h3 v z).keep (.k3 k')).keep ku_lst
        · rw [List.mem_singleton.mp z]
          exact (dk_tab (off3_ok D' h1') TQ PQ (by decide)).keep ku_lst
      · rw [upd_ne (ne_of_none ec nL)]
        exact k' _ _ (h5 _ _ ec n1 n2) n1 n2
    · rintro Ha ⟨vs, h1, h2, h3, h4, h5⟩
      have h2 : vs.length = 2 := h2
      have hlA := h5 _ _ (st _ _ hl) ol.1 ol.2
      refine ⟨l, L, _, vs, rfl, rfl, hlA, h1, by rw [h2]; show 3 + 2 ≤ sizeLine; decide, fun q nq => ?_⟩
      have sq := same_new (o := .lst ([V.ref tA, .ref tD, .ref tB] ++ vs)) nq
      have tA' := (TupS.of st).trans (TupS.kpl DT h5)
      refine k q _ _ (h4.same sq) ((k8.trans (.of st)).trans (h5.trans (.of sq))) upd_same (by rw [List.length_append, h2]; rfl) fun x hx => ?_
      rcases List.mem_append.mp hx with z | z
      · refine DKn.keep ?_ (.same sq)
        simp only [List.mem_cons, List.not_mem_nil, or_false] at z
        rcases z with rfl | rfl | rfl
        · exact dk_tab (off2_ok h4) (TA8.keep tA') PA' (by decide)
        · exact dk_tab (off2_ok h4) (TD8.keep tA') PD (by decide)
        · exact dk_tab (off2_ok h4) (TB8.keep tA') PB (by decide)
      · exact (h3 x z).off2.keep (.same sq)
end
end Sw
namespace Sw
open PySem PySem.Spec PyProof.Rows L2
/-! ### tables that are bent along each arrow are right -/
def bendsN : List (List Nat) := (ordsN 6 6).filter bendB
def tripB (a b c : Nat) : Bool := a == b || a == c || b == c || bendsN.any fun h => ap h 0 == a && ap h 1 == b && ap h 5 == c
theorem trip_all : ((List.range 6).all fun a => (List.range 6).all fun b => (List.range 6).all fun c => tripB a b c) = true := by decide +kernel
theorem trip_of {a b c : Nat} (ha : a < 6) (hb : b < 6) (hc : c < 6) (ab : a ≠ b) (ac : a ≠ c) (bc : b ≠ c) : ∃ h, Pres h ∧ ap h 0 = a ∧ ap h 1 = b ∧ ap h 5 = c := by
  have q := List.all_eq_true.mp (List.all_eq_true.mp (List.all_eq_true.mp trip_all a (List.mem_range.mpr ha)) b (List.mem_range.mpr hb)) c (List.mem_range.mpr hc)
  unfold tripB at q
  rw [beq_false_of_ne ab, beq_false_of_ne ac, beq_false_of_ne bc, Bool.false_or, Bool.false_or, Bool.false_or] at q
  obtain ⟨h, hh, e⟩ := List.any_eq_true.mp q
  rw [Bool.and_eq_true, Bool.and_eq_true] at e
  obtain ⟨hm, hb⟩ := List.mem_filter.mp hh
  exact ⟨h, pres_of (List.isPerm_iff.mp (List.all_eq_true.mp ord_perm h hm)) hb, beq_iff_eq.mp e.1.1, beq_iff_eq.mp e.1.2, beq_iff_eq.mp e.2⟩
def goals3 (a b : List Nat) : List Nat := (List.range 6).foldl (fun g p => g.set (ap a p) (ap b (mvN 5 p))) [0, 0, 0, 0, 0, 0]
theorem goals3_is {a b : List Nat} (ha : RowP a) (hb : RowP b) : RowP (goals3 a b) ∧ ∀ p, p < 6 → ap (goals3 a b) (ap a p) = ap b p := by
  have mv5 : ∀ p, p < 6 → mvN 5 p = p := by decide
  obtain ⟨l, is⟩ := goals_at (b := b) (v := 5) ha 6 [0, 0, 0, 0, 0, 0] (Nat.le_refl _) rfl
  have is : ∀ p, p < 6 → ap (goals3 a b) (ap a p) = ap b p := fun p hp => (is p hp).trans (by rw [mv5 p hp])
  refine ⟨rowP_of l (fun i hi => ?_) (fun i j hi hj e => ?_), is⟩
  · obtain ⟨p, hp, rfl⟩ := ha.onto hi
    exact (is p hp) ▸ hb.lt hp
  · obtain ⟨p, hp, rfl⟩ := ha.onto hi
    obtain ⟨q, hq, rfl⟩ := ha.onto hj
    have e : ap (goals3 a b) (ap a p) = ap (goals3 a b) (ap a q) := e
    rw [is p hp, is q hq] at e
    rw [hb.inj hp hq e]
/-- three ratios tell all -/
theorem bent_all {a b : List Nat} (ha : RowP a) (hb : RowP b) (h : bentN a b = true) {x y z t : Nat} (f : Four x y z t) : ratN (ap b x) (ap b y) (ap b z) (ap b t) = ratN (ap a x) (ap a y) (ap a z) (ap a t) := by
  obtain ⟨gr, gi⟩ := goals3_is ha hb
  have i01 : ap a 0 ≠ ap a 1 := fun e => absurd (ha.inj (by decide) (by decide) e) (by decide)
  have i02 : ap a 0 ≠ ap a 2 := fun e => absurd (ha.inj (by decide) (by decide) e) (by decide)
  have i12 : ap a 1 ≠ ap a 2 := fun e => absurd (ha.inj (by decide) (by decide) e) (by decide)
  obtain ⟨k, pk, k0, k1, k5⟩ := trip_of (ha.lt (p := 0) (by decide)) (ha.lt (p := 1) (by decide)) (ha.lt (p := 2) (by decide)) i01 i02 i12
  have lk := pk.row.len
  have pc : Pres (k.map (ap (goals3 a b))) := by
    refine pres_of (pk.row.map gr) (List.all_eq_true.mpr fun c hc => beq_iff_eq.mpr ?_)
    have hc6 : c < 6 ∧ c ≠ 0 ∧ c ≠ 1 ∧ c ≠ 5 := by
      simp only [List.mem_cons, List.not_mem_nil, or_false] at hc
      rcases hc with rfl | rfl | rfl <;> decide
    rw [ap_map lk (by decide), ap_map lk (by decide), ap_map lk (by decide), ap_map lk hc6.1, k0, k1, k5]
    obtain ⟨p, hp, ep⟩ := ha.onto (pk.row.lt hc6.1)
    have p0 : p ≠ 0 := fun z => by
      rw [z, ← k0] at ep
      exact hc6.2.1 (pk.row.inj (by decide) hc6.1 ep).symm
    have p1 : p ≠ 1 := fun z => by
      rw [z, ← k1] at ep
      exact hc6.2.2.1 (pk.row.inj (by decide) hc6.1 ep).symm
    have p2 : p ≠ 2 := fun z => by
      rw [z, ← k5] at ep
      exact hc6.2.2.2 (pk.row.inj (by decide) hc6.1 ep).symm
    have mp : p ∈ [3, 4, 5] := by
      simp only [List.mem_cons, List.not_mem_nil, or_false]
      omega
    have q := beq_iff_eq.mp (List.all_eq_true.mp h p mp)
    rw [← ep, gi 0 (by decide), gi 1 (by decide), gi 2 (by decide), gi p hp, ← q, ep, ← k0, ← k1, ← k5]
    refine pk.is 0 1 5 c ⟨⟨by decide, by decide, by decide, hc6.1⟩, by decide, by decide, fun z => hc6.2.1 z.symm, by decide, fun z => hc6.2.2.1 z.symm, fun z => hc6.2.2.2 z.symm⟩
  -- the goals keep ratios
  obtain ⟨⟨x6, y6, z6, t6⟩, n⟩ := f
  obtain ⟨⟨ax, ay, az, at'⟩, m⟩ := ha.four ⟨⟨x6, y6, z6, t6⟩, n⟩
  obtain ⟨px, hpx, ex⟩ := pk.row.onto ax
  obtain ⟨py, hpy, ey⟩ := pk.row.onto ay
  obtain ⟨pz, hpz, ez⟩ := pk.row.onto az
  obtain ⟨pt, hpt, et⟩ := pk.row.onto at'
  have fp : Four px py pz pt := by
    obtain ⟨m1, m2, m3, m4, m5, m6⟩ := m
    rw [← ex, ← ey] at m1
    rw [← ex, ← ez] at m2
    rw [← ex, ← et] at m3
    rw [← ey, ← ez] at m4
    rw [← ey, ← et] at m5
    rw [← ez, ← et] at m6
    exact ⟨⟨hpx, hpy, hpz, hpt⟩, fun e => m1 (by rw [e]), fun e => m2 (by rw [e]), fun e => m3 (by rw [e]), fun e => m4 (by rw [e]), fun e => m5 (by rw [e]), fun e => m6 (by rw [e])⟩
  have q := pc.is px py pz pt fp
  rw [ap_map lk hpx, ap_map lk hpy, ap_map lk hpz, ap_map lk hpt, ex, ey, ez, et, gi x x6, gi y y6, gi z z6, gi t t6, ← pk.is px py pz pt fp, ex, ey, ez, et] at q
  exact q
theorem bent_right {ars : List (Nat × Nat)} {T : List (List Nat)} (P : TabP T) (A : ArP ars) (h : rightN ars T = true) : RightX ars T := by
  intro e he x y z t f
  obtain ⟨hv, hw⟩ := A e he
  have hb := List.all_eq_true.mp h e he
  have l := (P.row _ hv).len
  have fm := mv_four hv f
  have q := bent_all ((P.row _ hv).take hv) (P.row _ hw) hb fm
  obtain ⟨⟨a, b, c, d⟩, _⟩ := f
  rw [take_ap l hv (mv_lt hv a), take_ap l hv (mv_lt hv b), take_ap l hv (mv_lt hv c), take_ap l hv (mv_lt hv d), mv_mv hv a, mv_mv hv b, mv_mv hv c, mv_mv hv d] at q
  exact q
theorem names_is_right {ars : List (Nat × Nat)} {T : List (List Nat)} (P : TabP T) (A : ArP ars) : namesN ars T = rightN ars T := by
  cases c : rightN ars T with
  | true => exact (right_names P A).mpr (bent_right P A c)
  | false =>
    cases q : namesN ars T with
    | false => rfl
    | true =>
      rw [right_bent P A ((right_names P A).mp q)] at c
      cases c
end Sw
namespace Sw
open PySem PySem.Spec PyProof.Rows L2
/-! ### _law_names -/
section
variable {P : Program} {w : World} {K : PySem.W.Frag} {mg : Str → Option Value} {base : Heap}
def spLNamesR : Sp := fun vs H Q _ => ∃ (a b : Addr) (ts : List V) (ars : List (Int × Int)), vs = [.ref a] ∧ NetAt 5 H a b ts ∧ ArsAt H ts ars ∧ chkN (ars.map toN) = true ∧
  ∀ (t : Addr) (us : List Addr) (T : List (List Nat)) (H' : Hp), Same H H' → TabAt H' t us T → TabP T → namesN (ars.map toN) T = true → T ∈ lrowsN.map (tabN (ars.map toN)) → Q (.ref t) H'
theorem chk_parts {A : List (Nat × Nat)} (h : chkN A = true) : fullN A = true ∧ (∃ T, nmT A = some T ∧ namesN A T = true) ∧ (lrowsN.map (tabN A)).any (namesN A) = true := by
  unfold chkN at h
  rw [Bool.and_eq_true, Bool.and_eq_true, Bool.and_eq_true] at h
  refine ⟨h.1.1.1, ?_, h.2⟩
  have q := h.1.2
  cases e : nmT A with
  | none =>
    rw [e] at q
    cases q
  | some T =>
    rw [e] at q
    exact ⟨T, rfl, q⟩
theorem ok_lNamesR {f : Addr} {fd : FuncData} (F : Fun K "_law_names" "_law_names" sLNames f fd) (B : NoNames mg) (OO : Own P w K mg base 1 "_law_orders" ["many"] spOrders) (OL : Own P w K mg base 2 "_law_led" ["net", "row"] spRowsFrom) (OA : Own P w K mg base 4 "_law_are_names" ["net", "value"] spAreNames) : FnOk P w K mg base CX0 5 f fd ["net"] spLNamesR := by
  obtain ⟨fO, fdO, GO, mO, kO, bO⟩ := OO.ex
  obtain ⟨fL, fdL, GL, mL, kL, bL⟩ := OL.ex
  obtain ⟨fA, fdA, GA, mA, kA, bA⟩ := OA.ex
  refine F.ok scLNames (fun vs H Q E h => ?_) (fun cdv A outer s H vs Q E hr h => ?_)
  · obtain ⟨a, b, ts, ars, rfl, _⟩ := h
    rfl
  · obtain ⟨a, b, ts, ars, rfl, N, AR, ck, k⟩ := h
    have hr1 := hr.mono (by decide : 1 ≤ 4)
    have hr2 := hr.mono (by decide : 2 ≤ 4)
    obtain ⟨AP, en⟩ := ars_nat N.arr AR rfl
    obtain ⟨FN, _, an⟩ := chk_parts ck
    refine ⟨_, pss_cons (ps_for PassesOwn.never rfl (pi_list (pe_call GO hr1 rfl mO kO bO .nil pass0 (pa_cons pe_int pa_nil))) (pg_name (i := 1) scLNames.nd rfl (.inl rfl))
        (pss_cons (ps_set (i := 2) scLNames.nd rfl (.inl rfl) (pe_call GL hr2 rfl mL kL bL .nil pass0 (pa_cons (pv 0) (pa_cons (pe_op (r := rCatA K) op_catA (pe_tup (pa_cons pe_int (pa_cons pe_int (pa_cons pe_int pa_nil)))) (pe_callTy call_tuple_of (by rfl) B.tuple (by decide +kernel) (pa_cons
            (pe_lc (own := [("item", 3)]) (g := gName 3) (tt := tYes) (te := tOp (rI0 fun i j => .int (i + j)) (tC (.int 2)) (tVar 3)) rfl scLNames.nd (pi_tup (pv 1)) (blkOk_by (own := [("item", 3)]) (N := nLNames) (sc := defScope sLNames) (by decide +kernel))
              (fun _ _ _ _ _ => pg_name (i := 3) scLNames.nd rfl (Or.inl rfl)) (fun _ _ _ _ _ => pts_nil) (fun _ _ _ _ _ => pe_op op_add pe_int (pv 3))) pa_nil))) pa_nil)))) <|
         pss_one (ps_if (pt_val (pe_call GA hr rfl mA kA bA .nil pass0 (pa_cons (pv 0) (pa_cons (pv 2) pa_nil)))) (pss_one (ps_ret (pv 2))) pss_nil))) <|
      pss_one (ps_ret (pe_tup pa_nil)), ?_⟩
    refine ⟨3, by decide, rfl, fun l os H1 s1 hl U => ⟨l, rfl, ⟨_, SqL.of hl⟩, for_it (walk_list (xs := os.map V.ref)) (fun j σ Z => ∃ s1 s2 s3 : Option V, σ = [some (.ref a), s1, s2, s3] ∧ Same H1 Z ∧ ∀ r ∈ lrowsN.take j, namesN (ars.map toN) (tabN (ars.map toN) r) = false)
      ⟨_, _, _, rfl, .refl _, fun r hr => by rw [List.take_zero] at hr; exact (List.not_mem_nil hr).elim⟩ (fun j σ Z _ h => by obtain ⟨_, _, _, _, h, _⟩ := h; exact SqL.of (h _ _ hl)) ?_ ?_⟩⟩
    · rintro j x σ Hb Hc hj ⟨s1', s2, s3, rfl, sc, no⟩ ⟨rfl, ex⟩
      rw [List.getElem?_map] at ex
      obtain ⟨ta, eta, rfl⟩ := Option.map_eq_some_iff.mp ex
      obtain ⟨o, eo, ho⟩ := (U.keep (.of sc)).at eta
      obtain ⟨r, er, ev, lo⟩ := lrows_at eo
      have R := lrows_perm r (List.mem_of_getElem? er)
      refine ⟨_, rfl, by show 3 ≤ sizeLine; decide, fun t1 n1 => ⟨_, rfl, ta, rfl, ⟨_, SqT.of (same_new n1 _ _ ho)⟩, fun D nD => ?_⟩⟩
      have z1 := same_new (o := .tup [.int 0, .int 1, .int 5]) n1
      have h1 := (upd_same (H := Hc) (a := t1) (o := .tup [.int 0, .int 1, .int 5]))
      have ho1 := z1 _ _ ho
      have sc1 := sc.trans z1
      generalize (upd Hc t1 (.tup [.int 0, .int 1, .int 5])) = H2 at nD z1 h1 ho1 sc1 ⊢
      refine lc_it (walk_tup (xs := o.map V.int)) (fun i Z => Z D = some (.lst (((o.take i).map fun i => 2 + i).map V.int)) ∧ Same H2 Z) ⟨upd_same, same_new nD⟩ (fun i Z _ h => SqT.of (h.2 _ _ ho1)) ?_ ?_
      · rintro i x Hd He hi ⟨g1, g2⟩ ⟨rfl, ex⟩
        obtain ⟨z, ez, rfl⟩ := int_at ex
        refine ⟨rfl, ?_⟩
        dsimp only [tYes]
        rw [if_pos rfl]
        refine ⟨_, rfl, _, _, rfl, rfl, _, g1, by rw [List.length_map, List.length_map, List.length_take, sizeLine_eq]; omega, ?_, fun c u ec => ?_⟩
        · rw [upd_same, List.take_add_one, ez, List.map_append, List.map_append]
          rfl
        · rw [upd_ne (ne_of_none ec nD)]
          exact g2 _ _ ec
      · rintro Hd ⟨g1, g2⟩
        rw [List.length_map, List.take_length] at g1
        refine ⟨D, _, rfl, .inl ⟨SqL.of g1, fun t2 n2 => ?_⟩⟩
        have z2 := same_new (o := .tup ((o.map fun i => 2 + i).map V.int)) n2
        refine cat_tup (z2 _ _ (g2 _ _ h1)) upd_same (by rw [List.length_map, List.length_map]; show 3 + _ ≤ _; omega) fun rr He se hrr => ?_
        rw [ev] at hrr
        have s5 := sc1.trans (g2.trans (z2.trans se))
        have s6 := s1.trans s5
        refine ⟨a, b, rr, ts, ars, r, rfl, N.keep (.of s6), AR.keep (.of s6), hrr, R, FN, fun t us Hf sf TA => ?_⟩
        obtain ⟨TP, _, _⟩ := tab_p AP FN R
        have s7 := s6.trans sf
        refine ⟨_, rfl, _, rfl, a, b, t, ts, ars, us, _, rfl, N.keep (.of s7), AR.keep (.of s7), TA, TP, fun Hg sg => ⟨_, rfl, ?_⟩⟩
        cases c : namesN (ars.map toN) (tabN (ars.map toN) r) with
        | true => exact iteT ⟨_, rfl, k t us _ Hg (s7.trans sg) (TA.keep (.of sg)) TP c (List.mem_map.mpr ⟨r, List.mem_of_getElem? er, rfl⟩)⟩
        | false =>
          refine iteF ⟨_, _, _, rfl, s5.trans (sf.trans sg), fun r' hr' => ?_⟩
          rw [List.take_add_one, er] at hr'
          rcases List.mem_append.mp hr' with z | z
          · exact no r' z
          · rw [show r' = r from List.mem_singleton.mp z]
            exact c
    · rintro σ Hb ⟨s1', s2, s3, rfl, sc, no⟩
      have lu := U.len
      have l6 : (ords 3 3).length = 6 := by decide +kernel
      have l6' : lrowsN.length = 6 := by decide +kernel
      rw [List.length_map, lu, l6, List.take_of_length_le (by omega)] at no
      obtain ⟨T, hT, c⟩ := List.any_eq_true.mp an
      obtain ⟨r, hr', rfl⟩ := List.mem_map.mp hT
      rw [no r hr'] at c
      cases c
def spLNames : Sp := fun vs H Q _ => ∃ (a b : Addr) (ts : List V) (ars : List (Int × Int)), vs = [.ref a] ∧ NetAt 5 H a b ts ∧ ArsAt H ts ars ∧ chkN (ars.map toN) = true ∧
  ∀ (t : Addr) (us : List Addr) (T : List (List Nat)) (H' : Hp), Same H H' → TabAt H' t us T → TabP T → namesN (ars.map toN) T = true → Q (.ref t) H'
theorem ok_lNames {f : Addr} {fd : FuncData} (F : Fun K "_law_names" "_law_names" sLNames f fd) (B : NoNames mg) (OO : Own P w K mg base 1 "_law_orders" ["many"] spOrders) (OL : Own P w K mg base 2 "_law_led" ["net", "row"] spRowsFrom) (OA : Own P w K mg base 4 "_law_are_names" ["net", "value"] spAreNames) : FnOk P w K mg base CX0 5 f fd ["net"] spLNames :=
  (ok_lNamesR F B OO OL OA).imp fun _ _ _ _ h => by
    obtain ⟨a, b, ts, ars, e, N, AR, ck, k⟩ := h
    exact ⟨a, b, ts, ars, e, N, AR, ck, fun t us T H' s TA TP n _ => k t us T H' s TA TP n⟩
end
end Sw
namespace Sw
open PySem PySem.Spec PyProof.Rows L2
/-- no error -/
def noX : D → Bool
  | .exc _ _ _ => false
  | _ => true
/-- repr(x), x of any plain kind -/
def rReprD (K : PySem.W.Frag) : List V → Hp → VK → Prop := fun xs H Q => ∃ x dd as, xs = [x] ∧ Rep K H dd x as ∧ noX dd = true ∧ small dd ∧ wt dd ≤ 10000000 ∧ dep dd ≤ 30 ∧ Q (.str (shown dd)) H
theorem call_reprD {X : Cx} {k : Nat} (hr : Room k X.A) (hg : X.A.guards = some []) : CallR X (.builtin "repr") (rReprD X.K) := by
  intro pins s σ H xs us Q I r h
  obtain ⟨x, dd, as, rfl, hd, nx, sm, z, dp, q⟩ := h
  have un := hr.units
  have dict : ∀ (a : Addr) (kvs : List (Key × V)) (ks : List Key) (ds : List D) (bs : List Addr), x = .ref a → H a = some (.dK kvs) → kvs.map Prod.fst = ks → RepAll X.K H ds (kvs.map Prod.snd) bs → a ∉ bs → (∀ k ∈ ks, keyOk k) → smallAll ds → keysWt ks + wtAll ds + 2 ≤ 10000000 → depAll ds ≤ 30 →
      Q (.str (dictText (entTxt ks (shownAll ds)))) H → wpAny (model X.prog X.w) X.A (call (.builtin "repr") us) (EP X pins σ Q) X.xe s := by
    intro a kvs ks ds bs ex ha ek ra na ok sm z dp q
    subst ex
    obtain ⟨u, rfl, hu⟩ := vals1 r
    cases (show u = Value.ref a from hu)
    obtain ⟨_, hs, vs, kv, o, es, ep, h1, h2, h3, h4⟩ := (show ObjOk X.prog X.w H s.heap a (.dK kvs) from I.hok a _ ha)
    have pr : Pairs (mixKind X.prog X.w) es.toList vs := h4.2.1
    obtain ⟨us2, rv, eu, ky⟩ := kv_vals kv pr
    have kr := RepAll.shows I.hok I.kIn ra rv sm (by rw [sizeLine_eq]; omega) (depAll ds) (Nat.le_refl _)
    rw [ek] at ky
    rw [eu] at kr
    have hsh : (dictText (entTxt ks (shownAll ds))).length ≤ sizeLine := by
      have h1 := dictText_len (entTxt ks (shownAll ds))
      obtain ⟨h2, h3⟩ := entTxt_len ks (shownAll ds)
      have h4 := shownAll_wt ds
      rw [sizeLine_eq]
      omega
    refine call_repr_slot (by omega) ⟨o, h1, h2.1⟩ PySem.F.slot_dict_repr ?_
    exact call_dict_reprK (h₀ := s.heap) (d := depAll ds) h1 h2.1 h3 hs na (ents_of ky ok kr) (g := []) hg (fun b _ => Clear.nil b) (by show X.A.units + 1 + _ < cLine; omega) (fun _ _ e => e) (fun h' u tk hk => ⟨_, _, rfl, .str _, H, I.kept (t' := tk) hk, ⟨_, rfl⟩, q⟩) hsh
  cases dd with
  | non =>
    simp only [Rep] at hd
    obtain ⟨rfl, rfl⟩ := hd
    obtain ⟨u, rfl, hu⟩ := vals1 r
    cases (show u = Value.none from hu)
    exact PySem.P.repr_of_none ⟨.str _, H, I.tok _, ⟨_, rfl⟩, q⟩
  | bl b =>
    simp only [Rep] at hd
    obtain ⟨rfl, rfl⟩ := hd
    obtain ⟨u, rfl, hu⟩ := vals1 r
    cases (show u = Value.bool b from hu)
    exact PySem.P.repr_of_bool ⟨.str _, H, I.tok _, ⟨_, rfl⟩, q⟩
  | int i =>
    simp only [Rep] at hd
    obtain ⟨rfl, rfl⟩ := hd
    obtain ⟨u, rfl, t, rfl⟩ := vals1 r
    exact PySem.P.repr_of_int (by simpa only [small] using sm) ⟨.str _, H, I.tok _, ⟨_, rfl⟩, q⟩
  | str y =>
    simp only [Rep] at hd
    obtain ⟨rfl, rfl⟩ := hd
    obtain ⟨u, rfl, hu⟩ := vals1 r
    obtain ⟨t, rfl⟩ := (show ∃ t, u = Value.str y t from hu)
    simp only [wt] at z
    exact PySem.P.repr_of_str ⟨.str _, H, I.tok _, ⟨_, rfl⟩, q⟩ (by rw [sizeLine_eq]; omega)
  | tup ds => exact call_reprT hr hg pins s σ H _ us Q I r ⟨x, ds, as, rfl, hd, by simpa only [small] using sm, by simp only [wt] at z; omega, by simp only [dep] at dp; omega, q⟩
  | lst ds => exact call_repr hr hg pins s σ H _ us Q I r ⟨x, ds, as, rfl, hd, by simpa only [small] using sm, by simp only [wt] at z; omega, by simp only [dep] at dp; omega, q⟩
  | dct =>
    simp only [Rep] at hd
    obtain ⟨a, ex, ha, ea⟩ := hd
    have e0 : dictText (entTxt [] (shownAll [])) = ("{}" : Str) := by decide +kernel
    exact dict a [] [] [] [] ex ha rfl (by simp [RepAll]) (by simp) (fun _ h => absurd h (by simp)) (by simp [smallAll]) (by simp [keysWt, wtAll]) (by simp [depAll]) (by rw [e0]; exact q)
  | dx ks ds =>
    simp only [Rep] at hd
    obtain ⟨a, kvs, bs, ex, ha, ek, ra, na, ea⟩ := hd
    simp only [small] at sm
    simp only [wt] at z
    simp only [dep] at dp
    exact dict a kvs ks ds bs ex ha ek ra na sm.1 sm.2 z (by omega) q
  | exc C n m => cases nx
end Sw
namespace Sw
open PySem PySem.Spec PyProof.Rows L2 LamX
/-! ### the law of names spoilt: what stands -/
/-- refs of rows -/
def RowsV (H : Hp) (xs : List V) : Prop := ∀ x ∈ xs, ∃ (t : Addr) (r : List Nat), x = .ref t ∧ RowP r ∧ H t = some (.tup ((intR r).map V.int))
theorem RowsV.keep {H H' : Hp} {xs : List V} (h : RowsV H xs) (s : TupS H H') : RowsV H' xs := fun x hx => by
  obtain ⟨t, r, e, R, ht⟩ := h x hx
  exact ⟨t, r, e, R, s _ _ ht⟩
theorem rowsV_of {H : Hp} {t : Addr} {us : List Addr} {T : List (List Nat)} (TA : TabAt H t us T) (TP : TabP T) : RowsV H (us.map V.ref) := fun v hv => by
  obtain ⟨a, ha, rfl⟩ := List.mem_map.mp hv
  obtain ⟨i, hi, e⟩ := List.getElem_of_mem ha
  obtain ⟨L, eL, hL⟩ := TA.rows.at (List.getElem?_eq_getElem hi)
  rw [e] at hL
  rw [List.getElem?_map] at eL
  obtain ⟨r, er, rfl⟩ := Option.map_eq_some_iff.mp eL
  exact ⟨a, r, rfl, TP.mem r (List.mem_of_getElem? er), hL⟩
theorem rowsV_all {K : PySem.W.Frag} {H : Hp} : ∀ {xs : List V}, RowsV H xs → ∃ (ds : List Sw.D) (as : List Addr), RepAll K H ds xs as ∧ (∀ b ∈ as, ∃ r : List Nat, RowP r ∧ H b = some (.tup ((intR r).map V.int))) ∧ smallAll ds ∧ wtAll ds ≤ xs.length * 41 ∧ depAll ds ≤ 1
  | [], _ => ⟨[], [], by simp [RepAll], by simp, by simp [smallAll], by simp [wtAll], by simp [depAll]⟩
  | x :: xs, h => by
    obtain ⟨ds, as, l1, l2, l3, l4, l5⟩ := rowsV_all (K := K) (xs := xs) fun y hy => h y (List.mem_cons_of_mem _ hy)
    obtain ⟨t, r, rfl, R, ht⟩ := h x List.mem_cons_self
    obtain ⟨s1, s2, s3⟩ := rows_all (row_ints R)
    rw [intR_len, R.len] at s2
    refine ⟨.tup ((intR r).map Sw.D.int) :: ds, t :: as, ?_, fun b hb => ?_, ?_, ?_, ?_⟩
    · rw [RepAll]
      refine ⟨_, _, [t], as, rfl, ?_, l1, rfl⟩
      rw [Rep]
      exact ⟨t, _, [], rfl, ht, rep_ints _, by simp, rfl⟩
    · rcases List.mem_cons.mp hb with z | z
      · exact ⟨r, R, z ▸ ht⟩
      · exact l2 b z
    · simp only [smallAll, small]
      exact ⟨s1, l3⟩
    · simp only [wtAll, wt, List.length_cons]
      omega
    · simp only [depAll, dep]
      omega
theorem dk_rowsV {K : PySem.W.Frag} {U : Addr → Prop} {w k : Nat} {H : Hp} {a : Addr} {xs : List V} (u : UOk U H) (hx : RowsV H xs) (ha : H a = some (.tup xs)) (hw : xs.length * 41 + 3 ≤ w) : DKn K U w (k + 2) H (.ref a) := by
  obtain ⟨ds, as, l1, l2, l3, l4, l5⟩ := rowsV_all (K := K) hx
  refine ⟨.tup ds, a :: as, ?_, fun b hb => ?_, by simp only [small]; exact l3, by simp only [wt]; omega, by simp only [dep]; omega⟩
  · simp only [Rep]
    refine ⟨a, _, as, rfl, ha, l1, fun z => ?_, rfl⟩
    obtain ⟨r, R, e⟩ := l2 a z
    rw [ha] at e
    have e : xs = (intR r).map V.int := by
      have := Option.some.inj e
      injection this
    cases xs with
    | nil =>
      have := congrArg List.length e
      rw [List.length_map, intR_len, R.len] at this
      cases this
    | cons x xs =>
      obtain ⟨t, r', rfl, _⟩ := hx x List.mem_cons_self
      have hm : V.ref t ∈ (intR r).map V.int := e ▸ List.mem_cons_self
      obtain ⟨i, _, q⟩ := List.mem_map.mp hm
      cases q
  · rcases List.mem_cons.mp hb with z | z
    · exact z ▸ u.tup a _ ha
    · obtain ⟨r, R, e⟩ := l2 b z
      exact u.tup b _ e
theorem rowsV_dk {K : PySem.W.Frag} {U : Addr → Prop} {w k : Nat} {H : Hp} {xs : List V} (u : UOk U H) (h : RowsV H xs) (hw : 39 ≤ w) : ∀ v ∈ xs, DKn K U w (k + 1) H v := fun v hv => by
  obtain ⟨t, r, rfl, R, ht⟩ := h v hv
  exact dk_rowN u R ht hw
theorem dk_snoc {K : PySem.W.Frag} {U : Addr → Prop} {w k : Nat} {H H' : Hp} {xs : List V} {x : V} (al : ∀ v ∈ xs, DKn K U w k H v) (s : Same H H') (hx : DKn K U w k H' x) : ∀ v ∈ xs ++ [x], DKn K U w k H' v := fun v hv => by
  rcases List.mem_append.mp hv with z | z
  · exact (al v z).keep (.same s)
  · rw [List.mem_singleton.mp z]
    exact hx
theorem rep_bl2 {K : PySem.W.Frag} {H : Hp} (b : Bool) : Rep K H (.bl b) (.bl b) [] := by
  simp [Rep]
theorem bl_wt (b : Bool) : wt (.bl b) ≤ 10000000 ∧ dep (.bl b) ≤ 30 := by
  constructor
  · simp only [wt]
    decide
  · simp only [dep]
    decide
theorem rep_two {K : PySem.W.Frag} {H : Hp} {d1 d2 : Sw.D} {x1 x2 : V} {a1 a2 : List Addr} {g : Addr} (h1 : Rep K H d1 x1 a1) (h2 : Rep K H d2 x2 a2) (ng : H g = none) : Rep K (upd H g (.lst [x1, x2])) (.lst [d1, d2]) (.ref g) (g :: (a1 ++ (a2 ++ []))) := by
  have ra : RepAll K H [d1, d2] [x1, x2] (a1 ++ (a2 ++ [])) := by
    rw [RepAll]
    refine ⟨_, _, a1, _, rfl, h1, ?_, rfl⟩
    rw [RepAll]
    refine ⟨_, _, a2, [], rfl, h2, ?_, rfl⟩
    rw [RepAll]
    exact ⟨rfl, rfl⟩
  rw [Rep]
  exact ⟨g, _, _, rfl, upd_same, ra.same (same_new ng), nmem ra ng, rfl⟩
/-! ### what is right of any data -/
def tabOf : Sw.D → List (List Nat)
  | .tup ds => ds.map rowN
  | _ => []
theorem tabOf_tab (T : List (List Nat)) : tabOf (tabD T) = T := by
  show ((T.map intR).map tupI).map rowN = T
  rw [List.map_map, List.map_map]
  refine (List.map_congr_left fun r _ => ?_).trans (List.map_id _)
  show ((intR r).map Sw.D.int).map (fun e => (toI e).toNat) = r
  unfold intR
  rw [List.map_map, List.map_map]
  refine (List.map_congr_left fun n _ => ?_).trans (List.map_id _)
  rfl
def ansD (A : List (Nat × Nat)) (d : Sw.D) : Bool := isTabD d && rightN A (tabOf d)
theorem ans_tab {A : List (Nat × Nat)} {T : List (List Nat)} (TP : TabP T) : ansD A (tabD T) = rightN A T := by
  unfold ansD
  rw [tabD_is TP, tabOf_tab, Bool.true_and]
theorem ans_no {A : List (Nat × Nat)} {d : Sw.D} (h : isTabD d = false) : ansD A d = false := by
  unfold ansD
  rw [h, Bool.false_and]
def spAreAny (K : PySem.W.Frag) : Sp := fun vs H Q E => spAreNames vs H Q E ∨ spNoNames K vs H Q E
theorem are_any {K : PySem.W.Frag} {H : Hp} {a b : Addr} {ts : List V} {ars : List (Int × Int)} {x : V} {dd : Sw.D} {as : List Addr} {Q : VK} {E : XK} (N : NetAt 5 H a b ts) (A : ArsAt H ts ars) (R : Rep K H dd x as) (hw : wt dd ≤ 100000)
    (q : ∀ H', Same H H' → Q (.bl (ansD (ars.map toN) dd)) H') : spAreAny K [.ref a, x] H Q E := by
  cases e : isTabD dd with
  | false =>
    rw [ans_no e] at q
    exact .inr ⟨a, x, dd, as, rfl, R, hw, e, q⟩
  | true =>
    obtain ⟨t, us, T, rfl, rfl, TA, TP⟩ := rep_tab R e
    rw [ans_tab TP, ← names_is_right TP (ars_nat N.arr A rfl).1] at q
    exact .inl ⟨a, b, t, ts, ars, us, T, rfl, N, A, TA, TP, q⟩
/-- the deck, a net of five, two tables -/
structure Ix9 where
  p : Addr
  d : Addr
  a : Addr
  b : Addr
  to : Addr
  tq : Addr
  ts : List V
  ars : List (Int × Int)
  us : List Addr
  ws : List Addr
  T : List (List Nat)
  Bt : List (List Nat)
  t : Int
  s0 : Option V
structure M9 (tb : Addr) (i : Ix9) (H : Hp) : Prop where
  S : NetS i.p i.d tb H i.a i.b 5 i.ts i.ars
  J : Joined 5 i.ars
  F : FiveP 5 i.ars
  ck : chkN (i.ars.map toN) = true
  TO : TabAt H i.to i.us i.T
  TP : TabP i.T
  TQ : TabAt H i.tq i.ws i.Bt
  TPq : TabP i.Bt
section
variable {tb C D : Addr} {i : Ix9} {H H' Hx : Hp}
theorem M9.ext (M : M9 tb i H) (x : ExtN H H') (T : Tabs (lamT tb) H') : M9 tb i H' := ⟨M.S.ext x T, M.J, M.F, M.ck, M.TO.keep (TupS.extN x), M.TP, M.TQ.keep (TupS.extN x), M.TPq⟩
theorem M9.same (M : M9 tb i H) (s : Same H H') : M9 tb i H' := ⟨M.S.same s, M.J, M.F, M.ck, M.TO.keep (.of s), M.TP, M.TQ.keep (.of s), M.TPq⟩
theorem M9.kpl (M : M9 tb i H) (D' : DeckL H' i.p i.d) (k : KpL i.p i.d H H') : M9 tb i H' := ⟨M.S.kpl D' k, M.J, M.F, M.ck, M.TO.keep (TupS.kpl M.S.D k), M.TP, M.TQ.keep (TupS.kpl M.S.D k), M.TPq⟩
theorem M9.outs {E : XK} (M : M9 tb i H) : Outs tb C D 5 i.ars Hx E := ⟨fun nj => (nj M.J).elim, fun _ _ _ _ _ KP ne => (ne (KP.uniq (five_kind M.F))).elim⟩
theorem tabs_lst {T : List (Addr × Str)} {l : Addr} {vs ws : List V} (h : Tabs T H) (hl : H l = some (.lst vs)) : Tabs T (upd H l (.lst ws)) := fun q hq => by
  obtain ⟨ps, h1, h2, h3⟩ := h q hq
  refine ⟨ps, ?_, h2, fun pos cv hc => ?_⟩
  · rw [upd_ne fun z => by rw [z, hl] at h1; cases h1]
    exact h1
  · obtain ⟨c, g1, g2⟩ := h3 pos cv hc
    refine ⟨c, g1, ?_⟩
    rw [upd_ne fun z => by
      rw [z, hl] at g2
      have g : HO.lst _ = HO.ext _ := Option.some.inj g2
      cases g]
    exact g2
theorem M9.lst {l : Addr} {vs ws : List V} (M : M9 tb i H) (n1 : l ≠ i.p) (n2 : l ≠ i.d) (hl : H l = some (.lst vs)) : M9 tb i (upd H l (.lst ws)) := by
  have tu : TupS H (upd H l (.lst ws)) := TupS.upd fun xs z => by
    rw [hl] at z
    cases z
  exact ⟨⟨deck_lst M.S.D n1 n2, tabs_lst M.S.T hl, M.S.N.keep tu, M.S.A.keep tu⟩, M.J, M.F, M.ck, M.TO.keep tu, M.TP, M.TQ.keep tu, M.TPq⟩
theorem hold_any {K : PySem.W.Frag} {x : V} {dd : Sw.D} {as : List Addr} {Q : VK} {E : XK} (M : M9 tb i H) (R : Rep K H dd x as) (hU : ∀ c ∈ as, Off2 i.p i.d c) (hw : wt dd ≤ 100000)
    (q : ∀ H', ExtN H H' → Tabs (lamT tb) H' → Q (.bl (ansD (i.ars.map toN) dd)) H') : spHold tb C D K [.ref i.a, x] H Q E := by
  have keep : ∀ H', ExtN H H' → ∃ as, Rep K H' dd x as := fun H' e => ⟨as, R.keep fun c hc o eo => e c o eo fun ps z => R.ntbl c hc ps (by rw [eo, z])⟩
  refine ⟨i.a, i.b, 5, i.ts, i.ars, x, dd, rfl, M.S.N, M.S.A, M.S.T, M.outs, keep, hw, fun _ _ => ?_⟩
  cases e : isTabD dd with
  | false =>
    rw [ans_no e] at q
    exact .inl ⟨rfl, q⟩
  | true =>
    obtain ⟨t, us, T, rfl, rfl, TA, TP⟩ := rep_tab R e
    rw [ans_tab TP] at q
    exact .inr ⟨t, us, T, rfl, rfl, TA, TP, q⟩
end
def spHoldAny (tb : Addr) (K : PySem.W.Frag) : Sp := fun vs H Q _ => ∃ (i : Ix9) (x : V) (dd : Sw.D) (as : List Addr), vs = [.ref i.a, x] ∧ M9 tb i H ∧ Rep K H dd x as ∧ (∀ c ∈ as, Off2 i.p i.d c) ∧ wt dd ≤ 100000 ∧
  ∀ H', ExtN H H' → Tabs (lamT tb) H' → Q (.bl (ansD (i.ars.map toN) dd)) H'
theorem hold_imp {tb C D : Addr} {K : PySem.W.Frag} {vs : List V} {H : Hp} {Q : VK} {E : XK} (h : spHoldAny tb K vs H Q E) : spHold tb C D K vs H Q E := by
  obtain ⟨i, x, dd, as, rfl, M, R, hU, hw, q⟩ := h
  exact hold_any M R hU hw q
end Sw
namespace Sw
open PySem PySem.Spec PyProof.Rows L2 LamX
/-! ### the end of a law whose program makes lambdas: one code object's table is tracked -/
/-- the script and the table are known -/
def lamH (a tb : Addr) (u : Option HO) : Hp := fun b => if b = tb then some (.tbl #[]) else if b = a then u else none
theorem lamH_tb {a tb : Addr} {u : Option HO} : lamH a tb u tb = some (.tbl #[]) := if_pos rfl
theorem lamH_a {a tb : Addr} {u : Option HO} (h : a ≠ tb) : lamH a tb u a = u := (if_neg h).trans (if_pos rfl)
theorem lamH_else {a b tb : Addr} {u : Option HO} (h1 : b ≠ tb) (h2 : b ≠ a) : lamH a tb u b = none := (if_neg h1).trans (if_neg h2)
theorem call_lawT {P : Program} {w : World} {K : PySem.W.Frag} {mg mb : Str → Option Value} {fa a c tb : Addr} {s₁ : Shared} {vs : List Value} {ns : List Int} (kin : K.In s₁.heap) (hmg : s₁.heap.Ns mainGlobals mg) (hmb : s₁.heap.Ns builtinsNs mb)
    (hboot : ∀ x : Str, x ≠ "__name__" → mb x = bootBuiltins x) (nolim : s₁.heap.NoLimit) (hgen : s₁.gens = #[])
    (ht : s₁.heap.get? tb = some (PySem.W.tabObj #[])) (nt : K.lookup tb = none) (hc : PySem.W.CodeHd s₁.heap c tb)
    (hbm : ∃ (bm : Addr) (ob : Obj), mg "__builtins__" = some (.ref bm) ∧ bm ≠ builtinsNs ∧ s₁.heap.get? bm = some ob ∧ ob.cls = .type "module" ∧ ob.dict = some builtinsNs ∧ ob.data = .plain)
    (ha : s₁.heap.get? a = some { cls := .type "list", data := .seq vs.toArray }) (hi : IntsAre vs ns) (hlen : ns.length ≤ 63)
    (run : ∀ (base : Heap) (H : Hp), K.In base → base.Ns mainGlobals mg → Env0 P w K mg base callerA [] s₁ H → TabB base mg c tb → H tb = some (.tbl #[]) → SqL K H a (ns.map V.int) →
      codeAny (model P w) callerA (.call (.ref fa) ⟨[.ref a], []⟩) (CR CX0 [] P w H s₁ (fun v _ => v = .bl true) fun _ _ _ => False) s₁) :
    codeAny (model P w) callerA (.call (.ref fa) ⟨[.ref a], []⟩) (fun r s' => r = .ok (.ret (.bool true)) ∧ OldK s₁.heap s'.heap ∧ s'.os = s₁.os ∧ AllBare s'.gens) s₁ := by
  have rv := vals_ints hi
  have le63 : ns.length ≤ sizeLine := by
    rw [sizeLine_eq]
    omega
  have ne : a ≠ tb := fun z => by
    rw [z, ht] at ha
    cases ha
  have go : ∀ u : Option HO, (u = none ∨ (K.lookup a = none ∧ u = some (.frz { cls := .type "list", data := .seq vs.toArray } (.lst (ns.map V.int))))) → SqL K (lamH a tb u) a (ns.map V.int) →
      codeAny (model P w) callerA (.call (.ref fa) ⟨[.ref a], []⟩) (fun r s' => r = .ok (.ret (.bool true)) ∧ OldK s₁.heap s'.heap ∧ s'.os = s₁.os ∧ AllBare s'.gens) s₁ := by
    intro u only sq
    generalize eH : lamH a tb u = H at sq
    have atT : H tb = some (.tbl #[]) := eH ▸ lamH_tb
    have each : ∀ b, H b = none ∨ b = tb ∨ (b = a ∧ K.lookup a = none ∧ H a = some (.frz { cls := .type "list", data := .seq vs.toArray } (.lst (ns.map V.int)))) := fun b => by
      by_cases q : b = tb
      · exact .inr (.inl q)
      · by_cases z : b = a
        · rcases only with e | ⟨e1, e2⟩
          · exact .inl (by rw [z, ← eH, lamH_a ne, e])
          · exact .inr (.inr ⟨z, e1, by rw [← eH, lamH_a ne, e2]⟩)
        · exact .inl (by rw [← eH, lamH_else q z])
    -- what is neither a list nor a table without entries is not tracked
    have bare : ∀ {b : Addr} {o : Obj}, s₁.heap.get? b = some o → (∀ l n, o.data ≠ .seq l n) → o.data ≠ .fields #[] → H b = none := by
      intro b o e n1 n2
      rcases each b with q | rfl | ⟨rfl, _⟩
      · exact q
      · rw [ht] at e
        cases e
        exact (n2 rfl).elim
      · rw [ha] at e
        cases e
        exact (n1 _ _ rfl).elim
    have plain : ∀ {b : Addr} {o : Obj} {es : Array DictEntry} {ep : Nat}, s₁.heap.get? b = some o → o.data = .dict es ep → H b = none := fun e dd => bare e (fun l n z => by rw [dd] at z; cases z) fun z => by rw [dd] at z; cases z
    have spaces : ∀ {b : Addr} {m : Str → Option Value}, s₁.heap.Ns b m → (hidT s₁.heap H).Ns b m := by
      rintro b m ⟨o, es, ep, e, dd, r⟩
      exact ⟨o, es, ep, hidT_get e (plain e dd), dd, r⟩
    have kin' : K.In (hidT s₁.heap H) := by
      intro b o e
      refine hidT_get (kin b o e) ?_
      rcases each b with q | rfl | ⟨rfl, n, _⟩
      · exact q
      · rw [nt] at e
        cases e
      · rw [n] at e
        cases e
    have hok : HOk P w H s₁.heap := by
      intro b y e
      rcases each b with q | rfl | ⟨rfl, _, q⟩
      · rw [q] at e
        cases e
      · rw [atT] at e
        cases e
        exact ht
      · rw [q] at e
        cases e
        exact ⟨ha, by rw [List.length_map]; exact le63, vs, _, rv, ha⟩
    have tabs : TabB (hidT s₁.heap H) mg c tb := by
      refine ⟨?_, ?_, fun z => ?_⟩
      · obtain ⟨o, us, file, tf, flags, tg, inF, text, tt, e1, r1, r2, r3, r4, r5, r6, r7, r8, r9⟩ := hc
        refine ⟨o, us, file, tf, flags, tg, inF, text, tt, hidT_get e1 (bare e1 (fun l n z => ?_) fun z => ?_), r1, r2, r3, r4, r5, r6, r7, r8, r9⟩
        · rw [r2] at z
          cases z
        · rw [r2] at z
          cases z
          simp at r3
      · obtain ⟨bm, ob, b1, b2, b3, b4, b5, b6⟩ := hbm
        refine ⟨bm, ob, b1, b2, fun q => ?_, fun q => ?_, hidT_get b3 (bare b3 (fun l n z => ?_) fun z => ?_), b4, b5, b6⟩
        · obtain ⟨o, es, ep, e, hd, _⟩ := hmg
          rw [q, e] at b3
          cases b3
          rw [hd] at b6
          cases b6
        · rw [q, ht] at b3
          cases b3
          cases b6
        · rw [b6] at z
          cases z
        · rw [b6] at z
          cases z
      · obtain ⟨o, es, ep, e, hd, _⟩ := hmg
        rw [z, ht] at e
        cases e
        cases hd
    obtain ⟨ml, l1, l2⟩ := nolim
    have ev : Env0 P w K mg (hidT s₁.heap H) callerA [] s₁ H :=
      ⟨rfl, ⟨kin', spaces hmg, ⟨mb, spaces hmb, hboot⟩, ⟨ml, spaces l1, l2⟩⟩, fun _ _ z => of_hidT z, Nat.le_of_eq (hidT_size _ _), trivial, fun b z => (by cases z), hok, .of_eq hgen⟩
    refine codeAny_mono (run _ H kin' (spaces hmg) ev tabs atT sq) fun r s' hr => ?_
    rcases r with e | fl
    · exact False.elim hr
    rcases fl with _ | _ | _ | x
    all_goals first | exact False.elim hr | skip
    obtain ⟨v, H', os, bare', un, hok', ru, rfl⟩ := hr
    obtain rfl : x = Value.bool true := ru
    obtain ⟨more, gz⟩ := un.tbls tb #[] atT
    have grown : s'.heap.get? tb = some { cls := .none, data := .fields more } := by
      have := hok' tb _ gz
      rw [Array.empty_append] at this
      exact this
    have keeps : ∀ b o, b ≠ tb → s₁.heap.get? b = some o → s'.heap.get? b = some o := fun b o nb e => by
      rcases each b with q | q | ⟨rfl, _, q⟩
      · exact un.keep b o e q (fun z => by cases z) (fun z => by simp at z)
      · exact (nb q).elim
      · have old := (hok _ _ q).1
        have new := (hok' _ _ (un.frzs _ _ _ q)).1
        rw [e] at old
        cases old
        exact new
    refine ⟨rfl, ⟨fun b o e => ?_, fun b o e => ?_⟩, os, bare'⟩
    · by_cases hb : b = tb
      · subst hb
        rw [ht] at e
        cases e
        exact .inr (.inl ⟨(hc.tab ht).isCodeTable, rfl, #[], more, rfl, by rw [Array.empty_append]; exact grown⟩)
      · exact .inl (keeps b o hb e)
    · by_cases hb : b = tb
      · subst hb
        exact ⟨_, grown⟩
      · exact ⟨o, keeps b o hb e⟩
  cases z : K.lookup a with
  | none => exact go _ (.inr ⟨z, rfl⟩) (.inl (.inr ⟨_, lamH_a ne⟩))
  | some o =>
    have e := kin a o z
    rw [ha] at e
    cases e
    exact go none (.inl rfl) (.inr ⟨_, vs.toArray, _, z, rfl, rfl, rfl, by rw [List.size_toArray, hi.length]; exact le63, by simpa using rv⟩)
/-- the code object and the table of a def of the text -/
theorem tab_hd {K : PySem.W.Frag} {y : Str} {f c tb : Addr} {o1 o2 : Value} {d1 d2 : Option Addr} {fd : FuncData} {l1 l2 : Array (Option Value)} {us : Array Value} (_ : PySem.W.nsIn K mainGlobals y = some (some (.ref f))) (_ : K.lookup f = some ⟨o1, d1, .func fd, l1⟩)
    (_ : fd.code = .ref c) (_ : K.lookup c = some ⟨o2, d2, .fields us, l2⟩) (_ : us[11]? = some (.ref tb)) (h : PySem.W.codeHdIn K c tb = true) : PySem.W.codeHdIn K c tb = true := h
theorem walk_lawT {l : PySem.W.OpenLaw} {q : Program} {loose : List Str} {XP : (Str → Option Value) → Heap → Prop} {YP : World → Heap → Prop} {d : DefRec} {K : Params → PySem.W.Frag} {ts : List Addr} (hn : l.most = some 63) (hdf : d.params.defaults = [])
    (hY : ∀ (w : World) (h : Heap), YP w h → (K w.params).In h) (hP : ∀ (w : World) (h : Heap), YP w h → ∀ tb ∈ ts, h.get? tb = some (PySem.W.tabObj #[]))
    (F : ∀ (w : World) (mg : Str → Option Value) (fa : Addr) (h : Heap), (K w.params).In h → h.Ns mainGlobals mg → mg d.name = some (.ref fa) →
      ∃ c tb : Addr, PySem.W.codeHdIn (K w.params) c tb = true ∧ tb ∈ ts ∧ (K w.params).lookup tb = none ∧
      ∀ (base : Heap) (s₁ : Shared) (H : Hp) (a : Addr) (ns : List Int), Env0 l.prog w (K w.params) mg base callerA [] s₁ H → TabB base mg c tb → H tb = some (.tbl #[]) → SqL (K w.params) H a (ns.map V.int) → ns.length ≤ 63 →
        codeAny (model l.prog w) callerA (.call (.ref fa) ⟨[.ref a], []⟩) (CR CX0 [] l.prog w H s₁ (fun v _ => v = .bl true) fun _ _ _ => False) s₁) :
    PySem.W.WalkO q loose XP YP l.row.toRowW d [] (fun f vs => PySem.call f vs) := by
  refine Att.attach_call hn hdf fun w s₀ s₁ mg mb fa o pm cd doc a vs ns G Y _ _ _ hmg hobj hints hlen hg => ?_
  have KX := hY w _ Y
  obtain ⟨c, tb, h1, hm, h2, run⟩ := F w mg fa _ KX G.T.g hmg
  exact call_lawT KX G.T.g G.T.b G.T.builtins G.T.nolimit hg (hP w _ Y tb hm) h2 (PySem.W.codeHd_of_K KX h1) G.T.bmain hobj hints hlen fun base H _ _ ev tbs at_ sq => run base s₁ H a ns ev tbs at_ sq hlen
/-- a def of the text stands behind the top by its name, its code object told -/
def HasC (K : PySem.W.Frag) (mg : Str → Option Value) (x : Str) (st : Stmt) (c : Addr) : Prop := ∃ f fd, FunC K x x st f fd c ∧ mg x = some (.ref f)
theorem hasC_mk {K : PySem.W.Frag} {mg : Str → Option Value} {h : Heap} {x : Str} {st : Stmt} {f c : Addr} {oc kV dc pm ct : Value} {od an : Option Addr} {sl : Array (Option Value)} (X : K.In h) (G : h.Ns mainGlobals mg) (a : PySem.W.nsIn K mainGlobals x = some (some (.ref f)))
    (l : K.lookup f = some ⟨oc, od, .func (PySem.W.fnOf x x (defArgs st) (defBody st) (defScope st) .none kV dc pm an (.ref c) ct), sl⟩) (c' : PySem.W.codeIn K (.ref c) x = true) (k : PySem.W.keepIn K (.ref f) = true) : HasC K mg x st c :=
  ⟨f, _, ⟨⟨oc, od, kV, dc, pm, an, ct, sl, rfl, l, c'⟩, k⟩, PySem.W.mg_of X G a⟩
theorem HasC.own {P : Program} {w : World} {K : PySem.W.Frag} {mg : Str → Option Value} {base : Heap} {k : Nat} {x : Str} {st : Stmt} {ps : List Str} {sp : Sp} {c : Addr} (hs : HasC K mg x st c) (ok : ∀ f fd, FunC K x x st f fd c → FnOk P w K mg base CX0 k f fd ps sp)
    (b : ∀ (kV doc pm : Value) (an : Option Addr) (cdv ct : Value) (us : List Value), us.length = ps.length → bindArgs (PySem.W.fnOf x x (defArgs st) (defBody st) (defScope st) .none kV doc pm an cdv ct) ⟨us, []⟩ = pure (ps.zip us)) : Own P w K mg base k x ps sp := by
  obtain ⟨f, fd, F, m⟩ := hs
  exact ⟨f, fd, ok f fd F, m, F.fun.kp, F.fun.binds b⟩
end Sw
namespace Sw
open PySem PySem.Spec PyProof.Rows L2
/-! ### the deck is laid -/
abbrev sDeckL : Stmt := top 35
abbrev nDeckL : List Str := ["script", "cells", "stirred", "cell"]
theorem scDeckL : FnScope nDeckL ["script"] (defScope sDeckL) := ⟨rfl, rfl, rfl, by decide +kernel, rfl, by decide +kernel, by decide +kernel⟩
theorem cut_intL (ns : List Int) (lo hi : Option Int) : ∃ ms : List Int, cutV (ns.map V.int) lo hi = ms.map V.int ∧ ms.length ≤ ns.length := by
  unfold cutV
  rw [← List.map_drop, ← List.map_take]
  refine ⟨_, rfl, ?_⟩
  rw [List.length_take, List.length_drop]
  omega
section
variable {P : Program} {w : World} {K : PySem.W.Frag} {mg : Str → Option Value} {base : Heap}
def spDeckL (K : PySem.W.Frag) : Sp := fun vs H Q _ => ∃ (a : Addr) (ns : List Int), vs = [.ref a] ∧ SqL K H a (ns.map V.int) ∧ ns.length ≤ 63 ∧ ∀ (p d : Addr) (H' : Hp), Same H H' → H p = none → H d = none → DeckL H' p d → Q (.ref p) H'
theorem ok_deckL {f : Addr} {fd : FuncData} (F : Fun K "_law_deck" "_law_deck" sDeckL f fd) (B : NoNames mg) : FnOk P w K mg base CX0 1 f fd ["script"] (spDeckL K) := by
  refine F.ok scDeckL (fun vs H Q E h => ?_) (fun cdv A outer s H vs Q E hr h => ?_)
  · obtain ⟨a, ns, rfl, _⟩ := h
    rfl
  · obtain ⟨a, ns, rfl, hS, hl, k⟩ := h
    refine ⟨_, pss_cons (ps_par (i := 1) (j := 2) rfl scDeckL.nd rfl rfl (by decide) rfl rfl (pa_cons (pe_lc (own := [("cell", 3)]) (g := gName 3) (tt := tYes) rfl scDeckL.nd (pi_list (pe_slice sl_list (pv 0) po_none (po_some pe_int))) (blkOk_by (own := [("cell", 3)]) (N := nDeckL) (sc := defScope sDeckL) (by decide +kernel))
          (fun _ _ _ _ _ => pg_name (i := 3) scDeckL.nd rfl (Or.inl rfl)) (fun _ _ _ _ _ => pts_nil) (fun _ _ _ _ _ => pe_ifExp (pt_cmpR op_ge (pv 3) pe_int (nomark _)) (pe_op op_mul pe_int (pv 3)) (pe_op op_sub (pe_op op_mul (pe_un un_neg pe_int) (pv 3)) pe_int)))
        (pa_cons (pe_op op_add pe_int (pe_callB call_len_seq (by rfl) B.len PySem.boot_len (pa_cons (pv 0) pa_nil))) pa_nil)) (by rfl)) <|
      pss_cons (ps_for PassesOwn.never rfl (pi_list (pv 1)) (pg_name (i := 3) scDeckL.nd rfl (.inl rfl))
        (pss_one (ps_set (i := 2) scDeckL.nd rfl (.inl rfl) (pe_op op_mod (pe_callTy call_int1 (by rfl) B.int (by decide +kernel) (pa_cons (pe_op op_add (pe_op op_mul (pv 2) pe_int) (pv 3)) pa_nil)) pe_int)))) <|
      pss_one (ps_ret (pe_lst (pa_cons (pe_lc (own := [("cell", 3)]) (g := gName 3) rfl scDeckL.nd (pi_list (pv 1)) (blkOk_by (own := [("cell", 3)]) (N := nDeckL) (sc := defScope sDeckL) (by decide +kernel))
          (fun _ _ _ _ _ => pg_name (i := 3) scDeckL.nd rfl (Or.inl rfl)) (fun _ _ _ _ _ => pts_one (pt_cmpR op_ge (pv 3) (pe_op op_pow pe_int pe_int) (nomark _))) (fun _ _ _ _ _ => pv 3))
        (pa_cons (pv 2) (pa_cons pe_int pa_nil))))), ?_⟩
    obtain ⟨ms, em, lm⟩ := cut_intL ns none (some 63)
    refine ⟨_, rfl, 63, rfl, a, ns.map V.int, rfl, hS, fun c nc => ?_⟩
    rw [em]
    have sc := same_new (o := .lst (ms.map V.int)) nc
    refine ⟨c, rfl, ⟨_, SqL.of upd_same⟩, fun D nD => ?_⟩
    refine lc_it (walk_list (xs := ms.map V.int)) (fun i H' => ∃ os : List Int, H' D = some (.lst (os.map V.int)) ∧ os.length = i ∧ Same (upd H c (.lst (ms.map V.int))) H') ⟨[], upd_same, rfl, same_new nD⟩ (fun i H' _ h => by obtain ⟨_, _, _, e⟩ := h; exact SqL.of (e _ _ upd_same)) ?_ ?_
    · rintro i x Hb Ha hi ⟨os, g1, g2, g3⟩ ⟨rfl, ex⟩
      obtain ⟨z, ez, rfl⟩ := int_at ex
      rw [List.length_map] at hi
      have fin : ∀ y : Int, ∃ acc, Ha D = some (.lst acc) ∧ acc.length < sizeLine ∧ ∃ os : List Int, (upd Ha D (.lst (acc ++ [.int y]))) D = some (.lst (os.map V.int)) ∧ os.length = i + 1 ∧ Same (upd H c (.lst (ms.map V.int))) (upd Ha D (.lst (acc ++ [.int y]))) := fun y =>
        ⟨_, g1, by rw [List.length_map, g2, sizeLine_eq]; omega, os ++ [y], by rw [upd_same, List.map_append]; rfl, by rw [List.length_append, g2]; rfl, fun b o e => by
          rw [upd_ne (ne_of_none e nD)]
          exact g3 _ _ e⟩
      refine ⟨rfl, ?_⟩
      dsimp only [tYes]
      rw [if_pos rfl]
      refine ⟨_, rfl, _, _, rfl, rfl, _, rfl, ite2 (fun _ => ?_) (fun _ => ?_)⟩
      · exact ⟨_, rfl, _, _, rfl, rfl, .inl ⟨by decide, by decide⟩, fin _⟩
      · exact ⟨2, rfl, _, rfl, _, _, rfl, rfl, .inl ⟨by decide, by decide⟩, _, _, rfl, rfl, fin _⟩
    · rintro Ha ⟨os, g1, g2, g3⟩
      rw [List.length_map] at g2
      have s2 := sc.trans g3
      refine ⟨_, rfl, a, _, rfl, .inl (s2.seq hS), _, _, rfl, rfl, _, _, rfl, ?_⟩
      have nD0 : H D = none := sc.free nD
      have lo : os.length ≤ 63 := by omega
      refine ⟨_, rfl, D, rfl, ⟨_, SqL.of g1⟩, for_it (walk_list (xs := os.map V.int)) (fun i σ H' => (∃ (st : Int) (s3 : Option V), σ = [some (.ref a), some (.ref D), some (.int st), s3]) ∧ H' = Ha) ⟨⟨_, _, rfl⟩, rfl⟩ (fun i σ H' _ h => by rw [h.2]; exact SqL.of g1) ?_ ?_⟩
      · rintro i x σ H5 H6 hi ⟨⟨st, s3, rfl⟩, rfl⟩ ⟨rfl, ex⟩
        obtain ⟨z, ez, rfl⟩ := int_at ex
        exact ⟨_, rfl, _, _, rfl, rfl, .inr ⟨by decide, by decide⟩, _, rfl, _, _, rfl, rfl, .inl ⟨_, rfl, _, _, rfl, rfl, (by show (0 : Int) < 4294967291; decide), ⟨_, _, rfl⟩, rfl⟩⟩
      · rintro σ H5 ⟨⟨st, s3, rfl⟩, rfl⟩
        refine ⟨_, rfl, D, rfl, ⟨_, SqL.of g1⟩, fun d nd => ?_⟩
        refine lc_it (walk_list (xs := os.map V.int)) (fun i H' => ∃ qs : List Int, H' d = some (.lst (qs.map V.int)) ∧ qs.length ≤ i ∧ Same H5 H') ⟨[], upd_same, Nat.le_refl _, same_new nd⟩ (fun i H' _ h => by obtain ⟨_, _, _, e⟩ := h; exact SqL.of (e _ _ g1)) ?_ ?_
        · rintro i x Hb Hc hi ⟨qs, q1, q2, q3⟩ ⟨rfl, ex⟩
          obtain ⟨z, ez, rfl⟩ := int_at ex
          rw [List.length_map] at hi
          refine ⟨rfl, ?_⟩
          refine ⟨_, rfl, 10, 15, rfl, rfl, ⟨by decide, by decide, by decide⟩, _, _, rfl, rfl, _, rfl, ite2 (fun _ => ?_) (fun _ => ⟨qs, q1, by omega, q3⟩)⟩
          refine ⟨_, rfl, _, q1, by rw [List.length_map, sizeLine_eq]; omega, qs ++ [z], by rw [upd_same, List.map_append]; rfl, by rw [List.length_append]; simp only [List.length_cons, List.length_nil]; omega, fun b o e => ?_⟩
          rw [upd_ne (ne_of_none e nd)]
          exact q3 _ _ e
        · rintro Hc ⟨qs, q1, q2, q3⟩
          rw [List.length_map] at q2
          refine ⟨_, rfl, by show 3 ≤ sizeLine; decide, fun p np => ?_⟩
          have sp := same_new (o := .lst [.ref d, .int st, .int 0]) np
          exact k p d _ (s2.trans (q3.trans sp)) (s2.free (q3.free np)) (s2.free nd) ⟨qs, st, 0, upd_same, sp _ _ q1, by omega⟩
end
end Sw
namespace Sw
open PySem PySem.Spec PyProof.Rows L2 LamX
/-! ### the law of names spoilt -/
abbrev sLaw19 : Stmt := top 53
abbrev nLaw19 : List Str := ["script", "deck", "turn", "net", "own", "bent", "things", "nth", "thing", "known", "due", "heard", "row"]
theorem scLaw19 : FnScope nLaw19 ["script"] (defScope sLaw19) := ⟨rfl, rfl, rfl, by decide +kernel, rfl, by decide +kernel, by decide +kernel⟩
def J3 (tb : Addr) : L2.St → Hp → Prop := fun σ H => ∃ (i : Ix9) (s6 s7 s8 s9 s10 s11 s12 : Option V), σ = [i.s0, some (.ref i.p), some (.int i.t), some (.ref i.a), some (.ref i.to), some (.ref i.tq), s6, s7, s8, s9, s10, s11, s12] ∧ M9 tb i H
def JT (K : PySem.W.Frag) (tb : Addr) (n : Nat) : L2.St → Hp → Prop := fun σ H => ∃ (i : Ix9) (l : Addr) (vs : List V) (s7 s8 s9 s10 s11 s12 : Option V), σ = [i.s0, some (.ref i.p), some (.int i.t), some (.ref i.a), some (.ref i.to), some (.ref i.tq), some (.ref l), s7, s8, s9, s10, s11, s12] ∧ M9 tb i H ∧
  l ≠ i.p ∧ l ≠ i.d ∧ H l = some (.lst vs) ∧ vs.length = n ∧ ∀ v ∈ vs, DKn K (Off3 i.p i.d l) 5000 4 H v
section
variable {P : Program} {w : World} {K : PySem.W.Frag} {mg : Str → Option Value} {base : Heap}
structure OwnsO (P : Program) (w : World) (K : PySem.W.Frag) (mg : Str → Option Value) (base : Heap) (tb : Addr) : Prop where
  deck : Own P w K mg base 1 "_law_deck" ["script"] (spDeckL K)
  five : Own P w K mg base 3 "_law_five" ["deck"] spLFiveR
  lnames : Own P w K mg base 5 "_law_names" ["net"] spLNames
  are : Own P w K mg base 4 "_law_are_names" ["net", "value"] (spAreAny K)
  bent : Own P w K mg base 3 "_law_bent" ["deck", "row"] spBentL
  exch : Own P w K mg base 1 "_law_exchanged" ["row", "one", "other"] spExch
  along : Own P w K mg base 4 "_law_along" ["deck", "net", "own"] (spAlong K)
  spoilt : Own P w K mg base 4 "_law_spoilt" ["deck", "rows"] (spSpoilt K)
  pick : Own P w K mg base 2 "_law_pick" ["deck", "items"] spPickL
  hold : OwnX2 P w K mg base 10 "names_hold" "net" "value" (spHoldAny tb K)
theorem law_body19 (B : NoNames mg) {tb : Addr} (O : OwnsO P w K mg base tb) {f : Addr} {cdv : Value} {A : Around} {outer : List Env} {s : Shared} {H : Hp} {vs : List V} {Q : VK} {E : XK}
    (hr : Room 10 (A.deeper (envOfC "law" (defScope sLaw19) s.heap.objs.size f cdv))) (hgd : (A.deeper (envOfC "law" (defScope sLaw19) s.heap.objs.size f cdv)).guards = some []) (hT : Tabs (lamT tb) H) (h : spLaw K vs H Q E) :
    ∃ t, PSs (cxOf CX0 P w K mg base nLaw19 "law" (defScope sLaw19) f cdv A outer s H E).nox (defBody sLaw19) t ∧ t { nx := fun _ H' => Q .non H', rt := Q } (start nLaw19 vs) H := by
  obtain ⟨fK, fdK, GK, mK, kK, bK⟩ := O.deck.ex
  obtain ⟨fV, fdV, GV, mV, kV, bV⟩ := O.five.ex
  obtain ⟨fL, fdL, GL, mL, kL, bL⟩ := O.lnames.ex
  obtain ⟨fA, fdA, GA, mA, kA, bA⟩ := O.are.ex
  obtain ⟨fB, fdB, GB, mB, kB, bB⟩ := O.bent.ex
  obtain ⟨fX, fdX, GX, mX, kX, bX⟩ := O.exch.ex
  obtain ⟨fO, fdO, GO, mO, kO, bO⟩ := O.along.ex
  obtain ⟨fS, fdS, GS, mS, kS, bS⟩ := O.spoilt.ex
  obtain ⟨fP, fdP, GP, mP, kP, bP⟩ := O.pick.ex
  obtain ⟨fH, fdH, GH, mH, kH, bH, wH⟩ := O.hold.ex
  obtain ⟨sa, ns, rfl, hS, hl, k⟩ := h
  have hr1 := hr.mono (j := 1) (by decide)
  have hr2 := hr.mono (j := 2) (by decide)
  have hr3 := hr.mono (j := 3) (by decide)
  have hr4 := hr.mono (j := 4) (by decide)
  have hr5 := hr.mono (j := 5) (by decide)
  refine ⟨_, pss_cons (ps_set (i := 1) scLaw19.nd rfl (.inr rfl) (pe_call GK hr1 rfl mK kK bK .nil pass0 (pa_cons (pv 0) pa_nil))) <|
    pss_cons (ps_for PassesOwn.never rfl (pi_range1 (by rfl) B.range (pa_cons pe_int pa_nil)) (pg_name (i := 2) scLaw19.nd rfl (.inl rfl))
      (pss_cons (ps_set (i := 3) scLaw19.nd rfl (.inl rfl) (pe_call GV hr3 rfl mV kV bV .nil pass0 (pa_cons (pv 1) pa_nil))) <|
       pss_cons (ps_set (i := 4) scLaw19.nd rfl (.inr rfl) (pe_call GL hr5 rfl mL kL bL .nil pass0 (pa_cons (pv 3) pa_nil))) <|
       pss_cons (ps_set (i := 5) scLaw19.nd rfl (.inr rfl) (pe_callTy call_tuple_of (by rfl) B.tuple (by decide +kernel) (pa_cons (pe_lc (own := [("row", 12)]) (g := gName 12) (tt := tYes) rfl scLaw19.nd (pi_tup (pv 4)) (blkOk_by (own := [("row", 12)]) (N := nLaw19) (sc := defScope sLaw19) (by decide +kernel))
         (fun _ _ _ _ _ => pg_name (i := 12) scLaw19.nd rfl (Or.inl rfl)) (fun _ _ _ _ _ => pts_nil) (fun _ _ _ _ _ => pe_call GB hr3 rfl mB kB bB .nil pass0 (pa_cons (pv 1) (pa_cons (pv 12) pa_nil)))) pa_nil))) <|
       pss_cons (ps_cut (J := (J3 tb)) (J' := (JT K tb 13)) (ps_set (i := 6) scLaw19.nd rfl (.inl rfl) (pe_lst (pa_cons (pv 4) (pa_cons (pv 5) (pa_cons (pe_callTy call_list_of (by rfl) B.list (by decide +kernel) (pa_cons (pv 4) pa_nil)) (pa_cons (pe_slice sl_tupC (pv 4) po_none (po_some pe_int)) (pa_cons (pe_op (r := rCatA K) op_catA (pv 4) (pe_tup (pa_cons (pe_ix (r := rIxT K) ix_tup (pv 4) pe_int (fun _ _ => rfl)) pa_nil))) (pa_cons (pe_revT (pv 4)) (pa_cons pe_non (pa_cons (pe_tup pa_nil) (pa_cons pe_int (pa_cons pe_str (pa_cons pe_dnewK (pa_cons (pe_op (r := rRepT K) op_repT (pe_tup (pa_cons (pe_tup pa_nil) pa_nil)) pe_int) (pa_cons (pe_lst (pa_cons (pe_lst pa_nil) pa_nil)) pa_nil))))))))))))))) ?ca) <|
       pss_cons (ps_cut (J := (JT K tb 13)) (J' := (JT K tb 14)) (ps_expr (pe_bm PySem.F.plainAttrs_list PySem.F.slot_list_append PySem.F.type_list_append mt_append (pv 6) (pa_cons (pe_callTy call_tuple_of (by rfl) B.tuple (by decide +kernel) (pa_cons (pe_lc (own := [("row", 12)]) (g := gName 12) (tt := tYes) rfl scLaw19.nd (pi_tup (pv 4)) (blkOk_by (own := [("row", 12)]) (N := nLaw19) (sc := defScope sLaw19) (by decide +kernel))
         (fun _ _ _ _ _ => pg_name (i := 12) scLaw19.nd rfl (Or.inl rfl)) (fun _ _ _ _ _ => pts_nil) (fun _ _ _ _ _ => pe_call GX hr1 rfl mX kX bX .nil pass0 (pa_cons (pv 12) (pa_cons pe_int (pa_cons pe_int pa_nil))))) pa_nil)) pa_nil))) ?cb) <|
       pss_cons (ps_cut (J := (JT K tb 14)) (J' := (JT K tb 15)) (ps_expr (pe_bm PySem.F.plainAttrs_list PySem.F.slot_list_append PySem.F.type_list_append mt_append (pv 6) (pa_cons (pe_op (r := rRepT K) op_repT (pe_tup (pa_cons (pe_tupRg rfl (by rfl) B.tuple (prg_1 (by rfl) B.range pe_int)) pa_nil)) pe_int) pa_nil))) ?cc) <|
       pss_cons (ps_cut (J := (JT K tb 15)) (J' := (JT K tb 20)) (ps_set (i := 6) scLaw19.nd rfl (.inl rfl) (pe_op op_cat (pv 6) (pe_call GO hr4 rfl mO kO bO .nil pass0 (pa_cons (pv 1) (pa_cons (pv 3) (pa_cons (pv 4) pa_nil)))))) ?cd) <|
       pss_cons (ps_cut (J := (JT K tb 20)) (J' := (JT K tb 32)) (ps_set (i := 6) scLaw19.nd rfl (.inl rfl) (pe_op op_cat (pv 6) (pe_lc (own := [("nth", 7)]) (g := gName 7) (tt := tYes) rfl scLaw19.nd (pi_range1 (by rfl) B.range (pa_cons pe_int pa_nil)) (blkOk_by (own := [("nth", 7)]) (N := nLaw19) (sc := defScope sLaw19) (by decide +kernel))
         (fun _ _ _ _ _ => pg_name (i := 7) scLaw19.nd rfl (Or.inl rfl)) (fun _ _ _ _ _ => pts_nil) (fun _ _ _ _ _ => pe_call GS hr4 rfl mS kS bS .nil pass0 (pa_cons (pv 1) (pa_cons (pe_call GP hr2 rfl mP kP bP .nil pass0 (pa_cons (pv 1) (pa_cons (pe_lst (pa_cons (pv 4) (pa_cons (pv 5) pa_nil))) pa_nil))) pa_nil)))))) ?ce) <|
       pss_one (ps_for PassesOwn.never rfl (pi_enum (by rfl) B.enumerate (pa_cons (pv 6) pa_nil)) (pg_tup rfl (pgs_cons (pg_name (i := 7) scLaw19.nd rfl (.inl rfl)) (pgs_cons (pg_name (i := 8) scLaw19.nd rfl (.inl rfl)) pgs_nil)))
         (pss_cons (ps_par (i := 9) (j := 10) rfl scLaw19.nd rfl rfl (by decide) rfl rfl (pa_cons (pe_callB (call_repr hr hgd) (by rfl) B.repr (by decide +kernel) (pa_cons (pe_lst (pa_cons (pv 3) (pa_cons (pv 8) pa_nil))) pa_nil)) (pa_cons (pe_callB (call_reprD hr hgd) (by rfl) B.repr (by decide +kernel) (pa_cons (pe_call GA hr4 rfl mA kA bA .nil pass0 (pa_cons (pv 3) (pa_cons (pv 8) pa_nil))) pa_nil)) pa_nil)) (by rfl)) <|
          pss_cons (ps_set (i := 11) scLaw19.nd rfl (.inl rfl) (pe_ifExp (pt_cmpR op_eq (pv 7) pe_int (nomark _)) (pe_callWS (E := fun _ _ _ _ => False) GH hr (by rfl) mH kH wH passF (pk_cons (pv 8) (pk_cons (pv 3) pk_nil))) (pe_callS (E := fun _ _ _ _ => False) GH hr (by rfl) mH kH bH passF (pa_cons (pv 3) (pa_cons (pv 8) pa_nil))))) <|
          pss_cons (ps_if (PW.pt (pw_or (pt_cmpR op_ne (pe_callB (call_reprD hr hgd) (by rfl) B.repr (by decide +kernel) (pa_cons (pv 11) pa_nil)) (pv 10) (nomark _)) (pw_or1 (pt_cmpR op_ne (pe_callB (call_repr hr hgd) (by rfl) B.repr (by decide +kernel) (pa_cons (pe_lst (pa_cons (pv 3) (pa_cons (pv 8) pa_nil))) pa_nil)) (pv 9) (nomark _))))) (pss_one (ps_ret pe_bl)) pss_nil) <|
          pss_one (ps_if (PW.pt (pw_and (pt_cmpR op_lt (pv 7) pe_int (nomark _)) (pw_and1 (pt_cmpR op_ne (pe_callB (call_reprD hr hgd) (by rfl) B.repr (by decide +kernel) (pa_cons (pe_callS (E := fun _ _ _ _ => False) GH hr (by rfl) mH kH bH passF (pa_cons (pv 3) (pa_cons (pv 8) pa_nil))) pa_nil)) (pv 10) (nomark _))))) (pss_one (ps_ret pe_bl)) pss_nil))))) <|
    pss_one (ps_ret pe_bl), ?_⟩
  case ca =>
    rintro D0 σ H1 ⟨i, s6, s7, s8, s9, s10, s11, s12, rfl, M⟩ nx
    have lus := M.TO.rows.len
    rw [List.length_map, M.TP.len] at lus
    refine ⟨_, rfl, _, rfl, _, rfl, i.to, _, rfl, .inr (SqT.of M.TO.tup), fun q1 n1 => ?_⟩
    have U1 := off2_ok M.S.D
    have R1 := rowsV_of M.TO M.TP
    have s1 := same_new (o := .lst (i.us.map V.ref)) n1
    have al : ∀ v ∈ ([] : List V), DKn K (Off2 i.p i.d) 5000 4 H1 v := fun _ h => (List.not_mem_nil h).elim
    have al := dk_snoc al (.refl _) (dk_tab (k := 2) U1 M.TO M.TP (by decide))
    have al := dk_snoc al (.refl _) (dk_tab (k := 2) U1 M.TQ M.TPq (by decide))
    have al := dk_snoc al s1 ((dk_lst (w := 39) (k := 1) U1 (rowsV_dk U1 R1 (by decide)) n1 s1 upd_same).le (by rw [List.length_map, lus]; decide) (by decide))
    have M := M.same s1
    generalize (upd H1 q1 (.lst (i.us.map V.ref))) = H2 at M al ⊢
    clear s1 n1 U1 R1
    have R2 := rowsV_of M.TO M.TP
    refine ⟨_, rfl, 4, rfl, i.to, _, rfl, M.TO.tup, fun q2 H3 s3 h3 => ?_⟩
    have M := M.same s3
    have R3 := R2.keep (.of s3)
    have U3 := off2_ok M.S.D
    have c3 := cutV_length (i.us.map V.ref) none (some 4)
    rw [List.length_map, lus] at c3
    have al := dk_snoc al s3 (dk_rowsV (k := 2) U3 (fun x hx => R3 x (cutV_mem hx)) h3 (by omega))
    clear s3 h3 c3
    obtain ⟨tr, _, av, htr⟩ := M.TO.row M.TP.len (v := 0) (by decide)
    refine ⟨_, rfl, _, rfl, i.to, _, 0, .ref tr, rfl, rfl, SqT.of M.TO.tup, av, by show 1 ≤ sizeLine; decide, fun t nt => ?_⟩
    have st := same_new (o := .tup [.ref tr]) nt
    refine cat_tup (st _ _ M.TO.tup) upd_same (by rw [List.length_map, lus]; show 5 + 1 ≤ 10000; decide) fun q3 H4 s4 h4 => ?_
    have s4 := st.trans s4
    have M := M.same s4
    have R4 := R3.keep (.of s4)
    have U4 := off2_ok M.S.D
    have al := dk_snoc al s4 (dk_rowsV (k := 2) U4 (fun x hx => (List.mem_append.mp hx).elim (R4 x) fun z => by
      rw [List.mem_singleton.mp z]
      exact ⟨tr, _, rfl, M.TP.row 0 (by decide), s4 _ _ htr⟩) h4 (by rw [List.length_append, List.length_map, lus]; show (5 + 1) * 41 + 3 ≤ 5000; decide))
    clear s4 h4 st nt av htr R3 U3
    refine ⟨_, rfl, i.to, _, rfl, SqT.of M.TO.tup, fun q4 n4 => ?_⟩
    have s5 := same_new (o := .tup (i.us.map V.ref).reverse) n4
    have M := M.same s5
    have R5 := R4.keep (.of s5)
    have al := dk_snoc al s5 (dk_rowsV (k := 2) (off2_ok M.S.D) (fun x hx => R5 x (List.mem_reverse.mp hx)) upd_same (by rw [List.length_reverse, List.length_map, lus]; decide))
    generalize (upd H4 q4 (.tup (i.us.map V.ref).reverse)) = H5 at M al R5 ⊢
    clear s5 n4 R4 U4
    have al := dk_snoc al (.refl _) (dk_non (by decide))
    refine ⟨Nat.zero_le _, fun q5 n5 => ?_⟩
    have s6 := same_new (o := .tup []) n5
    have M := M.same s6
    have al := dk_snoc al s6 (dk_row (L := []) (k := 3) (off2_ok M.S.D) (fun _ h => (List.not_mem_nil h).elim) upd_same (by decide))
    generalize (upd H5 q5 (.tup [])) = H6 at M al ⊢
    clear s6 n5 R5
    have al := dk_snoc al (.refl _) (dk_int (i := 5) (by decide) (by decide))
    have al := dk_snoc al (.refl _) (dk_str (s := "names") (by decide +kernel))
    refine fun q6 n6 => ?_
    have s7 := same_new (o := .dK []) n6
    have al := dk_snoc al s7 (dk_dct (k := 3) (off2_ok M.S.D) n6 (by decide) upd_same)
    have M := M.same s7
    generalize (upd H6 q6 (.dK [])) = H7 at M al ⊢
    clear s7 n6
    refine ⟨Nat.zero_le _, fun e me => ⟨by show 1 ≤ sizeLine; decide, fun g mg' => ⟨g, 5, _, rfl, rfl, SqT.of upd_same, by simp, by decide, by decide, by show 1 ≤ 1000; decide, fun q7 m7 => ?_⟩⟩⟩
    have se := same_new (o := .tup []) me
    have sg := same_new (o := .tup [.ref e]) mg'
    have sq := same_new (o := .tup (List.replicate (5 : Int).toNat [V.ref e]).flatten) m7
    have Mg := (M.same se).same sg
    have al := dk_snoc al (se.trans (sg.trans sq)) ((dk_tup (w := 3) (k := 1) (off2_ok Mg.S.D) (fun v hv => by
      obtain ⟨ys, hy, hz⟩ := List.mem_flatten.mp hv
      rw [(List.mem_replicate.mp hy).2] at hz
      rw [List.mem_singleton.mp hz]
      exact dk_row (L := []) (k := 0) (off2_ok Mg.S.D) (fun _ h => (List.not_mem_nil h).elim) (sg _ _ upd_same) (by decide)) m7 sq upd_same).le (by show 5 * (3 + 2) + 3 ≤ 5000; decide) (by decide))
    have M := Mg.same sq
    generalize (upd (upd (upd H7 e (.tup [])) g (.tup [.ref e])) q7 (.tup (List.replicate (5 : Int).toNat [V.ref e]).flatten)) = H8 at M al ⊢
    clear se sg sq Mg me mg' m7
    refine ⟨Nat.zero_le _, fun y my => ⟨by show 1 ≤ sizeLine; decide, fun q8 m8 => ⟨by show 13 ≤ sizeLine; decide, fun l ml => ?_⟩⟩⟩
    have sy := same_new (o := .lst []) my
    have s8 := same_new (o := .lst [.ref y]) m8
    have My := M.same sy
    have al := dk_snoc al (sy.trans s8) ((dk_lst (w := 3) (k := 1) (off2_ok My.S.D) (fun v hv => by
      rw [List.mem_singleton.mp hv]
      exact (dk_lst (w := 1) (k := 0) (off2_ok M.S.D) (fun _ h => (List.not_mem_nil h).elim) my sy upd_same).le (by decide) (by decide)) m8 s8 upd_same).le (by show 1 * (3 + 2) + 3 ≤ 5000; decide) (by decide))
    have M := My.same s8
    have sl := same_new (o := .lst [.ref i.to, .ref i.tq, .ref q1, .ref q2, .ref q3, .ref q4, .non, .ref q5, .int 5, .str "names", .ref q6, .ref q7, .ref q8]) ml
    have ol := M.S.D.off ml
    exact nx _ _ ⟨i, l, [.ref i.to, .ref i.tq, .ref q1, .ref q2, .ref q3, .ref q4, .non, .ref q5, .int 5, .str "names", .ref q6, .ref q7, .ref q8], _, _, _, _, _, _, rfl, M.same sl, ol.1, ol.2, upd_same, rfl, fun v hv => ((al v hv).off3 ml).keep (.same sl)⟩
  case cb =>
    rintro D0 σ H1 ⟨i, l, vs, s7, s8, s9, s10, s11, s12, rfl, M, n1, n2, hl, ln, al⟩ nx
    have lus := M.TO.rows.len
    rw [List.length_map, M.TP.len] at lus
    refine ⟨_, rfl, .inl ⟨rfl, _, SqL.of hl⟩, _, rfl, i.to, rfl, ⟨_, SqT.of M.TO.tup⟩, fun L nL => ?_⟩
    have sL := same_new (o := .lst []) nL
    refine lc_it (walk_tup (xs := i.us.map V.ref)) (fun j Z => ∃ (ws : List Addr) (Bt : List (List Nat)), Z L = some (.lst (ws.map V.ref)) ∧ TupsAt Z ws (Bt.map intR) ∧ Bt.length = j ∧ (∀ r ∈ Bt, RowP r) ∧ Same H1 Z)
      ⟨[], [], upd_same, .nil, rfl, fun _ h => (List.not_mem_nil h).elim, sL⟩ (fun j Z _ h => by obtain ⟨_, _, _, _, _, _, h⟩ := h; exact SqT.of (h _ _ M.TO.tup)) ?_ ?_
    · rintro j x Hb Hc hj ⟨ws, Bt, h1, h2, h3, h4, h5⟩ ⟨rfl, ex⟩
      rw [List.getElem?_map] at ex
      obtain ⟨tr, etr, rfl⟩ := Option.map_eq_some_iff.mp ex
      have hj5 : j < 5 := by
        rw [List.length_map] at hj
        omega
      obtain ⟨tr', e1, _, htr⟩ := (M.TO.keep (.of h5)).row M.TP.len hj5
      rw [etr] at e1
      cases e1
      have lw := h2.len
      rw [List.length_map, h3] at lw
      have R := M.TP.row j hj5
      refine ⟨rfl, ?_⟩
      dsimp only [tYes]
      rw [if_pos rfl]
      refine ⟨_, rfl, tr, _, 0, 1, rfl, htr, R.len, by decide, by decide, fun q2 H' s' hq => ?_⟩
      have h1' := s' _ _ h1
      have tu : TupS H' (upd H' L (.lst (ws.map V.ref ++ [.ref q2]))) := TupS.upd fun ys z => by
        rw [h1'] at z
        cases z
      refine ⟨_, h1', by rw [List.length_map, sizeLine_eq]; omega, ws ++ [q2], Bt ++ [swN (row' i.T j) 0 1], by rw [upd_same, List.map_append]; rfl, ?_, by rw [List.length_append, h3]; rfl, fun r hr => ?_, fun c o ec => ?_⟩
      · rw [List.map_append]
        exact ((h2.keep (.of s')).keep tu).snoc (tu _ _ hq)
      · rcases List.mem_append.mp hr with z | z
        · exact h4 r z
        · rw [List.mem_singleton.mp z]
          exact R.sw (by decide) (by decide)
      · rw [upd_ne (ne_of_none ec nL)]
        exact s' _ _ (h5 _ _ ec)
    · rintro Ha ⟨ws, Bt, h1, h2, h3, h4, h5⟩
      rw [List.length_map, lus] at h3
      refine ⟨L, _, rfl, .inl ⟨SqL.of h1, fun tq nq => ?_⟩⟩
      have sq := same_new (o := .tup (ws.map V.ref)) nq
      have s2 := h5.trans sq
      have hl2 := s2 _ _ hl
      have M2 := M.same s2
      refine ⟨l, vs, _, rfl, rfl, hl2, by rw [ln]; decide, ?_⟩
      have dt : DKn K (Off3 i.p i.d l) 5000 4 _ (.ref tq) := dk_tab (k := 2) (off3_ok M2.S.D hl2) ⟨upd_same, h2.keep (.of sq)⟩ (tabP_of h3 h4) (by decide)
      exact nx _ _ ⟨i, l, vs ++ [.ref tq], _, _, _, _, _, _, rfl, M2.lst n1 n2 hl2, n1, n2, upd_same, by rw [List.length_append, ln]; rfl, fun v hv => (List.mem_append.mp hv).elim (fun z => ((al v z).keep (.same s2)).keep ku_lst) fun z => (by rw [List.mem_singleton.mp z]; exact dt.keep ku_lst)⟩
  case cc =>
    rintro D0 σ H1 ⟨i, l, vs, s7, s8, s9, s10, s11, s12, rfl, M, n1, n2, hl, ln, al⟩ nx
    refine ⟨_, rfl, .inl ⟨rfl, _, SqL.of hl⟩, 6, rfl, RgOk.of_le (by decide) (by decide) (by decide) (by decide), fun q nq => ⟨by show 1 ≤ sizeLine; decide, fun u nu => ⟨u, 5, _, rfl, rfl, SqT.of upd_same, by simp, by decide, by decide, by show 1 ≤ 1000; decide, fun t nt => ?_⟩⟩⟩
    have sq := same_new (o := .tup (rgV 0 6)) nq
    have su := same_new (o := .tup [.ref q]) nu
    have st := same_new (o := .tup (List.replicate (5 : Int).toNat [V.ref q]).flatten) nt
    have s2 := sq.trans (su.trans st)
    have M2 := M.same s2
    have hl1 := su _ _ (sq _ _ hl)
    have Mu := (M.same sq).same su
    have hl2 := st _ _ hl1
    refine ⟨l, vs, _, rfl, rfl, hl2, by rw [ln]; decide, ?_⟩
    have dt := (dk_tup (K := K) (w := 39) (k := 1) (off3_ok Mu.S.D hl1) (fun v hv => by
      obtain ⟨ys, hy, hz⟩ := List.mem_flatten.mp hv
      rw [(List.mem_replicate.mp hy).2] at hz
      rw [List.mem_singleton.mp hz]
      exact dk_rowN (r := List.range 6) (off3_ok Mu.S.D hl1) (.refl _) (su _ _ upd_same) (by decide)) nt st upd_same).le (w' := 5000) (k' := 4) (by show 5 * (39 + 2) + 3 ≤ 5000; decide) (by decide)
    exact nx _ _ ⟨i, l, vs ++ [.ref t], _, _, _, _, _, _, rfl, M2.lst n1 n2 hl2, n1, n2, upd_same, by rw [List.length_append, ln]; rfl, fun v hv => (List.mem_append.mp hv).elim (fun z => ((al v z).keep (.same s2)).keep ku_lst) fun z => (by rw [List.mem_singleton.mp z]; exact dt.keep ku_lst)⟩
  case cd =>
    rintro D0 σ H1 ⟨i, l, vs, s7, s8, s9, s10, s11, s12, rfl, M, n1, n2, hl, ln, al⟩ nx
    refine ⟨_, rfl, _, rfl, _, rfl, _, rfl, i.p, i.d, i.a, i.b, i.to, i.ts, i.ars, i.us, i.T, rfl, M.S.D, M.S.N, M.S.A, (chk_parts M.ck).1, M.TO, M.TP, fun l2 xs H2 D2 k2 hl2 lx hx => ?_⟩
    refine ⟨l, l2, vs, xs, rfl, rfl, k2 _ _ hl n1 n2, hl2, by rw [ln, lx]; decide, fun q nq => ?_⟩
    have M2 := M.kpl D2 k2
    have sq := same_new (o := .lst (vs ++ xs)) nq
    have oq := D2.off nq
    exact nx _ _ ⟨i, q, vs ++ xs, _, _, _, _, _, _, rfl, M2.same sq, oq.1, oq.2, upd_same, by rw [List.length_append, ln, lx], fun v hv => (List.mem_append.mp hv).elim (fun z => (((al v z).off2.keep (.k2 k2)).off3 nq).keep (.same sq)) fun z => (((hx v z).le (by decide) (by decide)).off3 nq).keep (.same sq)⟩
  case ce =>
    rintro D0 σ H1 ⟨i, l, vs, s7, s8, s9, s10, s11, s12, rfl, M, n1, n2, hl, ln, al⟩ nx
    refine ⟨_, rfl, 12, rfl, by decide, by decide, fun L nL => ?_⟩
    have oL := M.S.D.off nL
    have sL := same_new (o := .lst []) nL
    refine lc_it walk_range (fun j Z => ∃ xs : List V, Z L = some (.lst xs) ∧ xs.length = j ∧ (∀ v ∈ xs, DKn K (Off3 i.p i.d L) 5000 4 Z v) ∧ DeckL Z i.p i.d ∧ KpL i.p i.d H1 Z)
      ⟨[], upd_same, rfl, fun _ h => (List.not_mem_nil h).elim, M.S.D.same sL, .of sL⟩ (fun _ _ _ _ => trivial) ?_ ?_
    · rintro j x Hb Hc hj ⟨xs, h1, h2, h3, h4, h5⟩ ⟨rfl, rfl⟩
      have hj : j < 12 := hj
      have Mc := M.kpl h4 h5
      refine ⟨rfl, ?_⟩
      dsimp only [tYes]
      rw [if_pos rfl]
      refine ⟨_, rfl, _, rfl, _, rfl, _, rfl, by show 2 ≤ sizeLine; decide, fun q nq => ?_⟩
      have sq := same_new (o := .lst [.ref i.to, .ref i.tq]) nq
      have Mq := Mc.same sq
      have oq := h4.off nq
      refine ⟨i.p, i.d, q, _, rfl, Mq.S.D, upd_same, oq.1, oq.2, by simp, by show 2 < 1000000; decide, fun y H3 my D3 k3 => ?_⟩
      have M3 := Mq.kpl D3 k3
      have h13 := k3 _ _ (sq _ _ h1) oL.1 oL.2
      obtain ⟨ta, ut, Tt, rfl, TA, TP⟩ : ∃ (ta : Addr) (ut : List Addr) (Tt : List (List Nat)), y = .ref ta ∧ TabAt H3 ta ut Tt ∧ TabP Tt := by
        simp only [List.mem_cons, List.not_mem_nil, or_false] at my
        rcases my with rfl | rfl
        · exact ⟨_, _, _, rfl, M3.TO, M3.TP⟩
        · exact ⟨_, _, _, rfl, M3.TQ, M3.TPq⟩
      refine ⟨i.p, i.d, ta, ut, Tt, rfl, D3, TA, TP, fun z H4 D4 k4 dz => ?_⟩
      have h14 := k4 _ _ h13 oL.1 oL.2
      have dz : DKn K (Off3 i.p i.d L) 5000 4 H4 z := (dz.mono fun a u => ⟨u.1, u.2.1, fun e => u.2.2 _ (e ▸ h13)⟩).le (by decide) (by decide)
      have kk := ((KpL.of sq).trans k3).trans k4
      refine ⟨_, h14, by rw [h2, sizeLine_eq]; omega, xs ++ [z], upd_same, by rw [List.length_append, h2]; rfl, fun v hv => ?_, deck_lst D4 oL.1 oL.2, fun c o ec m1 m2 => ?_⟩
      · rcases List.mem_append.mp hv with y | y
        · exact ((h3 v y).keep (.k3 kk)).keep ku_lst
        · rw [List.mem_singleton.mp y]
          exact dz.keep ku_lst
      · rw [upd_ne (ne_of_none ec nL)]
        exact kk _ _ (h5 _ _ ec m1 m2) m1 m2
    · rintro Ha ⟨xs, h1, h2, h3, h4, h5⟩
      have h2 : xs.length = 12 := h2
      refine ⟨l, L, vs, xs, rfl, rfl, h5 _ _ hl n1 n2, h1, by rw [ln, h2]; decide, fun q nq => ?_⟩
      have M2 := M.kpl h4 h5
      have sq := same_new (o := .lst (vs ++ xs)) nq
      have oq := h4.off nq
      exact nx _ _ ⟨i, q, vs ++ xs, _, _, _, _, _, _, rfl, M2.same sq, oq.1, oq.2, upd_same, by rw [List.length_append, ln, h2], fun v hv => (List.mem_append.mp hv).elim (fun z => (((al v z).off2.keep (.k2 h5)).off3 nq).keep (.same sq)) fun z => ((h3 v z).off2.off3 nq).keep (.same sq)⟩
  refine ⟨_, rfl, sa, ns, rfl, hS, hl, fun p d H1 s1 np nd D1 => ?_⟩
  refine ⟨4, rfl, by decide, by decide, ?_⟩
  refine for_it walk_range (fun i σ Z => ∃ (p d : Addr) (s0 s2 s3 s4 s5 s6 s7 s8 s9 s10 s11 s12 : Option V), σ = [s0, some (.ref p), s2, s3, s4, s5, s6, s7, s8, s9, s10, s11, s12] ∧ DeckL Z p d ∧ Tabs (lamT tb) Z)
    ⟨p, d, _, _, _, _, _, _, _, _, _, _, _, _, rfl, D1, hT.ext s1⟩ (fun _ _ _ _ _ => trivial) ?_ ?_
  · clear D1 np nd s1 hS
    rintro i x σ Hb H3 hi ⟨p, d, s0, s2, s3, s4, s5, s6, s7, s8, s9, s10, s11, s12, rfl, D3, T3⟩ ⟨rfl, rfl⟩
    refine ⟨_, rfl, p, d, rfl, D3, fun a b ts ars os c H4 D4 k4 N4 A4 as4 O4 pm => ?_⟩
    have T4 := tabs_kpl T3 D3 k4
    have AP := (ars_nat N4.arr A4 rfl).1
    have ck := chk_five as4 O4 pm
    refine ⟨_, rfl, a, b, ts, ars, rfl, N4, A4, ck, fun to us T H5 s5 TO TP no => ?_⟩
    have D5 := D4.same s5
    have N5 := N4.keep (.of s5)
    have A5 := A4.keep (.of s5)
    have T5 := T4.ext s5
    have J5 := five_joined O4 pm
    have F5 := five_is O4 pm
    clear D4 N4 A4 T4 k4 s5 D3 T3 as4 no
    refine ⟨_, rfl, to, rfl, ⟨_, SqT.of TO.tup⟩, fun L nL => ?_⟩
    have oL := D5.off nL
    have sL := same_new (o := .lst []) nL
    have lux := TO.rows.len
    rw [List.length_map, TP.len] at lux
    refine lc_it (walk_tup (xs := us.map V.ref)) (fun j Z => ∃ (ws : List Addr) (Bt : List (List Nat)), Z L = some (.lst (ws.map V.ref)) ∧ TupsAt Z ws (Bt.map intR) ∧ Bt.length = j ∧ (∀ r ∈ Bt, RowP r) ∧ DeckL Z p d ∧ KpL p d H5 Z)
      ⟨[], [], upd_same, .nil, rfl, fun _ h => (List.not_mem_nil h).elim, D5.same sL, .of sL⟩ (fun j Z _ h => by obtain ⟨_, _, _, _, _, _, _, h⟩ := h; exact SqT.of (TupS.kpl D5 h _ _ TO.tup)) ?_ ?_
    · rintro j x Hb Hc hj ⟨ws, Bt, h1, h2, h3, h4, h5, h6⟩ ⟨rfl, ex⟩
      rw [List.getElem?_map] at ex
      obtain ⟨tr, etr, rfl⟩ := Option.map_eq_some_iff.mp ex
      have hj5 : j < 5 := by
        rw [List.length_map] at hj
        omega
      obtain ⟨tr', e1, _, htr⟩ := (TO.keep (TupS.kpl D5 h6)).row TP.len hj5
      rw [etr] at e1
      cases e1
      have lw := h2.len
      rw [List.length_map, h3] at lw
      refine ⟨rfl, ?_⟩
      dsimp only [tYes]
      rw [if_pos rfl]
      refine ⟨_, rfl, _, rfl, p, d, tr, row' T j, rfl, h5, htr, TP.row j hj5, fun q2 g H' D' k' hq pg => ?_⟩
      have h1' := k' _ _ h1 oL.1 oL.2
      have tu : TupS H' (upd H' L (.lst (ws.map V.ref ++ [.ref q2]))) := TupS.upd fun ys z => by
        rw [h1'] at z
        cases z
      refine ⟨_, h1', by rw [List.length_map, sizeLine_eq]; omega, ws ++ [q2], Bt ++ [(row' T j).map (ap g)], by rw [upd_same, List.map_append]; rfl, ?_, by rw [List.length_append, h3]; rfl, fun r hr => ?_, deck_lst D' oL.1 oL.2, fun c o ec n1 n2 => ?_⟩
      · rw [List.map_append]
        exact ((h2.keep (TupS.kpl h5 k')).keep tu).snoc (tu _ _ hq)
      · rcases List.mem_append.mp hr with z | z
        · exact h4 r z
        · rw [List.mem_singleton.mp z]
          exact (TP.row j hj5).map pg.row
      · rw [upd_ne (ne_of_none ec nL)]
        exact k' _ _ (h6 _ _ ec n1 n2) n1 n2
    · rintro Ha ⟨ws, Bt, h1, h2, h3, h4, h5, h6⟩
      rw [List.length_map, lux] at h3
      refine ⟨L, _, rfl, .inl ⟨SqL.of h1, fun tq nq => ?_⟩⟩
      have sq := same_new (o := .tup (ws.map V.ref)) nq
      have kk := h6.trans (.of sq)
      have t6 := TupS.kpl D5 kk
      refine ⟨⟨⟨p, d, a, b, to, tq, ts, ars, us, ws, T, Bt, _, s0⟩, _, _, _, _, _, _, _, rfl, ⟨⟨h5.same sq, tabs_kpl T5 D5 kk, N5.keep t6, A5.keep t6⟩, J5, F5, ck, TO.keep t6, TP, ⟨upd_same, h2.keep (.of sq)⟩, tabP_of h3 h4⟩⟩, ?_⟩
      clear h1 h2 h3 h4 h5 h6 sq kk t6 nq TO TP J5 F5 ck N5 A5 T5 D5 oL sL nL
      rintro σ H6 j13
      refine ⟨j13, ?_⟩
      clear j13
      rintro σ H6 j14
      refine ⟨j14, ?_⟩
      clear j14
      rintro σ H6 j15
      refine ⟨j15, ?_⟩
      clear j15
      rintro σ H6 j20
      refine ⟨j20, ?_⟩
      clear j20
      rintro σ H6 ⟨i, l, vs, s7, s8, s9, s10, s11, s12, rfl, M, n1, n2, hl, ln, al⟩
      refine ⟨_, rfl, l, vs, rfl, SqL.of hl, for_it walk_enum (fun j σ Z => ∃ s7 s8 s9 s10 s11 s12 : Option V, σ = [i.s0, some (.ref i.p), some (.int i.t), some (.ref i.a), some (.ref i.to), some (.ref i.tq), some (.ref l), s7, s8, s9, s10, s11, s12] ∧ M9 tb i Z ∧ Z l = some (.lst vs) ∧ ∀ v ∈ vs, DKn K (Off3 i.p i.d l) 5000 4 Z v)
        ⟨_, _, _, _, _, _, rfl, M, hl, al⟩ (fun j σ Z _ h => by obtain ⟨_, _, _, _, _, _, _, _, h, _⟩ := h; exact SqL.of h) ?_ ?_⟩
      · clear M hl al
        rintro j x σ Hb Hc hj ⟨s7, s8, s9, s10, s11, s12, rfl, M, hlb, al⟩ ⟨Tt, x1, x2, rfl, nT, rfl, e1, e2⟩
        obtain rfl : V.int (j : Nat) = x1 := Option.some.inj e1
        refine ⟨Tt, _, rfl, SqT.of upd_same, rfl, _, _, rfl, _, _, rfl, rfl, ?_⟩
        have sT := same_new (o := .tup [.int (j : Nat), x2]) nT
        have M1 := M.same sT
        have hl1 := sT _ _ hlb
        have al1 : ∀ v ∈ vs, DKn K (Off3 i.p i.d l) 5000 4 _ v := fun v hv => (al v hv).keep (.same sT)
        generalize (upd Hb Tt (.tup [.int (j : Nat), x2])) = H1 at M1 hl1 al1 ⊢
        clear sT nT M hlb al
        obtain ⟨dd, as, R, hU, sm, hw, hk⟩ := al1 x2 (List.mem_of_getElem? e2)
        have inv : ∀ {Z : Hp} (s7 s8 s9 s10 s11 s12 : Option V), KX i.p i.d H1 Z → M9 tb i Z → ∃ s7' s8' s9' s10' s11' s12' : Option V, ([i.s0, some (.ref i.p), some (.int i.t), some (.ref i.a), some (.ref i.to), some (.ref i.tq), some (.ref l), s7, s8, s9, s10, s11, s12] : L2.St) = [i.s0, some (.ref i.p), some (.int i.t), some (.ref i.a), some (.ref i.to), some (.ref i.tq), some (.ref l), s7', s8', s9', s10', s11', s12'] ∧ M9 tb i Z ∧ Z l = some (.lst vs) ∧ ∀ v ∈ vs, DKn K (Off3 i.p i.d l) 5000 4 Z v := fun _ _ _ _ _ _ kx MZ =>
          ⟨_, _, _, _, _, _, rfl, MZ, kx _ _ hl1 n1 n2 fun ps z => (nomatch z), fun v hv => (al1 v hv).keep (.x3 kx)⟩
        have hU2 : ∀ c ∈ as, Off2 i.p i.d c := fun c hc => ⟨(hU c hc).1, (hU c hc).2.1⟩
        have few := few_pair (n := 5) (by decide) (by rw [← M1.S.A.len]; exact M1.S.N.len) (inn_of M1.S.N.arr M1.S.A)
        obtain ⟨f1, f2, f3⟩ := net_few (n := 5) (by decide) (by decide) few
        have g1 : smallAll [netI 5 i.ars, dd] := by
          rw [smallAll, smallAll]
          refine ⟨?_, sm, by rw [smallAll]; trivial⟩
          unfold netI
          rw [small]
          exact f1
        have g2 : wtAll [netI 5 i.ars, dd] ≤ 10000000 := by
          rw [wtAll, wtAll, wtAll]
          unfold netI
          rw [wt]
          omega
        have g3 : depAll [netI 5 i.ars, dd] ≤ 30 := by
          rw [depAll, depAll, depAll]
          unfold netI
          rw [dep]
          omega
        obtain ⟨a5, R5⟩ := rep_net (K := K) M1.S.N M1.S.A
        refine ⟨_, rfl, _, rfl, by show 2 ≤ sizeLine; decide, fun g ng => ⟨.ref g, [netI 5 i.ars, dd], _, rfl, rep_two R5 R ng, g1, g2, g3, ?_⟩⟩
        have sg := same_new (o := .lst [.ref i.a, x2]) ng
        have M2 := M1.same sg
        have R2 := R.same sg
        refine ⟨_, rfl, _, rfl, are_any M2.S.N M2.S.A R2 (by omega) fun H3 s3 => ⟨_, .bl _, [], rfl, rep_bl2 _, rfl, by simp [small], (bl_wt _).1, (bl_wt _).2, _, _, rfl, ?_⟩⟩
        have M3 := M2.same s3
        have R3 := R2.same s3
        have kx3 : KX i.p i.d H1 H3 := (KX.same sg).trans (.same s3)
        clear R5 R2 M2 sg s3 ng
        refine ⟨_, rfl, rfl, _, rfl, ite2 (fun _ => ?_) (fun _ => ?_)⟩ <;>
        · refine ⟨_, rfl, _, rfl, i, x2, dd, as, rfl, M3, R3, hU2, by omega, fun H4 x4 T4 => ?_⟩
          have M4 := M3.ext x4 T4
          have kx4 := kx3.trans (.ext x4)
          have R4 : Rep K H4 dd x2 as := R.keep fun c hc o eo => kx4 c o eo (hU2 c hc).1 (hU2 c hc).2 fun ps z => R.ntbl c hc ps (by rw [eo, z])
          obtain ⟨a6, R6⟩ := rep_net (K := K) M4.S.N M4.S.A
          refine ⟨_, rfl, _, .bl _, [], rfl, rep_bl2 _, rfl, by simp [small], (bl_wt _).1, (bl_wt _).2, _, rfl, rfl, _, rfl, ?_⟩
          rw [same_str rfl]
          refine iteF ⟨_, rfl, _, rfl, by show 2 ≤ sizeLine; decide, fun g' ng' => ⟨.ref g', [netI 5 i.ars, dd], _, rfl, rep_two R6 R4 ng', g1, g2, g3, _, rfl, rfl, _, rfl, ?_⟩⟩
          have sg := same_new (o := .lst [.ref i.a, x2]) ng'
          have M5 := M4.same sg
          have R5 := R4.same sg
          have kx5 := kx4.trans (.same sg)
          rw [same_str rfl]
          refine iteF ⟨_, rfl, _, _, rfl, rfl, _, rfl, ite2 (fun _ => ?_) (fun _ => inv _ _ _ _ _ _ kx5 M5)⟩
          refine ⟨_, rfl, _, rfl, i, x2, dd, as, rfl, M5, R5, hU2, by omega, fun H6 x6 T6 => ⟨_, .bl _, [], rfl, rep_bl2 _, rfl, by simp [small], (bl_wt _).1, (bl_wt _).2, _, rfl, rfl, _, rfl, ?_⟩⟩
          rw [same_str rfl]
          exact iteF (inv _ _ _ _ _ _ (kx5.trans (.ext x6)) (M5.ext x6 T6))
      · rintro σ Hb ⟨s7, s8, s9, s10, s11, s12, rfl, M, hlb, al⟩
        exact ⟨i.p, i.d, _, _, _, _, _, _, _, _, _, _, _, _, rfl, M.S.D, M.S.T⟩
  · rintro σ H3 ⟨p, d, s0, s2, s3, s4, s5, s6, s7, s8, s9, s10, s11, s12, rfl, D3, T3⟩
    exact k H3
end
end Sw
namespace Sw
open PySem PySem.Spec PyProof.Rows L2 PySem.W LamX
theorem run_k19 {P : Program} {w : World} {K : Frag} {mg : Str → Option Value} {base : Heap} {fa a c tb : Addr} {s₁ : Shared} {H : Hp} {ns : List Int} {tk : Tok} (B : NoNames mg) (ball : mg "all" = none) (mG : mg "gcd" = some (.builtin "math.gcd")) (mP : mg "permutations" = some (.type "itertools.permutations")) (mB : mg "BEYOND" = some (.int 5 tk)) (GF : GData K mg "FIVES" fivesD)
    (hU : ∃ C1 C2 S, UErr2 K mg "Apart" "Unfit" "SwapError" C1 C2 S)
    (hFew : HasC K mg "fewest_from" sFew c) (hBtw : Has K mg "is_integer_between" sBetween) (hSpread : Has K mg "spread" sSpread) (hLeads : Has K mg "leads" sLeads) (hLotOf : Has K mg "lot_of" sLotOf) (hIsJ : Has K mg "is_joined" sIsJoined) (hBeat : Has K mg "beat" sPBeat) (hKind : Has K mg "kind_of" sKindOf) (hIsR : Has K mg "is_ring" sIsRing) (hIs5 : Has K mg "is_five" sIsFive)
    (hDone : Has K mg "done" sDone) (hHold : Has K mg "names_hold" sHold) (hCheck : Has K mg "check_five" sCheck5) (hTaken : Has K mg "taken" sTaken) (hTable : Has K mg "is_table" sIsTable) (hRow : Has K mg "is_row" sIsRow) (hRight : Has K mg "are_right" sAreRight) (hABent : Has K mg "are_bent" sAreBent) (hAhead : Has K mg "ratio_ahead" sRatAh) (hRatOf : Has K mg "ratio_of" sRatOf) (hDif : Has K mg "difference" sDif)
    (hDeck : Has K mg "_law_deck" sDeckL) (hDraw : Has K mg "_law_draw" sDrawL) (hPick : Has K mg "_law_pick" sPickL) (hMixed : Has K mg "_law_mixed" sMixedL) (hCalled : Has K mg "_law_called" sCalled) (hOrd : Has K mg "_law_orders" sOrders) (hShare : Has K mg "_law_share" sShare) (hCross : Has K mg "_law_cross" sCross) (hBending : Has K mg "_law_is_bending" sIsBending) (hMoved : Has K mg "_law_moved" sMoved) (hAreN : Has K mg "_law_are_names" sAreNames) (hLLed : Has K mg "_law_led" sLLed) (hLNames : Has K mg "_law_names" sLNames) (hBentL : Has K mg "_law_bent" sBentL) (hLFive : Has K mg "_law_five" sLFive) (hExch : Has K mg "_law_exchanged" sExch) (hSpoilt : Has K mg "_law_spoilt" sSpoilt) (hAlong : Has K mg "_law_along" sAlong) (hLaw : Has K mg "law" sLaw19) (hfa : mg "law" = some (.ref fa))
    (ev : Env0 P w K mg base callerA [] s₁ H) (TB : TabB base mg c tb) (atT : H tb = some (.tbl #[])) (sq : SqL K H a (ns.map V.int)) (hlen : ns.length ≤ 63) :
    codeAny (model P w) callerA (.call (.ref fa) ⟨[.ref a], []⟩) (CR CX0 [] P w H s₁ (fun v _ => v = .bl true) fun _ _ _ => False) s₁ := by
  obtain ⟨f, fd, F, m⟩ := hLaw
  have e := hfa.symm.trans m
  cases e
  obtain ⟨g, gd, G, mg2⟩ := hSpread
  obtain ⟨C, D, S, U⟩ := hU
  have P1 : Own P w K mg base 1 "leads" ["net"] spLeads := hLeads.own (fun f fd F => ok_leads F B) fun _ _ _ _ _ _ us hl => match us, hl with | [_], _ => rfl
  have P2 : Own P w K mg base 5 "fewest_from" ["net", "stop"] (spFew tb) := hFew.own (fun f fd F => ok_few F TB G mg2 P1) fun _ _ _ _ _ _ us hl => match us, hl with | [_, _], _ => rfl
  have P3 : Own P w K mg base 6 "lot_of" ["net", "stop"] (spLotOf tb) := hLotOf.own (fun f fd F => ok_lotOf F B P2) fun _ _ _ _ _ _ us hl => match us, hl with | [_, _], _ => rfl
  have P4 : Own P w K mg base 7 "beat" ["net", "stop"] (spPBeat tb) := hBeat.own (fun f fd F => ok_pBeat F B mG P2 P3) fun _ _ _ _ _ _ us hl => match us, hl with | [_, _], _ => rfl
  have P5 : Own P w K mg base 7 "is_joined" ["net"] (spIsJoined tb) := hIsJ.own (fun f fd F => ok_isJoined F B P3) fun _ _ _ _ _ _ us hl => match us, hl with | [_], _ => rfl
  have P6 : Own P w K mg base 1 "is_ring" ["net"] spIsRing := hIsR.own (fun f fd F => ok_isRing F B) fun _ _ _ _ _ _ us hl => match us, hl with | [_], _ => rfl
  have P7 : Own P w K mg base 1 "is_five" ["net"] spIsFive := hIs5.own (fun f fd F => ok_isFive F B mP GF) fun _ _ _ _ _ _ us hl => match us, hl with | [_], _ => rfl
  have P8 : OwnX1 P w K mg base 8 "kind_of" "net" (spKind tb C) := hKind.ownX1 (fun f fd F => ok_kind F B U.a P5 P4 P6 P7) (fun _ _ _ _ _ _ us hl => match us, hl with | [_], _ => rfl) (fun _ _ _ _ _ _ _ => rfl) fun _ _ _ _ _ _ _ => rfl
  have R1 : Own P w K mg base 1 "difference" ["x", "y"] spDif := hDif.own (fun f fd F => ok_dif F B mB) fun _ _ _ _ _ _ us hl => match us, hl with | [_, _], _ => rfl
  have R2 : Own P w K mg base 2 "ratio_of" ["x", "y", "z", "t"] spRatOf := hRatOf.own (fun f fd F => ok_ratOf F B mB R1) fun _ _ _ _ _ _ us hl => match us, hl with | [_, _, _, _], _ => rfl
  have R3 : Own P w K mg base 3 "ratio_ahead" ["row", "place"] spRatAh := hAhead.own (fun f fd F => ok_ratAh F B R2) fun _ _ _ _ _ _ us hl => match us, hl with | [_, _], _ => rfl
  have R4 : Own P w K mg base 4 "are_bent" ["row", "other"] spAreBent := hABent.own (fun f fd F => ok_areBent F B ball R3) fun _ _ _ _ _ _ us hl => match us, hl with | [_, _], _ => rfl
  have R5 : Own P w K mg base 1 "done" ["standing", "run"] (spDone false) := hDone.own (fun f fd F => ok_done false F B) fun _ _ _ _ _ _ us hl => match us, hl with | [_, _], _ => rfl
  have R6 : Own P w K mg base 2 "taken" ["row", "v", "w"] spTaken := hTaken.own (fun f fd F => ok_taken F B R5) fun _ _ _ _ _ _ us hl => match us, hl with | [_, _, _], _ => rfl
  have R7 : Own P w K mg base 5 "are_right" ["net", "table"] spAreRight := hRight.own (fun f fd F => ok_areRight F B ball R4 R6) fun _ _ _ _ _ _ us hl => match us, hl with | [_, _], _ => rfl
  have R9 : Own P w K mg base 1 "is_integer_between" ["value", "least", "most"] (spBetween K) := hBtw.own (fun f fd F => ok_between F B) fun _ _ _ _ _ _ us hl => match us, hl with | [_, _, _], _ => rfl
  have RA : Own P w K mg base 2 "is_row" ["value"] (spIsRow K) := hRow.own (fun f fd F => ok_isRow F B ball mB R9) fun _ _ _ _ _ _ us hl => match us, hl with | [_], _ => rfl
  have RB : Own P w K mg base 3 "is_table" ["n", "value"] (spIsTable K) := hTable.own (fun f fd F => ok_isTable F B ball RA) fun _ _ _ _ _ _ us hl => match us, hl with | [_, _], _ => rfl
  have RC : OwnX1 P w K mg base 9 "check_five" "net" (spCheck5 tb C D) := hCheck.ownX1 (fun f fd F => ok_check5 F B U P8) (fun _ _ _ _ _ _ us hl => match us, hl with | [_], _ => rfl) (fun _ _ _ _ _ _ _ => rfl) fun _ _ _ _ _ _ _ => rfl
  have RE : OwnX2 P w K mg base 10 "names_hold" "net" "value" (spHoldAny tb K) := hHold.ownX2 (fun f fd F => (ok_hold (C := C) (D := D) F B RC RB R7).imp fun _ _ _ _ h => hold_imp h) (fun _ _ _ _ _ _ us hl => match us, hl with | [_, _], _ => rfl) (fun _ _ _ _ _ _ _ _ => rfl) (fun _ _ _ _ _ _ _ _ => rfl) fun _ _ _ _ _ _ _ _ => rfl
  have L1 : Own P w K mg base 1 "_law_deck" ["script"] (spDeckL K) := hDeck.own (fun f fd F => ok_deckL F B) fun _ _ _ _ _ _ us hl => match us, hl with | [_], _ => rfl
  have L2 : Own P w K mg base 1 "_law_draw" ["deck", "many"] spDrawL := hDraw.own (fun f fd F => ok_drawL F B) fun _ _ _ _ _ _ us hl => match us, hl with | [_, _], _ => rfl
  have L3 : Own P w K mg base 2 "_law_pick" ["deck", "items"] spPickL := hPick.own (fun f fd F => ok_pickL F B L2) fun _ _ _ _ _ _ us hl => match us, hl with | [_, _], _ => rfl
  have L4 : Own P w K mg base 2 "_law_mixed" ["deck", "items"] spMixedL := hMixed.own (fun f fd F => ok_mixedL F B L2) fun _ _ _ _ _ _ us hl => match us, hl with | [_, _], _ => rfl
  have L5 : Own P w K mg base 1 "_law_called" ["net", "order"] spCalledA := hCalled.own (fun f fd F => ok_calledA F B) fun _ _ _ _ _ _ us hl => match us, hl with | [_, _], _ => rfl
  have L6 : Own P w K mg base 1 "_law_orders" ["many"] spOrders := hOrd.own (fun f fd F => ok_orders F B) fun _ _ _ _ _ _ us hl => match us, hl with | [_], _ => rfl
  have L7 : Own P w K mg base 1 "_law_share" ["above", "below"] spShare := hShare.own (fun f fd F => ok_share F B) fun _ _ _ _ _ _ us hl => match us, hl with | [_, _], _ => rfl
  have L8 : Own P w K mg base 2 "_law_cross" ["x", "y", "z", "t"] spCross := hCross.own (fun f fd F => ok_cross F B L7) fun _ _ _ _ _ _ us hl => match us, hl with | [_, _, _, _], _ => rfl
  have L9 : Own P w K mg base 3 "_law_is_bending" ["goals"] spIsBending := hBending.own (fun f fd F => ok_isBending F B L8) fun _ _ _ _ _ _ us hl => match us, hl with | [_], _ => rfl
  have LA : Own P w K mg base 1 "_law_moved" ["place", "v"] spMoved := hMoved.own (fun f fd F => ok_moved F B) fun _ _ _ _ _ _ us hl => match us, hl with | [_, _], _ => rfl
  have LB : Own P w K mg base 4 "_law_are_names" ["net", "value"] spAreNames := hAreN.own (fun f fd F => ok_areNames F B LA L9) fun _ _ _ _ _ _ us hl => match us, hl with | [_, _], _ => rfl
  have LC : Own P w K mg base 2 "_law_led" ["net", "row"] spRowsFrom := hLLed.own (fun f fd F => ok_lLed F B LA) fun _ _ _ _ _ _ us hl => match us, hl with | [_, _], _ => rfl
  have LD : Own P w K mg base 5 "_law_names" ["net"] spLNames := hLNames.own (fun f fd F => ok_lNames F B L6 LC LB) fun _ _ _ _ _ _ us hl => match us, hl with | [_], _ => rfl
  have LE : Own P w K mg base 3 "_law_bent" ["deck", "row"] spBentL := hBentL.own (fun f fd F => ok_bentL F B L2 L3 L7) fun _ _ _ _ _ _ us hl => match us, hl with | [_, _], _ => rfl
  have LF : Own P w K mg base 3 "_law_five" ["deck"] spLFiveR := hLFive.own (fun f fd F => ok_lFiveR F B L3 L4 L5) fun _ _ _ _ _ _ us hl => match us, hl with | [_], _ => rfl
  have LG : Own P w K mg base 4 "_law_are_names" ["net", "value"] (spAreAny K) := hAreN.own (fun f fd F => FnOk.or (ok_areNames F B LA L9) (ok_noNames F B LA L9)) fun _ _ _ _ _ _ us hl => match us, hl with | [_, _], _ => rfl
  have LH : Own P w K mg base 1 "_law_exchanged" ["row", "one", "other"] spExch := hExch.own (fun f fd F => ok_exch F B) fun _ _ _ _ _ _ us hl => match us, hl with | [_, _, _], _ => rfl
  have LI : Own P w K mg base 4 "_law_spoilt" ["deck", "rows"] (spSpoilt K) := hSpoilt.own (fun f fd F => ok_spoilt F B L2 L3 L4 LH LE) fun _ _ _ _ _ _ us hl => match us, hl with | [_, _], _ => rfl
  have LJ : Own P w K mg base 4 "_law_along" ["deck", "net", "own"] (spAlong K) := hAlong.own (fun f fd F => ok_along F B L4 LC LH LE) fun _ _ _ _ _ _ us hl => match us, hl with | [_, _, _], _ => rfl
  have T0 : Tabs (lamT tb) H := fun p hp => by
    rw [List.mem_singleton.mp hp]
    exact TabS.nil atT
  have rm : Room 11 callerA := ⟨rfl, by decide, by decide⟩
  refine run_def (us := [.ref a]) (vs := [.ref a]) (Q := fun v _ => v = .bl true) (E := fun _ _ _ => False) F scLaw19 rm ev (F.binds (ps := ["script"]) (fun _ _ _ _ _ _ us hl => match us, hl with | [_], _ => rfl) s₁ [.ref a] ?_ rfl) (.cons rfl .nil) rfl fun cdv => ?_
  · exact ev.mod.kin.keeps fun b o z => (ev.bs b o z).1
  · exact law_body19 (Q := fun v _ => v = .bl true) B ⟨L1, LF, LD, LG, LE, LH, LJ, LI, L3, RE⟩ (rm.deeper _) rfl T0 ⟨a, ns, rfl, sq, hlen, fun _ => rfl⟩
end Sw
open PySem PySem.W PyProof.Rows
set_option maxHeartbeats 0 in
theorem PySem.Challenge.cw_swapstops_k19_names_spoilt_holds : PySem.Challenge.rw_swapstops_k19_names_spoilt.Holds := by
  w_on; o_law; k_head; (case hw => w_witness2)
  k_fill
  refine Sw.walk_lawT (l := PySem.Challenge.rw_swapstops_k19_names_spoilt) rfl rfl (fun w h Y => PySem.W.km_in_of Y) (fun w h Y => PySem.W.km_tabs_of Y) ?F
  case F =>
    intro w mg fa h KX G hmg
    refine' ⟨_, _, Sw.tab_hd (y := PySem.Str.ofString "fewest_from") ?lamA ?lamL ?lamC ?lamK ?lamP ?lamH, ?lamM, ?lamN, ?lamG⟩
    (case lamA => k_is); (case lamL => k_is); (case lamC => rfl); (case lamK => k_is); (case lamP => rfl); (case lamH => kernel_rfl); (case lamM => decide); (case lamN => kernel_rfl)
    case lamG =>
      intro base s₁ H a ns ev TB atT sq hlen
      refine' Sw.run_k19 ?qz0h ?qz1h ?qz2h ?qz3h ?qz4h ?qz5h ?qz6h ?qz7h ?qz8h ?qz9h ?qz10h ?qz11h ?qz12h ?qz13h ?qz14h ?qz15h ?qz16h ?qz17h ?qz18h ?qz19h ?qz20h ?qz21h ?qz22h ?qz23h ?qz24h ?qz25h ?qz26h ?qz27h ?qz28h ?qz29h ?qz30h ?qz31h ?qz32h ?qz33h ?qz34h ?qz35h ?qz36h ?qz37h ?qz38h ?qz39h ?qz40h ?qz41h ?qz42h ?qz43h ?qz44h ?qz45h ?qz46h hmg ev TB atT sq hlen
      case qz0h =>
        refine' ⟨PySem.W.mg_none_of KX G ?zn1, PySem.W.mg_none_of KX G ?zn2, PySem.W.mg_none_of KX G ?zn3, PySem.W.mg_none_of KX G ?zn4, PySem.W.mg_none_of KX G ?zn5, PySem.W.mg_none_of KX G ?zn6, PySem.W.mg_none_of KX G ?zn7, PySem.W.mg_none_of KX G ?zn8, PySem.W.mg_none_of KX G ?zn9, PySem.W.mg_none_of KX G ?zn10, PySem.W.mg_none_of KX G ?zn11, PySem.W.mg_none_of KX G ?zn12, PySem.W.mg_none_of KX G ?zn13, PySem.W.mg_none_of KX G ?zn14, PySem.W.mg_none_of KX G ?zn15⟩
        (case zn1 => k_is); (case zn2 => k_is); (case zn3 => k_is); (case zn4 => k_is); (case zn5 => k_is); (case zn6 => k_is); (case zn7 => k_is); (case zn8 => k_is); (case zn9 => k_is); (case zn10 => k_is); (case zn11 => k_is); (case zn12 => k_is); (case zn13 => k_is); (case zn14 => k_is); (case zn15 => k_is)
      case qz1h =>
        refine' PySem.W.mg_none_of KX G ?nn1
        (case nn1 => k_is)
      case qz2h =>
        refine' PySem.W.mg_of KX G ?mm2
        (case mm2 => k_is)
      case qz3h =>
        refine' PySem.W.mg_of KX G ?mm3
        (case mm3 => k_is)
      case qz4h =>
        refine' PySem.W.mg_of KX G ?mm4
        (case mm4 => k_is)
      case qz5h =>
        refine' Sw.gdata_mk KX G ?ge5 ?gk5
        (case ge5 => k_is); (case gk5 => kernel_rfl)
      case qz6h =>
        refine' Sw.uerr2_mk KX G ?aCx6 ?aDx6 ?aSx6 ?madex6 ?kCx6 ?basex6 ?tyx6 ?selfx6 ?e1x6 ?e2x6 ?e4x6 ?e5x6 ?e6x6 ?e7x6 ?e8x6 ?subx6 ?made2x6 ?kC2x6 ?base2x6 ?ty2x6 ?self2x6 ?f1x6 ?f2x6 ?f4x6 ?f5x6 ?f8x6 ?sub2x6 ?abx6 ?bax6
        (case aCx6 => k_is); (case aDx6 => k_is); (case aSx6 => k_is); (case madex6 => k_exc); (case kCx6 => k_is); (case basex6 => k_is); (case tyx6 => k_is); (case selfx6 => first | rfl | k_is); (case e1x6 => k_is); (case e2x6 => k_is); (case e4x6 => k_is); (case e5x6 => k_is); (case e6x6 => k_is); (case e7x6 => k_is); (case e8x6 => k_is); (case subx6 => kit_is); (case made2x6 => k_exc); (case kC2x6 => k_is); (case base2x6 => k_is); (case ty2x6 => k_is); (case self2x6 => first | rfl | k_is); (case f1x6 => k_is); (case f2x6 => k_is); (case f4x6 => k_is); (case f5x6 => k_is); (case f8x6 => k_is); (case sub2x6 => kit_is); (case abx6 => kit_is); (case bax6 => k_is)
      case qz7h =>
        refine' Sw.hasC_mk KX G ?ca7 ?cl7 ?cc7 ?ck7
        (case ca7 => k_is); (case cl7 => k_is); (case cc7 => k_is); (case ck7 => k_is)
      case qz8h =>
        refine' Sw.has_mk KX G ?va1 ?vl1 ?vc1 ?vk1
        (case va1 => k_is); (case vl1 => k_is); (case vc1 => k_is); (case vk1 => k_is)
      case qz9h =>
        refine' Sw.has_mk KX G ?va2 ?vl2 ?vc2 ?vk2
        (case va2 => k_is); (case vl2 => k_is); (case vc2 => k_is); (case vk2 => k_is)
      case qz10h =>
        refine' Sw.has_mk KX G ?va3 ?vl3 ?vc3 ?vk3
        (case va3 => k_is); (case vl3 => k_is); (case vc3 => k_is); (case vk3 => k_is)
      case qz11h =>
        refine' Sw.has_mk KX G ?va4 ?vl4 ?vc4 ?vk4
        (case va4 => k_is); (case vl4 => k_is); (case vc4 => k_is); (case vk4 => k_is)
      case qz12h =>
        refine' Sw.has_mk KX G ?va5 ?vl5 ?vc5 ?vk5
        (case va5 => k_is); (case vl5 => k_is); (case vc5 => k_is); (case vk5 => k_is)
      case qz13h =>
        refine' Sw.has_mk KX G ?va6 ?vl6 ?vc6 ?vk6
        (case va6 => k_is); (case vl6 => k_is); (case vc6 => k_is); (case vk6 => k_is)
      case qz14h =>
        refine' Sw.has_mk KX G ?va7 ?vl7 ?vc7 ?vk7
        (case va7 => k_is); (case vl7 => k_is); (case vc7 => k_is); (case vk7 => k_is)
      case qz15h =>
        refine' Sw.has_mk KX G ?va8 ?vl8 ?vc8 ?vk8
        (case va8 => k_is); (case vl8 => k_is); (case vc8 => k_is); (case vk8 => k_is)
      case qz16h =>
        refine' Sw.has_mk KX G ?va9 ?vl9 ?vc9 ?vk9
        (case va9 => k_is); (case vl9 => k_is); (case vc9 => k_is); (case vk9 => k_is)
      case qz17h =>
        refine' Sw.has_mk KX G ?va10 ?vl10 ?vc10 ?vk10
        (case va10 => k_is); (case vl10 => k_is); (case vc10 => k_is); (case vk10 => k_is)
      case qz18h =>
        refine' Sw.has_mk KX G ?va11 ?vl11 ?vc11 ?vk11
        (case va11 => k_is); (case vl11 => k_is); (case vc11 => k_is); (case vk11 => k_is)
      case qz19h =>
        refine' Sw.has_mk KX G ?va12 ?vl12 ?vc12 ?vk12
        (case va12 => k_is); (case vl12 => k_is); (case vc12 => k_is); (case vk12 => k_is)
      case qz20h =>
        refine' Sw.has_mk KX G ?va13 ?vl13 ?vc13 ?vk13
        (case va13 => k_is); (case vl13 => k_is); (case vc13 => k_is); (case vk13 => k_is)
      case qz21h =>
        refine' Sw.has_mk KX G ?va14 ?vl14 ?vc14 ?vk14
        (case va14 => k_is); (case vl14 => k_is); (case vc14 => k_is); (case vk14 => k_is)
      case qz22h =>
        refine' Sw.has_mk KX G ?va15 ?vl15 ?vc15 ?vk15
        (case va15 => k_is); (case vl15 => k_is); (case vc15 => k_is); (case vk15 => k_is)
      case qz23h =>
        refine' Sw.has_mk KX G ?va16 ?vl16 ?vc16 ?vk16
        (case va16 => k_is); (case vl16 => k_is); (case vc16 => k_is); (case vk16 => k_is)
      case qz24h =>
        refine' Sw.has_mk KX G ?va17 ?vl17 ?vc17 ?vk17
        (case va17 => k_is); (case vl17 => k_is); (case vc17 => k_is); (case vk17 => k_is)
      case qz25h =>
        refine' Sw.has_mk KX G ?va18 ?vl18 ?vc18 ?vk18
        (case va18 => k_is); (case vl18 => k_is); (case vc18 => k_is); (case vk18 => k_is)
      case qz26h =>
        refine' Sw.has_mk KX G ?va19 ?vl19 ?vc19 ?vk19
        (case va19 => k_is); (case vl19 => k_is); (case vc19 => k_is); (case vk19 => k_is)
      case qz27h =>
        refine' Sw.has_mk KX G ?va20 ?vl20 ?vc20 ?vk20
        (case va20 => k_is); (case vl20 => k_is); (case vc20 => k_is); (case vk20 => k_is)
      case qz28h =>
        refine' Sw.has_mk KX G ?va21 ?vl21 ?vc21 ?vk21
        (case va21 => k_is); (case vl21 => k_is); (case vc21 => k_is); (case vk21 => k_is)
      case qz29h =>
        refine' Sw.has_mk KX G ?va22 ?vl22 ?vc22 ?vk22
        (case va22 => k_is); (case vl22 => k_is); (case vc22 => k_is); (case vk22 => k_is)
      case qz30h =>
        refine' Sw.has_mk KX G ?va23 ?vl23 ?vc23 ?vk23
        (case va23 => k_is); (case vl23 => k_is); (case vc23 => k_is); (case vk23 => k_is)
      case qz31h =>
        refine' Sw.has_mk KX G ?va24 ?vl24 ?vc24 ?vk24
        (case va24 => k_is); (case vl24 => k_is); (case vc24 => k_is); (case vk24 => k_is)
      case qz32h =>
        refine' Sw.has_mk KX G ?va25 ?vl25 ?vc25 ?vk25
        (case va25 => k_is); (case vl25 => k_is); (case vc25 => k_is); (case vk25 => k_is)
      case qz33h =>
        refine' Sw.has_mk KX G ?va26 ?vl26 ?vc26 ?vk26
        (case va26 => k_is); (case vl26 => k_is); (case vc26 => k_is); (case vk26 => k_is)
      case qz34h =>
        refine' Sw.has_mk KX G ?va27 ?vl27 ?vc27 ?vk27
        (case va27 => k_is); (case vl27 => k_is); (case vc27 => k_is); (case vk27 => k_is)
      case qz35h =>
        refine' Sw.has_mk KX G ?va28 ?vl28 ?vc28 ?vk28
        (case va28 => k_is); (case vl28 => k_is); (case vc28 => k_is); (case vk28 => k_is)
      case qz36h =>
        refine' Sw.has_mk KX G ?va29 ?vl29 ?vc29 ?vk29
        (case va29 => k_is); (case vl29 => k_is); (case vc29 => k_is); (case vk29 => k_is)
      case qz37h =>
        refine' Sw.has_mk KX G ?va30 ?vl30 ?vc30 ?vk30
        (case va30 => k_is); (case vl30 => k_is); (case vc30 => k_is); (case vk30 => k_is)
      case qz38h =>
        refine' Sw.has_mk KX G ?va31 ?vl31 ?vc31 ?vk31
        (case va31 => k_is); (case vl31 => k_is); (case vc31 => k_is); (case vk31 => k_is)
      case qz39h =>
        refine' Sw.has_mk KX G ?va32 ?vl32 ?vc32 ?vk32
        (case va32 => k_is); (case vl32 => k_is); (case vc32 => k_is); (case vk32 => k_is)
      case qz40h =>
        refine' Sw.has_mk KX G ?va33 ?vl33 ?vc33 ?vk33
        (case va33 => k_is); (case vl33 => k_is); (case vc33 => k_is); (case vk33 => k_is)
      case qz41h =>
        refine' Sw.has_mk KX G ?va34 ?vl34 ?vc34 ?vk34
        (case va34 => k_is); (case vl34 => k_is); (case vc34 => k_is); (case vk34 => k_is)
      case qz42h =>
        refine' Sw.has_mk KX G ?va35 ?vl35 ?vc35 ?vk35
        (case va35 => k_is); (case vl35 => k_is); (case vc35 => k_is); (case vk35 => k_is)
      case qz43h =>
        refine' Sw.has_mk KX G ?va36 ?vl36 ?vc36 ?vk36
        (case va36 => k_is); (case vl36 => k_is); (case vc36 => k_is); (case vk36 => k_is)
      case qz44h =>
        refine' Sw.has_mk KX G ?va37 ?vl37 ?vc37 ?vk37
        (case va37 => k_is); (case vl37 => k_is); (case vc37 => k_is); (case vk37 => k_is)
      case qz45h =>
        refine' Sw.has_mk KX G ?va38 ?vl38 ?vc38 ?vk38
        (case va38 => k_is); (case vl38 => k_is); (case vc38 => k_is); (case vk38 => k_is)
      case qz46h =>
        refine' Sw.has_mk KX G ?va39 ?vl39 ?vc39 ?vk39
        (case va39 => k_is); (case vl39 => k_is); (case vc39 => k_is); (case vk39 => k_is)
