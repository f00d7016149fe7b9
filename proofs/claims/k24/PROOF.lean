import PyProof.Rows.All
import Wide.All
import OpenK.AllK
import Wide.FinOn
import KE.KExcSuper
import HandS.ForExc
import HandS.ExcInit
import HandS.ExcValue
import KE.KExcStr
import PyProof.ReprReads
import PyProof.ReprLen
import PyProof.StrHeap
import HandS.Call
import HandS.IsInst
import KE.KExcIs
import HandS.ForMost
import HandS.Walk
import KE.GoesMore
import KE.GoesEnum
import PyProof.Draws
import HandS.TupLe
import HandS.SortRule
import HandS.Zip
import PyProof.EnumStmt
import PyProof.TableTree
import PyProof.FactsTree
import HandS.Conv
import HandS.WideBits
import HandS.Base
import HandS.Lambda
import HandS.WordsExc
import PyProof.NeKinds
import HandS.Wide
import HandS.Ends
import HandS.WordsDict
import HandS.WordsList
import KE.DataAny
import HandS.Gcd
import HandS.TupAny
import HandS.Deep
import HandS.ExcOwn
import HandS.TryOnly
import KE.KMathGC
import HandS.ExcIs
import HandS.Dict
import KE.KEqSeq
import HandS.List
import HandS.MapObj
import KE.KItemsList
import HandS.Iter
import HandS.TupSets
import PyProof.SetRoads
import HandS.Set
import HandS.Style
import HandS.EndTab
import KE.KNestM
import PySem.Challenge.RW_swapstops_k24_whole_signs_and_colours_of
set_option Elab.async false
set_option linter.all false
set_option maxRecDepth 100000
set_option maxHeartbeats 4000000
namespace Sw
open PySem PySem.Spec PyProof.Rows PySem.W
/-- an exception's record -/
abbrev xRec (C : Addr) (d : Option Addr) (t : Addr) : Obj := { cls := .ref C, dict := d, data := .fields #[.ref t, .none, .none, .none, .bool false, .none] }
abbrev xTup (vs : List Value) : Obj := { cls := .type "tuple", data := .seq vs.toArray }
/-- what the written part says of an own exception's class over ValueError -/
structure XCls (K : Frag) (C : Addr) : Prop where
  cls : ∃ nm q N bs bm sn sub ab col dd k0 k1 k2 k3 k5, K.lookup C = some (excClassObj nm q C N bs bm true sn sub ab col dd k0 k1 k2 k3 k5 "ValueError.__new__") ∧ PySem.HandSPX.refsVE bm = true
  sa : findIn K (.ref C) "__setattr__" = some (some (.builtin "object.__setattr__"))
  opq : nsIn K cStatics "thirdparty.any" = some none
  kp : keepIn K (.ref C) = true
section
variable {P : Program} {w : World} {A : Around} {E : Value → Shared → Prop} {h : Heap} {g : Array GenState} {d : Drawn} {t : Nat} {os : OsState} {K : Frag} {C x : Addr}
/-- super().__init__ as it was bound, called: the args are laid anew -/
theorem bound_call (T : XCls K C) (X : K.In h) {u t0 : Addr} {dv : Option Addr} {rest : List Value} {Q : Value → Shared → Prop}
    (hu : h.get? u = some (kxs_mw "ValueError.__init__" x)) (hx : h.get? x = some (xRec C dv t0)) (hz : rest.length ≤ sizeLine)
    (hq : ∀ h' t1, (∀ b o, b ≠ x → h.get? b = some o → h'.get? b = some o) → h.get? t1 = none → t1 ≠ x → h'.get? x = some (xRec C dv t1) → h'.get? t1 = some (xTup rest) → Q .none ⟨h', g, d, t, os⟩) :
    wpAny (model P w) A (call (.ref u) rest) Q E ⟨h, g, d, t, os⟩ := by
  obtain ⟨nm, q, N, bs, bm, sn, sub, ab, col, dd, k0, k1, k2, k3, k5, hC, hbm⟩ := T.cls
  refine wpAny_call (codeAny_of_tree ?_)
  show wpAny _ A.in1 (callAny (.ref u) ⟨rest, []⟩) _ _ _
  simp only [callAny]
  refine wpAny_bind (wpAny_load hu ?_)
  simp only [kxs_mw, show (Value.type "method-wrapper" == Value.type "method" || Value.type "method-wrapper" == Value.type "builtin_function_or_method" || Value.type "method-wrapper" == Value.type "method-wrapper") = true by decide, if_true]
  refine KFB.if_so (by decide) ?_
  refine wpAny_bind (check_bound_init PySem.F.excBase_ValueError.toExcCallFacts (X _ _ hC) hx rfl ?_)
  refine wpAny_bind (wpAny_pure (wpAny_pure ?_))
  refine ⟨plainId_quiet PySem.F.excBase_ValueError.init.plain _, codeAny_builtin PySem.F.excBase_ValueError.initEntry ?_⟩
  refine exc_init_tree (cls := .ref C) (t0 := t0) (dv := dv) (c2 := .none) (c3 := .none) (b4 := .bool false) hx hz fun h' k e1 e2 => ?_
  refine hq h' h.objs.size k (Heap.get?_none_of_le (Nat.le_refl _)) (fun z => ?_) e1 e2
  rw [← z] at hx
  exact absurd (Heap.lt_size hx) (Nat.lt_irrefl _)
end
end Sw
namespace Sw
open PySem PySem.Spec PyProof.Rows PySem.W PySem.Calls
/-- the body that super().__init__(msg); self.fld = prm makes -/
abbrev initBody (msg fld prm : Str) (j : Nat) (p0 p1 p2 p3 p4 p5 p6 p7 p8 p9 : Pos) : List Stmt :=
  [.Expr (.Call (.Attribute (.Call (.Name "super" p0) [] [] p1) "__init__" p2) [.Constant (.str msg) j p3] [] p4) p5,
   .Assign [.Attribute (.Name "self" p6) fld p7] (.Name prm p8) p9]
theorem call_base {o : Expr} {name : Str} {apos pos : Pos} {e : Expr} {env : Env} (hl : (apos.endLine == pos.line) = true) (hs : starEach [e] env = [(false, eval e env)]) :
    eval (.Call (.Attribute o name apos) [e] [] pos) env = (do
      let ov ← attributeBase o name env (eval o env)
      standAt apos.atName
      let (f, first) ← holding [ov] (getMethod ov name (do return (← importBound o env).getD true))
      callWith pos f first (backTo pos (starEach [e] env)) []) := by
  have e2 : methodCallPos true o env apos pos = pure pos := by
    unfold methodCallPos
    rw [hl]
    rfl
  show (do
    let ov ← attributeBase o name env (eval o env)
    standAt apos.atName
    methodCall o name apos pos env ov 1 (backTo pos (starEach [e] env)) (backToKw pos (keywordEach [] env))) = _
  unfold methodCall
  rw [hs]
  show (do
    let ov ← attributeBase o name env (eval o env)
    standAt apos.atName
    let (f, first) ← holding [ov] (calleeOf true o env ov name)
    let callPos ← methodCallPos true o env apos pos
    callWith callPos f first (backTo pos [(false, eval e env)]) []) = _
  rw [e2]
  simp only [pure_bind]
  rfl
abbrev initScope (prm : Str) : Scope := { kind := .function, names := [(PySem.Str.ofString "self", .local), (prm, .local), (PySem.Str.ofString "__class__", .free), (PySem.Str.ofString "super", .globalImplicit)], isGenerator := false, isCoroutine := false, more := [] }
/-- the argument u by place, or by its word -/
abbrev initArgs (kw : Bool) (prm : Str) (a u : Value) : Args := match kw with
  | true => ⟨[a], [(prm, u)]⟩
  | false => ⟨[a, u], []⟩
/-- what the written part says of the def __init__ of such a class -/
structure XInit (K : Frag) (C fI : Addr) (msg fld prm file : Str) : Prop where
  ex : ∃ (qual : Str) (j : Nat) (p0 p1 p2 p3 p4 p5 p6 p7 p8 p9 : Pos) (params : Arguments) (dV kV doc pm ct oc ccl cl : Value) (an od cdd cld : Option Addr) (osl ccs csl : Array (Option Value)) (cc cda : Addr) (vs : Array Value) (tf : Tok) (ar : Arg),
    K.lookup fI = some ⟨oc, od, .func (ksFn "__init__" qual params (initBody msg fld prm j p0 p1 p2 p3 p4 p5 p6 p7 p8 p9) (initScope prm) dV kV doc pm an (.ref cda) ct cc), osl⟩ ∧
    codeIn K (.ref cda) qual = true ∧ K.lookup cda = some ⟨ccl, cdd, .fields vs, ccs⟩ ∧ vs[2]? = some (.str file tf) ∧ K.lookup cc = some ⟨cl, cld, .cell (some (.ref C)), csl⟩ ∧
    (p2.endLine == p4.line) = true ∧ (params.posonlyargs ++ params.args).head? = some ar ∧ ar.arg = "self" ∧
    (∀ (kw : Bool) (a u : Value), bindArgs (ksFn "__init__" qual params (initBody msg fld prm j p0 p1 p2 p3 p4 p5 p6 p7 p8 p9) (initScope prm) dV kV doc pm an (.ref cda) ct cc) (initArgs kw prm a u) = pure [(("self" : Str), a), (prm, u)])
  pn : ¬ prm = "self"
  pc : ¬ prm = "__class__"
  ps : ¬ prm = "super"
  pd : (prm == ("__debug__" : Str)) = false
  su : ks_superIn K C C "__init__" = some (some (.builtin "ValueError.__init__"))
  sub : subIn K (.ref C) (.type "ValueError") = some true
  self : mroIn K C (.ref C) = some true
  nf : findIn K (.ref C) fld = some none
  ty : typeIn K (.ref fI) = some (.type "function")
  fi : findIn K (.ref C) "__init__" = some (some (.ref fI))
section
variable {P : Program} {w : World} {A : Around} {E : Value → Shared → Prop} {h : Heap} {g : Array GenState} {d : Drawn} {t : Nat} {os : OsState} {K : Frag} {C x fI t0 : Addr} {mg mb : Str → Option Value} {u : Value} {msg fld prm file : Str}
theorem init_code {kw : Bool} (T : XCls K C) (F : XInit K C fI msg fld prm file) (X : K.In h) {R : Result → Shared → Prop}
    (hroom : A.depth < recursionLimit) (hlim : h.NoLimit) (hmg : h.Ns mainGlobals mg) (hmb : h.Ns builtinsNs mb) (hg : mg "super" = none) (hb : mb "super" = some (.type "super"))
    (hfile : ((P.main.file : Str) == file) = true) (htop : (P.main.scope.names.lookup ("super" : Str)).isSome = false)
    (hx : h.get? x = some (xRec C none t0)) (hxK : K.lookup x = none)
    (hq : ∀ h' tk t1 dx, (∀ b o, b ≠ x → h.get? b = some o → h'.get? b = some o) → h.get? t1 = none → t1 ≠ x → h'.get? x = some (xRec C (some dx) t1) → (∃ tm, h'.get? t1 = some (xTup [.str msg tm])) → h.get? dx = none → dx ≠ x → dx ≠ t1 → h'.Ns1 dx (fun y => if y = fld then some u else none) → R (.ok (.ret .none)) ⟨h', g, d, tk, os⟩) :
    codeAny (model P w) A (.call (.ref fI) (initArgs kw prm (.ref x) u)) R ⟨h, g, d, t, os⟩ := by
  obtain ⟨nm, q, N, bs, bm, sn, sub, ab, col, dd, k0, k1, k2, k3, k5, hC, hbm⟩ := T.cls
  obtain ⟨qual, j, p0, p1, p2, p3, p4, p5, p6, p7, p8, p9, params, dV, kV, doc, pm, ct, oc, ccl, cl, an, od, cdd, cld, osl, ccs, csl, cc, cda, vs, tf, ar, lk, hcd, hcda, hvs, hcc, hln, har, hself, hbind⟩ := F.ex
  have ne1 : (("__class__" : Str) == "self") = false := by decide
  have ne2 : (("super" : Str) == "self") = false := by decide
  have ne3 : (("super" : Str) == "__class__") = false := by decide
  have nb : ∀ {a b : Str}, ¬ b = a → (a == b) = false := fun h => beq_eq_false_iff_ne.mpr fun z => h z.symm
  have hsl : (initScope prm).names.lookup ("self" : Str) = some .local := by
    show List.lookup ("self" : Str) ((("self" : Str), NameKind.local) :: _) = _
    rw [List.lookup_cons_self]
  have hpl : (initScope prm).names.lookup prm = some .local := by
    show List.lookup prm ((("self" : Str), NameKind.local) :: (prm, NameKind.local) :: _) = _
    rw [List.lookup_cons, beq_eq_false_iff_ne.mpr F.pn, List.lookup_cons_self]
  have hcls : (initScope prm).names.lookup ("__class__" : Str) = some .free := by
    show List.lookup ("__class__" : Str) ((("self" : Str), NameKind.local) :: (prm, NameKind.local) :: (("__class__" : Str), NameKind.free) :: _) = _
    rw [List.lookup_cons, ne1, List.lookup_cons, nb F.pc, List.lookup_cons_self]
  have hsup : (initScope prm).names.lookup ("super" : Str) = some .globalImplicit := by
    show List.lookup ("super" : Str) ((("self" : Str), NameKind.local) :: (prm, NameKind.local) :: (("__class__" : Str), NameKind.free) :: (("super" : Str), NameKind.globalImplicit) :: _) = _
    rw [List.lookup_cons, ne2, List.lookup_cons, nb F.ps, List.lookup_cons, ne3, List.lookup_cons_self]
  have hncell : ∀ x ∈ (initScope prm).names, x.2 ≠ .cell := fun x hx => by
    simp at hx
    rcases hx with rfl | rfl | rfl | rfl <;> (intro z; cases z)
  have hk : (initScope prm).kind = .function := rfl
  have hcl : clsIn K C = some { name := nm, bases := bs, mro := .ref C :: bm, ns := N, qualname := q, hasDict := true, slotNames := sn, subclasses := sub, abstract := ab, collection := col, hasDel := false } := by unfold clsIn; rw [hC] <;> rfl
  have hCd : ∃ cd, h.get? C = some (excClassObj nm q C N bs bm true sn sub ab col dd k0 k1 k2 k3 k5 "ValueError.__new__") ∧ (excClassObj nm q C N bs bm true sn sub ab col dd k0 k1 k2 k3 k5 "ValueError.__new__").data = .cls cd := ⟨_, X _ _ hC, rfl⟩
  obtain ⟨cdC, hC1, hC2⟩ := hCd
  have hloc : ∀ y ∈ [(("self" : Str), Value.ref x), (prm, u)], (initScope prm).names.lookup y.1 = some .local := fun y hy => by
    rcases List.mem_cons.mp hy with rfl | hy
    · exact hsl
    · obtain rfl := List.mem_singleton.mp hy
      exact hpl
  refine ks_codeAny_call_defAt (fd := ksFn "__init__" qual params (initBody msg fld prm j p0 p1 p2 p3 p4 p5 p6 p7 p8 p9) (initScope prm) dV kV doc pm an (.ref cda) ct cc) (binds := [(("self" : Str), Value.ref x), (prm, u)]) hroom (X _ _ lk) rfl hlim (codeRec_of X hcd) rfl (.of_eq (hbind kw _ _)) hncell hloc (fun h1 hns k1 => ?_) rfl rfl hk
  have mp : ([(("self" : Str), Value.ref x), (prm, u)].reverse.lookup prm) = some u := by
    show List.lookup prm [(prm, u), (("self" : Str), Value.ref x)] = some u
    rw [List.lookup_cons_self]
  have ms : ([(("self" : Str), Value.ref x), (prm, u)].reverse.lookup ("self" : Str)) = some (.ref x) := by
    show List.lookup ("self" : Str) [(prm, u), (("self" : Str), Value.ref x)] = some (.ref x)
    have e : (("self" : Str) == prm) = false := beq_eq_false_iff_ne.mpr fun z => F.pn z.symm
    rw [List.lookup_cons, e, List.lookup_cons_self]
  -- super().__init__(msg)
  refine ks_wpAt_execs_cons (ks_wpAt_Expr_any (ks_wpAt_MethodCall ?_ (call_base hln rfl)))
  refine ks_wpAt_super_base (env := ksEnv qual (initScope prm) h.objs.size fI (.ref cda) cc) (ar := ar) hsup hcls (by decide) rfl (k1 _ _ (X _ _ lk)) rfl har rfl (k1 _ _ (X _ _ hcda)) rfl hvs hfile htop ?_
  refine ks_loadName_global hk hsup (loadGlobal_builtin (env := ksEnv qual (initScope prm) h.objs.size fI (.ref cda) cc) (hmg.keeps k1) hg (hmb.keeps k1) hb ⟨rfl, ?_⟩)
  refine wpAny_loadName_free hk hcls rfl ⟨_, k1 _ _ (X _ _ hcc), rfl⟩ ?_
  rw [hself]
  refine wpAny_loadName_local hk hsl hns ms ?_
  refine ks_wpAny_isType_cls (k1 _ _ hC1) hC2 ⟨rfl, ?_⟩
  have X1 : K.In h1 := X.keeps k1
  refine ks_wpAny_call_super (k1 _ _ hC1) hC2 (k1 _ _ hx) rfl (fun c e => by cases e) (looks_mroIn X1 F.self) (fun h2 eso k2 => ?_)
  have X2 : K.In h2 := X1.keeps k2
  have hx2 := k2 _ _ (k1 _ _ hx)
  have I2 : InstAt h2 x (xRec C none t0) C none := ⟨hx2, rfl, rfl, trivial⟩
  have hm := F.su
  unfold ks_superIn at hm
  rw [hcl] at hm
  refine kxs_getMethod kxs_ValueError eso (looks_opaque X2 T.opq) (l₀ := .ref C :: bm) ?_ rfl X2 hm (I2.type.andThen (looks_subIn X2 F.sub)) (ks_ne X2 I2 hcl) (by decide) ?_
  · exact fun A Q E s k q => wpAny_bind ((looks_clsIn X2 hcl) A _ E s k (wpAny_pure q))
  have k3 : ∀ b o, h2.get? b = some o → (h2.push (kxs_mw "ValueError.__init__" x)).get? b = some o := fun b o e => Heap.get?_push_of_some _ e
  have hu3 : (h2.push (kxs_mw "ValueError.__init__" x)).get? h2.objs.size = some (kxs_mw "ValueError.__init__" x) := Heap.get?_push_at rfl rfl
  refine kxs_callWith (i := "ValueError.__init__") (x := x) rfl (evalArgs_plain ?_)
  show wpAny _ _ (spliced ((false, eval (.Constant (.str msg) j p3) _) :: backTo p4 (starEach [] _))) _ _ _
  refine Calls.spliced_cons (Calls.Constant_str ?_)
  refine Calls.spliced_nil ⟨hu3, ?_⟩
  show wpAny _ _ (call (.ref h2.objs.size) [.str msg _]) _ _ _
  refine bound_call T (X2.keeps k3) hu3 (k3 _ _ hx2) (by show 1 ≤ sizeLine; rw [sizeLine_eq]; omega) fun h4 t1 k4 nt1 nx e1 e2 => ?_
  -- self.fld = prm
  have kAll : ∀ b o, b ≠ x → h.get? b = some o → h4.get? b = some o := fun b o hb e => k4 b o hb (k3 _ _ (k2 _ _ (k1 _ _ e)))
  have hLx : h.objs.size ≠ x := fun z => by
    rw [← z] at hx
    exact absurd (Heap.lt_size hx) (Nat.lt_irrefl _)
  have hns4 : h4.Ns h.objs.size fun z => List.lookup z [(("self" : Str), Value.ref x), (prm, u)].reverse := by
    obtain ⟨o, es, ep, ho, r⟩ := hns
    exact ⟨o, es, ep, k4 _ _ hLx (k3 _ _ (k2 _ _ ho)), r⟩
  have X4 : K.In h4 := fun b o e => kAll b o (fun z => by
    rw [z, hxK] at e
    cases e) (X _ _ e)
  refine ks_wpAt_execs_cons (wpAt_of_wpAny (plainObj_wpAny_Assign_Attribute ?_))
  refine wpAny_Name (wpAny_loadName_local hk hpl hns4 mp ?_) F.pd
  refine wpAny_Name (wpAny_loadName_local hk hsl hns4 ms ?_) (by decide)
  refine set_plain X4 (ox := xRec C none t1) (od := none) ⟨e1, rfl, rfl, trivial⟩ T.sa ?_
  refine PySem.HandSPX.exc_osa X4 e1 hcl (show PySem.HandSPX.refsVE (.ref C :: bm) = true from hbm) rfl F.nf (fun h5 tk' dx k5 dn dne hx5 hn5 => ?_)
  refine wpAt_of_wpAny (wpAny_pure ?_)
  have hn6 := hn5
  obtain ⟨oD, es, ep, hoD, hdD, _⟩ := hn5
  have e2' := k5 _ _ nx e2
  refine hq h5 tk' t1 dx (fun b o hb e => k5 b o hb (kAll b o hb e)) ?_ nx hx5 ⟨_, e2'⟩ ?_ dne (fun z => ?_) hn6
  rotate_left
  · cases e : h.get? dx with
    | none => rfl
    | some o =>
      have hb : dx ≠ x := dne
      exact absurd (Heap.lt_size (kAll _ _ hb e)) (Nat.not_lt.mpr dn)
  · rw [z, e2'] at hoD
    obtain rfl := Option.some.inj hoD
    cases hdD
  cases e : h.get? t1 with
  | none => rfl
  | some o =>
    rw [k3 _ _ (k2 _ _ (k1 _ _ e))] at nt1
    cases nt1
end
end Sw
namespace Sw
open PySem PySem.Spec PyProof.Rows L2
/-- an exception of the class at C that was made, its args at t -/
def xV (C t : Addr) (d : Option Addr) (a : Addr) : HO := .ext fun h => h.get? a = some (xRec C d t)
theorem xV_ok {P : Program} {w : World} {H : Hp} {h : Heap} {C t a : Addr} {d : Option Addr} (e : h.get? a = some (xRec C d t)) : ObjOk P w H h a (xV C t d a) :=
  ⟨e, ⟨_, e⟩, fun _ _ z k => k _ z⟩
theorem xV_at {P : Program} {w : World} {H : Hp} {h : Heap} {C t a : Addr} {d : Option Addr} (ok : HOk P w H h) (e : H a = some (xV C t d a)) : h.get? a = some (xRec C d t) := by
  have x : ObjOk P w H h a (.ext fun h => h.get? a = some (xRec C d t)) := ok a _ e
  exact x.1
section
variable {X : Cx} {pins : List (Addr × Obj)} {σ : L2.St} {H : Hp} {s : Shared}
/-- two new objects laid -/
theorem laid2 {h' : Heap} {a b : Addr} {o u : HO} {t' : Nat} (I : Inv X pins σ H s) (k : ∀ c v, s.heap.get? c = some v → h'.get? c = some v) (ha : s.heap.get? a = none) (hb : s.heap.get? b = none) (ne : b ≠ a)
    (new : ObjOk X.prog X.w (upd (upd H b u) a o) h' a o) (new2 : ObjOk X.prog X.w (upd (upd H b u) a o) h' b u) : Inv X pins σ (upd (upd H b u) a o) { s with heap := h', toks := t' } := by
  have na : H a = none := I.hok.gone ha
  have nb : H b = none := I.hok.gone hb
  have up : ∀ {c : Addr} {v : HO}, H c = some v → (upd (upd H b u) a o) c = some v := fun {c v} e => by
    rw [upd_ne (ne_of_none e na), upd_ne (ne_of_none e nb)]
    exact e
  have old : ∀ {c : Addr} {v : Obj}, s.heap.get? c = some v → c ≠ a ∧ c ≠ b := fun {c v} e => by
    constructor
    · intro z
      rw [z, ha] at e
      cases e
    · intro z
      rw [z, hb] at e
      cases e
  refine I.un ⟨fun c v e _ _ _ => k c v e, fun c v e _ _ _ => ⟨v.slots, k c v e⟩, fun c v e n _ => ?_, fun c v e _ => ⟨v, k c v e⟩, fun c xs e => up e, fun c v xs e => up e, fun c ps e => ⟨#[], by rw [up e]; simp⟩⟩ fun c v e => ?_
  · rw [upd_ne (old e).1, upd_ne (old e).2]
    exact n
  · by_cases ca : c = a
    · subst ca
      rw [upd_same] at e
      cases e
      exact new
    · by_cases cb : c = b
      · subst cb
        rw [upd_ne ca, upd_same] at e
        cases e
        exact new2
      · rw [upd_ne ca, upd_ne cb] at e
        exact (I.hok c v e).stay (fun d q _ z => k d q z) (fun d z => up z) fun d xs z => up z
/-- three -/
theorem laid3 {h' : Heap} {a b c : Addr} {o u v : HO} {t' : Nat} (I : Inv X pins σ H s) (k : ∀ x y, s.heap.get? x = some y → h'.get? x = some y) (ha : s.heap.get? a = none) (hb : s.heap.get? b = none) (hc : s.heap.get? c = none) (ne : b ≠ a) (ca : c ≠ a) (cb : c ≠ b)
    (new : ObjOk X.prog X.w (upd (upd (upd H c v) b u) a o) h' a o) (new2 : ObjOk X.prog X.w (upd (upd (upd H c v) b u) a o) h' b u) (new3 : ObjOk X.prog X.w (upd (upd (upd H c v) b u) a o) h' c v) : Inv X pins σ (upd (upd (upd H c v) b u) a o) { s with heap := h', toks := t' } := by
  have na : H a = none := I.hok.gone ha
  have nb : H b = none := I.hok.gone hb
  have nc : H c = none := I.hok.gone hc
  have up : ∀ {x : Addr} {y : HO}, H x = some y → (upd (upd (upd H c v) b u) a o) x = some y := fun {x y} e => by
    rw [upd_ne (ne_of_none e na), upd_ne (ne_of_none e nb), upd_ne (ne_of_none e nc)]
    exact e
  have old : ∀ {x : Addr} {y : Obj}, s.heap.get? x = some y → x ≠ a ∧ x ≠ b ∧ x ≠ c := fun {x y} e => by
    refine ⟨?_, ?_, ?_⟩
    · intro z
      rw [z, ha] at e
      cases e
    · intro z
      rw [z, hb] at e
      cases e
    · intro z
      rw [z, hc] at e
      cases e
  refine I.un ⟨fun x y e _ _ _ => k x y e, fun x y e _ _ _ => ⟨y.slots, k x y e⟩, fun x y e n _ => ?_, fun x y e _ => ⟨y, k x y e⟩, fun x xs e => up e, fun x y xs e => up e, fun x ps e => ⟨#[], by rw [up e]; simp⟩⟩ fun x y e => ?_
  · obtain ⟨z1, z2, z3⟩ := old e
    rw [upd_ne z1, upd_ne z2, upd_ne z3]
    exact n
  · by_cases xa : x = a
    · subst xa
      rw [upd_same] at e
      cases e
      exact new
    · by_cases xb : x = b
      · subst xb
        rw [upd_ne xa, upd_same] at e
        cases e
        exact new2
      · by_cases xc : x = c
        · subst xc
          rw [upd_ne xa, upd_ne xb, upd_same] at e
          cases e
          exact new3
        · rw [upd_ne xa, upd_ne xb, upd_ne xc] at e
          exact (I.hok x y e).stay (fun d q _ z => k d q z) (fun d z => up z) fun d xs z => up z
variable {e : Expr} {te : TE} {x : Str} {p pos : Pos} {C fI : Addr} {msg fld prm file : Str}
theorem boot_super : bootBuiltins "super" = some (.type "super") := by first | boot_by_name | rfl | kernel_rfl
/-- C(e), C an own class of errors whose __init__ says super().__init__(msg); self.fld = prm -/
theorem pe_xmk (T : XCls X.K C) (F : XInit X.K C fI msg fld prm file) (hr : Room 1 X.A) (hg : Gl X x) (hm : X.mg x = some (.ref C)) (hs : X.mg "super" = none)
    (hfile : ((X.prog.main.file : Str) == file) = true) (htop : (X.prog.main.scope.names.lookup ("super" : Str)).isSome = false) (he : PE X e te)
    (hst : starEach [e] X.env = (false, eval e X.env) :: starEach [] X.env := by rfl) (hdb : (x == ("__debug__" : Str)) = false := by decide) :
    PE X (.Call (.Name x p) [e] [] pos) (fun σ H Q => te σ H fun _ H1 => ∀ a t1 dx, H1 a = none → H1 t1 = none → H1 dx = none → t1 ≠ a → dx ≠ a → dx ≠ t1 → Q (.ref a) (upd (upd (upd H1 dx (.own a)) t1 (.tup [.str msg])) a (xV C t1 (some dx) a))) := by
  refine ⟨fun pins s σ H Q I h => ?_⟩
  obtain ⟨nm, q, N, bs, bm, sn, sub, ab, col, dd, k0, k1, k2, k3, k5, hC, hbm⟩ := T.cls
  refine wpAny_Call_Name_kw (ld_glob I hg hm ?_ hdb)
  refine PySem.W.callWith_K (h₀ := X.base) I.ok.mod.kin T.kp ?_ hst (by rfl)
  rw [hst]
  show wpAny _ _ (spliced ((false, eval e X.env) :: backTo pos (starEach [] X.env))) _ _ s
  refine Calls.spliced_cons (thn (he.run pins s σ H _ I h) fun u s1 ⟨v, H1, I1, r1, q1⟩ => ?_)
  refine Calls.spliced_nil ⟨I1.kIn, ?_⟩
  show wpAny _ _ (call (.ref C) [u]) _ _ _
  obtain ⟨hp, g, dr, tk, os⟩ := s1
  have kk : ∀ b o, hp.get? b = some o → ((hp.push (PySem.W.kdv_tup [u])).push (PySem.HandSPX.excO C hp.objs.size)).get? b = some o := fun b o e => Heap.get?_push_of_some _ (Heap.get?_push_of_some _ e)
  have hget : ((hp.push (PySem.W.kdv_tup [u])).push (PySem.HandSPX.excO C hp.objs.size)).get? (hp.objs.size + 1) = some (xRec C none hp.objs.size) := by
    show _ = some (PySem.HandSPX.excO C hp.objs.size)
    heap_get
  have na : hp.get? (hp.objs.size + 1) = none := Heap.get?_none_of_le (Nat.le_succ _)
  have kin := I1.kIn
  obtain ⟨mb, hb1, hb2⟩ := I1.mod.blt
  refine wpAny_call (PySem.HandSPX.call_own PySem.F.excBase_ValueError (fun Y => PySem.HandSPX.refsVE_contains Y bm hbm) (kin _ _ hC) (PySem.W.looks_findIn kin F.fi) (fun self => PySem.W.bind_fn kin self F.ty) (by show 1 ≤ sizeLine; rw [sizeLine_eq]; omega) ?_)
  refine init_code (kw := false) T F (kin.keeps kk) (mg := X.mg) (mb := mb) (hr.make C [u] []).depth (I1.nolimit.keeps kk) ((I1.mod.glob.keeps I1.bk).keeps kk) ((hb1.keeps I1.bk).keeps kk) hs ((hb2 _ (by decide)).trans boot_super) hfile htop hget ?_ fun h' tk' t1 dx k4 nt1 ne e1 e2 nd da dt en => ?_
  · cases z : X.K.lookup (hp.objs.size + 1) with
    | none => rfl
    | some o =>
      rw [kin _ _ z] at na
      cases na
  · have k5 : ∀ b o, hp.get? b = some o → h'.get? b = some o := fun b o e => k4 b o (fun z => by
      rw [z, na] at e
      cases e) (kk b o e)
    have nt0 : hp.get? t1 = none := by
      cases z : hp.get? t1 with
      | none => rfl
      | some o =>
        rw [kk _ _ z] at nt1
        cases nt1
    have nd0 : hp.get? dx = none := by
      cases z : hp.get? dx with
      | none => rfl
      | some o =>
        rw [kk _ _ z] at nd
        cases nd
    have eo : ∃ o, h'.get? dx = some o := by
      obtain ⟨oD, es, ep, hoD, _⟩ := en
      exact ⟨oD, hoD⟩
    obtain ⟨tm, e3⟩ := e2
    refine ⟨rfl, ⟨.ref (hp.objs.size + 1), _, laid3 (t' := tk') (o := xV C t1 (some dx) (hp.objs.size + 1)) (u := .tup [.str msg]) (v := .own (hp.objs.size + 1)) I1 k5 na nt0 nd0 ne da dt (xV_ok e1) ⟨?_, [.str msg tm], .cons ⟨tm, rfl⟩ .nil, ⟨_, e3, rfl, _, rfl⟩⟩ eo, rfl, q1 _ t1 dx (I1.hok.gone na) (I1.hok.gone nt0) (I1.hok.gone nd0) ne da dt⟩⟩
    show 1 ≤ sizeLine
    rw [sizeLine_eq]
    omega
/-- C(), C an own class of errors without __init__ -/
theorem pe_xmk0 {k : Nat} {bmB : List Value} {B newId initId : String} (F : ExcBaseFacts B newId initId bmB) (q : PySem.W.excIn X.K C bmB newId = true) (kC : PySem.W.keepIn X.K (.ref C) = true) (hg : Gl X x) (hm : X.mg x = some (.ref C))
    (hdb : (x == ("__debug__" : Str)) = false := by decide) :
    PE X (.Call (.Name x p) [] [] pos) (fun _ H Q => ∀ a t1, H a = none → H t1 = none → t1 ≠ a → Q (.ref a) (upd (upd H t1 (.tup [])) a (xV C t1 none a))) := by
  refine ⟨fun pins s σ H Q I h => ?_⟩
  refine wpAny_Call_Name_kw (ld_glob I hg hm ?_ hdb)
  refine PySem.W.callWith_K0 (first := []) I.kIn kC ?_
  show wpAny _ _ (call (.ref C) []) _ _ _
  obtain ⟨bm, N, nm, qn, bs, hdct, sn, sub, ab, col, dd, k0, k1, k2, k3, k5, mN, hC, hN, hni, T⟩ := exc_obj I.kIn q
  refine wpAny_call_exc_subT F T hC hN hni (fun h' a hm => ?_) (by show 0 ≤ sizeLine; omega)
  obtain ⟨t1, e1, nt, e2⟩ := hm.there
  have ne : t1 ≠ a := fun z => by
    rw [z, e1] at e2
    have e3 := Option.some.inj e2
    cases e3
  exact ⟨.ref a, _, laid2 (t' := s.toks) (o := xV C t1 none a) (u := .tup []) I hm.keeps hm.new nt ne (xV_ok e1) ⟨Nat.zero_le _, [], .nil, ⟨_, e2, rfl, _, rfl⟩⟩, rfl, h a t1 (I.hok.gone hm.new) (I.hok.gone nt) ne⟩
end
end Sw
namespace Sw
open PySem PySem.Spec PyProof.Rows PySem.W Builtin Builtin.BaseException
/-- how repr calls a class -/
def exN (nm : Str) : Str := ((nm.toString.cutAt '.').getLastD "")
/-- a class of errors, by what repr and isinstance ask -/
structure XGood (K : Frag) (C : Addr) (n : Str) : Prop where
  nm : ∃ cd, clsIn K C = some cd ∧ exN cd.name = n
  len : n.length ≤ 60
  rp : findIn K (.ref C) "__repr__" = some (some (.builtin "BaseException.__repr__"))
  sub : subIn K (.ref C) (.type "BaseException") = some true
  ga : findIn K (.ref C) "__getattribute__" = some (some (.builtin "BaseException.__getattribute__"))
  gt : findIn K (.ref C) "__getattr__" = some none
  ca : findIn K (.ref C) "__class__" = some (some (.builtin "object.__class__"))
  cn : specialIn K (.builtin "object.__class__") "__get__" = some (some (.builtin "getset_descriptor.__get__"))
  ct : takesIn K (.builtin "object.__class__") = some true
  mo : mroIn K C (.type "object") = some true
  ni : subIn K (.ref C) (.type "int") = some false
  nb : subIn K (.ref C) (.type "bool") = some false
  nt : subIn K (.ref C) (.type "tuple") = some false
  ns : subIn K (.ref C) (.type "str") = some false
  nl : subIn K (.ref C) (.type "list") = some false
  nd : subIn K (.ref C) (.type "dict") = some false
/-- the text of such an error, by its args (none or one text) -/
def xText (n : Str) : Option Str → Str
  | none => n ++ "()"
  | some m => n ++ "(" ++ reprText m ++ ")"
def xArgs : Option Str → List L2.V
  | none => []
  | some m => [.str m]
section
variable {prog : Program} {w : World} {A : Around} {E : Value → Shared → Prop} {s : Shared} {K : Frag} {C e t0 : Addr} {n : Str}
theorem typeNameWhole_C {M : Model} (G : XGood K C n) (x : ExcC K C e t0 s.heap) {Q : String → Shared → Prop} (h : ∀ nm : String, (((nm.cutAt '.').getLastD "" : String) : Str) = n → Q nm s) : wpAny M A (typeNameOfWhole (.ref e)) Q E s := by
  obtain ⟨cd, hc, hn⟩ := G.nm
  unfold typeNameOfWhole shownTypeOf
  refine wpAny_bind (wpAny_bind ((x.LT).here ?_))
  simp only [show (Value.ref C == Value.type "builtin_function_or_method") = false from rfl, Bool.false_eq_true, if_false]
  refine wpAny_pure ?_
  unfold typeNameWhole
  refine wpAny_bind ((looks_clsIn x.1 hc).here (wpAny_pure ?_))
  exact h _ hn
theorem bexcRepr_C (G : XGood K C n) (x : ExcC K C e t0 s.heap) (m : Option Str) {its : List Value} (hi : L2.Vals (xArgs m) its) (ht : s.heap.TupAt t0 its) (b : Nat) (hsz : b + (xText n m).length ≤ sizeLine)
    (g : List Code) (hg : A.guards = some g) (hcl : Clear g t0) (hu : A.units + 2 < cLine) {Q : Fin → Shared → Prop}
    (h : ∀ h' u tk, (∀ b o, s.heap.get? b = some o → h'.get? b = some o) → Q (.done (.ret (.str (xText n m) u))) { s with heap := h', toks := tk }) :
    wpAny (model prog w) A (Builtin.bexcReprAt b ⟨[.ref e], []⟩) Q E s := by
  unfold Builtin.bexcReprAt
  cases m with
  | some m =>
    cases hi with
    | cons r1 r2 =>
      cases r2
      obtain ⟨tk, rfl⟩ := r1
      have eP : (Str.ofString "(").length = 1 := by rw [PySem.ofString_length]; rfl
      have e1 : b + (n ++ Str.ofString "(" ++ reprText m ++ Str.ofString ")").length ≤ sizeLine := hsz
      have hsz2 : (n ++ Str.ofString "(" ++ reprText m ++ Str.ofString ")").length ≤ sizeLine := Nat.le_trans (Nat.le_add_left _ b) e1
      rw [strLen_append, strLen_append, strLen_append, eP] at e1
      have hsz1 : (reprText m).length ≤ sizeLine := by omega
      have hpile : b + (n.length + 1) ≤ sizeLine := by omega
      refine wpAny_bind (wpAny_pure ?_)
      refine wpAny_bind (typeNameWhole_C G x fun nm en => ?_)
      refine wpAny_bind (bexcArgs_C x ht ?_)
      show wpAny _ _ (rule "BaseException.__repr__.one-argument" >>= _) _ _ _
      refine wpAny_bind (wpAny_rule ?_)
      rw [en]
      refine wpAny_bind ?_
      rw [pyReprUnder_leaf (v := .str m tk) hpile (by intro a; nofun)]
      refine wpAny_pyRepr_str ?_ hsz1
      unfold retStr
      refine wpAny_bind (wpAny_mkStr (wpAny_pure ?_) hsz2)
      exact h s.heap _ _ fun _ _ e => e
  | none =>
    cases hi
    obtain ⟨ot, kk, hto, hc, hd⟩ := id ht
    have e1 : b + (n ++ Str.ofString "()").length ≤ sizeLine := hsz
    have e2 : (n ++ Str.ofString "()").length ≤ sizeLine := Nat.le_trans (Nat.le_add_left _ b) e1
    rw [strLen_append] at e1
    have e3 : (Str.ofString "()").length = 2 := by rw [PySem.ofString_length]; rfl
    have et : tupleText [] = ("()" : Str) := by decide +kernel
    refine wpAny_bind (wpAny_pure ?_)
    refine wpAny_bind (typeNameWhole_C G x fun nm en => ?_)
    refine wpAny_bind (bexcArgs_C x ht ?_)
    show wpAny _ _ (pyReprUnder (b + _) (.ref t0) >>= _) _ _ _
    rw [en]
    refine wpAny_bind ?_
    have hK := ReprK.tuple (prog := prog) (w := w) (as := []) (h₀ := s.heap) (d := 0) (a := t0) (o := ot) (items := #[]) (n := kk) (ts := []) hto hc hd (by simp) .nil
    refine hK (b + n.length) (by rw [et]; show b + n.length + (Str.ofString "()").length ≤ sizeLine; omega) A g E s _ hg (fun b hb => ?_) (by omega) (fun _ _ e => e) fun h' tk hk => ?_
    · obtain rfl := List.mem_singleton.mp hb
      exact hcl
    · rw [et]
      unfold retStr
      refine wpAny_bind (wpAny_mkStr (wpAny_pure ?_) e2)
      exact h h' _ _ hk
theorem reprUnder_C (G : XGood K C n) (x : ExcC K C e t0 s.heap) (m : Option Str) {its : List Value} (hi : L2.Vals (xArgs m) its) (ht : s.heap.TupAt t0 its) (b : Nat) (hsz : b + (xText n m).length ≤ sizeLine)
    (g : List Code) (hg : A.guards = some g) (hcl : Clear g t0) (hu : A.units + 3 < cLine) {Q : Value → Shared → Prop}
    (h : ∀ h' u tk, (∀ b o, s.heap.get? b = some o → h'.get? b = some o) → Q (.str (xText n m) u) { s with heap := h', toks := tk }) :
    wpAny (model prog w) A (pyReprObjUnder b (.ref e)) Q E s := by
  unfold pyReprObjUnder pyReprObjBy
  have hf : Looks (model prog w) s.heap (typeLookup (.ref C) "__repr__") (some (.builtin "BaseException.__repr__")) := looks_findIn x.1 G.rp
  have hb : bindSpecial (.builtin "BaseException.__repr__") (.ref e) = pure (.builtin "BaseException.__repr__", [.ref e]) := PySem.F.excStr_Exception.repr.bind _
  have hT : Looks (model prog w) s.heap (typeOf (.ref e)) (.ref C) := x.LT
  refine wpAny_bind (wpAny_cRoomFor (by omega) ?_)
  unfold specialOf
  refine wpAny_bind (wpAny_bind (hT.here (hf.here ?_)))
  have fin : wpAny (model prog w) A (call (.builtin "BaseException.__repr__.under") [.ref e, rawInt b]) (fun v s' => (∃ x u, v = .str x u) ∧ Q v s') E s := by
    refine wpAny_call (codeAny_call_builtin PySem.F.plain_bexc_repr_under PySem.F.entry_bexc_repr_under ?_)
    rw [PySem.F.check_bexc_repr_under]
    refine wpAny_pure ?_
    show wpAny _ _ (reprTwin "BaseException.__repr__" Builtin.bexcReprAt ⟨[.ref e, rawInt b], []⟩) _ _ _
    rw [reprTwin_eq]
    refine wpAny_bind ?_
    refine @PySem.W.check_slot (model prog w) _ _ s "BaseException.__repr__" "BaseException" "__repr__" (.ref e) [] [] _ (by decide +kernel) (by decide +kernel) (x.LI G.sub) (PySem.F.args_bexc_repr _) ?_
    refine bexcRepr_C (A := A.in1) G x m hi ht b hsz g hg hcl (by show A.units + 1 + 2 < cLine; omega) fun h' u tk hk => ?_
    exact ⟨⟨_, _, rfl⟩, h h' u tk hk⟩
  simp only [Option.isNone_some, Bool.false_eq_true, if_false]
  refine wpAny_bind ?_
  unfold callSpecialIfBoundBy? bindSpecialIfBound? specialOf
  refine wpAny_holding (wpAny_bind (wpAny_bind (wpAny_bind (hT.here (hf.here ?_)))))
  simp only [hb]
  have fin2 : wpAny (model prog w) A (call (.builtin "BaseException.__repr__.under") [.ref e, rawInt b] >>= fun v => pure (some v)) (fun r s' => wpAny (model prog w) A (match r with
      | some r => do if ← isInstance r (.type "str") then pure r else raiseError "TypeError" s!"__repr__ returned non-string (type {← typeNameOf r})"
      | none => unsupported "repr:special-get-raises") Q E s') E s := by
    refine wpAny_bind (wpAny_mono fin (fun v s' hv => ?_) fun _ _ z => z)
    obtain ⟨⟨y, u, rfl⟩, hq⟩ := hv
    exact wpAny_pure (wpAny_bind (wpAny_isInstance (T := "str") (b := true) rfl isSubtype_str_str (wpAny_pure hq)))
  refine wpAny_bind (wpAny_askSetting (wpAny_ite ?_))
  split
  · exact wpAny_bind (wpAny_pure (wpAny_pure fin2))
  · exact wpAny_tryCatch (wpAny_bind (wpAny_pure (wpAny_pure fin2)))
end
end Sw
namespace Sw
open PySem PySem.Spec PyProof.Rows L2
/-- a key of a dict, as repr shows it -/
def keyTxt : Key → Str
  | .inl i => toString i
  | .inr x => reprText x
def keyOk : Key → Prop
  | .inl i => i.natAbs.log2 < 1920
  | .inr x => (reprText x).length ≤ sizeLine
def entTxt : List Key → List Str → List Str
  | k :: ks, t :: ts => (keyTxt k ++ ": " ++ t) :: entTxt ks ts
  | _, _ => []
def keysWt : List Key → Nat
  | [] => 0
  | k :: ks => (keyTxt k).length + 2 + keysWt ks
/-- plain data, and errors of the package -/
inductive D where
  | non | bl (b : Bool) | int (i : Int) | str (x : Str) | tup (xs : List D) | lst (xs : List D) | dct | dx (ks : List Key) (ds : List D) | exc (C : Addr) (n : Str) (m : Option Str)
mutual
/-- the text that repr gives -/
def shown : D → Str
  | .non => "None"
  | .bl b => if b then "True" else "False"
  | .int i => toString i
  | .str x => reprText x
  | .tup xs => tupleText (shownAll xs)
  | .lst xs => listText (shownAll xs)
  | .dct => "{}"
  | .dx ks ds => dictText (entTxt ks (shownAll ds))
  | .exc _ n m => xText n m
def shownAll : List D → List Str
  | [] => []
  | d :: r => shown d :: shownAll r
end
mutual
/-- no shorter than the text -/
def wt : D → Nat
  | .non => 4
  | .bl _ => 5
  | .int i => (Str.ofString (toString i)).length
  | .str x => (reprText x).length
  | .tup xs => wtAll xs + 3
  | .lst xs => wtAll xs + 3
  | .dct => 2
  | .dx ks ds => keysWt ks + wtAll ds + 2
  | .exc _ n m => (xText n m).length
def wtAll : List D → Nat
  | [] => 0
  | d :: r => wt d + 2 + wtAll r
end
mutual
def dep : D → Nat
  | .tup xs => depAll xs + 1
  | .lst xs => depAll xs + 1
  | .dct => 1
  | .dx _ ds => depAll ds + 1
  | .exc _ _ _ => 3
  | _ => 0
def depAll : List D → Nat
  | [] => 0
  | d :: r => max (dep d) (depAll r)
end
mutual
/-- its ints can be written -/
def small : D → Prop
  | .int i => i.natAbs.log2 < 1920
  | .tup xs => smallAll xs
  | .lst xs => smallAll xs
  | .dx ks ds => (∀ k ∈ ks, keyOk k) ∧ smallAll ds
  | _ => True
def smallAll : List D → Prop
  | [] => True
  | d :: r => small d ∧ smallAll r
end
theorem dictText_len (ps : List Str) : (dictText ps).length ≤ (ps.map (·.length)).sum + 2 * ps.length + 2 := by
  have e : (dictText ps).length = 1 + (Str.join ", " ps).length + 1 := by
    unfold dictText
    rw [strLen_append, strLen_append]; rfl
  have h : (Str.join ", " ps).length ≤ (ps.map (·.length)).sum + ps.length * 2 := PySem.StrLaws.join_length_le ", " ps
  omega
theorem entTxt_len : ∀ (ks : List Key) (ts : List Str), ((entTxt ks ts).map (·.length)).sum ≤ keysWt ks + (ts.map (·.length)).sum ∧ (entTxt ks ts).length ≤ ts.length
  | [], ts => by simp [entTxt]
  | k :: ks, [] => by simp [entTxt]
  | k :: ks, t :: ts => by
    obtain ⟨h1, h2⟩ := entTxt_len ks ts
    have e2 : ((": " : String) : Str).length = 2 := rfl
    simp only [entTxt, keysWt, List.map_cons, List.sum_cons, List.length_cons]
    rw [strLen_append, strLen_append, e2]
    omega
mutual
theorem shown_wt : ∀ d : D, (shown d).length ≤ wt d
  | .non => by simp only [wt]; decide +kernel
  | .bl b => by cases b <;> (simp only [wt]; decide +kernel)
  | .int i => by simp only [shown, wt]; exact Nat.le_refl _
  | .str x => by simp only [shown, wt]; exact Nat.le_refl _
  | .tup xs => by
    have h := tupleText_len_le (shownAll xs)
    have h2 := shownAll_wt xs
    simp only [shown, wt]
    omega
  | .lst xs => by
    have h := listText_len_le (shownAll xs)
    have h2 := shownAll_wt xs
    simp only [shown, wt]
    omega
  | .dct => by simp only [wt]; decide +kernel
  | .dx ks ds => by
    have h := dictText_len (entTxt ks (shownAll ds))
    obtain ⟨h1, h3⟩ := entTxt_len ks (shownAll ds)
    have h2 := shownAll_wt ds
    simp only [shown, wt]
    omega
  | .exc _ n m => by simp only [shown, wt]; exact Nat.le_refl _
theorem shownAll_wt : ∀ xs : List D, ((shownAll xs).map (·.length)).sum + 2 * (shownAll xs).length ≤ wtAll xs
  | [] => by simp [shownAll, wtAll]
  | d :: r => by
    have h := shown_wt d
    have h2 := shownAll_wt r
    simp only [shownAll, wtAll, List.map_cons, List.sum_cons, List.length_cons]
    omega
end
theorem wt_mem : ∀ {xs : List D} {d : D}, d ∈ xs → wt d + 2 ≤ wtAll xs
  | x :: r, d, h => by
    simp only [wtAll]
    rcases List.mem_cons.mp h with e | e
    · rw [e]; omega
    · have := wt_mem e
      omega
theorem dep_mem : ∀ {xs : List D} {d : D}, d ∈ xs → dep d ≤ depAll xs
  | x :: r, d, h => by
    simp only [depAll]
    rcases List.mem_cons.mp h with e | e
    · rw [e]; exact Nat.le_max_left _ _
    · exact Nat.le_trans (dep_mem e) (Nat.le_max_right _ _)
theorem small_mem : ∀ {xs : List D} {d : D}, smallAll xs → d ∈ xs → small d
  | x :: r, d, s, h => by
    simp only [smallAll] at s
    rcases List.mem_cons.mp h with e | e
    · rw [e]; exact s.1
    · exact small_mem s.2 e
mutual
/-- in H the value v is the data d; as: the addresses of what it is made of -/
def Rep (K : PySem.W.Frag) (H : Hp) : D → V → List Addr → Prop
  | .non, v, as => v = .non ∧ as = []
  | .bl b, v, as => v = .bl b ∧ as = []
  | .int i, v, as => v = .int i ∧ as = []
  | .str x, v, as => v = .str x ∧ as = []
  | .tup ds, v, as => ∃ a xs bs, v = .ref a ∧ H a = some (.tup xs) ∧ RepAll K H ds xs bs ∧ a ∉ bs ∧ as = a :: bs
  | .lst ds, v, as => ∃ a xs bs, v = .ref a ∧ H a = some (.lst xs) ∧ RepAll K H ds xs bs ∧ a ∉ bs ∧ as = a :: bs
  | .dct, v, as => ∃ a, v = .ref a ∧ H a = some (.dK []) ∧ as = [a]
  | .dx ks ds, v, as => ∃ a kvs bs, v = .ref a ∧ H a = some (.dK kvs) ∧ kvs.map Prod.fst = ks ∧ RepAll K H ds (kvs.map Prod.snd) bs ∧ a ∉ bs ∧ as = a :: bs
  | .exc C n m, v, as => ∃ a t d, v = .ref a ∧ H a = some (xV C t d a) ∧ H t = some (.tup (xArgs m)) ∧ (∀ dx, d = some dx → H dx = some (.own a)) ∧ XGood K C n ∧ as = a :: t :: d.toList
def RepAll (K : PySem.W.Frag) (H : Hp) : List D → List V → List Addr → Prop
  | [], xs, as => xs = [] ∧ as = []
  | d :: ds, xs, as => ∃ x r bs cs, xs = x :: r ∧ Rep K H d x bs ∧ RepAll K H ds r cs ∧ as = bs ++ cs
end
section
variable {K : PySem.W.Frag} {H H' : Hp}
mutual
theorem Rep.keep : ∀ {d : D} {v : V} {as : List Addr}, Rep K H d v as → (∀ b ∈ as, ∀ o, H b = some o → H' b = some o) → Rep K H' d v as
  | .non, v, as, h, _ => by simpa only [Rep] using h
  | .bl _, v, as, h, _ => by simpa only [Rep] using h
  | .int _, v, as, h, _ => by simpa only [Rep] using h
  | .str _, v, as, h, _ => by simpa only [Rep] using h
  | .tup ds, v, as, h, k => by
    simp only [Rep] at h ⊢
    obtain ⟨a, xs, bs, e, ha, r, na, rfl⟩ := h
    exact ⟨a, xs, bs, e, k a (by simp) _ ha, RepAll.keep r fun b hb => k b (by simp [hb]), na, rfl⟩
  | .lst ds, v, as, h, k => by
    simp only [Rep] at h ⊢
    obtain ⟨a, xs, bs, e, ha, r, na, rfl⟩ := h
    exact ⟨a, xs, bs, e, k a (by simp) _ ha, RepAll.keep r fun b hb => k b (by simp [hb]), na, rfl⟩
  | .dct, v, as, h, k => by
    simp only [Rep] at h ⊢
    obtain ⟨a, e, ha, rfl⟩ := h
    exact ⟨a, e, k a (by simp) _ ha, rfl⟩
  | .dx ks ds, v, as, h, k => by
    simp only [Rep] at h ⊢
    obtain ⟨a, kvs, bs, e, ha, ek, r, na, rfl⟩ := h
    exact ⟨a, kvs, bs, e, k a (by simp) _ ha, ek, RepAll.keep r fun b hb => k b (by simp [hb]), na, rfl⟩
  | .exc C n m, v, as, h, k => by
    simp only [Rep] at h ⊢
    obtain ⟨a, t, d, e, ha, ht, hd, g, rfl⟩ := h
    exact ⟨a, t, d, e, k a (by simp) _ ha, k t (by simp) _ ht, fun dx z => k dx (by simp [z]) _ (hd dx z), g, rfl⟩
theorem RepAll.keep : ∀ {ds : List D} {xs : List V} {as : List Addr}, RepAll K H ds xs as → (∀ b ∈ as, ∀ o, H b = some o → H' b = some o) → RepAll K H' ds xs as
  | [], xs, as, h, _ => by simpa only [RepAll] using h
  | d :: ds, xs, as, h, k => by
    simp only [RepAll] at h ⊢
    obtain ⟨x, r, bs, cs, e, h1, h2, rfl⟩ := h
    exact ⟨x, r, bs, cs, e, Rep.keep h1 fun b hb => k b (by simp [hb]), RepAll.keep h2 fun b hb => k b (by simp [hb]), rfl⟩
end
mutual
/-- all of it is tracked -/
theorem Rep.tracked : ∀ {d : D} {v : V} {as : List Addr}, Rep K H d v as → ∀ b ∈ as, ∃ o, H b = some o
  | .non, v, as, h, b, hb => by simp only [Rep] at h; rw [h.2] at hb; cases hb
  | .bl _, v, as, h, b, hb => by simp only [Rep] at h; rw [h.2] at hb; cases hb
  | .int _, v, as, h, b, hb => by simp only [Rep] at h; rw [h.2] at hb; cases hb
  | .str _, v, as, h, b, hb => by simp only [Rep] at h; rw [h.2] at hb; cases hb
  | .tup ds, v, as, h, b, hb => by
    simp only [Rep] at h
    obtain ⟨a, xs, bs, e, ha, r, na, rfl⟩ := h
    rcases List.mem_cons.mp hb with z | z
    · exact ⟨_, z ▸ ha⟩
    · exact RepAll.tracked r b z
  | .lst ds, v, as, h, b, hb => by
    simp only [Rep] at h
    obtain ⟨a, xs, bs, e, ha, r, na, rfl⟩ := h
    rcases List.mem_cons.mp hb with z | z
    · exact ⟨_, z ▸ ha⟩
    · exact RepAll.tracked r b z
  | .dct, v, as, h, b, hb => by
    simp only [Rep] at h
    obtain ⟨a, e, ha, rfl⟩ := h
    obtain rfl := List.mem_singleton.mp hb
    exact ⟨_, ha⟩
  | .dx ks ds, v, as, h, b, hb => by
    simp only [Rep] at h
    obtain ⟨a, kvs, bs, e, ha, ek, r, na, rfl⟩ := h
    rcases List.mem_cons.mp hb with z | z
    · exact ⟨_, z ▸ ha⟩
    · exact RepAll.tracked r b z
  | .exc C n m, v, as, h, b, hb => by
    simp only [Rep] at h
    obtain ⟨a, t, d, e, ha, ht, hd, g, rfl⟩ := h
    rcases List.mem_cons.mp hb with z | z
    · exact ⟨_, z ▸ ha⟩
    · rcases List.mem_cons.mp z with z | z
      · exact ⟨_, z ▸ ht⟩
      · exact ⟨_, hd b (by simpa using z)⟩
theorem RepAll.tracked : ∀ {ds : List D} {xs : List V} {as : List Addr}, RepAll K H ds xs as → ∀ b ∈ as, ∃ o, H b = some o
  | [], xs, as, h, b, hb => by simp only [RepAll] at h; rw [h.2] at hb; cases hb
  | d :: ds, xs, as, h, b, hb => by
    simp only [RepAll] at h
    obtain ⟨x, r, bs, cs, e, h1, h2, rfl⟩ := h
    rcases List.mem_append.mp hb with z | z
    · exact Rep.tracked h1 b z
    · exact RepAll.tracked h2 b z
end
theorem RepAll.len : ∀ {ds : List D} {xs : List V} {as : List Addr}, RepAll K H ds xs as → xs.length = ds.length
  | [], xs, as, h => by
    simp only [RepAll] at h
    rw [h.1]
    rfl
  | d :: ds, xs, as, h => by
    simp only [RepAll] at h
    obtain ⟨x, r, bs, cs, e, h1, h2, _⟩ := h
    rw [e, List.length_cons, List.length_cons, RepAll.len h2]
theorem RepAll.at : ∀ {ds : List D} {xs : List V} {as : List Addr} {i : Nat} {d : D}, RepAll K H ds xs as → ds[i]? = some d → ∃ x bs, xs[i]? = some x ∧ Rep K H d x bs ∧ ∀ b ∈ bs, b ∈ as
  | [], xs, as, i, d, h, e => by simp at e
  | d :: ds, xs, as, 0, d', h, e => by
    simp only [RepAll] at h
    obtain ⟨x, r, bs, cs, rfl, h1, h2, rfl⟩ := h
    obtain rfl : d = d' := by simpa using e
    exact ⟨x, bs, rfl, h1, fun b hb => by simp [hb]⟩
  | d :: ds, xs, as, i + 1, d', h, e => by
    simp only [RepAll] at h
    obtain ⟨x, r, bs, cs, rfl, h1, h2, rfl⟩ := h
    obtain ⟨y, es, q1, q2, q3⟩ := RepAll.at (i := i) h2 (by simpa using e)
    exact ⟨y, es, by simpa using q1, q2, fun b hb => by simp [q3 b hb]⟩
theorem RepAll.at2 {ds : List D} {xs : List V} {as : List Addr} {i : Nat} {x : V} (h : RepAll K H ds xs as) (e : xs[i]? = some x) : ∃ d bs, ds[i]? = some d ∧ Rep K H d x bs ∧ ∀ b ∈ bs, b ∈ as := by
  have hl := h.len
  have hi : i < ds.length := by rw [← hl]; exact (List.getElem?_eq_some_iff.mp e).1
  obtain ⟨y, bs, q1, q2, q3⟩ := h.at (List.getElem?_eq_getElem hi)
  rw [e] at q1
  cases q1
  exact ⟨_, bs, List.getElem?_eq_getElem hi, q2, q3⟩
section
variable {P : Program} {w : World} {h : Heap}
/-- the keys of entries -/
inductive KeysAre : List Key → List DictEntry → Prop
  | nil : KeysAre [] []
  | cons {k : Key} {ks : List Key} {e : DictEntry} {es : List DictEntry} : keyIs k e.key = true → KeysAre ks es → KeysAre (k :: ks) (e :: es)
theorem kv_vals : ∀ {kvs : List (Key × V)} {vs : List (Key × Value)} {es : List DictEntry}, KV kvs vs → Pairs (mixKind P w) es vs → ∃ us, Vals (kvs.map Prod.snd) us ∧ us = es.map (·.val) ∧ KeysAre (kvs.map Prod.fst) es
  | _, _, _, .nil, pr => by
    cases pr
    exact ⟨[], .nil, rfl, .nil⟩
  | _, _, _, .cons r t, pr => by
    cases pr with
    | cons h1 h2 h3 =>
      obtain ⟨us, a, b, c⟩ := kv_vals t h3
      obtain ⟨r1, r2⟩ := r
      refine ⟨_ :: us, .cons r2 a, ?_, ?_⟩
      · rw [List.map_cons, ← b, h2]
      · rw [List.map_cons, r1]
        exact .cons h1 c
theorem key_shows {k : Key} {v : Value} (hk : keyIs k v = true) (ok : keyOk k) {as : List Addr} {d : Nat} : ReprK P w as h d v (keyTxt k) := by
  rcases keyIs_shape hk with ⟨i, t, rfl, e⟩ | ⟨x, t, rfl, e⟩
  · subst e
    exact ReprK.of_is (ReprIs.int t ok) _ _ _
  · subst e
    exact ReprK.of_is (ReprIs.str x t ok) _ _ _
theorem ents_of {as : List Addr} {d : Nat} : ∀ {ks : List Key} {es : List DictEntry} {ts : List Str}, KeysAre ks es → (∀ k ∈ ks, keyOk k) → ReprAllK P w as h d (es.map (·.val)) ts → ReprEntriesK P w as h d es (entTxt ks ts)
  | _, _, _, .nil, _, r => by
    generalize hq : ([] : List DictEntry).map (·.val) = q at r
    cases r with
    | nil => exact .nil
    | cons _ _ => cases hq
  | _, _, ts, .cons (k := k) (e := e) (es := es) hk t, ok, r => by
    generalize hq : (e :: es).map (·.val) = q at r
    cases r with
    | nil => cases hq
    | cons r1 r2 =>
      rw [List.map_cons] at hq
      obtain ⟨rfl, rfl⟩ := List.cons.inj hq
      exact .cons (key_shows hk (ok _ List.mem_cons_self)) r1 (ents_of t (fun k hk => ok k (List.mem_cons_of_mem _ hk)) r2)
mutual
/-- what stands there shows by its text -/
theorem Rep.shows (hok : HOk P w H h) (kin : K.In h) : ∀ {d : D} {v : V} {as : List Addr} {u : Value}, Rep K H d v as → RelV v u → small d → wt d ≤ sizeLine → ReprK P w as h (dep d) u (shown d)
  | .non, v, as, u, r, q, sm, z => by
    simp only [Rep] at r
    obtain ⟨rfl, rfl⟩ := r
    cases (show u = Value.none from q)
    exact ReprK.of_is ReprIs.none _ _ _
  | .bl b, v, as, u, r, q, sm, z => by
    simp only [Rep] at r
    obtain ⟨rfl, rfl⟩ := r
    cases (show u = Value.bool b from q)
    exact ReprK.of_is (ReprIs.bool b) _ _ _
  | .int i, v, as, u, r, q, sm, z => by
    simp only [Rep] at r
    obtain ⟨rfl, rfl⟩ := r
    obtain ⟨t, rfl⟩ := (show ∃ t, u = Value.int i t from q)
    simp only [small] at sm
    exact ReprK.of_is (ReprIs.int t sm) _ _ _
  | .str x, v, as, u, r, q, sm, z => by
    simp only [Rep] at r
    obtain ⟨rfl, rfl⟩ := r
    obtain ⟨t, rfl⟩ := (show ∃ t, u = Value.str x t from q)
    simp only [wt] at z
    exact ReprK.of_is (ReprIs.str x t z) _ _ _
  | .tup ds, v, as, u, r, q, sm, z => by
    simp only [Rep] at r
    obtain ⟨a, xs, bs, rfl, ha, ra, na, rfl⟩ := r
    cases (show u = Value.ref a from q)
    obtain ⟨_, its, rv, o, h1, h2, n, h3⟩ := (show ObjOk P w H h a (.tup xs) from hok a _ ha)
    simp only [small] at sm
    simp only [wt] at z
    have k := RepAll.shows hok kin ra rv sm (by omega) (depAll ds) (Nat.le_refl _)
    simp only [shown, dep]
    exact ReprK.tuple h1 h2 h3 na (by simpa using k)
  | .lst ds, v, as, u, r, q, sm, z => by
    simp only [Rep] at r
    obtain ⟨a, xs, bs, rfl, ha, ra, na, rfl⟩ := r
    cases (show u = Value.ref a from q)
    obtain ⟨_, its, n, rv, h1⟩ := (show ObjOk P w H h a (.lst xs) from hok a _ ha)
    simp only [small] at sm
    simp only [wt] at z
    have k := RepAll.shows hok kin ra rv sm (by omega) (depAll ds) (Nat.le_refl _)
    simp only [shown, dep]
    cases its with
    | nil =>
      generalize shownAll ds = ts at k ⊢
      cases k
      rw [show listText [] = ("[]" : Str) from listText_nil]
      exact ReprK.listEmpty h1 rfl rfl
    | cons y l =>
      exact ReprK.list h1 rfl rfl na (by simpa using k.length_eq) (fun i y e => k.item i y (by simpa using e))
  | .dx ks ds, v, as, u, r, q, sm, z => by
    simp only [Rep] at r
    obtain ⟨a, kvs, bs, rfl, ha, ek, ra, na, rfl⟩ := r
    cases (show u = Value.ref a from q)
    obtain ⟨_, hs, vs, kv, o, es, ep, h1, h2, h3, h4⟩ := (show ObjOk P w H h a (.dK kvs) from hok a _ ha)
    simp only [small] at sm
    simp only [wt] at z
    have pr : Pairs (mixKind P w) es.toList vs := h4.2.1
    have ent : ∃ us, Vals (kvs.map Prod.snd) us ∧ us = es.toList.map (·.val) ∧ KeysAre (kvs.map Prod.fst) es.toList := kv_vals kv pr
    obtain ⟨us, rv, eu, ky⟩ := ent
    have k := RepAll.shows hok kin ra rv sm.2 (by omega) (depAll ds) (Nat.le_refl _)
    rw [ek] at ky
    simp only [shown, dep]
    refine ReprK.dict (o := o) (es := es) (n := ep) h1 h2.1 h3 hs na ?_
    rw [eu] at k
    exact ents_of ky sm.1 k
  | .dct, v, as, u, r, q, sm, z => by
    simp only [Rep] at r
    obtain ⟨a, rfl, ha, rfl⟩ := r
    cases (show u = Value.ref a from q)
    obtain ⟨_, hs, vs, kv, o, es, ep, h1, h2, h3, h4⟩ := (show ObjOk P w H h a (.dK []) from hok a _ ha)
    cases kv
    simp only [shown, dep]
    have et : dictText [] = ("{}" : Str) := by decide +kernel
    rw [← et]
    refine ReprK.dict (as := []) (d := 0) (o := o) (es := es) (n := ep) h1 h2.1 h3 hs (by simp) ?_
    have e0 : es.toList = [] := by
      have q : Pairs (mixKind P w) es.toList [] := h4.2.1
      generalize es.toList = l at q
      cases q
      rfl
    rw [e0]
    exact .nil
  | .exc C n m, v, as, u, r, q, sm, z => by
    simp only [Rep] at r
    obtain ⟨a, t, d, rfl, ha, ht, _, g, rfl⟩ := r
    cases (show u = Value.ref a from q)
    have h1 := xV_at hok ha
    obtain ⟨_, its, rv, o, h2, h3, n2, h4⟩ := (show ObjOk P w H h t (.tup (xArgs m)) from hok t _ ht)
    simp only [wt] at z
    simp only [shown, dep]
    intro base hb A gs E s Q hg hcl hu hk0 hQ
    refine wpAny_pyReprUnder_ref (by omega) (reprUnder_C g ⟨kin.keeps hk0, _, _, hk0 _ _ h1, rfl, rfl, rfl⟩ m rv ⟨o, n2, hk0 _ _ h2, h3, h4⟩ base hb gs hg (hcl t (by simp)) hu fun h' u tk hk => ⟨_, _, rfl, hQ h' tk hk⟩)
theorem RepAll.shows (hok : HOk P w H h) (kin : K.In h) : ∀ {ds : List D} {xs : List V} {as : List Addr} {us : List Value}, RepAll K H ds xs as → Vals xs us → smallAll ds → wtAll ds ≤ sizeLine → ∀ n, depAll ds ≤ n → ReprAllK P w as h n us (shownAll ds)
  | [], xs, as, us, r, q, sm, z, n, hn => by
    simp only [RepAll] at r
    obtain ⟨rfl, rfl⟩ := r
    cases q
    simp only [shownAll]
    exact .nil
  | d :: ds, xs, as, us, r, q, sm, z, n, hn => by
    simp only [RepAll] at r
    obtain ⟨x, l, bs, cs, rfl, r1, r2, rfl⟩ := r
    cases q with
    | cons q1 q2 =>
      simp only [smallAll] at sm
      simp only [wtAll] at z
      simp only [depAll] at hn
      simp only [shownAll]
      have k1 := Rep.shows hok kin r1 q1 sm.1 (by omega)
      have k2 := RepAll.shows hok kin r2 q2 sm.2 (by omega) n (by omega)
      exact .cons ((k1.more fun b hb => List.mem_append_left _ hb).level_le (by omega)) (k2.more_le (fun b hb => List.mem_append_right _ hb) (Nat.le_refl _))
end
end
end
end Sw
namespace Sw
open PySem PySem.Spec PyProof.Rows L2
/-- repr(xs), xs a list of data -/
def rRepr (K : PySem.W.Frag) : List V → Hp → VK → Prop := fun xs H Q => ∃ x ds as, xs = [x] ∧ Rep K H (.lst ds) x as ∧ smallAll ds ∧ wtAll ds ≤ 10000000 ∧ depAll ds ≤ 30 ∧ Q (.str (shown (.lst ds))) H
theorem call_repr {X : Cx} {k : Nat} (hr : Room k X.A) (hg : X.A.guards = some []) : CallR X (.builtin "repr") (rRepr X.K) := by
  intro pins s σ H xs us Q I r h
  obtain ⟨x, ds, as, rfl, hd, sm, z, dp, q⟩ := h
  obtain ⟨u, rfl, hu⟩ := vals1 r
  have un := hr.units
  have hz : wt (.lst ds) ≤ sizeLine := by
    rw [sizeLine_eq]
    simp only [wt]
    omega
  have hsh : (listText (shownAll ds)).length ≤ sizeLine := by
    have h1 := shown_wt (.lst ds)
    simp only [shown] at h1
    omega
  simp only [Rep] at hd
  obtain ⟨a, ys, bs, rfl, ha, ra, na, rfl⟩ := hd
  cases (show u = Value.ref a from hu)
  obtain ⟨_, its, n, rv, h1⟩ := (show ObjOk X.prog X.w H s.heap a (.lst ys) from I.hok a _ ha)
  have kr := RepAll.shows I.hok I.kIn ra rv sm (by simp only [wt] at hz; omega) (depAll ds) (Nat.le_refl _)
  have hT : s.TypeIs (.ref a) "list" := ⟨_, h1, rfl⟩
  simp only [shown] at q
  refine call_repr_slot (by omega) hT PySem.F.slot_list_repr.toG ?_
  cases its with
  | nil =>
    generalize shownAll ds = ts at kr q
    cases kr
    rw [show listText [] = ("[]" : Str) from listText_nil] at q
    exact call_list_repr_empty hT h1 rfl ⟨_, _, rfl, .str "[]", H, I.tok _, ⟨_, rfl⟩, q⟩
  | cons y l =>
    refine call_list_reprK (as := bs) (h₀ := s.heap) (d := depAll ds) h1 rfl rfl na (by simpa using kr.length_eq) (fun i y e => kr.item i y (by simpa using e)) (g := []) hg (fun b _ => Clear.nil b) (by show X.A.units + 1 + _ < cLine; omega) (fun _ _ e => e) (fun h' u tk hk => ?_) hsh
    exact ⟨_, _, rfl, .str _, H, I.kept (t' := tk) hk, ⟨_, rfl⟩, q⟩
/-! ### what a class a thing is of -/
/-- isinstance(x, T), by the data -/
def isT (T : String) : D → Bool
  | .int _ => T == "int"
  | .bl _ => T == "bool" || T == "int"
  | .str _ => T == "str"
  | .tup _ => T == "tuple"
  | .lst _ => T == "list"
  | .dct => T == "dict"
  | .dx _ _ => T == "dict"
  | _ => false
def isTs : List String := ["int", "bool", "tuple", "str", "list", "dict"]
def rIsD (K : PySem.W.Frag) : List V → Hp → VK → Prop := fun xs H Q => ∃ (x : V) (d : D) (as : List Addr) (T : String), xs = [x, .ty T] ∧ T ∈ isTs ∧ Rep K H d x as ∧ Q (.bl (isT T d)) H
theorem kit_exc {K : PySem.W.Frag} {C : Addr} {n : Str} (G : XGood K C n) {T : String} (hT : T ∈ isTs) : PySem.W.kitOne K (.ref C) (.type T) = some false := by
  have e : ∀ T : String, PySem.W.kitMeta T = true → PySem.W.subIn K (.ref C) (.type T) = some false → PySem.W.kitOne K (.ref C) (.type T) = some false := fun T h1 h2 => by
    unfold PySem.W.kitOne PySem.W.kitCls
    rw [if_neg (show ¬ ((Value.ref C == Value.type T) = true) from Bool.false_ne_true)]
    show (if PySem.W.kitMeta T = true then _ else _) = _
    rw [if_pos h1, h2]
  simp only [isTs, List.mem_cons, List.not_mem_nil, or_false] at hT
  rcases hT with rfl | rfl | rfl | rfl | rfl | rfl
  · exact e _ (by decide +kernel) G.ni
  · exact e _ (by decide +kernel) G.nb
  · exact e _ (by decide +kernel) G.nt
  · exact e _ (by decide +kernel) G.ns
  · exact e _ (by decide +kernel) G.nl
  · exact e _ (by decide +kernel) G.nd
theorem kitB_none {T : String} (hT : T ∈ isTs) : kitB "NoneType" T = some false := by
  simp only [isTs, List.mem_cons, List.not_mem_nil, or_false] at hT
  rcases hT with rfl | rfl | rfl | rfl | rfl | rfl <;> decide +kernel
theorem kitB_bool {T : String} (hT : T ∈ isTs) : kitB "bool" T = some (T == "bool" || T == "int") := by
  simp only [isTs, List.mem_cons, List.not_mem_nil, or_false] at hT
  rcases hT with rfl | rfl | rfl | rfl | rfl | rfl <;> decide +kernel
theorem kitB_self {S T : String} (hS : S ∈ ["int", "str", "tuple", "list", "dict"]) (hT : T ∈ isTs) : kitB S T = some (T == S) := by
  simp only [isTs, List.mem_cons, List.not_mem_nil, or_false] at hT hS
  rcases hS with rfl | rfl | rfl | rfl | rfl <;> rcases hT with rfl | rfl | rfl | rfl | rfl | rfl <;> decide +kernel
theorem call_isD {X : Cx} : CallR X (.builtin "isinstance") (rIsD X.K) := by
  intro pins s σ H xs us Q I r h
  obtain ⟨x, d, as, T, rfl, hT, hd, q⟩ := h
  have ex : ∀ t b, TyX X.K H x t → PySem.W.kitOne X.K t (.type T) = some b → isT T d = b → wpAny (model X.prog X.w) X.A (call (.builtin "isinstance") us) (EP X pins σ Q) X.xe s := fun t b h1 h2 h3 => by
    rw [h3] at q
    exact call_isi pins s σ H _ us Q I r ⟨x, .ty T, t, .type T, b, rfl, .ty T, h1, h2, q⟩
  cases d with
  | non =>
    simp only [Rep] at hd
    obtain ⟨rfl, rfl⟩ := hd
    exact ex _ _ (.base .non) (kit_ty (kitB_none hT)) rfl
  | bl b =>
    simp only [Rep] at hd
    obtain ⟨rfl, rfl⟩ := hd
    exact ex _ _ (.base (.bl b)) (kit_ty (kitB_bool hT)) rfl
  | int i =>
    simp only [Rep] at hd
    obtain ⟨rfl, rfl⟩ := hd
    exact ex _ _ (.base (.int i)) (kit_ty (kitB_self (by decide) hT)) rfl
  | str y =>
    simp only [Rep] at hd
    obtain ⟨rfl, rfl⟩ := hd
    exact ex _ _ (.base (.str y)) (kit_ty (kitB_self (by decide) hT)) rfl
  | tup ds =>
    simp only [Rep] at hd
    obtain ⟨a, ys, bs, rfl, ha, _⟩ := hd
    exact ex _ _ (.base (.tup ha)) (kit_ty (kitB_self (by decide) hT)) rfl
  | lst ds =>
    simp only [Rep] at hd
    obtain ⟨a, ys, bs, rfl, ha, _⟩ := hd
    exact ex _ _ (.base (.lst ha)) (kit_ty (kitB_self (by decide) hT)) rfl
  | dct =>
    simp only [Rep] at hd
    obtain ⟨a, rfl, ha, _⟩ := hd
    exact ex _ _ (.base (.dK ha)) (kit_ty (kitB_self (by decide) hT)) rfl
  | dx =>
    simp only [Rep] at hd
    obtain ⟨a, kvs, bs, rfl, ha, _⟩ := hd
    exact ex _ _ (.base (.dK ha)) (kit_ty (kitB_self (by decide) hT)) rfl
  | exc C n m =>
    simp only [Rep] at hd
    obtain ⟨a, t, dd, rfl, ha, ht, hx, G, _⟩ := hd
    obtain ⟨u1, u2, rfl, r1, r2⟩ := vals2 r
    cases (show u1 = Value.ref a from r1)
    cases (show u2 = Value.type T from r2)
    have h1 := xV_at I.hok ha
    obtain ⟨cd, hc, _⟩ := G.nm
    have fin : ∀ od, PySem.W.InstAt s.heap a (xRec C dd t) C od → wpAny (model X.prog X.w) X.A (call (.builtin "isinstance") [.ref a, .type T]) (EP X pins σ Q) X.xe s := fun od J =>
      PySem.W.kia_one (PySem.W.kitx_exc (od := od) (by rw [hc]; rfl) G.ga G.gt G.sub G.ca G.cn G.ct G.mo) I.kIn J (kit_exc G hT) (fun z => nomatch z) fun tk => ⟨.bl false, H, I.tok tk, rfl, q⟩
    cases dd with
    | none => exact fin none ⟨h1, rfl, rfl, trivial⟩
    | some dx =>
      obtain ⟨o, ho⟩ := (show ObjOk X.prog X.w H s.heap dx (.own a) from I.hok dx _ (hx dx rfl))
      exact fin (some o) ⟨h1, rfl, rfl, ho⟩
end Sw
namespace Sw
open PySem PySem.Spec PyProof.Rows
theorem enum_new1 {v : Value} {o : Obj} {Hx : Heap → Prop} (B : Begins v o Hx) :
    Meets (Builtin.«enumerate.__new__» ⟨[.type "enumerate", v], []⟩) (fun _ R s => Hx s.heap ∧
      R (.ok (.ret (.ref (s.heap.push o).objs.size))) { s with heap := (s.heap.push o).push { cls := .type "enumerate", data := .fields #[.none, .bool false, .ref s.heap.objs.size, rawInt 0, .none, .none] } }) :=
  .of_wp fun prog w A R s h => by
    obtain ⟨hp, g, d, tk, os⟩ := s
    obtain ⟨h1, h⟩ := h
    have hsub := sub_enumerate
    have q1 : ∀ {A' : Around} {E : Value → Shared → Prop} {Q : Value → Shared → Prop}, Q (.ref hp.objs.size) ⟨hp.push o, g, d, tk, os⟩ → wpAny (model prog w) A' (pyIter v) Q E ⟨hp, g, d, tk, os⟩ :=
      fun q => B.iter prog w _ _ ⟨hp, g, d, tk, os⟩ _ h1 q
    wp_walk using q1
    refine wpAny_stack_any fun st => wpAny_pure ?_
    split
    · rename_i c _ _ _ _ _
      cases (c == Value.type "enumerate")
      · wp_walk using q1
        exact ⟨_, rfl, h⟩
      · wp_walk using q1
        exact ⟨_, rfl, h⟩
    · wp_walk using q1
      exact ⟨_, rfl, h⟩
theorem enum_call1 {prog : Program} {w : World} {A : Around} {E : Value → Shared → Prop} {s : Shared} {v : Value} {o : Obj} {Hx : Heap → Prop} {Q : Value → Shared → Prop} (B : Begins v o Hx) (h1 : Hx s.heap)
    (h : ∀ h', IsEnum h' (s.heap.objs.size + 1) s.heap.objs.size 0 .none → h'.get? s.heap.objs.size = some o → (∀ b o, s.heap.get? b = some o → h'.get? b = some o) → Q (.ref (s.heap.objs.size + 1)) { s with heap := h' }) :
    wpAny (model prog w) A (call (.type "enumerate") [v]) Q E s := by
  refine callType_new F.called_enumerate (by decide) (F.typeCall_enumerate_1 _) (F.newCall_enumerate_1 _) (fun obj => F.args_object_init_2 obj _) F.entry_enumerate_new (enum_new1 B) ⟨h1, ?_⟩
  have hz : (s.heap.push o).objs.size = s.heap.objs.size + 1 := Heap.size_push ..
  show _ ∧ _
  rw [hz]
  have he : IsEnum ((s.heap.push o).push { cls := .type "enumerate", data := .fields #[.none, .bool false, .ref s.heap.objs.size, rawInt 0, .none, .none] }) (s.heap.objs.size + 1) s.heap.objs.size 0 .none := by
    have q := Heap.get?_push_size (s.heap.push o) (o := { cls := .type "enumerate", data := .fields #[.none, .bool false, .ref s.heap.objs.size, rawInt 0, .none, .none] }) rfl
    rw [hz] at q
    exact q
  exact ⟨⟨_, he, rfl⟩, h _ he (Heap.get?_push_of_some _ (Heap.get?_push_size _ B.free)) fun b o x => Heap.get?_push_of_some _ (Heap.get?_push_of_some _ x)⟩
end Sw
namespace Sw
open PySem PySem.Spec PyProof.Rows L2
/-- the tuple at a, each item in a new pair with its place -/
def ItTe (K : PySem.W.Frag) (a : Addr) : It :=
  ⟨fun i H => ∃ (xs : List V) (x : V), SqT K H a xs ∧ xs[i]? = some x, fun i H v H' => ∃ T x, v = .ref T ∧ H T = none ∧ H' = upd H T (.tup [.int (i : Nat), x]) ∧ ∀ xs, SqT K H a xs → xs[i]? = some x, fun i H => ∃ xs : List V, SqT K H a xs ∧ xs.length = i⟩
theorem turn_te {P : Program} {w : World} {K : PySem.W.Frag} {elts : List Expr} {kk : Nat} {tpos : Pos} (a e it : Addr) :
    Turn P w K (.Tuple elts kk tpos) (ItTe K a) [e, it] e (fun i h => (∃ old, IsEnum h e it ((i : Nat) : Int) old) ∧ h.IsTupleIter it a i ∧ e ≠ it ∧ a ≠ it ∧ a ≠ e) where
  mem := by simp
  obj := fun i h st b hb => by
    obtain ⟨⟨old, he⟩, ⟨o, ho, hc, hd⟩, _⟩ := st
    rcases List.mem_cons.mp hb with z | z
    · rw [z]; exact ⟨_, he, fun v q => nomatch q⟩
    · obtain rfl := List.mem_singleton.mp z
      exact ⟨o, ho, fun v q => by rw [hd] at q; cases q⟩
  keep := fun i h h' st k => by
    obtain ⟨⟨old, he⟩, hi, hne⟩ := st
    exact ⟨⟨old, k e (by simp) _ he⟩, hi.at fun o q => k it (by simp) o q, hne⟩
  item := by
    intro X hP hw hK hc i pins s σ H E I hf st hg
    subst hP hw hK
    obtain ⟨⟨old, he⟩, hit, hne, hai, hae⟩ := st
    obtain ⟨xs, x, hq, hx⟩ := hg
    obtain ⟨its, rv, p, hz⟩ := I.tuple hq
    obtain ⟨u, hu, ru⟩ := rv.get hx
    have hel : e < s.heap.objs.size := Heap.lt_size he
    have hil : it < s.heap.objs.size := by obtain ⟨_, q, _⟩ := hit; exact Heap.lt_size q
    have hlt : i < its.toArray.size := by
      have := (List.getElem?_eq_some_iff.mp hu).1
      simpa using this
    refine wpAny_pyNext_enum_itemD (Draws.tuple (A := X.A.in1) (I.ok.hd hc) it a hai its.toArray) he ⟨hit, p⟩ hlt hne (by simp [hne, Ne.symm hae]) fun y h' tk hy ho hst hT hsz hk => ?_
    obtain ⟨hit', _⟩ := hst
    have ey : y = u := by
      have q : its.toArray[i]? = some y := hy
      have q2 : its.toArray[i]? = some u := by simpa using hu
      rw [q2] at q
      exact (Option.some.inj q).symm
    subst ey
    refine ⟨_, rfl, wpAny_letOwnedTupleGo_enum (s := { s with heap := h', toks := tk + 1 }) ho fun h'' he' sb => ?_⟩
    have hT2 : h''.get? s.heap.objs.size = some { cls := .type "tuple", data := .seq #[.int i tk, y] } := (sb.2 _ (Nat.ne_of_gt hel)).trans hT
    have new : ObjOk X.prog X.w (upd H s.heap.objs.size (.tup [.int (i : Nat), x])) h'' s.heap.objs.size (.tup [.int (i : Nat), x]) :=
      ⟨by show 2 ≤ sizeLine; decide, [.int i tk, y], .cons ⟨_, rfl⟩ (.cons ru .nil), ⟨_, hT2, rfl, _, rfl⟩⟩
    have I1 : Inv X pins σ (upd H s.heap.objs.size (.tup [.int (i : Nat), x])) { s with heap := h'', toks := tk + 1 } :=
      I.turnedNew (ch := [e, it]) (fun b ob hb q => (sb.2 b (fun z => hb (by simp [z]))).trans (hk b ob (fun z => hb (by simp [z])) (fun z => hb (by simp [z])) q)) hf (Nat.le_refl _) new
    refine ⟨.ref s.heap.objs.size, _, I1, rfl, ⟨_, x, rfl, I.hok.fresh (Nat.le_refl _), rfl, fun ys hy => by rw [I.tuple_inj hy hq]; exact hx⟩, ⟨⟨y, ?_⟩, hit'.at fun o q => (sb.2 it (Ne.symm hne)).trans q, hne, hai, hae⟩, fun b hb => ?_⟩
    · have e1 : ((i + 1 : Nat) : Int) = (i : Int) + 1 := by omega
      rw [e1]; exact he'
    · have hb' : b < s.heap.objs.size := by
        rcases List.mem_cons.mp hb with z | z
        · rw [z]; exact hel
        · obtain rfl := List.mem_singleton.mp z
          exact hil
      rw [upd_ne (Nat.ne_of_lt hb')]
      exact (hf b hb).1
  done := by
    intro X hP hw hK hc i pins s σ H E I hf st hg
    subst hP hw hK
    obtain ⟨⟨old, he⟩, hit, hne, hai, hae⟩ := st
    obtain ⟨xs, hq, hx⟩ := hg
    obtain ⟨its, rv, p, hz⟩ := I.tuple hq
    obtain ⟨f0, f1, f2, f3, f4, f5⟩ := hf it (by simp)
    have hl := rv.length
    have hi : its.toArray.size = i := by simp; omega
    refine wpAny_pyNext_enum_endD (Draws.tuple (A := X.A.in1) (I.ok.hd hc) it a hai its.toArray) he (by rw [hi]; exact ⟨hit, p⟩) fun h' eb => ⟨rfl, I.turned (t' := s.toks) (fun b o hb q => eb b o hb q) f0 f1 f3 f4 f5⟩
  self := fun A i s Q E st h => let ⟨⟨_, he⟩, _⟩ := st; wpAny_pyIter_enum he h
def iTe (K : PySem.W.Frag) (ta : TA) : TI := fun σ H R => ta σ H fun vs H1 => ∃ a xs, vs = [.ref a] ∧ SqT K H1 a xs ∧ R (ItTe K a) H1
/-- for i, x in enumerate(t), t a tuple -/
theorem pi_enumT {X : Cx} {e : Expr} {ta : TA} {p pos tpos : Pos} {elts : List Expr} {kk : Nat} (hg : Gl X "enumerate") (hm : X.mg "enumerate" = none) (ha : PA X [e] ta) (hs : starEach [e] X.env = [(false, eval e X.env)] := by rfl) :
    PI X (.Tuple elts kk tpos) (.Call (.Name "enumerate" p) [e] [] pos) (iTe X.K ta) := by
  refine ⟨fun pins s σ H R I h => ?_⟩
  refine Call_ (ld_blt I hg hm boot_enumerate (PyProof.Rows.callWith_type1 (thn (ha.run pos pins s σ H _ I h) fun us s1 ⟨vs, H1, I1, r1, q1⟩ => ?_) hs rfl))
  obtain ⟨a, xs, ex, hq, q⟩ := q1
  subst ex
  cases r1 with
  | cons r rr =>
    cases rr
    cases r
    obtain ⟨its, rv, p', hz⟩ := I1.tuple hq
    have hal : a < s1.heap.objs.size := by obtain ⟨_, q, _⟩ := p'; exact Heap.lt_size q
    refine enum_call1 (begins_tuple a its.toArray) p' fun h' he hit hk => wpAny_pyIter_enum he ?_
    have I2 : Inv X pins σ H1 { s1 with heap := h' } := I1.kept (t' := s1.toks) hk
    refine ⟨s1.heap.objs.size + 1, [s1.heap.objs.size + 1, s1.heap.objs.size], _, _, H1, rfl, I2, turn_te a (s1.heap.objs.size + 1) s1.heap.objs.size, ⟨⟨.none, he⟩, ⟨_, hit, rfl, rfl⟩, Nat.succ_ne_self _, Nat.ne_of_lt hal, Nat.ne_of_lt (Nat.lt_succ_of_lt hal)⟩, fun b hb => ?_, q⟩
    have hle : s1.heap.objs.size ≤ b := by
      rcases List.mem_cons.mp hb with z | z
      · rw [z]; exact Nat.le_add_right _ _
      · obtain rfl := List.mem_singleton.mp z
        exact Nat.le_refl _
    exact I1.fpOk hle (I1.hok.fresh hle)
theorem walk_te {K : PySem.W.Frag} {a : Addr} {xs : List V} : Walk (ItTe K a) xs.length (fun H => SqT K H a xs) (YPair (fun i => some (.int (i : Nat))) (fun i => xs[i]?)) := by
  refine ⟨fun i _ hi q => ⟨xs, xs[i], q, by simp [hi]⟩, fun _ q => ⟨xs, q, rfl⟩, fun i H v H' _ q y => ?_⟩
  obtain ⟨T, x, h1, h2, h3, h4⟩ := y
  exact ⟨T, .int (i : Nat), x, h1, h2, h3, rfl, h4 xs q⟩
end Sw
namespace Sw
open PySem L2
/-! ### what all laws share: the text by places, the checks of the package, data in short -/
def top (i : Nat) : Stmt := PySem.Challenge.pw_swapstops_k24_whole_signs_and_colours_of.main.body.getD i (.Pass ⟨0, 0, 0, 0⟩)
def isWhole (lo hi : Int) : D → Bool
  | .int i => decide (lo ≤ i) && decide (i ≤ hi)
  | _ => false
def isPair : D → Bool
  | .tup [_, _] => true
  | _ => false
/-- built-in names that no module has taken -/
structure NoNames (mg : Str → Option Value) : Prop where
  isi : mg "isinstance" = none
  len : mg "len" = none
  int : mg "int" = none
  bool : mg "bool" = none
  tuple : mg "tuple" = none
  enumerate : mg "enumerate" = none
  range : mg "range" = none
  abs : mg "abs" = none
  list : mg "list" = none
  dict : mg "dict" = none
  zip : mg "zip" = none
  sorted : mg "sorted" = none
  str : mg "str" = none
  repr : mg "repr" = none
  super : mg "super" = none
section
variable {P : Program} {w : World} {K : PySem.W.Frag} {mg : Str → Option Value} {base : Heap}
/-- isinstance(the name in slot i, T) -/
theorem pe_isi {X : Cx} {i : Nat} {x T : Str} {p1 p2 p3 p4 : Pos} {TN : String} (hN : X.N[i]? = some x) (hv : Vis X.env.scope x) (hd : (x == ("__debug__" : Str)) = false) (hcd : (x == ("__classdict__" : Str)) = false)
    (h1 : X.mg "isinstance" = none) (h2 : X.mg T = none) (g1 : Gl X "isinstance") (g2 : Gl X T) (hb : bootBuiltins T = some (.type TN)) (hn : T ≠ "__name__") (hd2 : (T == ("__debug__" : Str)) = false)
    (hs : starEach [Expr.Name x p1, Expr.Name T p2] X.env = (false, eval (.Name x p1) X.env) :: starEach [Expr.Name T p2] X.env := by rfl) (hs2 : starEach [Expr.Name T p2] X.env = (false, eval (.Name T p2) X.env) :: starEach [] X.env := by rfl)
    (hpl : (backTo p4 (starEach [Expr.Name T p2] X.env)).any (·.1) = false := by rfl) :
    PE X (.Call (.Name "isinstance" p3) [.Name x p1, .Name T p2] [] p4) (tCB (rIsD X.K) (tCons (tVar i) (tCons (tC (.ty TN)) tNil))) :=
  pe_callB call_isD g1 h1 (by decide +kernel) (pa_cons (pe_var hN hv hd hcd) (pa_cons (pe_bltn (v := .ty TN) g2 h2 hb rfl hn hd2) pa_nil hs2) hs) (by decide) (by decide) hs hpl
def spBetween (K : PySem.W.Frag) : Sp := fun vs H Q _ => ∃ (x : V) (d : D) (as : List Addr) (lo hi : Int), vs = [x, .int lo, .int hi] ∧ Rep K H d x as ∧ Q (.bl (isWhole lo hi d)) H
/-! ### is_pair -/
def spPair (K : PySem.W.Frag) : Sp := fun vs H Q _ => ∃ (x : V) (d : D) (as : List Addr), vs = [x] ∧ Rep K H d x as ∧ Q (.bl (isPair d)) H
/-- a def of one's own that may be called by its name -/
structure Own (P : Program) (w : World) (K : PySem.W.Frag) (mg : Str → Option Value) (base : Heap) (k : Nat) (x : Str) (ps : List Str) (sp : Sp) : Prop where
  ex : ∃ f fd, FnOk P w K mg base CX0 k f fd ps sp ∧ mg x = some (.ref f) ∧ PySem.W.keepIn K (.ref f) = true ∧ Binds K fd ps []
theorem two_of {d : D} (h : isPair d = true) : ∃ a b, d = .tup [a, b] := by
  cases d with
  | tup ds =>
    match ds, h with
    | [a, b], _ => exact ⟨a, b, rfl⟩
    | [], h => cases h
    | [_], h => cases h
    | _ :: _ :: _ :: _, h => cases h
  | _ => cases h
theorem int_wt {i : Nat} (h : i ≤ sizeLine) : (Str.ofString (toString (i : Int))).length ≤ 20 ∧ ((i : Int)).natAbs.log2 < 1920 := by
  rw [sizeLine_eq] at h
  have h1 : ((i : Int)).natAbs < 10 ^ 19 := by
    have : ((i : Int)).natAbs = i := rfl
    rw [this]
    omega
  have h2 := int_text_length_le10 (k := 19) (by decide) h1
  rw [PySem.ofString_length]
  refine ⟨h2, ?_⟩
  exact PySem.Spec.log2_small (Nat.lt_of_lt_of_le h1 (by decide +kernel))
theorem wt_len : ∀ ds : List D, 2 * ds.length ≤ wtAll ds
  | [] => by simp [wtAll]
  | d :: r => by
    have := wt_len r
    simp only [wtAll, List.length_cons]
    omega
/-- a new pair of a word and a place -/
theorem rep_err {H : Hp} {p : Addr} {z : Str} {i : Int} (h : H p = none) : Rep K (upd H p (.tup [.str z, .int i])) (.tup [.str z, .int i]) (.ref p) [p] := by
  simp only [Rep, RepAll]
  exact ⟨p, _, [], rfl, upd_same, ⟨_, _, [], [], rfl, ⟨rfl, rfl⟩, ⟨_, _, [], [], rfl, ⟨rfl, rfl⟩, ⟨rfl, rfl⟩, rfl⟩, rfl⟩, by simp, rfl⟩
theorem same_new {H : Hp} {p : Addr} {o : HO} (h : H p = none) : Same H (upd H p o) := fun b x e => by
  rw [upd_ne (ne_of_none e h)]
  exact e
theorem Rep.same {H H' : Hp} {d : D} {v : V} {as : List Addr} (h : Rep K H d v as) (s : Same H H') : Rep K H' d v as := h.keep fun b _ o e => s b o e
theorem RepAll.same {H H' : Hp} {d : List D} {v : List V} {as : List Addr} (h : RepAll K H d v as) (s : Same H H') : RepAll K H' d v as := h.keep fun b _ o e => s b o e
theorem pair_len {ds : List D} {n : Nat} (h : n = ds.length) : isPair (.tup ds) = decide (V.int (n : Int) = V.int 2) := by
  match ds, h with
  | [], hl => rw [hl]; rfl
  | [_], hl => rw [hl]; rfl
  | [_, _], hl => rw [hl]; rfl
  | _ :: _ :: _ :: r, hl =>
    rw [hl]
    show false = _
    refine (decide_eq_false fun z => ?_).symm
    have z2 : ((_ : Nat) : Int) = 2 := V.int.inj z
    simp only [List.length_cons] at z2
    omega
theorem tup_of {d : D} (e : isT "tuple" d = true) : ∃ ds, d = .tup ds := by
  cases d <;> first | exact ⟨_, rfl⟩ | (simp_all [isT])
theorem pair_tup {d : D} (e : isT "tuple" d = false) : isPair d = false := by
  cases d <;> simp_all [isT, isPair]
/-- isinstance(e, T) -/
theorem pe_isiE {X : Cx} {e : Expr} {te : TE} {T : Str} {p2 p3 p4 : Pos} {TN : String} (he : PE X e te)
    (h1 : X.mg "isinstance" = none) (h2 : X.mg T = none) (g1 : Gl X "isinstance") (g2 : Gl X T) (hb : bootBuiltins T = some (.type TN)) (hn : T ≠ "__name__") (hd2 : (T == ("__debug__" : Str)) = false)
    (hs : starEach [e, Expr.Name T p2] X.env = (false, eval e X.env) :: starEach [Expr.Name T p2] X.env := by rfl) (hs2 : starEach [Expr.Name T p2] X.env = (false, eval (.Name T p2) X.env) :: starEach [] X.env := by rfl)
    (hpl : (backTo p4 (starEach [Expr.Name T p2] X.env)).any (·.1) = false := by rfl) :
    PE X (.Call (.Name "isinstance" p3) [e, .Name T p2] [] p4) (tCB (rIsD X.K) (tCons te (tCons (tC (.ty TN)) tNil))) :=
  pe_callB call_isD g1 h1 (by decide +kernel) (pa_cons he (pa_cons (pe_bltn (v := .ty TN) g2 h2 hb rfl hn hd2) pa_nil hs2) hs) (by decide) (by decide) hs hpl
end
end Sw
namespace Sw
open PySem L2
/-- a statement kept to what it is to do with the slots and the heap -/
def tCut (J J' : L2.St → Hp → Prop) : TS := fun D σ H => J σ H ∧ ∀ σ' H', J' σ' H' → D.nx σ' H'
theorem ps_cut {X : Cx} {st : Stmt} {t : TS} {J J' : L2.St → Hp → Prop} (h : PS X st t) (hJ : ∀ D σ H, J σ H → (∀ σ' H', J' σ' H' → D.nx σ' H') → t D σ H) : PS X st (tCut J J') :=
  ⟨fun pins s σ H D I q => h.run pins s σ H D I (hJ D σ H q.1 q.2)⟩
def Inn (n a : Int) : Prop := 0 ≤ a ∧ a < n
/-- a tuple, its object known or not -/
class TupO (o : HO) : Prop where
  ex : ∃ xs, o = .tup xs ∨ ∃ ob, o = .frz ob (.tup xs)
instance TupO.t (xs : List V) : TupO (.tup xs) := ⟨xs, .inl rfl⟩
instance TupO.f (ob : Obj) (xs : List V) : TupO (.frz ob (.tup xs)) := ⟨xs, .inr ⟨ob, rfl⟩⟩
/-- tuples stand -/
def TupS (H H' : Hp) : Prop := ∀ (b : Addr) (o : HO) [TupO o], H b = some o → H' b = some o
theorem TupS.of {H H' : Hp} (s : Same H H') : TupS H H' := fun b xs _ e => s _ _ e
theorem TupS.refl {H : Hp} : TupS H H := fun _ _ _ e => e
theorem TupS.trans {H H1 H2 : Hp} (s : TupS H H1) (t : TupS H1 H2) : TupS H H2 := fun b xs _ e => t _ _ (s _ _ e)
theorem TupS.rd {H H' : Hp} {b : Addr} {xs : List V} (s : TupS H H') (h : Rd H b (.tup xs)) : Rd H' b (.tup xs) := h.elim (fun e => .inl (s _ _ e)) fun ⟨o, e⟩ => .inr ⟨o, s _ _ e⟩
theorem TupO.no {o : HO} (t : TupO o) (h1 : ∀ xs, o ≠ .tup xs) (h2 : ∀ ob xs, o ≠ .frz ob (.tup xs)) : False := by
  obtain ⟨xs, e | ⟨ob, e⟩⟩ := t.ex
  · exact h1 xs e
  · exact h2 ob xs e
theorem TupS.extG {H H' : Hp} (x : ∀ (b : Addr) (o : HO), H b = some o → (∀ ps : Array Value, o ≠ .tbl ps) → H' b = some o) : TupS H H' := fun b o t e => x b o e fun ps z => by
  subst z
  exact t.no (fun _ z => nomatch z) fun _ _ z => nomatch z
theorem TupO.ns {H : Hp} {a : Addr} {o u : HO} (t : TupO u) (h : H a = some o) (e : H a = some u) (h1 : ∀ xs, o ≠ .tup xs) (h2 : ∀ ob xs, o ≠ .frz ob (.tup xs)) : False := by
  rw [h] at e
  have e := Option.some.inj e
  subst e
  exact t.no h1 h2
/-- a list, a dict is written -/
theorem TupS.upd {H : Hp} {a : Addr} {o : HO} (h : ∀ (u : HO) [TupO u], H a ≠ some u) : TupS H (L2.upd H a o) := fun b u _ e => by
  rw [upd_ne (fun z => h u (by rw [← z]; exact e))]
  exact e
theorem TupS.lst {H : Hp} {a : Addr} {o : HO} {vs : List V} (hl : H a = some (.lst vs)) : TupS H (L2.upd H a o) := TupS.upd fun u t z => by
  rw [hl] at z
  have z := Option.some.inj z
  subst z
  exact t.no (fun _ z => nomatch z) fun _ _ z => nomatch z
end Sw
namespace Sw
open PySem L2
/-! ### a net as it lies, its arrows as pairs, what each stop leads to -/
def Arr (n : Int) (H : Hp) (x : V) : Prop := ∃ t a b, x = .ref t ∧ H t = some (.tup [.int a, .int b]) ∧ Inn n a ∧ Inn n b
def Arrs (n : Int) (H : Hp) (xs : List V) : Prop := ∀ x ∈ xs, Arr n H x
theorem Arr.keep {n : Int} {H H' : Hp} {x : V} (h : Arr n H x) (s : TupS H H') : Arr n H' x := by
  obtain ⟨t, a, b, e, h, r⟩ := h
  exact ⟨t, a, b, e, s _ _ h, r⟩
theorem Arrs.keep {n : Int} {H H' : Hp} {xs : List V} (h : Arrs n H xs) (s : TupS H H') : Arrs n H' xs := fun x hx => (h x hx).keep s
theorem paired_mono {α β : Type} {F G : α → β → Prop} (h : ∀ a b, F a b → G a b) : ∀ {l : List α} {m : List β}, Paired F l m → Paired G l m
  | _, _, .nil => .nil
  | _, _, .cons x t => .cons (h _ _ x) (paired_mono h t)
/-- a net as it stands at a, its arrows at b -/
structure NetAt (n : Int) (H : Hp) (a b : Addr) (ts : List V) : Prop where
  a : H a = some (.tup [.int n, .ref b])
  b : Rd H b (.tup ts)
  arr : Arrs n H ts
  len : ts.length ≤ 200
  n1 : 1 ≤ n
  n2 : n ≤ 12
theorem NetAt.keep {n : Int} {H H' : Hp} {a b : Addr} {ts : List V} (N : NetAt n H a b ts) (s : TupS H H') : NetAt n H' a b ts := ⟨s _ _ N.a, s.rd N.b, N.arr.keep s, N.len, N.n1, N.n2⟩
theorem NetAt.sq {n : Int} {H : Hp} {a b : Addr} {ts : List V} {K : PySem.W.Frag} (N : NetAt n H a b ts) : SqT K H b ts := .inl N.b
/-- the arrows of a net, as pairs -/
def ArsAt (H : Hp) (ts : List V) (ars : List (Int × Int)) : Prop := Paired (fun x (e : Int × Int) => ∃ t, x = V.ref t ∧ H t = some (.tup [.int e.1, .int e.2])) ts ars
theorem ArsAt.len {H : Hp} : ∀ {ts : List V} {ars : List (Int × Int)}, ArsAt H ts ars → ts.length = ars.length
  | _, _, .nil => rfl
  | _, _, .cons _ t => by
    rw [List.length_cons, List.length_cons, ArsAt.len t]
theorem ArsAt.at {H : Hp} : ∀ {ts : List V} {ars : List (Int × Int)} {i : Nat} {x : V}, ArsAt H ts ars → ts[i]? = some x → ∃ e t, ars[i]? = some e ∧ x = .ref t ∧ H t = some (.tup [.int e.1, .int e.2])
  | _, _, i, x, .nil, h => by simp at h
  | _, _, 0, x, .cons (b := e) q t, h => by
    obtain ⟨t', e1, e2⟩ := q
    have h : some _ = some x := h
    cases h
    exact ⟨e, t', rfl, e1, e2⟩
  | _, _, i + 1, x, .cons q t, h => ArsAt.at (i := i) t h
theorem ArsAt.keep {H H' : Hp} {ts : List V} {ars : List (Int × Int)} (h : ArsAt H ts ars) (s : TupS H H') : ArsAt H' ts ars := paired_mono (fun _ _ ⟨t, e, x⟩ => ⟨t, e, s _ _ x⟩) h
/-- every net's arrows are some pairs -/
theorem ArsAt.ex {n : Int} {H : Hp} : ∀ {ts : List V}, Arrs n H ts → ∃ ars, ArsAt H ts ars
  | [], _ => ⟨[], .nil⟩
  | x :: r, h => by
    obtain ⟨t, a, b, rfl, ht, _⟩ := h x (by simp)
    obtain ⟨ars, q⟩ := ArsAt.ex (ts := r) fun y hy => h y (by simp [hy])
    exact ⟨(a, b) :: ars, .cons ⟨t, rfl, ht⟩ q⟩
/-- a list of whole numbers below n, at most m -/
def IntsAt (n : Int) (m : Nat) (H : Hp) (l : Addr) : Prop := ∃ os : List Int, H l = some (.lst (os.map V.int)) ∧ (∀ o ∈ os, Inn n o) ∧ os.length ≤ m
theorem IntsAt.ne {n : Int} {m : Nat} {H : Hp} {l f : Addr} {ls : List Addr} (h : IntsAt n m H l) (hf : H f = some (.lst (ls.map V.ref))) (hl : l ∈ ls) : l ≠ f := fun z => by
  obtain ⟨os, e, _⟩ := h
  rw [z, hf] at e
  have e2 := Option.some.inj e
  injection e2 with e3
  match ls, os, hl, e3 with
  | _ :: _, [], _, e3 => cases e3
  | _ :: _, _ :: _, _, e3 => cases e3
/-- the stops to which v leads, in the arrows' order -/
def outs (ars : List (Int × Int)) (v : Nat) : List Int := (ars.filter fun e => e.1 == (v : Int)).map (·.2)
theorem outs_mem {ars : List (Int × Int)} {v : Nat} {w : Int} : w ∈ outs ars v ↔ ((v : Int), w) ∈ ars := by
  unfold outs
  constructor
  · intro h
    obtain ⟨e, he, rfl⟩ := List.mem_map.mp h
    obtain ⟨h1, h2⟩ := List.mem_filter.mp he
    have h3 : e.1 = (v : Int) := beq_iff_eq.mp h2
    rw [← h3]
    exact h1
  · intro h
    exact List.mem_map.mpr ⟨_, List.mem_filter.mpr ⟨h, beq_self_eq_true _⟩, rfl⟩
theorem outs_succ {ars : List (Int × Int)} {i : Nat} {e : Int × Int} (h : ars[i]? = some e) (v : Nat) : outs (ars.take (i + 1)) v = outs (ars.take i) v ++ (if e.1 = (v : Int) then [e.2] else []) := by
  unfold outs
  rw [List.take_add_one, h, List.filter_append, List.map_append]
  by_cases q : e.1 = (v : Int)
  · rw [if_pos q]
    simp [q]
  · rw [if_neg q]
    simp [q]
theorem outs_len {ars : List (Int × Int)} {v : Nat} : (outs ars v).length ≤ ars.length := by
  unfold outs
  rw [List.length_map]
  exact List.length_filter_le _ _
end Sw
namespace Sw
open PySem PySem.Spec PyProof.Rows L2
/-! ### lists of pairs -/
/-- a list of pairs -/
def PairsAt (H : Hp) (l : Addr) (es : List (Int × Int)) : Prop := ∃ ts : List V, H l = some (.lst ts) ∧ ArsAt H ts es
theorem ars_app : ∀ {H : Hp} {ts ts' : List V} {ars ars' : List (Int × Int)}, ArsAt H ts ars → ArsAt H ts' ars' → ArsAt H (ts ++ ts') (ars ++ ars')
  | _, _, _, _, _, .nil, h => h
  | _, _, _, _, _, .cons q t, h => .cons q (ars_app t h)
theorem at_back {os : List Int} {k : Nat} (h : k < os.length) : ∃ x, x ∈ os ∧ atI (os.map V.int) ((k : Int) - 1) = some (.int x) := by
  obtain ⟨j, hj, e⟩ : ∃ j, j < os.length ∧ ixN os.length ((k : Int) - 1) = some j := by
    unfold ixN
    by_cases z : 0 ≤ (k : Int) - 1
    · rw [if_pos z, if_pos (by omega)]
      exact ⟨_, by omega, rfl⟩
    · rw [if_neg z, if_pos (by omega)]
      exact ⟨_, by omega, rfl⟩
  refine ⟨os[j], List.getElem_mem hj, ?_⟩
  unfold atI
  rw [List.length_map, e, Option.bind_some, List.getElem?_map, List.getElem?_eq_getElem hj]
  rfl
end Sw
namespace Sw
open PySem PySem.Spec PyProof.Rows L2
/-! ### a net whose stops are called otherwise -/
def ren (os : List Int) (v : Int) : Int := os.getD v.toNat 0
def renE (os : List Int) (e : Int × Int) : Int × Int := (ren os e.1, ren os e.2)
theorem ren_at {os : List Int} {n v : Int} (h : Inn n v) (l : os.length = n.toNat) : atI (os.map V.int) v = some (.int (ren os v)) := by
  obtain ⟨h0, h1⟩ := h
  have hj : v.toNat < os.length := by omega
  refine at_of (j := v.toNat) (by omega) ?_
  rw [List.getElem?_map, List.getElem?_eq_getElem hj]
  unfold ren
  rw [List.getD_eq_getElem?_getD, List.getElem?_eq_getElem hj]
  rfl
theorem ren_in {os : List Int} {n v : Int} (h : Inn n v) (l : os.length = n.toNat) (ho : ∀ o ∈ os, Inn n o) : Inn n (ren os v) := by
  obtain ⟨h0, h1⟩ := h
  have hj : v.toNat < os.length := by omega
  unfold ren
  rw [List.getD_eq_getElem?_getD, List.getElem?_eq_getElem hj]
  exact ho _ (List.getElem_mem hj)
/-- what a pair's address shows -/
def kAt (H : Hp) : V → Int × Int := fun x => match x with
  | .ref t => (match H t with
    | some (.tup [.int a, .int b]) => (a, b)
    | _ => (0, 0))
  | _ => (0, 0)
theorem kAt_of {H : Hp} {t : Addr} {a b : Int} (h : H t = some (.tup [.int a, .int b])) : kAt H (.ref t) = (a, b) := by
  unfold kAt
  simp only [h]
theorem ars_kAt {H : Hp} : ∀ {xs : List V} {ars : List (Int × Int)}, ArsAt H xs ars → xs.map (kAt H) = ars
  | _, _, .nil => rfl
  | _, _, .cons (b := e) q t => by
    obtain ⟨t', rfl, h⟩ := q
    rw [List.map_cons, ars_kAt t, kAt_of h]
theorem ars_each {H : Hp} : ∀ {xs : List V} {ars : List (Int × Int)}, ArsAt H xs ars → ∀ x ∈ xs, ∃ t, x = V.ref t ∧ H t = some (.tup [.int (kAt H x).1, .int (kAt H x).2])
  | _, _, .nil, x, hx => (List.not_mem_nil hx).elim
  | _, _, .cons (b := e) q t, x, hx => by
    obtain ⟨t', rfl, h⟩ := q
    rcases List.mem_cons.mp hx with rfl | z
    · exact ⟨t', rfl, by rw [kAt_of h]; exact h⟩
    · exact ars_each t x z
theorem ars_back {H : Hp} : ∀ {ys : List V}, (∀ x ∈ ys, ∃ t, x = V.ref t ∧ H t = some (.tup [.int (kAt H x).1, .int (kAt H x).2])) → ArsAt H ys (ys.map (kAt H))
  | [], _ => .nil
  | y :: r, h => .cons (h y List.mem_cons_self) (ars_back fun x hx => h x (List.mem_cons_of_mem _ hx))
theorem arrs_of {n : Int} {H : Hp} : ∀ {ts : List V} {ars : List (Int × Int)}, ArsAt H ts ars → (∀ e ∈ ars, Inn n e.1 ∧ Inn n e.2) → Arrs n H ts
  | _, _, .nil, _ => fun _ h => (List.not_mem_nil h).elim
  | _, _, .cons (b := e) q t, h => fun x hx => by
    obtain ⟨t', rfl, ht⟩ := q
    rcases List.mem_cons.mp hx with rfl | z
    · exact ⟨t', e.1, e.2, rfl, ht, (h e List.mem_cons_self).1, (h e List.mem_cons_self).2⟩
    · exact arrs_of t (fun y hy => h y (List.mem_cons_of_mem _ hy)) x z
theorem inn_of {n : Int} {H : Hp} {ts : List V} {ars : List (Int × Int)} (A : Arrs n H ts) : ArsAt H ts ars → ∀ e ∈ ars, Inn n e.1 ∧ Inn n e.2 := fun h => by
  induction h with
  | nil => exact fun _ h => (List.not_mem_nil h).elim
  | cons q t ih =>
    intro e he
    obtain ⟨t', rfl, ht⟩ := q
    rcases List.mem_cons.mp he with rfl | z
    · obtain ⟨t2, a, b, e1, e2, e3⟩ := A _ List.mem_cons_self
      cases e1
      rw [ht] at e2
      have e4 := HO.tup.inj (Option.some.inj e2)
      injection e4 with e5 e6
      injection e6 with e6 _
      rw [V.int.inj e5, V.int.inj e6]
      exact e3
    · exact ih (fun x hx => A x (List.mem_cons_of_mem _ hx)) e z
end Sw
namespace Sw
open PySem PySem.Spec PyProof.Rows L2
/-- each arrow not behind the ones after it -/
def SrtA (ars : List (Int × Int)) : Prop := SrtO.Srtd SrtO.lexB ars
/-- arrows ascend, none doubled -/
def AscA (ars : List (Int × Int)) : Prop := ars.Pairwise fun p q => SrtO.lexB p q = true
theorem AscA.nodup {ars : List (Int × Int)} (h : AscA ars) : ars.Nodup := h.imp fun {a b} h z => by
  have := SrtO.lexB_iff.mp h
  rw [z] at this
  omega
end Sw
namespace Sw.F
open PySem PySem.F
theorem slot_perm_next : Slot "itertools.permutations" "__next__" "itertools.permutations.__next__" :=
  .of (owner := "itertools.permutations") (n := "__next__") (by rw [typeLookup_type, builtinLookup_eq_fast]; kernel_rfl) (by decide +kernel) (by decide +kernel) (by decide +kernel)
    (by first | exact .inl (by decide +kernel) | exact .inr (by decide +kernel)) (by rw [isSubtype_type]; kernel_rfl)
theorem slot_perm_iter : Slot "itertools.permutations" "__iter__" "itertools.permutations.__iter__" :=
  .of (owner := "itertools.permutations") (n := "__iter__") (by rw [typeLookup_type, builtinLookup_eq_fast]; kernel_rfl) (by decide +kernel) (by decide +kernel) (by decide +kernel)
    (by first | exact .inl (by decide +kernel) | exact .inr (by decide +kernel)) (by rw [isSubtype_type]; kernel_rfl)
theorem slot_perm_init : Slot "itertools.permutations" "__init__" "object.__init__" :=
  .of (owner := "object") (n := "__init__") (by rw [typeLookup_type, builtinLookup_eq_fast]; kernel_rfl) (by decide +kernel) (by decide +kernel) (by decide +kernel)
    (by first | exact .inl (by decide +kernel) | exact .inr (by decide +kernel)) (by rw [isSubtype_type]; kernel_rfl)
theorem entry_perm_next : entryFor table "itertools.permutations.__next__" = some Builtin.«itertools.permutations.__next__» := entryFor_of_tree (by kernel_rfl)
theorem entry_perm_new : entryFor table "itertools.permutations.__new__" = some Builtin.«itertools.permutations.__new__» := entryFor_of_tree (by kernel_rfl)
theorem entry_perm_iter : entryFor table "itertools.permutations.__iter__" = some Builtin.«dict_keyiterator.__iter__» :=
  entryFor_alias (id' := "dict_keyiterator.__iter__") (by kernel_rfl) (by first | rfl | decide +kernel | (unfold String.splitOn; simp +decide [String.splitOnAux])) (by decide +kernel) (by kernel_rfl)
theorem owner_perm : Manifest.owners.lookup (String.ofList ['s', 'n', 'o', 'i', 't', 'a', 't', 'u', 'm', 'r', 'e', 'p', '.', 's', 'l', 'o', 'o', 't', 'r', 'e', 't', 'i'].reverse) = some Manifest.sig_itertools_permutations := by kernel_rfl
theorem args_perm_next_1 (a : Value) : argsOk "itertools.permutations.__next__" ⟨[a], []⟩ := by
  unfold argsOk; rw [signature?_of (id := "itertools.permutations.__next__") (n := ['_', '_', 't', 'x', 'e', 'n', '_', '_']) (o := ['s', 'n', 'o', 'i', 't', 'a', 't', 'u', 'm', 'r', 'e', 'p', '.', 's', 'l', 'o', 'o', 't', 'r', 'e', 't', 'i']) (by kernel_rfl) owner_perm]; kernel_rfl
theorem args_perm_iter_1 (a : Value) : argsOk "itertools.permutations.__iter__" ⟨[a], []⟩ := by
  unfold argsOk; rw [signature?_of (id := "itertools.permutations.__iter__") (n := ['_', '_', 'r', 'e', 't', 'i', '_', '_']) (o := ['s', 'n', 'o', 'i', 't', 'a', 't', 'u', 'm', 'r', 'e', 'p', '.', 's', 'l', 'o', 'o', 't', 'r', 'e', 't', 'i']) (by kernel_rfl) owner_perm]; kernel_rfl
theorem mro_perm : mroOf (.type "itertools.permutations") = pure [.type "itertools.permutations", .type "object"] := by rw [mroOf_type]; kernel_rfl
theorem lookup_perm_new : typeLookup (.type "itertools.permutations") "__new__" = pure (some (.builtin "itertools.permutations.__new__")) := by rw [typeLookup_type, builtinLookup_eq_fast]; kernel_rfl
theorem called_perm : TypeCalled "itertools.permutations" "itertools.permutations.__new__" "object.__init__" :=
  ⟨by decide +kernel, by decide +kernel, ⟨_, _, mro_perm⟩, madeBy_type mro_perm lookup_perm_new (by decide +kernel), by decide +kernel, by rw [isSubtype_type]; kernel_rfl, slot_perm_init⟩
theorem typeCall_perm_1 (a : Value) : checkTypeCall "itertools.permutations" ⟨[a], []⟩ = pure () := by kernel_rfl
theorem newCall_perm_1 (a : Value) : checkBuiltinCall "itertools.permutations.__new__" ⟨[.type "itertools.permutations", a], []⟩ = pure () := by kernel_rfl
theorem sub_perm : isSubtype (.type "itertools.permutations") (.type "itertools.permutations") = pure true := by rw [isSubtype_type]; kernel_rfl
end Sw.F
namespace Sw
open PySem
/-- the next arrangement, as the model steps to it -/
def nextP (n : Nat) : (place : Nat) → (indices cycles : List Nat) → Option (List Nat × List Nat)
  | 0, _, _ => none
  | i + 1, indices, cycles =>
    let c := cycles.getD i 0 - 1
    if c == 0 then nextP n i (indices.take i ++ indices.drop (i + 1) ++ [indices.getD i 0]) (cycles.set i (n - i))
    else some ((indices.set i (indices.getD (n - c) 0)).set (n - c) (indices.getD i 0), cycles.set i c)
def permFs (pool : Addr) (flag : Int) (before : Value) (ns : List Nat) : Array Value := ([.ref pool, rawInt flag, rawInt 5, before] ++ ns.map fun n : Nat => rawInt n).toArray
theorem permFs_0 (pool : Addr) (flag : Int) (before : Value) (ns : List Nat) : (permFs pool flag before ns)[0]? = some (.ref pool) := by simp [permFs]
theorem permFs_1 (pool : Addr) (flag : Int) (before : Value) (ns : List Nat) : (permFs pool flag before ns)[1]? = some (rawInt flag) := by simp [permFs]
theorem permFs_2 (pool : Addr) (flag : Int) (before : Value) (ns : List Nat) : (permFs pool flag before ns)[2]? = some (rawInt 5) := by simp [permFs]
theorem permFs_3 (pool : Addr) (flag : Int) (before : Value) (ns : List Nat) : (permFs pool flag before ns)[3]? = some before := by simp [permFs]
theorem permFs_4 (pool : Addr) (flag : Int) (before : Value) (ns : List Nat) : (((permFs pool flag before ns).toList.drop 4).map fun | .int n _ => n.toNat | _ => 0) = ns := by
  show (((ns.map fun n : Nat => rawInt n)).map fun | .int n _ => n.toNat | _ => 0) = ns
  rw [List.map_map]
  exact (List.map_congr_left fun n _ => by simp [rawInt]).trans (List.map_id _)
theorem permFs_set1 (pool : Addr) (flag flag' : Int) (before : Value) (ns : List Nat) : (permFs pool flag before ns).setIfInBounds 1 (rawInt flag') = permFs pool flag' before ns := by
  simp [permFs]
theorem permFs_set3 (pool : Addr) (flag : Int) (before b' : Value) (ns : List Nat) : (permFs pool flag before ns).setIfInBounds 3 b' = permFs pool flag b' ns := by
  simp [permFs]
theorem permFs_num (pool : Addr) (flag : Int) (before : Value) (ns ms : List Nat) : (permFs pool flag before ns).extract 0 4 ++ (ms.map fun n : Nat => rawInt n).toArray = permFs pool flag before ms := by
  simp [permFs]
theorem permFs_size (pool : Addr) (flag : Int) (before : Value) (ns : List Nat) : (permFs pool flag before ns).size = 4 + ns.length := by simp [permFs]; omega
/-- the record: the pool, whether it has begun, what it told last, where it stands -/
def permObj (pool : Addr) (flag : Int) (before : Value) (ns : List Nat) : Obj :=
  { cls := .type "itertools.permutations", dict := none, data := .fields (permFs pool flag before ns), slots := #[] }
section
variable {prog : Program} {w : World} {A : Around} {E : Value → Shared → Prop} {s : Shared}
/-- what is told is a new tuple, kept by the record -/
theorem perm_told {p pool : Addr} {flag : Int} {before : Value} {ns ix : List Nat} {items : Array Value} {s0 : Shared} {Q : Value → Shared → Prop} (h0 : s0.heap.get? p = some (permObj pool flag before ns)) (hl : (ix.take 5).length ≤ 5)
    (hQ : ∀ h', h'.get? p = some (permObj pool flag (.ref s0.heap.objs.size) ns) → h'.get? s0.heap.objs.size = some { cls := .type "tuple", data := .seq ((ix.take 5).map fun i => items.getD i .none).toArray } →
      (∀ c o, c ≠ p → s0.heap.get? c = some o → h'.get? c = some o) → Q (.ref s0.heap.objs.size) { s0 with heap := h' }) :
    wpAny (model prog w) A (do
      let t ← newTuple (List.map (fun i => items.getD i Value.none) (List.take (Int.toNat 5) ix))
      let before ← field (Value.ref p) 3
      setField (Value.ref p) 3 t
      letGo [before] [t]
      ret t) (fun fin s' => ∃ v, fin = .done (.ret v) ∧ Q v s') E s0 := by
  have lt : p < s0.heap.objs.size := Heap.lt_size h0
  refine wpAny_bind (wpAny_newTuple ?_ (by rw [List.length_map, sizeLine_eq]; have : (List.take (Int.toNat 5) ix).length ≤ 5 := hl; omega))
  have h1 := Heap.get?_push_of_some { cls := .type "tuple", data := .seq (List.map (fun i => items.getD i Value.none) (List.take (Int.toNat 5) ix)).toArray } h0
  refine wpAny_bind (wpAny_field h1 rfl (x := before) (permFs_3 ..) ?_)
  refine wpAny_bind (wpAny_setField_rec h1 (by rw [permFs_size]; omega) fun h2 e2 sb => ?_)
  refine wpAny_bind (wpAny_letGo (wpAny_pure ⟨_, rfl, ?_⟩))
  rw [permFs_set3] at e2
  exact hQ h2 e2 (sb.extBut _ _ (Nat.ne_of_gt lt) (Heap.get?_push_size _ rfl)) fun c o ne e => sb.extBut _ _ ne (Heap.get?_push_of_some _ e)
theorem perm_item1 {p pool : Addr} {before : Value} {ns ix cy : List Nat} {items : Array Value} {op : Obj} {c : Nat} {Q : Value → Shared → Prop} (hp : s.heap.get? p = some (permObj pool 1 before ns)) (hq : s.heap.get? pool = some op) (hd : op.data = .seq items c) (h5 : items.size = 5)
    (hn : nextP 5 5 (ns.take 5) (ns.drop 5) = some (ix, cy)) (hl : (ix ++ cy).length ≤ 20)
    (hQ : ∀ h', h'.get? p = some (permObj pool 1 (.ref s.heap.objs.size) (ix ++ cy)) → h'.get? s.heap.objs.size = some { cls := .type "tuple", data := .seq ((ix.take 5).map fun i => items.getD i .none).toArray } →
      (∀ c o, c ≠ p → s.heap.get? c = some o → h'.get? c = some o) → Q (.ref s.heap.objs.size) { s with heap := h' }) :
    wpAny (model prog w) A (Builtin.«itertools.permutations.__next__» ⟨[.ref p], []⟩) (fun fin s' => ∃ v, fin = .done (.ret v) ∧ Q v s') E s := by
  show wpAny _ _ (field (.ref p) 0 >>= _) _ _ _
  refine wpAny_bind (wpAny_field hp rfl (x := .ref pool) (permFs_0 ..) ?_)
  show wpAny _ _ (Builtin.Itertools.itPoolItems (.ref pool) >>= _) _ _ _
  unfold Builtin.Itertools.itPoolItems
  refine wpAny_bind (wpAny_bind (wpAny_seqItems hq hd ?_))
  refine wpAny_pure ?_
  show wpAny _ _ (Builtin.Itertools.itIntField (.ref p) 2 >>= _) _ _ _
  unfold Builtin.Itertools.itIntField
  refine wpAny_bind (wpAny_bind (wpAny_field hp rfl (x := rawInt 5) (permFs_2 ..) ?_))
  refine wpAny_pure ?_
  show wpAny _ _ (Builtin.Itertools.itNumbersFrom (.ref p) 4 >>= _) _ _ _
  unfold Builtin.Itertools.itNumbersFrom
  refine wpAny_bind (wpAny_bind (wpAny_load hp ?_))
  refine wpAny_pure ?_
  show wpAny _ _ (Builtin.Itertools.itIntField (.ref p) 1 >>= _) _ _ _
  unfold Builtin.Itertools.itIntField
  refine wpAny_bind (wpAny_bind (wpAny_field hp rfl (x := rawInt 1) (permFs_1 ..) ?_))
  refine wpAny_pure ?_
  generalize hm : List.map _ (List.drop 4 (permFs pool 1 before ns).toList) = ms
  obtain rfl : ns = ms := (permFs_4 pool 1 before ns).symm.trans hm
  rw [h5]
  split
  · rename_i h
    exact absurd h (by decide)
  · split
    · rename_i ix' cy' heq
      have heq : nextP 5 5 (ns.take 5) (ns.drop 5) = some (ix', cy') := heq
      rw [hn] at heq
      cases heq
      unfold Builtin.Itertools.itSetNumbersFrom
      refine wpAny_bind (wpAny_updateFields hp rfl ?_ ?_)
      · have h1 : (s.heap.update p (Obj.mapFields fun fs => fs.extract 0 4 ++ (List.map (fun n : Nat => rawInt n) (ix ++ cy)).toArray)).get? p = some (permObj pool 1 before (ix ++ cy)) := by
          have := Heap.get?_update_self (h := s.heap) (Obj.mapFields fun fs => fs.extract 0 4 ++ (List.map (fun n : Nat => rawInt n) (ix ++ cy)).toArray) hp rfl
          have e : ∀ f, Obj.mapFields f (permObj pool 1 before ns) = { cls := .type "itertools.permutations", dict := none, data := .fields (f (permFs pool 1 before ns)), slots := #[] } := fun f => rfl
          rw [this, e, permFs_num]
          rfl
        have sb : Heap.SameBut p s.heap (s.heap.update p (Obj.mapFields fun fs => fs.extract 0 4 ++ (List.map (fun n : Nat => rawInt n) (ix ++ cy)).toArray)) := Heap.SameBut.update ..
        generalize (s.heap.update p (Obj.mapFields fun fs => fs.extract 0 4 ++ (List.map (fun n : Nat => rawInt n) (ix ++ cy)).toArray)) = h' at h1 sb ⊢
        refine perm_told (s0 := { s with heap := h' }) h1 (by rw [List.length_take]; omega) fun h2 e1 e2 ek => ?_
        dsimp only at e1 e2 ek ⊢
        rw [sb.1] at e1 e2 ⊢
        exact hQ h2 e1 e2 fun c o ne e => ek c o ne (sb.extBut _ _ ne e)
      · rw [permFs_num, permFs_size, sizeLine_eq]
        omega
    · rename_i heq
      have heq : nextP 5 5 (ns.take 5) (ns.drop 5) = none := heq
      rw [hn] at heq
      cases heq
  · rename_i h0 h1
    exact absurd rfl h1
theorem perm_item0 {p pool : Addr} {before : Value} {ns : List Nat} {items : Array Value} {op : Obj} {c : Nat} {Q : Value → Shared → Prop} (hp : s.heap.get? p = some (permObj pool 0 before ns)) (hq : s.heap.get? pool = some op) (hd : op.data = .seq items c) (h5 : items.size = 5)
    (hQ : ∀ h', h'.get? p = some (permObj pool 1 (.ref s.heap.objs.size) ns) → h'.get? s.heap.objs.size = some { cls := .type "tuple", data := .seq ((ns.take 5).map fun i => items.getD i .none).toArray } →
      (∀ c o, c ≠ p → s.heap.get? c = some o → h'.get? c = some o) → Q (.ref s.heap.objs.size) { s with heap := h' }) :
    wpAny (model prog w) A (Builtin.«itertools.permutations.__next__» ⟨[.ref p], []⟩) (fun fin s' => ∃ v, fin = .done (.ret v) ∧ Q v s') E s := by
  show wpAny _ _ (field (.ref p) 0 >>= _) _ _ _
  refine wpAny_bind (wpAny_field hp rfl (x := .ref pool) (permFs_0 ..) ?_)
  show wpAny _ _ (Builtin.Itertools.itPoolItems (.ref pool) >>= _) _ _ _
  unfold Builtin.Itertools.itPoolItems
  refine wpAny_bind (wpAny_bind (wpAny_seqItems hq hd ?_))
  refine wpAny_pure ?_
  show wpAny _ _ (Builtin.Itertools.itIntField (.ref p) 2 >>= _) _ _ _
  unfold Builtin.Itertools.itIntField
  refine wpAny_bind (wpAny_bind (wpAny_field hp rfl (x := rawInt 5) (permFs_2 ..) ?_))
  refine wpAny_pure ?_
  show wpAny _ _ (Builtin.Itertools.itNumbersFrom (.ref p) 4 >>= _) _ _ _
  unfold Builtin.Itertools.itNumbersFrom
  refine wpAny_bind (wpAny_bind (wpAny_load hp ?_))
  refine wpAny_pure ?_
  show wpAny _ _ (Builtin.Itertools.itIntField (.ref p) 1 >>= _) _ _ _
  unfold Builtin.Itertools.itIntField
  refine wpAny_bind (wpAny_bind (wpAny_field hp rfl (x := rawInt 0) (permFs_1 ..) ?_))
  refine wpAny_pure ?_
  generalize hm : List.map _ (List.drop 4 (permFs pool 0 before ns).toList) = ms
  obtain rfl : ns = ms := (permFs_4 pool 0 before ns).symm.trans hm
  rw [h5]
  split
  · refine wpAny_bind (wpAny_setField_rec hp (by rw [permFs_size]; omega) fun h1 e1 sb => ?_)
    rw [permFs_set1] at e1
    have e1 : h1.get? p = some (permObj pool 1 before ns) := e1
    refine perm_told (s0 := { s with heap := h1 }) e1 (by rw [List.length_take]; omega) fun h2 e1 e2 ek => ?_
    dsimp only at e1 e2 ek ⊢
    rw [sb.1] at e1 e2 ⊢
    exact hQ h2 e1 e2 fun c o ne e => ek c o ne (sb.extBut _ _ ne e)
  · rename_i h
    exact absurd h (by decide)
  · rename_i h0 h1
    exact absurd rfl h0
theorem perm_end {p pool : Addr} {before : Value} {ns : List Nat} {items : Array Value} {op : Obj} {c : Nat} {Q : Fin → Shared → Prop} (hh : A.handled = none) (hp : s.heap.get? p = some (permObj pool 1 before ns)) (hq : s.heap.get? pool = some op) (hd : op.data = .seq items c) (h5 : items.size = 5)
    (hn : nextP 5 5 (ns.take 5) (ns.drop 5) = none)
    (hE : ∀ h' e, (∀ c o, c ≠ p → s.heap.get? c = some o → h'.get? c = some o) → (∃ o, h'.get? e = some o ∧ o.cls = .type "StopIteration") → E (.ref e) { s with heap := h' }) :
    wpAny (model prog w) A (Builtin.«itertools.permutations.__next__» ⟨[.ref p], []⟩) Q E s := by
  show wpAny _ _ (field (.ref p) 0 >>= _) _ _ _
  refine wpAny_bind (wpAny_field hp rfl (x := .ref pool) (permFs_0 ..) ?_)
  show wpAny _ _ (Builtin.Itertools.itPoolItems (.ref pool) >>= _) _ _ _
  unfold Builtin.Itertools.itPoolItems
  refine wpAny_bind (wpAny_bind (wpAny_seqItems hq hd ?_))
  refine wpAny_pure ?_
  show wpAny _ _ (Builtin.Itertools.itIntField (.ref p) 2 >>= _) _ _ _
  unfold Builtin.Itertools.itIntField
  refine wpAny_bind (wpAny_bind (wpAny_field hp rfl (x := rawInt 5) (permFs_2 ..) ?_))
  refine wpAny_pure ?_
  show wpAny _ _ (Builtin.Itertools.itNumbersFrom (.ref p) 4 >>= _) _ _ _
  unfold Builtin.Itertools.itNumbersFrom
  refine wpAny_bind (wpAny_bind (wpAny_load hp ?_))
  refine wpAny_pure ?_
  show wpAny _ _ (Builtin.Itertools.itIntField (.ref p) 1 >>= _) _ _ _
  unfold Builtin.Itertools.itIntField
  refine wpAny_bind (wpAny_bind (wpAny_field hp rfl (x := rawInt 1) (permFs_1 ..) ?_))
  refine wpAny_pure ?_
  generalize hm : List.map _ (List.drop 4 (permFs pool 1 before ns).toList) = ms
  obtain rfl : ns = ms := (permFs_4 pool 1 before ns).symm.trans hm
  rw [h5]
  split
  · rename_i h
    exact absurd h (by decide)
  · split
    · rename_i ix' cy' heq
      have heq : nextP 5 5 (ns.take 5) (ns.drop 5) = some (ix', cy') := heq
      rw [hn] at heq
      cases heq
    · refine wpAny_bind (wpAny_setField_rec hp (by rw [permFs_size]; omega) fun h1 e1 sb => ?_)
      unfold Builtin.Itertools.itStop
      refine wpAny_bind ?_
      simp only [newExc, newTuple]
      refine wpAny_bind (wpAny_newObj_type ?_ (by size_fits))
      refine wpAny_bind (m := firstArgMember _ _) (wpAny_of_eq (a := Value.none) (by first | rfl | (simp only [firstArgMember]; rfl)) ?_)
      refine wpAny_newObj_type ?_ (by size_fits)
      simp only [raiseNew]
      refine wpAny_bind (wpAny_handled ?_)
      rw [hh]
      refine wpAny_bind (wpAny_pure (wpAny_throw ?_))
      refine hE _ _ (fun c o ne e => ?_) ⟨_, Heap.get?_push_size _ rfl, rfl⟩
      exact Heap.get?_push_of_some _ (Heap.get?_push_of_some _ (sb.extBut _ _ ne e))
  · rename_i h0 h1
    exact absurd rfl h1
end
end Sw
namespace Sw
open PySem PySem.Spec PyProof.Rows L2 RZ
section
variable {prog : Program} {w : World} {A : Around} {E : Value → Shared → Prop} {s : Shared}
theorem perm_type {p pool : Addr} {flag : Int} {before : Value} {ns : List Nat} (hp : s.heap.get? p = some (permObj pool flag before ns)) : s.TypeIs (.ref p) "itertools.permutations" := ⟨_, hp, rfl⟩
theorem next_perm0 {p pool : Addr} {before : Value} {ns : List Nat} {items : Array Value} {op : Obj} {c : Nat} {Q : Option Value → Shared → Prop} (hp : s.heap.get? p = some (permObj pool 0 before ns)) (hq : s.heap.get? pool = some op) (hd : op.data = .seq items c) (h5 : items.size = 5)
    (hQ : ∀ h', h'.get? p = some (permObj pool 1 (.ref s.heap.objs.size) ns) → h'.get? s.heap.objs.size = some { cls := .type "tuple", data := .seq ((ns.take 5).map fun i => items.getD i .none).toArray } →
      (∀ c o, c ≠ p → s.heap.get? c = some o → h'.get? c = some o) → Q (some (.ref s.heap.objs.size)) { s with heap := h' }) :
    wpAny (model prog w) A (pyNext (.ref p)) Q E s := by
  have hT := perm_type hp
  unfold pyNext
  exact wpAny_bind (wpAny_attempt (wpAny_callSpecial?_slot (name := Str.ofString "__next__") hT F.slot_perm_next
    (wpAny_call_entry F.slot_perm_next hT F.entry_perm_next (perm_item0 hp hq hd h5 fun h' a b c => wpAny_pure (hQ h' a b c)) (F.args_perm_next_1 _))))
theorem next_perm1 {p pool : Addr} {before : Value} {ns ix cy : List Nat} {items : Array Value} {op : Obj} {c : Nat} {Q : Option Value → Shared → Prop} (hp : s.heap.get? p = some (permObj pool 1 before ns)) (hq : s.heap.get? pool = some op) (hd : op.data = .seq items c) (h5 : items.size = 5)
    (hn : nextP 5 5 (ns.take 5) (ns.drop 5) = some (ix, cy)) (hl : (ix ++ cy).length ≤ 20)
    (hQ : ∀ h', h'.get? p = some (permObj pool 1 (.ref s.heap.objs.size) (ix ++ cy)) → h'.get? s.heap.objs.size = some { cls := .type "tuple", data := .seq ((ix.take 5).map fun i => items.getD i .none).toArray } →
      (∀ c o, c ≠ p → s.heap.get? c = some o → h'.get? c = some o) → Q (some (.ref s.heap.objs.size)) { s with heap := h' }) :
    wpAny (model prog w) A (pyNext (.ref p)) Q E s := by
  have hT := perm_type hp
  unfold pyNext
  exact wpAny_bind (wpAny_attempt (wpAny_callSpecial?_slot (name := Str.ofString "__next__") hT F.slot_perm_next
    (wpAny_call_entry F.slot_perm_next hT F.entry_perm_next (perm_item1 hp hq hd h5 hn hl fun h' a b c => wpAny_pure (hQ h' a b c)) (F.args_perm_next_1 _))))
theorem next_permE {p pool : Addr} {before : Value} {ns : List Nat} {items : Array Value} {op : Obj} {c : Nat} {Q : Option Value → Shared → Prop} (hh : A.handled = none) (hp : s.heap.get? p = some (permObj pool 1 before ns)) (hq : s.heap.get? pool = some op) (hd : op.data = .seq items c) (h5 : items.size = 5)
    (hn : nextP 5 5 (ns.take 5) (ns.drop 5) = none) (hQ : ∀ h', (∀ c o, c ≠ p → s.heap.get? c = some o → h'.get? c = some o) → Q none { s with heap := h' }) :
    wpAny (model prog w) A (pyNext (.ref p)) Q E s := by
  have hT := perm_type hp
  unfold pyNext
  refine wpAny_bind (wpAny_attempt (wpAny_callSpecial?_slot (name := Str.ofString "__next__") hT F.slot_perm_next
    (wpAny_call_entry F.slot_perm_next hT F.entry_perm_next (perm_end hh hp hq hd h5 hn fun h' e hk he => ?_) (F.args_perm_next_1 _))))
  obtain ⟨o, ho, hc⟩ := he
  refine wpAny_bind (wpAny_isInstance (T := "StopIteration") (b := true) ⟨o, ho, hc⟩ isSubtype_stop ?_)
  exact wpAny_pure (hQ _ hk)
theorem self_perm {p pool : Addr} {flag : Int} {before : Value} {ns : List Nat} {Q : Value → Shared → Prop} (hp : s.heap.get? p = some (permObj pool flag before ns)) (h : Q (.ref p) s) : wpAny (model prog w) A (pyIter (.ref p)) Q E s := by
  have hT := perm_type hp
  refine wpAny_pyIter_slot hT F.slot_perm_iter (wpAny_call_entry F.slot_perm_iter hT F.entry_perm_iter ?_ (F.args_perm_iter_1 _))
  show wpAny _ _ (ret (.ref p)) _ _ s
  exact wpAny_pure ⟨_, rfl, "itertools.permutations", _, hT, F.slot_perm_next.lookup, h⟩
def perm0 : List Nat := [0, 1, 2, 3, 4, 5, 4, 3, 2, 1]
theorem perm_new {r : Addr} {t u v : Tok} : Meets (Builtin.«itertools.permutations.__new__» ⟨[.type "itertools.permutations", .ref r], []⟩) (fun A R s => A.handled = none ∧ IsRange s.heap r 0 5 1 t u v ∧
    ∀ (h' : Heap) (tk : Nat) (acc : Array Value), (∀ b o, s.heap.get? b = some o → h'.get? b = some o) → ItemsOf (fun i v => ∃ t, v = .int (0 + i * 1) t) acc 5 →
      R (.ok (.ret (.ref (h'.objs.size + 1)))) { s with heap := (h'.push { cls := .type "tuple", data := .seq acc }).push (permObj h'.objs.size 0 .none perm0), toks := tk }) :=
  .of_wp fun prog w A R s h => by
    obtain ⟨hh, hr, h⟩ := h
    have hsub := F.sub_perm
    have hh1 : A.in1.handled = none := hh
    wp_walk using L2.collect_range (A := A.in1) hh1 hr (by decide) (show Builtin.Range.rangeSize 0 5 1 = (5 : Nat) from by decide) (by decide)
    rw [show ("itertools." ++ "permutations" : String) = "itertools.permutations" from by decide +kernel]
    refine wpAny_of_eq hsub ?_
    unfold Builtin.Itertools.itBindNamed
    wp_walk using L2.collect_range (A := A.in1) hh1 hr (by decide) (show Builtin.Range.rangeSize 0 5 1 = (5 : Nat) from by decide) (by decide)
    intro h' tk acc hk hi
    have la : acc.toList.length = 5 := by rw [Array.length_toList]; exact hi.1
    rw [la]
    refine wpAny_bind (wpAny_pure ?_)
    show wpAny _ _ (newTuple acc.toList >>= _) _ _ _
    refine wpAny_bind (wpAny_newTuple ?_ (by rw [la, sizeLine_eq]; omega))
    show wpAny _ _ (Builtin.Itertools.itNewRecord (Value.type "itertools.permutations") _ >>= _) _ _ _
    unfold Builtin.Itertools.itNewRecord
    have nd : typeHasDict (.type "itertools.permutations") = false := by kernel_rfl
    rw [nd, if_pos (show (!false) = true from rfl)]
    refine wpAny_bind (wpAny_newObj_type ?_ (by first | size_fits | (show (14 : Nat) ≤ sizeLine; rw [sizeLine_eq]; decide) | (show (14 : Nat) ≤ sizeLine + 2; rw [sizeLine_eq]; decide)))
    refine wpAny_pure ⟨_, rfl, ?_⟩
    have e := h h' tk acc hk hi
    have ez : (h'.push { cls := .type "tuple", data := .seq acc }).objs.size = h'.objs.size + 1 := Heap.size_push ..
    rw [← ez] at e
    have ea : acc.toList.toArray = acc := by simp
    dsimp only
    rw [ea]
    exact e
theorem call_perm {r : Addr} {t u v : Tok} {Q : Value → Shared → Prop} (hh : A.handled = none) (hr : IsRange s.heap r 0 5 1 t u v)
    (hQ : ∀ (h' : Heap) (tk : Nat) (acc : Array Value), (∀ b o, s.heap.get? b = some o → h'.get? b = some o) → ItemsOf (fun i v => ∃ t, v = .int (0 + i * 1) t) acc 5 →
      Q (.ref (h'.objs.size + 1)) { s with heap := (h'.push { cls := .type "tuple", data := .seq acc }).push (permObj h'.objs.size 0 .none perm0), toks := tk }) :
    wpAny (model prog w) A (call (.type "itertools.permutations") [.ref r]) Q E s := by
  refine callType_new F.called_perm (by decide) (F.typeCall_perm_1 _) (F.newCall_perm_1 _) (fun obj => F.args_object_init_2 obj _) F.entry_perm_new perm_new ⟨hh, hr, fun h' tk acc hk hi => ?_⟩
  have ez : (h'.push { cls := .type "tuple", data := .seq acc }).objs.size = h'.objs.size + 1 := Heap.size_push ..
  refine ⟨⟨permObj h'.objs.size 0 .none perm0, ?_, rfl⟩, hQ h' tk acc hk hi⟩
  have := Heap.get?_push_size (h'.push { cls := .type "tuple", data := .seq acc }) (o := permObj h'.objs.size 0 .none perm0) rfl
  rw [ez] at this
  exact this
end
end Sw
namespace Sw
open PySem PySem.Spec PyProof.Rows L2 RZ
/-- where the record stands behind so many tellings -/
def numAt : Nat → List Nat
  | 0 => perm0
  | k + 1 => match nextP 5 5 ((numAt k).take 5) ((numAt k).drop 5) with
    | some (ix, cy) => ix ++ cy
    | none => []
/-- all of them, in their order -/
def allNums : Nat → List Nat → List (List Nat)
  | 0, ns => [ns]
  | k + 1, ns => ns :: (match nextP 5 5 (ns.take 5) (ns.drop 5) with
    | some (ix, cy) => allNums k (ix ++ cy)
    | none => [])
def goodNum (ns : List Nat) : Bool := ns.length == 10 && (ns.take 5).all (· < 5) && (match nextP 5 5 (ns.take 5) (ns.drop 5) with
  | some (ix, cy) => ix.length == 5 && cy.length == 5
  | none => false)
def lastNum (ns : List Nat) : Bool := ns.length == 10 && (ns.take 5).all (· < 5) && (nextP 5 5 (ns.take 5) (ns.drop 5)).isNone
def goodAll : Nat → List Nat → Bool
  | 0, ns => lastNum ns
  | k + 1, ns => goodNum ns && (match nextP 5 5 (ns.take 5) (ns.drop 5) with
    | some (ix, cy) => goodAll k (ix ++ cy)
    | none => false)
theorem good_119 : goodAll 119 perm0 = true := by decide +kernel
theorem good_step : ∀ (k : Nat) (ns : List Nat), goodAll (k + 1) ns = true → ∃ ix cy, nextP 5 5 (ns.take 5) (ns.drop 5) = some (ix, cy) ∧ ix.length = 5 ∧ cy.length = 5 ∧ ns.length = 10 ∧ (∀ i ∈ ns.take 5, i < 5) ∧ goodAll k (ix ++ cy) = true := by
  intro k ns h
  unfold goodAll at h
  rw [Bool.and_eq_true] at h
  obtain ⟨h1, h2⟩ := h
  unfold goodNum at h1
  cases e : nextP 5 5 (ns.take 5) (ns.drop 5) with
  | none =>
    rw [e] at h2
    cases h2
  | some p =>
    obtain ⟨ix, cy⟩ := p
    rw [e] at h1 h2
    simp only [Bool.and_eq_true, beq_iff_eq, List.all_eq_true, decide_eq_true_eq] at h1
    exact ⟨ix, cy, rfl, h1.2.1, h1.2.2, h1.1.1, h1.1.2, h2⟩
theorem good_last (ns : List Nat) (h : goodAll 0 ns = true) : nextP 5 5 (ns.take 5) (ns.drop 5) = none ∧ ns.length = 10 ∧ ∀ i ∈ ns.take 5, i < 5 := by
  unfold goodAll lastNum at h
  simp only [Bool.and_eq_true, beq_iff_eq, List.all_eq_true, decide_eq_true_eq, Option.isNone_iff_eq_none] at h
  exact ⟨h.2, h.1.1, h.1.2⟩
theorem num_good : ∀ i, i ≤ 119 → goodAll (119 - i) (numAt i) = true
  | 0, _ => good_119
  | i + 1, h => by
    have q := num_good i (by omega)
    rw [show 119 - i = (119 - (i + 1)) + 1 by omega] at q
    obtain ⟨ix, cy, e, _, _, _, _, g⟩ := good_step _ _ q
    show goodAll _ (match nextP 5 5 ((numAt i).take 5) ((numAt i).drop 5) with
      | some (ix, cy) => ix ++ cy
      | none => []) = true
    rw [e]
    exact g
theorem num_step {i : Nat} (h : i < 119) : ∃ ix cy, nextP 5 5 ((numAt i).take 5) ((numAt i).drop 5) = some (ix, cy) ∧ numAt (i + 1) = ix ++ cy ∧ ix.length = 5 ∧ cy.length = 5 := by
  have q := num_good i (by omega)
  rw [show 119 - i = (119 - (i + 1)) + 1 by omega] at q
  obtain ⟨ix, cy, e, l1, l2, _, _, _⟩ := good_step _ _ q
  refine ⟨ix, cy, e, ?_, l1, l2⟩
  show (match nextP 5 5 ((numAt i).take 5) ((numAt i).drop 5) with
      | some (ix, cy) => ix ++ cy
      | none => []) = _
  rw [e]
theorem num_end : nextP 5 5 ((numAt 119).take 5) ((numAt 119).drop 5) = none := (good_last _ (num_good 119 (Nat.le_refl _))).1
theorem num_lt {i : Nat} (h : i < 120) : (∀ j ∈ (numAt i).take 5, j < 5) ∧ (numAt i).length = 10 := by
  have q := num_good i (by omega)
  by_cases z : i = 119
  · subst z
    have := good_last _ q
    exact ⟨this.2.2, this.2.1⟩
  · rw [show 119 - i = (119 - (i + 1)) + 1 by omega] at q
    obtain ⟨ix, cy, e, l1, l2, l3, l4, _⟩ := good_step _ _ q
    exact ⟨l4, l3⟩
def permAt (i : Nat) : List Int := ((numAt i).take 5).map fun j : Nat => (j : Int)
/-- the arrangements of 0 to 4 in new tuples, one after the other -/
def ItPerm : It :=
  ⟨fun i _ => i < 120, fun i H v H' => ∃ T, v = .ref T ∧ H T = none ∧ H' = upd H T (.tup ((permAt i).map V.int)), fun i _ => 120 ≤ i⟩
def PermSt (z pool : Addr) (i : Nat) (h : Heap) : Prop := i ≤ 120 ∧ ∃ (before : Value) (acc : Array Value), h.get? z = some (permObj pool (if i = 0 then 0 else 1) before (numAt (i - 1))) ∧ h.get? pool = some { cls := .type "tuple", data := .seq acc } ∧ ItemsOf (fun i v => ∃ t, v = .int (0 + i * 1) t) acc 5
theorem vals_perm {acc : Array Value} (hi : ItemsOf (fun i v => ∃ t, v = .int (0 + i * 1) t) acc 5) : ∀ {js : List Nat}, (∀ j ∈ js, j < 5) → Vals ((js.map fun j : Nat => (j : Int)).map V.int) (js.map fun i => acc.getD i .none)
  | [], _ => .nil
  | j :: r, h => by
    refine .cons ?_ (vals_perm hi fun k hk => h k (List.mem_cons_of_mem _ hk))
    have lj : j < acc.size := by rw [hi.1]; exact h j List.mem_cons_self
    obtain ⟨t, e⟩ := hi.2 j acc[j] (by simp [lj])
    refine ⟨t, ?_⟩
    have : acc.getD j .none = acc[j] := by simp [Array.getD, lj]
    dsimp only
    rw [this, e]
    congr 1
    omega
theorem turn_perm {P : Program} {w : World} {K : PySem.W.Frag} {x : Str} {tpos : Pos} {z pool : Addr} (hzp : z ≠ pool) : Turn P w K (.Name x tpos) ItPerm [z, pool] z (PermSt z pool) where
  mem := by simp
  obj := fun i h st c hc => by
    obtain ⟨_, before, acc, hz, hp, _⟩ := st
    have e' : c = z ∨ c = pool := by simpa using hc
    rcases e' with q | q
    · rw [q]; exact ⟨_, hz, fun v q => nomatch q⟩
    · rw [q]; exact ⟨_, hp, fun v q => nomatch q⟩
  keep := fun i h h' st k => by
    obtain ⟨i1, before, acc, hz, hp, hi⟩ := st
    exact ⟨i1, before, acc, k z (by simp) _ hz, k pool (by simp) _ hp, hi⟩
  item := by
    intro X hP hw hK hc i pins s σ H E I hf st hg
    subst hP hw hK
    obtain ⟨i1, before, acc, hz, hp, hi⟩ := st
    have hg : i < 120 := hg
    have hzl : z < s.heap.objs.size := Heap.lt_size hz
    have hpl : pool < s.heap.objs.size := Heap.lt_size hp
    obtain ⟨js, jl⟩ := num_lt hg
    have l5 : ((numAt i).take 5).length = 5 := by rw [List.length_take, jl]; rfl
    have fin : ∀ h' : Heap, h'.get? z = some (permObj pool 1 (.ref s.heap.objs.size) (numAt i)) → h'.get? s.heap.objs.size = some { cls := .type "tuple", data := .seq (((numAt i).take 5).map fun i => acc.getD i .none).toArray } →
        (∀ c o, c ≠ z → s.heap.get? c = some o → h'.get? c = some o) → ∃ u, some (Value.ref s.heap.objs.size) = some u ∧
          wpAny (model X.prog X.w) X.A (letOwnedTupleGo (.Name x tpos) (.ref z) u) (fun _ s2 => ∃ x H', Inv X pins σ H' s2 ∧ RelV x u ∧ ItPerm.yld i H x H' ∧ PermSt z pool (i + 1) s2.heap ∧ ∀ b ∈ [z, pool], H' b = none) E { s with heap := h' } := fun h' e1 e2 hk => by
      refine ⟨_, rfl, ?_⟩
      unfold letOwnedTupleGo
      refine wpAny_pure ?_
      have new : ObjOk X.prog X.w (upd H s.heap.objs.size (.tup ((permAt i).map V.int))) h' s.heap.objs.size (.tup ((permAt i).map V.int)) :=
        ⟨by rw [List.length_map]; unfold permAt; rw [List.length_map, l5, sizeLine_eq]; omega, _, vals_perm hi js, ⟨_, e2, rfl, _, rfl⟩⟩
      have I1 : Inv X pins σ (upd H s.heap.objs.size (.tup ((permAt i).map V.int))) { s with heap := h' } :=
        I.turnedNew (t' := s.toks) (ch := [z, pool]) (fun c o hb q => hk c o (fun q' => hb (by simp [q'])) q) hf (Nat.le_refl _) new
      refine ⟨.ref s.heap.objs.size, _, I1, rfl, ⟨_, rfl, I.hok.fresh (Nat.le_refl _), rfl⟩, ⟨by omega, Value.ref s.heap.objs.size, acc, ?_, hk _ _ hzp.symm hp, hi⟩, fun c hcm => ?_⟩
      · rw [if_neg (Nat.succ_ne_zero i), Nat.add_sub_cancel]
        exact e1
      · have hlt : c < s.heap.objs.size := by
          have e' : c = z ∨ c = pool := by simpa using hcm
          rcases e' with q | q
          · rw [q]; exact hzl
          · rw [q]; exact hpl
        rw [upd_ne (Nat.ne_of_lt hlt)]
        exact (hf c hcm).1
    by_cases i0 : i = 0
    · subst i0
      rw [if_pos rfl] at hz
      exact next_perm0 hz hp rfl hi.1 fun h' a b c => fin h' a b c
    · rw [if_neg i0] at hz
      obtain ⟨k, rfl⟩ : ∃ k, i = k + 1 := ⟨i - 1, by omega⟩
      rw [Nat.add_sub_cancel] at hz
      obtain ⟨ix, cy, e, en, l1, l2⟩ := num_step (i := k) (by omega)
      have et : (ix ++ cy).take 5 = ix.take 5 := by rw [List.take_append_of_le_length (by omega)]
      rw [en, et] at fin
      exact next_perm1 hz hp rfl hi.1 e (by rw [List.length_append]; omega) fun h' a b c => fin h' a b c
  done := by
    intro X hP hw hK hc i pins s σ H E I hf st hg
    subst hP hw hK
    obtain ⟨i1, before, acc, hz, hp, hi⟩ := st
    have hg : 120 ≤ i := hg
    obtain rfl : i = 120 := by omega
    rw [if_neg (by decide)] at hz
    exact next_permE (I.ok.hd hc) hz hp rfl hi.1 num_end fun h' hk => ⟨rfl, I.turnedL (t' := s.toks) (ch := [z, pool]) (fun c o hb q => hk c o (fun q' => hb (by simp [q'])) q) hf⟩
  self := fun A i s Q E st h => by
    obtain ⟨_, before, acc, hz, _⟩ := st
    exact self_perm hz h
/-- permutations(range(5)) -/
def iPerm (ta : TA) : TI := fun σ H R => ta σ H fun vs H1 => vs = [.int 5] ∧ R ItPerm H1
theorem pi_perm5 {X : Cx} {e : Expr} {ta : TA} {p p2 pos pos2 tpos : Pos} {x : Str} (hc : X.calm = true) (hg : Gl X "permutations") (hm : X.mg "permutations" = some (.type "itertools.permutations")) (hg2 : Gl X "range") (hm2 : X.mg "range" = none) (ha : PA X [e] ta)
    (hs : starEach [e] X.env = (false, eval e X.env) :: starEach [] X.env := by rfl)
    (hs2 : starEach [.Call (.Name "range" p2) [e] [] pos2] X.env = (false, eval (.Call (.Name "range" p2) [e] [] pos2) X.env) :: starEach [] X.env := by rfl)
    (hpl : (backTo pos2 (starEach [] X.env)).any (·.1) = false := by rfl) :
    PI X (.Name x tpos) (.Call (.Name "permutations" p) [.Call (.Name "range" p2) [e] [] pos2] [] pos) (iPerm ta) := by
  refine ⟨fun pins s σ H R I h => ?_⟩
  have rng : wpAny (model X.prog X.w) X.A (eval (.Call (.Name "range" p2) [e] [] pos2) X.env) (fun v s' => ∃ (r : Addr) (t u v' : Tok) (H' : Hp), v = .ref r ∧ IsRange s'.heap r 0 5 1 t u v' ∧ Inv X pins σ H' s' ∧ R ItPerm H') X.xe s := by
    refine Call_ (ld_blt I hg2 hm2 boot_range (PyProof.Rows.callWith_type1 (thn (ha.run pos2 pins s σ H _ I h) fun us s1 ⟨vs, H1, I1, r1, q1⟩ => ?_) hs hpl))
    obtain ⟨rfl, q⟩ := q1
    obtain ⟨u, rfl, hu⟩ := vals1 r1
    obtain ⟨t, rfl⟩ := hu
    exact call_range_1 ⟨_, _, _, _, H1, rfl, IsRange.new _ _ _ _ _ _ _, I1.kept fun b o e => Heap.get?_push_of_some _ e, q⟩
  refine wpAny_Call_Name_kw (ld_glob I hg hm ?_ (by decide))
  refine PyProof.Rows.callWith_type1 (args_cons (thn rng fun v s1 ⟨r, t, u, v', H1, ev, hr, I1, q⟩ => args_nil ?_) hs2) hs2
  subst ev
  refine call_perm (I1.ok.hd hc) hr fun h' tk acc hk hi => ?_
  have I2 : Inv X pins σ H1 { s1 with heap := h', toks := tk } := I1.kept hk
  have ez : (h'.push { cls := .type "tuple", data := .seq acc }).objs.size = h'.objs.size + 1 := Heap.size_push ..
  have hz : ((h'.push { cls := .type "tuple", data := .seq acc }).push (permObj h'.objs.size 0 .none perm0)).get? (h'.objs.size + 1) = some (permObj h'.objs.size 0 .none perm0) := by
    rw [← ez]
    exact Heap.get?_push_size _ rfl
  have hp : ((h'.push { cls := .type "tuple", data := .seq acc }).push (permObj h'.objs.size 0 .none perm0)).get? h'.objs.size = some { cls := .type "tuple", data := .seq acc } := Heap.get?_push_of_some _ (Heap.get?_push_size _ rfl)
  refine self_perm (s := { s1 with heap := (h'.push { cls := .type "tuple", data := .seq acc }).push (permObj h'.objs.size 0 .none perm0), toks := tk }) hz ?_
  have I3 : Inv X pins σ H1 { s1 with heap := (h'.push { cls := .type "tuple", data := .seq acc }).push (permObj h'.objs.size 0 .none perm0), toks := tk } := I2.kept (t' := tk) fun b o e => Heap.get?_push_of_some _ (Heap.get?_push_of_some _ e)
  refine ⟨h'.objs.size + 1, [h'.objs.size + 1, h'.objs.size], PermSt (h'.objs.size + 1) h'.objs.size, ItPerm, H1, rfl, I3, turn_perm (Nat.succ_ne_self _), ⟨Nat.zero_le _, .none, acc, hz, hp, hi⟩, fun c hcm => ?_, q⟩
  have hle : h'.objs.size ≤ c := by
    have e' : c = h'.objs.size + 1 ∨ c = h'.objs.size := by simpa using hcm
    rcases e' with e | e
    · rw [e]; exact Nat.le_succ _
    · rw [e]; exact Nat.le_refl _
  exact I2.fpOk hle (I2.hok.fresh hle)
theorem walk_perm : Walk ItPerm 120 (fun _ => True) (fun i H v H' => ∃ T, v = .ref T ∧ H T = none ∧ H' = upd H T (.tup ((permAt i).map V.int))) :=
  ⟨fun _ _ hi _ => hi, fun _ _ => Nat.le_refl _, fun _ _ _ _ _ _ y => y⟩
end Sw
namespace Sw
open PySem L2
/-! ### whole numbers as sets of bits -/
theorem bitOr_nat (a b : Nat) : Builtin.bitOr (a : Int) (b : Int) = ((a ||| b : Nat) : Int) := by
  have nn : ∀ x : Nat, Builtin.bitNot (Builtin.bitNot (x : Int)) = (x : Int) := fun x => by
    unfold Builtin.bitNot
    omega
  have ng : ∀ x : Nat, decide (0 ≤ Builtin.bitNot (x : Int)) = false := fun x => by
    refine decide_eq_false ?_
    unfold Builtin.bitNot
    omega
  unfold Builtin.bitOr Builtin.bitAnd
  rw [ng, ng]
  dsimp only
  rw [nn, nn, nn]
  rfl
theorem bitAnd_one (a : Nat) : Builtin.bitAnd (a : Int) 1 = ((a % 2 : Nat) : Int) := by
  unfold Builtin.bitAnd
  show ((a &&& 1 : Nat) : Int) = _
  rw [Nat.and_one_is_mod]
theorem shr_nat (a k : Nat) : (a : Int) / 2 ^ ((k : Int).toNat) = ((a / 2 ^ k : Nat) : Int) := by
  rw [Int.toNat_natCast, Int.natCast_ediv, Int.natCast_pow]
  rfl
theorem bit_is (a k : Nat) : ((a / 2 ^ k % 2 : Nat) : Int) = 1 ↔ a.testBit k = true := by
  rw [Nat.testBit_eq_decide_div_mod_eq, decide_eq_true_iff]
  omega
theorem bit_or (a b k : Nat) : (a ||| b).testBit k = true ↔ a.testBit k = true ∨ b.testBit k = true := by
  rw [Nat.testBit_or, Bool.or_eq_true]
theorem bit_shl (v k : Nat) : (2 ^ v).testBit k = true ↔ v = k := by
  rw [Nat.testBit_two_pow, decide_eq_true_iff]
end Sw
namespace Sw
/-! ### who comes where, by bits -/
/-- so many arrows lead from a to b -/
inductive Rch (ars : List (Int × Int)) : Nat → Int → Int → Prop
  | nil (a : Int) : Rch ars 0 a a
  | cons {k : Nat} {a b c : Int} : (a, b) ∈ ars → Rch ars k b c → Rch ars (k + 1) a c
theorem Rch.app {ars : List (Int × Int)} {k j : Nat} {a b c : Int} (h : Rch ars k a b) (g : Rch ars j b c) : Rch ars (k + j) a c := by
  induction h with
  | nil => rw [Nat.zero_add]; exact g
  | cons e _ ih => rw [Nat.succ_add]; exact .cons e (ih g)
/-- the bits of v -/
def bitsOf (fs : List Nat) (v : Int) : Nat := fs.getD v.toNat 0
def Hs (fs : List Nat) (v : Int) (k : Nat) : Prop := (bitsOf fs v).testBit k = true
/-- one arrow -/
def stepB (fs : List Nat) (e : Int × Int) : List Nat := fs.set e.1.toNat (bitsOf fs e.1 ||| bitsOf fs e.2)
theorem stepB_len (fs : List Nat) (e : Int × Int) : (stepB fs e).length = fs.length := by
  unfold stepB
  rw [List.length_set]
theorem bits_step {fs : List Nat} {e : Int × Int} {v : Int} (h : e.1.toNat < fs.length) : bitsOf (stepB fs e) v = if v.toNat = e.1.toNat then bitsOf fs e.1 ||| bitsOf fs e.2 else bitsOf fs v := by
  unfold stepB
  by_cases z : v.toNat = e.1.toNat
  · rw [if_pos z]
    show (fs.set _ _).getD v.toNat 0 = _
    rw [z, List.getD_eq_getElem?_getD, List.getElem?_set_self h]
    rfl
  · rw [if_neg z]
    show (fs.set _ _).getD v.toNat 0 = fs.getD v.toNat 0
    rw [List.getD_eq_getElem?_getD, List.getD_eq_getElem?_getD, List.getElem?_set_ne (fun y => z y.symm)]
theorem hs_step {fs : List Nat} {e : Int × Int} {v : Int} {k : Nat} (h : e.1.toNat < fs.length) : Hs (stepB fs e) v k ↔ Hs fs v k ∨ (v.toNat = e.1.toNat ∧ Hs fs e.2 k) := by
  unfold Hs
  rw [bits_step h]
  by_cases z : v.toNat = e.1.toNat
  · rw [if_pos z, bit_or]
    have q : bitsOf fs v = bitsOf fs e.1 := by
      unfold bitsOf
      rw [z]
    rw [q]
    exact ⟨fun a => a.elim .inl fun b => .inr ⟨z, b⟩, fun a => a.elim .inl fun b => .inr b.2⟩
  · rw [if_neg z]
    exact ⟨.inl, fun a => a.elim id fun b => absurd b.1 z⟩
/-- one round over all arrows -/
def roundB (fs : List Nat) (ars : List (Int × Int)) : List Nat := ars.foldl stepB fs
theorem roundB_len : ∀ (ars : List (Int × Int)) (fs : List Nat), (roundB fs ars).length = fs.length
  | [], fs => rfl
  | e :: r, fs => (roundB_len r (stepB fs e)).trans (stepB_len fs e)
theorem round_mono {v : Int} {k : Nat} : ∀ {ars : List (Int × Int)} {fs : List Nat}, (∀ e ∈ ars, e.1.toNat < fs.length) → Hs fs v k → Hs (roundB fs ars) v k
  | [], _, _, h => h
  | e :: r, fs, b, h => round_mono (ars := r) (fs := stepB fs e) (fun x hx => by rw [stepB_len]; exact b x (List.mem_cons_of_mem _ hx)) ((hs_step (b e List.mem_cons_self)).mpr (.inl h))
theorem round_arrow {v w : Int} {k : Nat} : ∀ {ars : List (Int × Int)} {fs : List Nat}, (∀ e ∈ ars, e.1.toNat < fs.length) → (v, w) ∈ ars → Hs fs w k → Hs (roundB fs ars) v k
  | [], _, _, m, _ => (List.not_mem_nil m).elim
  | e :: r, fs, b, m, h => by
    have b' : ∀ x ∈ r, x.1.toNat < (stepB fs e).length := fun x hx => by rw [stepB_len]; exact b x (List.mem_cons_of_mem _ hx)
    have be := b e List.mem_cons_self
    rcases List.mem_cons.mp m with rfl | z
    · exact round_mono (ars := r) (fs := stepB fs (v, w)) b' ((hs_step be).mpr (.inr ⟨rfl, h⟩))
    · exact round_arrow (ars := r) (fs := stepB fs e) b' z ((hs_step be).mpr (.inl h))
/-- no bit lies -/
def Sound (ars : List (Int × Int)) (n : Int) (fs : List Nat) : Prop := ∀ (v : Int) (k : Nat), 0 ≤ v → v < n → Hs fs v k → ∃ j, Rch ars j v (k : Int)
/-- no bit lacks that so many arrows give -/
def Full (ars : List (Int × Int)) (t : Nat) (fs : List Nat) : Prop := ∀ (v : Int) (k j : Nat), 0 ≤ v → v.toNat < fs.length → j ≤ t → Rch ars j v (k : Int) → Hs fs v k
theorem Sound.step {ars : List (Int × Int)} {n : Int} {fs : List Nat} {e : Int × Int} (S : Sound ars n fs) (m : e ∈ ars) (h1 : 0 ≤ e.1 ∧ e.1 < n) (h2 : 0 ≤ e.2 ∧ e.2 < n) (l : e.1.toNat < fs.length) : Sound ars n (stepB fs e) := by
  intro v k v0 v1 h
  rcases (hs_step l).mp h with a | ⟨z, a⟩
  · exact S v k v0 v1 a
  · have q : v = e.1 := by omega
    obtain ⟨j, r⟩ := S e.2 k h2.1 h2.2 a
    exact ⟨j + 1, .cons (b := e.2) (by rw [q]; exact m) r⟩
theorem Sound.round {ars : List (Int × Int)} {n : Int} : ∀ {as : List (Int × Int)} {fs : List Nat}, Sound ars n fs → (∀ e ∈ as, e ∈ ars ∧ (0 ≤ e.1 ∧ e.1 < n) ∧ (0 ≤ e.2 ∧ e.2 < n)) → n.toNat = fs.length → Sound ars n (roundB fs as)
  | [], _, S, _, _ => S
  | e :: r, fs, S, h, l => by
    obtain ⟨m, h1, h2⟩ := h e List.mem_cons_self
    exact Sound.round (as := r) (fs := stepB fs e) (S.step m h1 h2 (by omega)) (fun x hx => h x (List.mem_cons_of_mem _ hx)) (by rw [stepB_len]; exact l)
theorem Full.round {ars : List (Int × Int)} {n : Int} {t : Nat} {fs : List Nat} (F : Full ars t fs) (h : ∀ e ∈ ars, (0 ≤ e.1 ∧ e.1 < n) ∧ (0 ≤ e.2 ∧ e.2 < n)) (l : n.toNat = fs.length) : Full ars (t + 1) (roundB fs ars) := by
  have b : ∀ e ∈ ars, e.1.toNat < fs.length := fun e he => by
    have := (h e he).1
    omega
  intro v k j v0 v1 hj r
  rw [roundB_len] at v1
  cases r with
  | nil => exact round_mono b (F _ k 0 v0 v1 (Nat.zero_le _) (.nil _))
  | cons m q =>
    have h2 := (h _ m).2
    exact round_arrow b m (F _ k _ h2.1 (by have := h2.2; dsimp only at *; omega) (by omega) q)
/-- at the start each stop has its own bit -/
def bits0 (n : Int) : List Nat := (List.range n.toNat).map fun v => 2 ^ v
theorem hs_0 {n v : Int} {k : Nat} (h0 : 0 ≤ v) (h1 : v < n) : Hs (bits0 n) v k ↔ v = (k : Int) := by
  have hj : v.toNat < n.toNat := by omega
  have e : bitsOf (bits0 n) v = 2 ^ v.toNat := by
    unfold bitsOf bits0
    rw [List.getD_eq_getElem?_getD, List.getElem?_map, List.getElem?_range hj]
    rfl
  unfold Hs
  rw [e, bit_shl]
  omega
theorem sound_0 {ars : List (Int × Int)} {n : Int} : Sound ars n (bits0 n) := fun v k h0 h1 h => ⟨0, by rw [(hs_0 h0 h1).mp h]; exact .nil _⟩
theorem full_0 {ars : List (Int × Int)} {n : Int} : Full ars 0 (bits0 n) := fun v k j h0 h1 hj r => by
  have h1 : v < n := by
    unfold bits0 at h1
    rw [List.length_map, List.length_range] at h1
    omega
  cases r with
  | nil => exact (hs_0 h0 h1).mpr rfl
  | cons _ _ => omega
end Sw
namespace Sw
open PySem L2
theorem pig : ∀ (n : Nat) (ks : List Int), ks.Nodup → (∀ k ∈ ks, 0 ≤ k ∧ k < n) → ks.length ≤ n
  | 0, ks, _, h => by
    cases ks with
    | nil => exact Nat.le_refl _
    | cons k r =>
      have := h k (List.mem_cons_self ..)
      omega
  | n + 1, ks, hn, h => by
    have q := pig n (ks.erase (n : Int)) (hn.erase _) fun k hk => by
      have h1 := h k (List.mem_of_mem_erase hk)
      have h2 : k ≠ (n : Int) := fun z => by
        rw [z] at hk
        exact (List.Nodup.mem_erase_iff hn).mp hk |>.1 rfl
      omega
    have e := List.length_erase (a := (n : Int)) (l := ks)
    split at e
    · omega
    · omega
theorem valV_mem {κ : Type} [DecidableEq κ] {kvs : List (κ × V)} {k : κ} {x : V} (h : valV kvs k = some x) : (k, x) ∈ kvs := by
  unfold valV at h
  cases q : kvs.find? fun kv => decide (kv.1 = k) with
  | none => rw [q] at h; cases h
  | some z =>
    rw [q] at h
    have h1 := List.find?_some q
    have h1 := of_decide_eq_true h1
    have h2 := Option.some.inj h
    have : z = (k, x) := by
      rw [← h1, ← h2]
    rw [← this]
    exact List.mem_of_find?_eq_some q
end Sw
namespace Sw
/-! ### no way needs as many arrows as there are stops -/
section
variable {ars : List (Int × Int)}
theorem Rch.fewest {a c : Int} : ∀ (j : Nat), Rch ars j a c → ∃ i, i ≤ j ∧ Rch ars i a c ∧ ∀ m, m < i → ¬ Rch ars m a c := by
  intro j
  induction j using Nat.strongRecOn with
  | ind j ih =>
    intro h
    by_cases q : ∃ m, m < j ∧ Rch ars m a c
    · obtain ⟨m, hm, hr⟩ := q
      obtain ⟨i, hi, r⟩ := ih m hm hr
      exact ⟨i, by omega, r⟩
    · exact ⟨j, Nat.le_refl _, h, fun m hm hr => q ⟨m, hm, hr⟩⟩
theorem Rch.inn {n : Int} (b : ∀ e ∈ ars, (0 ≤ e.1 ∧ e.1 < n) ∧ (0 ≤ e.2 ∧ e.2 < n)) {j : Nat} {a c : Int} (h : Rch ars j a c) (ha : 0 ≤ a ∧ a < n) : 0 ≤ c ∧ c < n := by
  induction h with
  | nil => exact ha
  | cons m _ ih => exact ih (b _ m).2
/-- the stops on a fewest way, none twice -/
theorem Rch.stops {n : Int} (b : ∀ e ∈ ars, (0 ≤ e.1 ∧ e.1 < n) ∧ (0 ≤ e.2 ∧ e.2 < n)) {c : Int} : ∀ {j : Nat} {a : Int}, (0 ≤ a ∧ a < n) → Rch ars j a c → (∀ m, m < j → ¬ Rch ars m a c) →
    ∃ ks : List Int, ks.length = j + 1 ∧ ks.Nodup ∧ ∀ x ∈ ks, (0 ≤ x ∧ x < n) ∧ ∃ i, i ≤ j ∧ Rch ars i x c
  | 0, a, ha, h, _ => ⟨[a], rfl, by simp, fun x hx => by
      rw [List.mem_singleton.mp hx]
      exact ⟨ha, 0, Nat.le_refl _, h⟩⟩
  | j + 1, a, ha, h, no => by
    cases h with
    | cons m r =>
      obtain ⟨ks, k1, k2, k3⟩ := Rch.stops b (b _ m).2 r fun i hi q => no (i + 1) (by omega) (.cons m q)
      refine ⟨a :: ks, by rw [List.length_cons, k1], List.nodup_cons.mpr ⟨fun z => ?_, k2⟩, fun x hx => ?_⟩
      · obtain ⟨_, i, hi, q⟩ := k3 a z
        exact no i (by omega) q
      · rcases List.mem_cons.mp hx with rfl | z
        · exact ⟨ha, j + 1, Nat.le_refl _, .cons m r⟩
        · obtain ⟨h1, i, hi, q⟩ := k3 x z
          exact ⟨h1, i, by omega, q⟩
theorem Rch.few {n : Int} (b : ∀ e ∈ ars, (0 ≤ e.1 ∧ e.1 < n) ∧ (0 ≤ e.2 ∧ e.2 < n)) {j : Nat} {a c : Int} (h : Rch ars j a c) (ha : 0 ≤ a ∧ a < n) : ∃ i, i < n.toNat ∧ Rch ars i a c := by
  obtain ⟨i, _, hi, no⟩ := h.fewest
  obtain ⟨ks, k1, k2, k3⟩ := Rch.stops b ha hi no
  have := pig n.toNat ks k2 fun k hk => by
    have := (k3 k hk).1
    omega
  exact ⟨i, by omega, hi⟩
/-- so after as many rounds as there are stops the bits tell who comes where -/
theorem told {n : Int} {fs : List Nat} (b : ∀ e ∈ ars, (0 ≤ e.1 ∧ e.1 < n) ∧ (0 ≤ e.2 ∧ e.2 < n)) (S : Sound ars n fs) (F : Full ars n.toNat fs) (l : n.toNat = fs.length) {v : Int} {k : Nat} (h0 : 0 ≤ v) (h1 : v < n) : Hs fs v k ↔ ∃ j, Rch ars j v (k : Int) := by
  refine ⟨S v k h0 h1, fun ⟨j, r⟩ => ?_⟩
  obtain ⟨i, hi, q⟩ := r.few b ⟨h0, h1⟩
  exact F v k i h0 (by omega) (by omega) q
end
end Sw
namespace Sw
/-! ### breadth first: the numbers alone -/
/-- so many steps lead from a to b -/
inductive Path (next : Int → List Int) : Nat → Int → Int → Prop
  | nil (a : Int) : Path next 0 a a
  | snoc {k : Nat} {a b c : Int} : Path next k a b → c ∈ next b → Path next (k + 1) a c
/-- and not fewer -/
def Dist (next : Int → List Int) (s v : Int) (k : Nat) : Prop := Path next k s v ∧ ∀ j, j < k → ¬ Path next j s v
section
variable {next : Int → List Int} {s : Int}
theorem Path.zero {a b : Int} (h : Path next 0 a b) : b = a := by cases h; rfl
theorem Path.last {k : Nat} {a c : Int} (h : Path next (k + 1) a c) : ∃ b, Path next k a b ∧ c ∈ next b := by
  cases h with
  | snoc p q => exact ⟨_, p, q⟩
theorem Path.fewest {v : Int} : ∀ {k : Nat}, Path next k s v → ∃ j, j ≤ k ∧ Dist next s v j
  | 0, h => ⟨0, Nat.le_refl _, h, fun _ z => absurd z (Nat.not_lt_zero _)⟩
  | k + 1, h => by
    by_cases q : ∃ j, j < k + 1 ∧ Path next j s v
    · obtain ⟨j, hj, pj⟩ := q
      by_cases q2 : ∃ i, i ≤ k ∧ Dist next s v i
      · obtain ⟨i, hi, di⟩ := q2
        exact ⟨i, by omega, di⟩
      · exfalso
        have each : ∀ m i, i < m → i ≤ k → ¬ Path next i s v := by
          intro m
          induction m with
          | zero => intro i hi; omega
          | succ m ih =>
            intro i hi hk pi
            exact q2 ⟨i, hk, pi, fun i' hi' => ih i' (by omega) (by omega)⟩
        exact each (k + 1) j hj (by omega) pj
    · exact ⟨k + 1, Nat.le_refl _, h, fun j hj pj => q ⟨j, hj, pj⟩⟩
theorem Dist.uniq {v : Int} {k j : Nat} (h : Dist next s v k) (g : Dist next s v j) : k = j := by
  rcases Nat.lt_trichotomy k j with z | z | z
  · exact absurd h.1 (g.2 k z)
  · exact z
  · exact absurd g.1 (h.2 j z)
theorem Dist.back {w : Int} {k : Nat} (h : Dist next s w (k + 1)) : ∃ v, Dist next s v k ∧ w ∈ next v := by
  obtain ⟨v, p, hw⟩ := h.1.last
  exact ⟨v, ⟨p, fun j hj q => h.2 (j + 1) (by omega) (.snoc q hw)⟩, hw⟩
/-- of the next front: just behind the front, and not nearer -/
theorem dist_next {w : Int} {L : Nat} : Dist next s w (L + 1) ↔ (∃ v, Dist next s v L ∧ w ∈ next v) ∧ ∀ j, j ≤ L → ¬ Dist next s w j := by
  constructor
  · intro h
    exact ⟨h.back, fun j hj q => by have := h.uniq q; omega⟩
  · rintro ⟨⟨v, hv, hw⟩, no⟩
    refine ⟨.snoc hv.1 hw, fun j hj p => ?_⟩
    obtain ⟨i, hi, d⟩ := p.fewest
    exact no i (by omega) d
/-- what is known: the things of a list with their numbers, none twice -/
structure Known (next : Int → List Int) (s : Int) (ks : List (Int × Nat)) (L : Nat) (P : Int → Prop) : Prop where
  nd : (ks.map Prod.fst).Nodup
  is : ∀ v k, (v, k) ∈ ks ↔ (k ≤ L ∧ Dist next s v k) ∨ (k = L + 1 ∧ P v ∧ ∀ j, j ≤ L → ¬ Dist next s v j)
/-- what is to come -/
def Beyond (next : Int → List Int) (s : Int) (by_ : List Int) (L : Nat) (P : Int → Prop) : Prop := ∀ v, v ∈ by_ ↔ P v ∧ ∀ j, j ≤ L → ¬ Dist next s v j
theorem Known.start : Known next s [(s, 0)] 0 fun _ => False := by
  refine ⟨by simp, fun v k => ?_⟩
  constructor
  · intro h
    have e := List.mem_singleton.mp h
    cases e
    exact .inl ⟨Nat.le_refl _, .nil s, fun j hj => absurd hj (Nat.not_lt_zero _)⟩
  · rintro (⟨h1, h2⟩ | ⟨_, h, _⟩)
    · obtain rfl : k = 0 := by omega
      have := h2.1.zero
      rw [this]
      exact List.mem_singleton.mpr rfl
    · exact h.elim
theorem Known.congr {ks : List (Int × Nat)} {L : Nat} {P P' : Int → Prop} (h : Known next s ks L P) (e : ∀ v, P v ↔ P' v) : Known next s ks L P' :=
  ⟨h.nd, fun v k => (h.is v k).trans (or_congr Iff.rfl (and_congr Iff.rfl (and_congr (e v) Iff.rfl)))⟩
theorem Beyond.congr {b : List Int} {L : Nat} {P P' : Int → Prop} (h : Beyond next s b L P) (e : ∀ v, P v ↔ P' v) : Beyond next s b L P' := fun v => (h v).trans (and_congr (e v) Iff.rfl)
/-- one that is known comes again -/
theorem Known.again {ks : List (Int × Nat)} {b : List Int} {L k : Nat} {P : Int → Prop} {w : Int} (h : Known next s ks L P) (g : Beyond next s b L P) (hw : (w, k) ∈ ks) : Known next s ks L (fun v => P v ∨ v = w) ∧ Beyond next s b L (fun v => P v ∨ v = w) := by
  have key : (P w ∨ ¬ ∀ j, j ≤ L → ¬ Dist next s w j) := by
    rcases (h.is w k).mp hw with ⟨h1, h2⟩ | ⟨_, h2, _⟩
    · exact .inr fun z => z k h1 h2
    · exact .inl h2
  have e : ∀ v, (P v ∧ ∀ j, j ≤ L → ¬ Dist next s v j) ↔ ((P v ∨ v = w) ∧ ∀ j, j ≤ L → ¬ Dist next s v j) := fun v => by
    constructor
    · rintro ⟨h1, h2⟩
      exact ⟨.inl h1, h2⟩
    · rintro ⟨h1 | rfl, h2⟩
      · exact ⟨h1, h2⟩
      · rcases key with q | q
        · exact ⟨q, h2⟩
        · exact absurd h2 q
  exact ⟨⟨h.nd, fun v k => (h.is v k).trans (or_congr Iff.rfl (and_congr Iff.rfl (e v)))⟩, fun v => (g v).trans (e v)⟩
/-- a new one -/
theorem Known.add {ks : List (Int × Nat)} {b : List Int} {L : Nat} {P : Int → Prop} {w : Int} (h : Known next s ks L P) (g : Beyond next s b L P) (hw : ∀ k, (w, k) ∉ ks) : Known next s (ks ++ [(w, L + 1)]) L (fun v => P v ∨ v = w) ∧ Beyond next s (b ++ [w]) L (fun v => P v ∨ v = w) := by
  have no : ∀ j, j ≤ L → ¬ Dist next s w j := fun j hj d => hw j ((h.is w j).mpr (.inl ⟨hj, d⟩))
  refine ⟨⟨?_, fun v k => ?_⟩, fun v => ?_⟩
  · rw [List.map_append]
    refine List.nodup_append.mpr ⟨h.nd, by simp, fun a ha c hc e => ?_⟩
    have hc : c = w := by simpa using hc
    obtain ⟨q, hq, rfl⟩ := List.mem_map.mp ha
    exact hw q.2 (by rw [← hc, ← e]; exact hq)
  · rw [List.mem_append, h.is v k, List.mem_singleton]
    constructor
    · rintro ((z | ⟨z1, z2, z3⟩) | z)
      · exact .inl z
      · exact .inr ⟨z1, .inl z2, z3⟩
      · cases z
        exact .inr ⟨rfl, .inr rfl, no⟩
    · rintro (z | ⟨rfl, z2 | rfl, z3⟩)
      · exact .inl (.inl z)
      · exact .inl (.inr ⟨rfl, z2, z3⟩)
      · exact .inr rfl
  · rw [List.mem_append, g v, List.mem_singleton]
    constructor
    · rintro (⟨z1, z2⟩ | rfl)
      · exact ⟨.inl z1, z2⟩
      · exact ⟨.inr rfl, no⟩
    · rintro ⟨z1 | rfl, z2⟩
      · exact .inl ⟨z1, z2⟩
      · exact .inr rfl
/-- the front is done: the next one -/
theorem Known.level {ks : List (Int × Nat)} {fr b : List Int} {L : Nat} {P : Int → Prop} (h : Known next s ks L P) (g : Beyond next s b L P) (hf : ∀ v, v ∈ fr ↔ Dist next s v L) (hP : ∀ w, P w ↔ ∃ v, v ∈ fr ∧ w ∈ next v) :
    Known next s ks (L + 1) (fun _ => False) ∧ ∀ v, v ∈ b ↔ Dist next s v (L + 1) := by
  have e : ∀ v, (P v ∧ ∀ j, j ≤ L → ¬ Dist next s v j) ↔ Dist next s v (L + 1) := fun v => by
    rw [dist_next, hP]
    constructor
    · rintro ⟨⟨u, hu, hv⟩, z⟩
      exact ⟨⟨u, (hf u).mp hu, hv⟩, z⟩
    · rintro ⟨⟨u, hu, hv⟩, z⟩
      exact ⟨⟨u, (hf u).mpr hu, hv⟩, z⟩
  refine ⟨⟨h.nd, fun v k => (h.is v k).trans ?_⟩, fun v => (g v).trans (e v)⟩
  constructor
  · rintro (⟨z1, z2⟩ | ⟨rfl, z⟩)
    · exact .inl ⟨by omega, z2⟩
    · exact .inl ⟨Nat.le_refl _, (e v).mp z⟩
  · rintro (⟨z1, z2⟩ | ⟨_, z, _⟩)
    · by_cases q : k ≤ L
      · exact .inl ⟨q, z2⟩
      · obtain rfl : k = L + 1 := by omega
        exact .inr ⟨rfl, (e v).mpr z2⟩
    · exact z.elim
/-- no front: all that can be reached is known -/
theorem Known.done {ks : List (Int × Nat)} {L : Nat} (h : Known next s ks L fun _ => False) (hf : ∀ v, ¬ Dist next s v L) : ∀ v k, (v, k) ∈ ks ↔ Dist next s v k := by
  have far : ∀ k v, L ≤ k → ¬ Dist next s v k := by
    intro k
    induction k with
    | zero => intro v hk d; exact hf v (by rw [show L = 0 by omega]; exact d)
    | succ k ih =>
      intro v hk d
      by_cases q : L = k + 1
      · exact hf v (by rw [q]; exact d)
      · obtain ⟨u, hu, _⟩ := d.back
        exact ih u (by omega) hu
  intro v k
  rw [h.is v k]
  constructor
  · rintro (⟨_, z⟩ | ⟨_, z, _⟩)
    · exact z
    · exact z.elim
  · intro d
    refine .inl ⟨?_, d⟩
    by_cases q : L ≤ k
    · exact absurd d (far k v q)
    · omega
theorem Path.inn {n : Int} (hs : 0 ≤ s ∧ s < n) (hn : ∀ v w, 0 ≤ v ∧ v < n → w ∈ next v → 0 ≤ w ∧ w < n) {v : Int} : ∀ {k : Nat}, Path next k s v → 0 ≤ v ∧ v < n
  | 0, h => by rw [h.zero]; exact hs
  | k + 1, h => by
    obtain ⟨b, p, q⟩ := h.last
    exact hn b v (Path.inn hs hn p) q
end
end Sw
namespace Sw
/-! ### the law's ways and the program's -/
theorem Path.pre {next : Int → List Int} {a b : Int} (h : b ∈ next a) : ∀ {k : Nat} {c : Int}, Path next k b c → Path next (k + 1) a c
  | _, _, .nil _ => .snoc (.nil a) h
  | _, _, .snoc p q => .snoc (Path.pre h p) q
theorem rch_path {next : Int → List Int} {ars : List (Int × Int)} (hx : ∀ b c, c ∈ next b ↔ (b, c) ∈ ars) {k : Nat} {a c : Int} : Rch ars k a c ↔ Path next k a c := by
  constructor
  · intro h
    induction h with
    | nil => exact .nil _
    | cons m _ ih => exact ih.pre ((hx _ _).mpr m)
  · intro h
    induction h with
    | nil => exact .nil _
    | snoc _ m ih => exact ih.app (.cons ((hx _ _).mp m) (.nil _))
/-- called otherwise, a way stays a way -/
theorem Rch.map {ars : List (Int × Int)} (f : Int → Int) {k : Nat} {a c : Int} (h : Rch ars k a c) : Rch (ars.map fun e => (f e.1, f e.2)) k (f a) (f c) := by
  induction h with
  | nil => exact .nil _
  | cons m _ ih => exact .cons (List.mem_map.mpr ⟨_, m, rfl⟩) ih
theorem Rch.mono {ars ars' : List (Int × Int)} (s : ∀ e ∈ ars, e ∈ ars') {k : Nat} {a c : Int} (h : Rch ars k a c) : Rch ars' k a c := by
  induction h with
  | nil => exact .nil _
  | cons m _ ih => exact .cons (s _ m) ih
end Sw
namespace Sw
open PySem PySem.Spec PyProof.Rows L2 LamX
/-! ### a lambda of one parameter, handed to a def of two, called there by that def's name for it -/
/-- v is the lambda's own name; the others are the maker's cells, and globals -/
structure Lam1S (sc scope : Scope) (v : Str) : Prop where
  kind : scope.kind = .function
  co : scope.isCoroutine = false
  gen : scope.isGenerator = false
  own : ∀ y ∈ scope.names, y.2 ≠ .cell ∧ (y.2 = .local → y.1 = v)
  arg : scope.names.lookup v = some .local
  free : ∀ y ∈ scope.names, y.2 = .free → sc.names.lookup y.1 = some .cell ∨ sc.names.lookup y.1 = some .free
theorem Lam1S.has {X : Cx} {scope : Scope} {v : Str} (L : Lam1S X.env.scope scope v) (ok : X.Ok) : ∀ y ∈ scope.names, y.2 = .free → ∃ c, X.env.cells.lookup y.1 = some c :=
  fun y hy e => (L.free y hy e).elim (fun k => ok.has _ (.inl k)) (fun k => ok.has _ (.inr k))
/-- the frame of the lambda's body -/
def lamFrame (X : Cx) (A : Around) (outer : List Env) (s : Shared) (H : Hp) (E : XK) (scope : Scope) (f c' : Addr) (v : Str) : Cx := { lamCx X A outer s H E scope f c' with N := X.N ++ [v] }
section
variable {X : Cx} {pins : List (Addr × Obj)} {σ : L2.St} {H HZ : Hp} {s s1 : Shared}
theorem lam1_start {A : Around} {outer : List Env} {E : XK} {scope : Scope} {f c' : Addr} {hp : Heap} {tk : Nat} {v : Str} {x : V} {u : Value} (I : Inv X pins σ H s) (L : Lam1S X.env.scope scope v) (nv : v ∉ X.N) (env : Env0 X.prog X.w X.K X.mg X.base A outer s1 HZ) (hd : A.handled = none)
    (un : Un (frs X.stack) [] H HZ s.heap s1.heap) (hns : hp.Ns s1.heap.objs.size fun y => ([(v, u)] : List (Str × Value)).reverse.lookup y) (rv : RelV x u) (kp : ∀ b o, s1.heap.get? b = some o → hp.get? b = some o) :
    Inv (lamFrame X A outer s1 HZ E scope f c' v) [] (σ ++ [some x]) HZ { s1 with heap := hp, toks := tk } := by
  have caught := L.has I.ok
  have back : ∀ {y c}, (cloFrom X.env.cells scope.names []).lookup y = some c → X.env.cells.lookup y = some c := fun {y c} e => by
    rcases cloFrom_mem (PySem.mem_of_lookup e) with z | ⟨z1, z2⟩
    · cases z
    · obtain ⟨c1, hc⟩ := caught _ z1 rfl
      have hc : X.env.cells.lookup y = some c1 := hc
      have ec : c = c1 := by
        rw [z2, hc] <;> rfl
      rw [ec]
      exact hc
  have there : ∀ {y}, scope.names.lookup y = some .free → ∃ c, (cloFrom X.env.cells scope.names []).lookup y = some c := fun {y} hl =>
    mem_lookup (cloFrom_has (cells := X.env.cells) (acc := []) (PySem.mem_of_lookup hl : (y, NameKind.free) ∈ scope.names))
  have stays : ∀ {c : Addr} {z : Option Value}, H c = none → s.heap.IsCell c z → hp.IsCell c z := fun {c z} n ⟨o, ho, hz⟩ => by
    obtain ⟨sl, q⟩ := un.any ho n (by simp)
    exact ⟨_, kp _ _ q, hz⟩
  have none_ : ∀ b : Addr, b ∉ (lamFrame X A outer s1 HZ E scope f c' v).ex := fun b z => (List.not_mem_nil (show b ∈ ([] : List Addr) from z)).elim
  refine ⟨⟨env.mod, L.kind, rfl, rfl, Nat.le_refl _, fun y z c e1 e2 => I.ok.inj y z c (back e1) (back e2), fun y hy => ?_, fun y c z _ => ?_, fun _ => hd, Around.frames_deeper env.frames, .inr ⟨rfl, rfl⟩, fun b z => absurd z (none_ b), env.bs, env.bsz, fun b _ _ => none_ b,
      fun b z => absurd z (none_ b), env.funs, env.frf⟩,
    rfl, env.bare, Un.kept kp, ⟨_, hns, fun i y z e1 e2 e3 => ?_⟩, fun y c e => ?_, env.hok.fresh (Nat.le_refl _), fun y c e => ?_, fun q hq => (List.not_mem_nil (show q ∈ ([] : List (Addr × Obj)) from hq)).elim, env.hok.kept kp, ?_⟩
  · have hy : scope.names.lookup y = some .cell ∨ scope.names.lookup y = some .free := hy
    rcases hy with hy | hy
    · exact absurd rfl (L.own _ (PySem.mem_of_lookup hy)).1
    · exact there hy
  · have z : false = true := z
    cases z
  · have e1 : (X.N ++ [v])[i]? = some y := e1
    have e3 : Vis scope y := e3
    by_cases hi : i < X.N.length
    · rw [List.getElem?_append_left hi] at e1
      rw [List.getElem?_append_left (by rw [I.len]; exact hi)] at e2
      have yn : y ∈ X.N := List.mem_of_getElem? e1
      rcases e3 with k | k | k
      · exact absurd ((L.own _ (PySem.mem_of_lookup k)).2 rfl) (fun z => nv (by rw [← show y = v from z]; exact yn))
      · exact absurd rfl (L.own _ (PySem.mem_of_lookup k)).1
      · obtain ⟨m, hn, hl⟩ := I.loc
        have seen : Vis X.env.scope y := (L.free _ (PySem.mem_of_lookup k) rfl).elim (fun k => .inr (.inl k)) (fun k => .inr (.inr k))
        obtain ⟨w', r, q⟩ := hl i y z e1 e2 seen
        obtain ⟨c2, h2⟩ := there k
        refine ⟨w', r, .inr ⟨.inr k, c2, h2, ?_⟩⟩
        have c1 := back h2
        rcases q with ⟨k', _⟩ | ⟨_, c3, e', q⟩
        · have k' : X.env.scope.names.lookup y = some .local := k'
          rcases L.free _ (PySem.mem_of_lookup k) rfl with k2 | k2 <;> rw [show X.env.scope.names.lookup y = _ from k2] at k' <;> cases k'
        · rw [c1] at e'
          cases e'
          exact stays (I.freeC y _ c1) q
    · have li : i = X.N.length := by
        have := (List.getElem?_eq_some_iff.mp e1).1
        rw [List.length_append, List.length_singleton] at this
        omega
      subst li
      rw [List.getElem?_append_right (Nat.le_refl _), Nat.sub_self] at e1
      rw [← I.len, List.getElem?_append_right (Nat.le_refl _), Nat.sub_self] at e2
      obtain rfl : v = y := Option.some.inj e1
      obtain rfl : x = z := Option.some.inj (Option.some.inj e2)
      refine ⟨u, rv, .inl ⟨L.arg, ?_⟩⟩
      show List.lookup v [(v, u)] = some u
      rw [List.lookup_cons_self]
  · obtain ⟨w', z⟩ := I.cell y c (back e)
    exact ⟨w', stays (I.freeC y c (back e)) z⟩
  · obtain ⟨z, o, ho, hz⟩ := I.cell y c (back e)
    exact un.free c o ho (I.freeC y c (back e)) (by simp)
  · show (σ ++ [some x]).length = (X.N ++ [v]).length
    rw [List.length_append, List.length_append, I.len]
    rfl
theorem no_cx {P : Program} {w : World} {outer : List Env} {H : Hp} {s s' : Shared} {e : Value} (h : L2.CX P w outer H s E0 e s') : False := by
  obtain ⟨_, _, _, _, _, _, _, _, _, _, _, _, z⟩ := h
  exact z
/-- the frame of the def that got the lambda, entered at s -/
abbrev gotCx (X : Cx) (Ng : List Str) (qg : Str) (sg : Scope) (g : Addr) (cdg : Value) (s : Shared) (H : Hp) : Cx := (cxOf CX0 X.prog X.w X.K X.mg X.base Ng qg sg g cdg X.A X.stack s H E0).nox
/-- a(e), a that def's name for the lambda -/
theorem pe_act1 {Ng : List Str} {qg : Str} {sg : Scope} {g f c' : Addr} {cdg pm ctv : Value} {params : Arguments} {body : Expr} {scope : Scope} {k i : Nat} {a v : Str} {tb : TE} {ta : TA} {e : Expr} {p1 p2 : Pos}
    (I : Inv X pins σ H s) (L : Lam1S X.env.scope scope v) (nv : v ∉ X.N) (hf : s.heap.get? f = some (PySem.W.kla_obj "<lambda>" (X.env.qual ++ "<lambda>") params body scope (cloFrom X.env.cells scope.names []) pm c' ctv)) (hfn : H f = none) (hfr : f ∉ frs X.stack)
    (hbind : ∀ u : Value, bindArgs (PySem.W.kla_fn "<lambda>" (X.env.qual ++ "<lambda>") params body scope (cloFrom X.env.cells scope.names []) pm (.ref c') ctv) ⟨[u], []⟩ = pure [(v, u)])
    (hr : Room (k + 1) (X.A.deeper (envOfC qg sg s.heap.objs.size g cdg)))
    (hbody : ∀ (A : Around) (outer : List Env) (s : Shared) (H : Hp), Room k (A.deeper (lamEnv X scope s.heap.objs.size f c')) → PE (lamFrame X A outer s H E0 scope f c' v) body tb)
    (hN : Ng[i]? = some a) (hv : Vis sg a) (ha : PA (gotCx X Ng qg sg g cdg s H) [e] ta) (hd : (a == ("__debug__" : Str)) = false) (hcd : (a == ("__classdict__" : Str)) = false)
    (he : starEach [e] (gotCx X Ng qg sg g cdg s H).env = (false, eval e (gotCx X Ng qg sg g cdg s H).env) :: starEach [] (gotCx X Ng qg sg g cdg s H).env) (hpl : (backTo p2 (starEach [] (gotCx X Ng qg sg g cdg s H).env)).any (·.1) = false) :
    PE (gotCx X Ng qg sg g cdg s H) (.Call (.Name a p1) [e] [] p2)
      (fun z Z Q => z[i]? = some (some (.ref f)) ∧ ta z Z fun vs Z1 => ∃ y, vs = [y] ∧ Z1 c' = some (CodeO c' (X.env.qual ++ "<lambda>")) ∧ tb (σ ++ [some y]) Z1 Q) := by
  refine ⟨fun pinsZ sZ z Z Q IZ h => ?_⟩
  obtain ⟨hs, ht⟩ := h
  refine wpAny_Call_Name_kw (thn ((pe_var (pos := p1) (i := i) hN hv hd hcd).run pinsZ sZ z Z (fun y Z1 => y = .ref f ∧ Z1 = Z) IZ ⟨.ref f, hs, rfl, rfl⟩) fun u s1 ⟨y0, Z1, I1, r1, q1⟩ => ?_)
  obtain ⟨ey, eZ⟩ := q1
  subst ey
  rw [eZ] at I1
  obtain rfl : u = Value.ref f := r1
  have stands : ∀ {s2 : Shared} {Z2 : Hp}, Inv (gotCx X Ng qg sg g cdg s H) pinsZ z Z2 s2 → s2.heap.get? f = some (PySem.W.kla_obj "<lambda>" (X.env.qual ++ "<lambda>") params body scope (cloFrom X.env.cells scope.names []) pm c' ctv) := fun I2 =>
    I2.base.keep f _ hf hfn hfr (fun z => (List.not_mem_nil (show f ∈ ([] : List Addr) from z)).elim)
  refine PySem.W.callWith_F ⟨_, _, _, _, stands I1⟩ (thn (ha.run p2 pinsZ s1 z Z _ I1 ht) fun us s2 ⟨vs, Z2, I2, r2, y, ey, hc, hb⟩ => ⟨⟨_, _, _, _, stands I2⟩, ?_⟩) he hpl
  subst ey
  obtain ⟨u, rfl, hu⟩ := vals1 r2
  have un : Un (frs X.stack) [] H Z2 s.heap s2.heap := I2.base
  obtain ⟨⟨oc, ws, t, hoc, hdc, hvc⟩, _, _⟩ := I2.hok c' _ hc
  have rc : codeAny (model X.prog X.w) (X.A.deeper (envOfC qg sg s.heap.objs.size g cdg)) (.call (.ref f) ⟨[u], []⟩) (CR (L2.CX X.prog X.w) (envOfC qg sg s.heap.objs.size g cdg :: X.stack) X.prog X.w Z2 s2 Q E0) s2 := by
    refine PySem.W.kla_callFunE hr.depth (stands I2) rfl L.co L.gen rfl ⟨c', oc, ws, t, rfl, hoc, hdc, hvc⟩ ?_
    rw [hbind u]
    refine wpAny_pure (wpAny_newFunctionEnv (fun y hy => (L.own y hy).1) (fun y hy => ?_) (fun h₁ hns hsb => ⟨I2.nolimit.fresh _ hsb, ?_⟩) L.kind)
    · rw [List.mem_singleton.mp hy]
      exact L.arg
    show codeAny _ _ (.expr body (lamEnv X scope s2.heap.objs.size f c')) _ _
    have kp : ∀ b o, s2.heap.get? b = some o → h₁.get? b = some o := fun b o e => hsb.extBut b o (Nat.ne_of_lt (Heap.lt_size e)) (Heap.get?_push_of_some _ e)
    have J : Inv (lamFrame X (X.A.deeper (envOfC qg sg s.heap.objs.size g cdg)) (envOfC qg sg s.heap.objs.size g cdg :: X.stack) s2 Z2 E0 scope f c' v) [] (σ ++ [some y]) Z2 { s2 with heap := h₁, toks := s2.toks + ([(v, u)] : List (Str × Value)).length } :=
      lam1_start I L nv I2.env0 hr.hd un hns hu kp
    refine PySem.W.kla_codeExpr (wpAny_mono ((hbody _ _ s2 Z2 (hr.deeper _)).run [] _ _ Z2 Q J hb) (fun z s' hq => ?_) fun e s' hq => hq)
    obtain ⟨w', Z3, J3, rv, q⟩ := hq
    exact ⟨w', Z3, J3.os, J3.bare, J3.base, J3.hok, rv, q⟩
  refine wpAny_call (codeAny_mono rc fun r s' hq => ?_)
  rcases r with e | fl
  · exact (no_cx hq).elim
  rcases fl with _ | _ | _ | u
  all_goals first | exact hq.elim | skip
  exact I2.after hq
/-- the def with the body bg that got y and the lambda (its second parameter, a): SP tells what it makes of them -/
def Gives (X : Cx) (Ng : List Str) (x : Str) (sg : Scope) (g : Addr) (cdg : Value) (bg : List Stmt) (a q : Str) (k : Nat) (SP : V → (V → Hp → VK → Prop) → Hp → VK → Prop) : Prop :=
  ∀ (f c' : Addr) (s : Shared) (H : Hp) (y : V) (Q : VK) (tl : V → Hp → VK → Prop), Room k (X.A.deeper (envOfC x sg s.heap.objs.size g cdg)) →
    (∀ (e : Expr) (ta : TA) (p1 p2 : Pos), PA (gotCx X Ng x sg g cdg s H) [e] ta → starEach [e] (gotCx X Ng x sg g cdg s H).env = (false, eval e (gotCx X Ng x sg g cdg s H).env) :: starEach [] (gotCx X Ng x sg g cdg s H).env →
      (backTo p2 (starEach [] (gotCx X Ng x sg g cdg s H).env)).any (·.1) = false → PE (gotCx X Ng x sg g cdg s H) (.Call (.Name a p1) [e] [] p2) (fun z Z Q => z[1]? = some (some (.ref f)) ∧ ta z Z fun vs Z1 => ∃ w, vs = [w] ∧ Z1 c' = some (CodeO c' q) ∧ tl w Z1 Q)) →
    H c' = some (CodeO c' q) → SP y tl H Q → ∃ t, PSs (gotCx X Ng x sg g cdg s H) bg t ∧ t { nx := fun _ H' => Q .non H', rt := Q } (L2.start Ng [y, .ref f]) H
/-- x(e0, lambda v: body) -/
theorem pe_lam2 {T : List (Addr × Str)} {SP : V → (V → Hp → VK → Prop) → Hp → VK → Prop} {x a0 a v : Str} {g c P : Addr} {k : Nat} {pg : Arguments} {bg : List Stmt} {sg : Scope} {dV kV doc pm cdv ct oc : Value} {an od : Option Addr} {osl : Array (Option Value)} {Ng : List Str}
    {params : Arguments} {e0 body : Expr} {scope : Scope} {te : TE} {tb : TE} {p lpos pos : Pos} (hg : Gl X x) (hm : X.mg x = some (.ref g)) (hk : PySem.W.keepIn X.K (.ref g) = true)
    (lk : X.K.lookup g = some ⟨oc, od, .func (PySem.W.fnOf x x pg bg sg dV kV doc pm an cdv ct), osl⟩) (hcg : PySem.W.codeIn X.K cdv x = true) (hb : L2.Binds X.K (PySem.W.fnOf x x pg bg sg dV kV doc pm an cdv ct) [a0, a] []) (Sg : FnScope Ng [a0, a] sg) (hNg : Ng[1]? = some a) (hva : Vis sg a)
    (hG : Gives X Ng x sg g cdv bg a (X.env.qual ++ "<lambda>") (k + 1) SP)
    (TB : TabB X.base X.mg c P) (hcode : X.env.code = .ref c) (hmT : (P, X.env.qual ++ "<lambda>") ∈ T) (hu : ∀ p ∈ T, p.1 = P → p.2 = X.env.qual ++ "<lambda>") (hr : Room (k + 2) X.A) (L : Lam1S X.env.scope scope v) (nv : v ∉ X.N) (hdef : defaultsOf params X.env = ([], []))
    (hbind : ∀ (q : Str) (cl : List (Str × Addr)) (pm cv ctv u : Value), bindArgs (PySem.W.kla_fn "<lambda>" q params body scope cl pm cv ctv) ⟨[u], []⟩ = pure [(v, u)]) (he : PE X e0 te)
    (hbody : ∀ (A : Around) (outer : List Env) (s : Shared) (H : Hp) (f c' : Addr), Room k (A.deeper (lamEnv X scope s.heap.objs.size f c')) → PE (lamFrame X A outer s H E0 scope f c' v) body tb)
    (hs1 : starEach [e0, .Lambda params body scope lpos] X.env = (false, eval e0 X.env) :: starEach [.Lambda params body scope lpos] X.env := by rfl)
    (hdb : (x == ("__debug__" : Str)) = false := by decide) (hd : (a == ("__debug__" : Str)) = false := by decide) (hcd : (a == ("__classdict__" : Str)) = false := by decide) :
    PE X (.Call (.Name x p) [e0, .Lambda params body scope lpos] [] pos) (fun σ H Q => te σ H fun y H0 => Tabs T H0 ∧ ∀ H1, ExtN H0 H1 → Tabs T H1 → SP y (fun w Z Q' => tb (σ ++ [some w]) Z Q') H1 Q) := by
  refine ⟨fun pins s σ H Q I h => ?_⟩
  refine wpAny_Call_Name_kw (ld_glob I hg hm ?_ hdb)
  refine PySem.W.callWith_K (h₀ := X.base) I.ok.mod.kin hk ?_ hs1 (by rfl)
  rw [hs1]
  show wpAny _ _ (spliced ((false, eval e0 X.env) :: (false, eval (.Lambda params body scope lpos) X.env) :: backTo pos (starEach [] X.env))) _ _ s
  refine Calls.spliced_cons (thn (he.run pins s σ H _ I h) fun u s0 ⟨y, H0, I0, ry, hT, q⟩ => ?_)
  refine Calls.spliced_cons (lam_make2 I0 TB hcode hmT hu hT hdef (L.has I0.ok) fun f c' pm' ctv H1 s' I1 eN T1 hf hfn hfr hco => ?_)
  refine Calls.spliced_nil ⟨I1.kIn, ?_⟩
  have rc : codeAny (model X.prog X.w) X.A (.call (.ref g) ⟨[u, .ref f], []⟩) (CR CX0 X.stack X.prog X.w H1 s' Q E0) s' := by
    refine run_ofS (N := Ng) (ps := [a0, a]) (us := [u, .ref f]) (vs := [y, .ref f]) lk hcg Sg hr I1.env0 (hb s' [u, .ref f] I1.kIn rfl) (.cons ry (.cons rfl .nil)) rfl fun hr' => ?_
    obtain ⟨t', ht', hq'⟩ := hG f c' s' H1 y Q (fun w Z Q' => tb (σ ++ [some w]) Z Q') hr' (fun e ta p1 p2 ha e1 e2 => pe_act1 (i := 1) (k := k) I1 L nv hf hfn hfr (fun u => hbind _ _ _ _ _ u) hr' (fun A outer s H hr2 => hbody A outer s H f c' hr2) hNg hva ha hd hcd e1 e2) hco (q H1 eN T1)
    exact ⟨t', ht'.nox, hq'⟩
  refine wpAny_call (codeAny_mono rc fun r s2 hq => ?_)
  rcases r with e | fl
  · exact (show False from hq).elim
  rcases fl with _ | _ | _ | u
  all_goals first | exact hq.elim | skip
  exact I1.after hq
end
end Sw
namespace Sw
open PySem PySem.Spec PyProof.Rows L2
/-- xs != [], xs a list of whatever -/
def rNeNil (K : PySem.W.Frag) : R2 := fun x y H Q => ∃ a b xs, x = .ref a ∧ y = .ref b ∧ SqL K H a xs ∧ SqL K H b [] ∧ Q (.bl (!xs.isEmpty)) H
theorem op_neNil {X : Cx} (hu : X.A.units < cLine) : OpR X (compareOp .NotEq) (rNeNil X.K) := by
  intro pins s σ H x y v u Q I rx ry h
  obtain ⟨a, b, xs, rfl, rfl, ha, hb, q⟩ := h
  cases rx
  cases ry
  obtain ⟨its, r1, p1, _⟩ := I.list ha
  obtain ⟨it2, r2, p2, _⟩ := I.list hb
  cases r2
  cases r1 with
  | nil => exact SeqAt.RcNeAt.lists (e := fun _ => true) p1.isList p2.isList rfl hu (fun j h1 _ => absurd h1 (by simp)) _ _ _ _ ⟨.bl false, H, I, rfl, q⟩
  | cons r t => exact SeqAt.RcNeAt.lists_lengths p1.isList p2.isList (by simp) hu _ _ _ _ ⟨.bl true, H, I, rfl, q⟩
end Sw
namespace Sw
open PySem PySem.Spec PyProof.Rows L2
theorem pe_weak {X : Cx} {e : Expr} {t t' : TE} (h : PE X e t) (hw : ∀ σ H Q, t' σ H Q → t σ H Q) : PE X e t' := ⟨fun pins s σ H Q I q => h.run pins s σ H Q I (hw σ H Q q)⟩
theorem pa_weak {X : Cx} {es : List Expr} {t t' : TA} (h : PA X es t) (hw : ∀ σ H Q, t' σ H Q → t σ H Q) : PA X es t' := ⟨fun pos pins s σ H Q I q => h.run pos pins s σ H Q I (hw σ H Q q)⟩
theorem wlen {K : PySem.W.Frag} {H : Hp} {xs : List V} {ds : List D} {as : List Addr} (h : RepAll K H ds xs as) (hw : wtAll ds ≤ 10000000) : xs.length ≤ sizeLine := by
  have h1 := wt_len ds
  rw [h.len, sizeLine_eq]
  omega
theorem nmem {K : PySem.W.Frag} {H : Hp} {xs : List V} {ds : List D} {as : List Addr} {a : Addr} (h : RepAll K H ds xs as) (ha : H a = none) : a ∉ as := fun z => by
  obtain ⟨o, e⟩ := h.tracked a z
  rw [ha] at e
  cases e
end Sw
namespace Sw
open PySem PySem.Spec PyProof.Rows L2
section
variable {X : Cx} {CX : CXT} {k : Nat} {f : Addr} {fd : FuncData} {ps ks : List Str} {sp : Sp} {E : XK} {x : Str} {p pos : Pos} {kws : List Keyword} {tk : TA} {g : List Value → List Value → List Value} {gV : List V → List V → List V}
/-- f(k = v): words alone -/
theorem pe_callW (F : FnOk X.prog X.w X.K X.mg X.base CX k f fd ps sp) (hr : Room k X.A) (hg : Gl X x) (hm : X.mg x = some (.ref f)) (hk : PySem.W.keepIn X.K (.ref f) = true) (hb : KBinds X.K fd ps ks g gV) (hx : Passes CX X E)
    (hkw : PK X kws tk) (hall : (backToKw pos (keywordEach kws X.env)).all (·.1.isSome) = true := by rfl) (hks : (backToKw pos (keywordEach kws X.env)).filterMap (·.1) = ks := by rfl)
    (hdb : (x == ("__debug__" : Str)) = false := by decide)
    (hpl : ((backTo pos (starEach [] X.env)).any (·.1) || (backToKw pos (keywordEach kws X.env)).any (·.1.isNone)) = false := by rfl) :
    PE X (.Call (.Name x p) [] kws pos) (fun σ H Q => tk σ H fun zs H2 => sp (gV [] zs) H2 Q E) := by
  refine ⟨fun pins s σ H Q I h => wpAny_Call_Name_kw (ld_glob I hg hm ?_ hdb)⟩
  refine PySem.W.callWith_KW0 (first := []) (h₀ := X.base) I.ok.mod.kin hk hall (thn (hkw.run pos pins s σ H _ I h) fun ws s2 ⟨zs, H2, I2, rz, q2⟩ => ⟨I2.kIn, ?_⟩) hpl
  rw [hks]
  exact run_fnk (us := []) F hr hb hx I2 .nil rz q2
end
/-- a new list of two things -/
theorem rep_pair {K : PySem.W.Frag} {H : Hp} {L : Addr} {r r' : D} {v v' : V} {bs bs' : List Addr} (h : Rep K H r v bs) (h' : Rep K H r' v' bs') (nL : H L = none) : ∃ as, Rep K (upd H L (.lst [v, v'])) (.lst [r, r']) (.ref L) as := by
  have ra : RepAll K H [r, r'] [v, v'] (bs ++ (bs' ++ [])) := by
    rw [RepAll]
    refine ⟨_, _, bs, bs' ++ [], rfl, h, ?_, rfl⟩
    rw [RepAll]
    exact ⟨_, _, bs', [], rfl, h', by simp [RepAll], rfl⟩
  refine ⟨L :: (bs ++ (bs' ++ [])), ?_⟩
  rw [Rep]
  exact ⟨L, _, _, rfl, upd_same, ra.same (same_new nL), nmem ra nL, rfl⟩
theorem same_str {x y : Str} (h : x = y) : (!decide (V.str x = V.str y)) = false := by
  rw [h, decide_eq_true rfl]
  rfl
def spLaw (K : PySem.W.Frag) : Sp := fun vs H Q _ => ∃ (a : Addr) (ns : List Int), vs = [.ref a] ∧ SqL K H a (ns.map V.int) ∧ ns.length ≤ 63 ∧ ∀ H', Q (.bl true) H'
section
variable {P : Program} {w : World} {K : PySem.W.Frag} {mg : Str → Option Value} {base : Heap}
/-- one call of a def of the text, what is around it given -/
theorem run_def {x qual : Str} {st : Stmt} {f : Addr} {fd : FuncData} {N ps : List Str} {k : Nat} {A : Around} {outer : List Env} {s : Shared} {H : Hp} {args : Args} {us : List Value} {vs : List V} {Q : VK} {E : XK} (F : Fun K x qual st f fd) (S : FnScope N ps (defScope st))
    (rm : Room (k + 1) A) (ev : Env0 P w K mg base A outer s H) (hb : BindsTo s fd args (ps.zip us)) (rv : Vals vs us) (hl : vs.length = ps.length)
    (body : ∀ cdv : Value, ∃ t, PSs (cxOf CX0 P w K mg base N qual (defScope st) f cdv A outer s H E).nox (defBody st) t ∧ t { nx := fun _ H' => Q .non H', rt := Q } (start N vs) H) :
    codeAny (model P w) A (.call (.ref f) args) (CR CX0 outer P w H s Q E) s := by
  obtain ⟨oc, od, kV, doc, pm, an, cdv, ct, osl, rfl, lk, hcd⟩ := F.ex
  have kin : K.In s.heap := ev.mod.kin.keeps fun b o z => (ev.bs b o z).1
  have nolim : s.heap.NoLimit := ev.mod.nolimit.keeps fun b o z => (ev.bs b o z).1
  have kinds : ∀ y ∈ ps.zip us, (defScope st).names.lookup y.1 = some .local ∨ ((defScope st).names.lookup y.1 = some .cell ∧ ((cellsFrom (s.heap.objs.size + 1) (defScope st).names []).lookup y.1).isSome = true) := by
    rintro ⟨n, v⟩ hy
    exact (S.par n (List.of_mem_zip hy).1).elim .inl fun q => .inr ⟨q, PySem.W.cellsFrom_some _ _ _ (.inl q)⟩
  refine codeAny_call_function rm.depth (kin _ _ lk) rfl S.co S.gen rfl (PySem.W.codeRec_of kin hcd) (hb _ _ _ _ (wpAny_newFunctionEnv_cells S.kind kinds fun env he s1 ic => ?_))
  subst he
  obtain ⟨t, ht, hq⟩ := body cdv
  have inv := inv_start S rm.hd ev hl rv ic (CX := CX0) (P := P) (w := w) (E := E)
  refine ⟨nolim.keeps ic.toInCall.keep, codeAny_func (wpAny_mono (ht.nox.run [] s1 (start N vs) H _ inv hq) (fun fl s' hs => ?_) fun _ _ hs => hs)⟩
  cases fl with
  | next =>
    obtain ⟨_, H', J, q⟩ := hs
    exact ⟨V.non, H', J.os, J.bare, J.base, J.hok, (rfl : RelV V.non Value.none), q⟩
  | ret u =>
    obtain ⟨v, _, H', J, ru, q⟩ := hs
    exact ⟨v, H', J.os, J.bare, J.base, J.hok, ru, q⟩
  | brk =>
    obtain ⟨_, _, _, q⟩ := hs
    cases q
  | cont =>
    obtain ⟨_, _, _, q⟩ := hs
    cases q
end
/-- the script alone is known -/
def scriptH (a : Addr) (o : Obj) (ns : List Int) : Hp := fun b => if b = a then some (.frz o (.lst (ns.map V.int))) else none
theorem scriptH_at {a : Addr} {o : Obj} {ns : List Int} : scriptH a o ns a = some (.frz o (.lst (ns.map V.int))) := if_pos rfl
theorem scriptH_ne {a b : Addr} {o : Obj} {ns : List Int} (h : b ≠ a) : scriptH a o ns b = none := if_neg h
/-- the law's call, at the heap behind the top -/
theorem call_law {P : Program} {w : World} {K : PySem.W.Frag} {mg mb : Str → Option Value} {fa a : Addr} {s₁ : Shared} {vs : List Value} {ns : List Int} (kin : K.In s₁.heap) (hmg : s₁.heap.Ns mainGlobals mg) (hmb : s₁.heap.Ns builtinsNs mb)
    (hboot : ∀ x : Str, x ≠ "__name__" → mb x = bootBuiltins x) (nolim : s₁.heap.NoLimit) (hgen : s₁.gens = #[])
    (ha : s₁.heap.get? a = some { cls := .type "list", data := .seq vs.toArray }) (hi : IntsAre vs ns) (hlen : ns.length ≤ 63)
    (run : ∀ (base : Heap) (H : Hp), K.In base → base.Ns mainGlobals mg → Env0 P w K mg base callerA [] s₁ H → SqL K H a (ns.map V.int) →
      codeAny (model P w) callerA (.call (.ref fa) ⟨[.ref a], []⟩) (CR CX0 [] P w H s₁ (fun v _ => v = .bl true) fun _ _ _ => False) s₁) :
    codeAny (model P w) callerA (.call (.ref fa) ⟨[.ref a], []⟩) (fun r s' => r = .ok (.ret (.bool true)) ∧ OldK s₁.heap s'.heap ∧ s'.os = s₁.os ∧ AllBare s'.gens) s₁ := by
  have rv := vals_ints hi
  have le63 : ns.length ≤ sizeLine := by
    rw [sizeLine_eq]
    omega
  have go : ∀ H : Hp, (∀ b, H b ≠ none → b = a ∧ K.lookup a = none ∧ H a = some (.frz { cls := .type "list", data := .seq vs.toArray } (.lst (ns.map V.int)))) → SqL K H a (ns.map V.int) →
      codeAny (model P w) callerA (.call (.ref fa) ⟨[.ref a], []⟩) (fun r s' => r = .ok (.ret (.bool true)) ∧ OldK s₁.heap s'.heap ∧ s'.os = s₁.os ∧ AllBare s'.gens) s₁ := by
    intro H only sq
    have plain : ∀ {b : Addr} {o : Obj} {es : Array DictEntry} {ep : Nat}, s₁.heap.get? b = some o → o.data = .dict es ep → H b = none := by
      intro b o es ep e dd
      refine Classical.byContradiction fun q => ?_
      obtain ⟨rfl, _⟩ := only b q
      rw [ha] at e
      cases e
      exact nomatch dd
    have spaces : ∀ {b : Addr} {m : Str → Option Value}, s₁.heap.Ns b m → (hidT s₁.heap H).Ns b m := by
      rintro b m ⟨o, es, ep, e, dd, r⟩
      exact ⟨o, es, ep, hidT_get e (plain e dd), dd, r⟩
    have kin' : K.In (hidT s₁.heap H) := by
      intro b o e
      refine hidT_get (kin b o e) (Classical.byContradiction fun q => ?_)
      obtain ⟨rfl, n, _⟩ := only b q
      rw [n] at e
      cases e
    have hok : HOk P w H s₁.heap := by
      intro b u e
      obtain ⟨rfl, _, q⟩ := only b (by rw [e]; exact fun z => nomatch z)
      rw [q] at e
      cases e
      exact ⟨ha, by rw [List.length_map]; exact le63, vs, _, rv, ha⟩
    obtain ⟨ml, l1, l2⟩ := nolim
    have ev : Env0 P w K mg (hidT s₁.heap H) callerA [] s₁ H :=
      ⟨rfl, ⟨kin', spaces hmg, ⟨mb, spaces hmb, hboot⟩, ⟨ml, spaces l1, l2⟩⟩, fun _ _ z => of_hidT z, Nat.le_of_eq (hidT_size _ _), trivial, fun b z => (by cases z), hok, .of_eq hgen⟩
    refine codeAny_mono (run _ H kin' (spaces hmg) ev sq) fun r s' hr => ?_
    rcases r with e | fl
    · exact False.elim hr
    rcases fl with _ | _ | _ | u
    all_goals first | exact False.elim hr | skip
    obtain ⟨v, H', os, bare, un, hok', ru, rfl⟩ := hr
    obtain rfl : u = Value.bool true := ru
    refine ⟨rfl, OldK.of_keep fun b o e => ?_, os, bare⟩
    cases q : H b with
    | none => exact un.keep b o e q (fun z => by cases z) (fun z => by simp at z)
    | some y =>
      obtain ⟨rfl, _, q2⟩ := only b (by rw [q]; exact fun z => nomatch z)
      have old := (hok _ _ q2).1
      have new := (hok' _ _ (un.frzs _ _ _ q2)).1
      rw [e] at old
      cases old
      exact new
  cases z : K.lookup a with
  | none =>
    refine go (scriptH a { cls := .type "list", data := .seq vs.toArray } ns) (fun b q => ?_) (.inl (.inr ⟨_, scriptH_at⟩))
    by_cases e : b = a
    · exact ⟨e, z, scriptH_at⟩
    · exact absurd (scriptH_ne e) q
  | some o =>
    have e := kin a o z
    rw [ha] at e
    cases e
    exact go (fun _ => none) (fun _ q => absurd rfl q) (.inr ⟨_, vs.toArray, _, z, rfl, rfl, rfl, by rw [List.size_toArray, hi.length]; exact le63, by simpa using rv⟩)
/-- a def of the text stands behind the top by its name -/
def Has (K : PySem.W.Frag) (mg : Str → Option Value) (x : Str) (st : Stmt) : Prop := ∃ f fd, Fun K x x st f fd ∧ mg x = some (.ref f)
section
variable {P : Program} {w : World} {K : PySem.W.Frag} {mg : Str → Option Value} {h : Heap}
theorem has_mk {x : Str} {st : Stmt} {f : Addr} {oc kV dc pm cd ct : Value} {od an : Option Addr} {sl : Array (Option Value)} (X : K.In h) (G : h.Ns mainGlobals mg) (a : PySem.W.nsIn K mainGlobals x = some (some (.ref f)))
    (l : K.lookup f = some ⟨oc, od, .func (PySem.W.fnOf x x (defArgs st) (defBody st) (defScope st) .none kV dc pm an cd ct), sl⟩) (c : PySem.W.codeIn K cd x = true) (k : PySem.W.keepIn K (.ref f) = true) : Has K mg x st :=
  ⟨f, _, fun_mk l c k, PySem.W.mg_of X G a⟩
/-- the def that it is: one promise, from the def's own theorem -/
theorem Has.own {base : Heap} {k : Nat} {x : Str} {st : Stmt} {ps : List Str} {sp : Sp} (hs : Has K mg x st) (ok : ∀ f fd, Fun K x x st f fd → FnOk P w K mg base CX0 k f fd ps sp)
    (b : ∀ (kV doc pm : Value) (an : Option Addr) (cdv ct : Value) (us : List Value), us.length = ps.length → bindArgs (PySem.W.fnOf x x (defArgs st) (defBody st) (defScope st) .none kV doc pm an cdv ct) ⟨us, []⟩ = pure (ps.zip us)) : Own P w K mg base k x ps sp := by
  obtain ⟨f, fd, F, m⟩ := hs
  exact ⟨f, fd, ok f fd F, m, F.kp, F.binds b⟩
/-- the end of the row, from what the top has written -/
theorem walk_law {l : PySem.W.OpenLaw} {q : Program} {loose : List Str} {XP : (Str → Option Value) → Heap → Prop} {YP : World → Heap → Prop} {d : DefRec} {K : Params → PySem.W.Frag} (hn : l.most = some 63) (hdf : d.params.defaults = [])
    (hY : ∀ (w : World) (h : Heap), YP w h → (K w.params).In h)
    (F : ∀ (w : World) (mg : Str → Option Value) (fa : Addr) (h : Heap), (K w.params).In h → h.Ns mainGlobals mg → mg d.name = some (.ref fa) →
      ∀ (base : Heap) (s₁ : Shared) (H : Hp) (a : Addr) (ns : List Int), Env0 l.prog w (K w.params) mg base callerA [] s₁ H → SqL (K w.params) H a (ns.map V.int) → ns.length ≤ 63 →
        codeAny (model l.prog w) callerA (.call (.ref fa) ⟨[.ref a], []⟩) (CR CX0 [] l.prog w H s₁ (fun v _ => v = .bl true) fun _ _ _ => False) s₁) :
    PySem.W.WalkO q loose XP YP l.row.toRowW d [] (fun f vs => PySem.call f vs) := by
  refine Att.attach_call hn hdf fun w s₀ s₁ mg mb fa o pm cd doc a vs ns G Y _ _ _ hmg hobj hints hlen hg => ?_
  exact call_law (hY w _ Y) G.T.g G.T.b G.T.builtins G.T.nolimit hg hobj hints hlen fun base H _ _ ev sq => F w mg fa _ (hY w _ Y) G.T.g hmg base s₁ H a ns ev sq hlen
end
end Sw
namespace Sw
open PySem L2
/-- a statement kept to what it is to do, for whatever i stands for -/
def tCutI {ι : Type} (J J' : ι → L2.St → Hp → Prop) : TS := fun D σ H => ∃ i, J i σ H ∧ ∀ σ' H', J' i σ' H' → D.nx σ' H'
theorem ps_cutI {ι : Type} {X : Cx} {st : Stmt} {t : TS} (J J' : ι → L2.St → Hp → Prop) (h : PS X st t) (hJ : ∀ i D σ H, J i σ H → (∀ σ' H', J' i σ' H' → D.nx σ' H') → t D σ H) : PS X st (tCutI J J') :=
  ⟨fun pins s σ H D I q => by
    obtain ⟨i, a, b⟩ := q
    exact h.run pins s σ H D I (hJ i D σ H a b)⟩
theorem int_at {os : List Int} {i : Nat} {x : V} (h : (os.map V.int)[i]? = some x) : ∃ z, os[i]? = some z ∧ x = .int z := by
  rw [List.getElem?_map] at h
  cases q : os[i]? with
  | none => rw [q] at h; cases h
  | some z => rw [q] at h; exact ⟨z, rfl, (Option.some.inj h).symm⟩
end Sw
namespace Sw
open PySem PySem.Spec PyProof.Rows L2
/-! ### defs that call repr: what is around them guards nothing -/
structure FnG (P : Program) (w : World) (K : PySem.W.Frag) (mg : Str → Option Value) (base : Heap) (k : Nat) (f : Addr) (fd : FuncData) (ps : List Str) (sp : Sp) : Prop where
  len : ∀ vs H Q E, sp vs H Q E → vs.length = ps.length
  run : ∀ (A : Around) (outer : List Env) (s : Shared) (H : Hp) (args : Args) (us : List Value) (vs : List V) (Q : VK) (E : XK), Room k A → A.guards = some [] → Env0 P w K mg base A outer s H → BindsTo s fd args (ps.zip us) → Vals vs us → sp vs H Q E →
    codeAny (model P w) A (.call (.ref f) args) (CR CX0 outer P w H s Q E) s
section
variable {P : Program} {w : World} {K : PySem.W.Frag} {mg : Str → Option Value} {base : Heap}
theorem Fun.okG {x qual : Str} {st : Stmt} {f : Addr} {fd : FuncData} {N ps : List Str} {k : Nat} {sp : Sp} (F : Fun K x qual st f fd) (S : FnScope N ps (defScope st)) (len : ∀ vs H Q E, sp vs H Q E → vs.length = ps.length)
    (walk : ∀ (cdv : Value) (A : Around) (outer : List Env) (s : Shared) (H : Hp) (vs : List V) (Q : VK) (E : XK), Room k (A.deeper (envOfC qual (defScope st) s.heap.objs.size f cdv)) → (A.deeper (envOfC qual (defScope st) s.heap.objs.size f cdv)).guards = some [] → sp vs H Q E →
      ∃ t, PSs (cxOf CX0 P w K mg base N qual (defScope st) f cdv A outer s H E).nox (defBody st) t ∧ t { nx := fun _ H' => Q .non H', rt := Q } (start N vs) H) : FnG P w K mg base (k + 1) f fd ps sp :=
  ⟨len, fun A outer s H args us vs Q E hr hg ev hb rv h => run_def F S hr ev hb rv (len _ _ _ _ h) fun cdv => walk cdv A outer s H vs Q E (hr.deeper _) hg h⟩
/-- such a def of one's own, by its name -/
structure OwnG (P : Program) (w : World) (K : PySem.W.Frag) (mg : Str → Option Value) (base : Heap) (k : Nat) (x : Str) (ps : List Str) (sp : Sp) : Prop where
  ex : ∃ f fd, FnG P w K mg base k f fd ps sp ∧ mg x = some (.ref f) ∧ PySem.W.keepIn K (.ref f) = true ∧ Binds K fd ps []
theorem Has.ownG {x : Str} {st : Stmt} {k : Nat} {ps : List Str} {sp : Sp} (h : Has K mg x st) (ok : ∀ f fd, Fun K x x st f fd → FnG P w K mg base k f fd ps sp)
    (b : ∀ (kV doc pm : Value) (an : Option Addr) (cdv ct : Value) (us : List Value), us.length = ps.length → bindArgs (PySem.W.fnOf x x (defArgs st) (defBody st) (defScope st) .none kV doc pm an cdv ct) ⟨us, []⟩ = pure (ps.zip us)) : OwnG P w K mg base k x ps sp := by
  obtain ⟨f, fd, F, m⟩ := h
  exact ⟨f, fd, ok f fd F, m, F.kp, F.binds b⟩
end
section
variable {X : Cx} {k : Nat} {f : Addr} {fd : FuncData} {ps : List Str} {sp : Sp} {E : XK} {x : Str} {p pos : Pos} {e : Expr} {es : List Expr} {t : TA}
theorem pe_callG (F : FnG X.prog X.w X.K X.mg X.base k f fd ps sp) (hr : Room k X.A) (hgd : X.A.guards = some []) (hg : Gl X x) (hm : X.mg x = some (.ref f)) (hk : PySem.W.keepIn X.K (.ref f) = true) (hb : Binds X.K fd ps []) (hx : Passes CX0 X E)
    (ha : PA X (e :: es) t) (hdb : (x == ("__debug__" : Str)) = false := by decide) (he : starEach (e :: es) X.env = (false, eval e X.env) :: starEach es X.env := by rfl) (hpl : (backTo pos (starEach es X.env)).any (·.1) = false := by rfl) :
    PE X (.Call (.Name x p) (e :: es) [] pos) (tCall sp [] E t) := by
  refine ⟨fun pins s σ H Q I h => wpAny_Call_Name_kw (ld_glob I hg hm ?_ hdb)⟩
  refine PySem.W.callWith_K (h₀ := X.base) I.ok.mod.kin hk (thn (ha.run pos pins s σ H _ I h) fun us s1 ⟨vs, H1, I1, r, q⟩ => ⟨I1.kIn, ?_⟩) he hpl
  have q : sp (vs ++ []) H1 Q E := q
  rw [List.append_nil] at q
  have hl : us.length = ps.length := by
    rw [← r.length]
    exact F.len _ _ _ _ q
  have b := hb s1 us I1.kIn (by rw [List.append_nil]; exact hl)
  rw [List.append_nil] at b
  refine wpAny_call (codeAny_mono (F.run X.A X.stack s1 H1 ⟨us, []⟩ us vs Q E hr hgd I1.env0 b r q) fun r s' hq => ?_)
  rcases r with e | fl
  · exact hx pins σ H1 s1 e s' I1 hq
  rcases fl with _ | _ | _ | u
  all_goals first | exact hq.elim | skip
  exact I1.after hq
/-- repr(t), t a tuple of data -/
def rReprT (K : PySem.W.Frag) : List V → Hp → VK → Prop := fun xs H Q => ∃ x ds as, xs = [x] ∧ Rep K H (.tup ds) x as ∧ smallAll ds ∧ wtAll ds ≤ 10000000 ∧ depAll ds ≤ 30 ∧ Q (.str (shown (.tup ds))) H
theorem call_reprT {X : Cx} {k : Nat} (hr : Room k X.A) (hg : X.A.guards = some []) : CallR X (.builtin "repr") (rReprT X.K) := by
  intro pins s σ H xs us Q I r h
  obtain ⟨x, ds, as, rfl, hd, sm, z, dp, q⟩ := h
  obtain ⟨u, rfl, hu⟩ := vals1 r
  have un := hr.units
  have hz : wt (.tup ds) ≤ sizeLine := by
    rw [sizeLine_eq]
    simp only [wt]
    omega
  have hsh : (tupleText (shownAll ds)).length ≤ sizeLine := by
    have h1 := shown_wt (.tup ds)
    simp only [shown] at h1
    omega
  simp only [Rep] at hd
  obtain ⟨a, ys, bs, rfl, ha, ra, na, rfl⟩ := hd
  cases (show u = Value.ref a from hu)
  obtain ⟨_, its, rv, o, h1, h2, n, h3⟩ := (show ObjOk X.prog X.w H s.heap a (.tup ys) from I.hok a _ ha)
  have kr := RepAll.shows I.hok I.kIn ra rv sm (by simp only [wt] at hz; omega) (depAll ds) (Nat.le_refl _)
  have hT : s.TypeIs (.ref a) "tuple" := ⟨o, h1, h2⟩
  simp only [shown] at q
  refine call_repr_slot (by omega) hT PySem.F.slot_tuple_repr ?_
  exact call_tuple_reprK (h₀ := s.heap) (d := depAll ds) h1 h2 h3 na (by simpa using kr) (g := []) hg (fun b _ => Clear.nil b) (by show X.A.units + 1 + _ < cLine; omega) (fun _ _ e => e) (fun h' u tk hk => ⟨_, _, rfl, .str _, H, I.kept (t' := tk) hk, ⟨_, rfl⟩, q⟩) hsh
end
end Sw
namespace Sw
open PySem PySem.Spec PyProof.Rows L2 LamX
/-! ### spread: breadth first -/
abbrev sSpread : Stmt := top 15
abbrev nSpread : List Str := ["first", "onward_from", "fewest", "front", "beyond", "one", "other"]
theorem scSpread : FnScope nSpread ["first", "onward_from"] (defScope sSpread) := ⟨rfl, rfl, rfl, by decide +kernel, rfl, by decide +kernel, by decide +kernel⟩
/-- things with their numbers, as a dict -/
def knV (ks : List (Int × Nat)) : List (Key × V) := ks.map fun p => ((Sum.inl p.1 : Key), V.int p.2)
theorem kn_len (ks : List (Int × Nat)) : (knV ks).length = ks.length := List.length_map _
theorem kn_app (ks : List (Int × Nat)) (v : Int) (k : Nat) : knV (ks ++ [(v, k)]) = knV ks ++ [(.inl v, .int k)] := by
  unfold knV
  rw [List.map_append]
  rfl
theorem kn_val : ∀ {ks : List (Int × Nat)} {v : Int} {k : Nat}, (ks.map Prod.fst).Nodup → (v, k) ∈ ks → valV (knV ks) (.inl v) = some (.int k)
  | [], _, _, _, h => by cases h
  | (u, j) :: r, v, k, nd, h => by
    rw [List.map_cons] at nd
    obtain ⟨nn, nd⟩ := List.nodup_cons.mp nd
    show valV ((.inl u, .int j) :: knV r) (.inl v) = _
    unfold valV
    rw [List.find?_cons]
    by_cases e : u = v
    · subst e
      rcases List.mem_cons.mp h with z | z
      · cases z
        rw [decide_eq_true rfl]
        rfl
      · exact absurd (List.mem_map.mpr ⟨_, z, rfl⟩) nn
    · rw [decide_eq_false (fun z => e (Sum.inl.inj z))]
      rcases List.mem_cons.mp h with z | z
      · cases z
        exact absurd rfl e
      · exact kn_val nd z
theorem kn_mem {ks : List (Int × Nat)} {v : Int} {x : V} (h : valV (knV ks) (.inl v) = some x) : ∃ k, (v, k) ∈ ks ∧ x = .int (k : Nat) := by
  obtain ⟨q, hq, e⟩ := List.mem_map.mp (valV_mem h)
  obtain ⟨u, j⟩ := q
  cases e
  exact ⟨j, hq, rfl⟩
theorem kn_none {ks : List (Int × Nat)} {v : Int} (h : valV (knV ks) (.inl v) = none) (nd : (ks.map Prod.fst).Nodup) : ∀ k, (v, k) ∉ ks := fun k z => by
  rw [kn_val nd z] at h
  cases h
theorem Known.few {next : Int → List Int} {s n : Int} {ks : List (Int × Nat)} {L : Nat} {P : Int → Prop} (h : Known next s ks L P) (hs : 0 ≤ s ∧ s < n) (hn : ∀ v w, 0 ≤ v ∧ v < n → w ∈ next v → 0 ≤ w ∧ w < n) (hP : ∀ v, P v → 0 ≤ v ∧ v < n) : ks.length ≤ n.toNat := by
  have q := pig n.toNat (ks.map Prod.fst) h.nd fun v hv => by
    obtain ⟨⟨u, j⟩, hq, rfl⟩ := List.mem_map.mp hv
    have b : 0 ≤ u ∧ u < n := by
      rcases (h.is u j).mp hq with ⟨_, d⟩ | ⟨_, p, _⟩
      · exact d.1.inn hs hn
      · exact hP u p
    exact ⟨b.1, by have := b.2; omega⟩
  rwa [List.length_map] at q
/-- what spread makes of a first thing and what tells the next ones -/
def SPs (next : Int → List Int) (n : Int) : V → (V → Hp → VK → Prop) → Hp → VK → Prop := fun y tl H Q => ∃ s : Int, y = .int s ∧ (0 ≤ s ∧ s < n) ∧ n ≤ 1000 ∧ (∀ v w, 0 ≤ v ∧ v < n → w ∈ next v → 0 ≤ w ∧ w < n) ∧
  (∀ v, 0 ≤ v ∧ v < n → ∀ Z Q', Same H Z → (∀ la, H la = some (.lst ((next v).map V.int)) → Q' (.ref la) Z) → tl (.int v) Z Q') ∧
  ∀ (r : Addr) (ks : List (Int × Nat)) (Z : Hp), Same H Z → H r = none → Z r = some (.dK (knV ks)) → (ks.map Prod.fst).Nodup → (∀ v k, (v, k) ∈ ks ↔ Dist next s v k) → Q (.ref r) Z
/-- the state within the loops -/
structure Mid (next : Int → List Int) (s : Int) (HS H : Hp) (kd fa ba : Addr) (fr : List Int) (L : Nat) (ks0 ks : List (Int × Nat)) (nw : List Int) (P : Int → Prop) : Prop where
  sm : Same HS H
  d : H kd = some (.dK (knV ks))
  f : H fa = some (.lst (fr.map V.int))
  g : H ba = some (.lst (nw.map V.int))
  kn : Known next s ks L P
  by_ : Beyond next s nw L P
  len : ks.length = ks0.length + nw.length
theorem Mid.same {next : Int → List Int} {s : Int} {HS H H' : Hp} {kd fa ba : Addr} {fr : List Int} {L : Nat} {ks0 ks : List (Int × Nat)} {b : List Int} {P : Int → Prop} (h : Mid next s HS H kd fa ba fr L ks0 ks b P) (e : Same H H') : Mid next s HS H' kd fa ba fr L ks0 ks b P :=
  ⟨h.sm.trans e, e _ _ h.d, e _ _ h.f, e _ _ h.g, h.kn, h.by_, h.len⟩
/-- what came of the first i of the front, and of the first j behind v -/
def Pij (next : Int → List Int) (fr : List Int) (i : Nat) (v : Int) (j : Nat) : Int → Prop := fun w => (∃ u, u ∈ fr.take i ∧ w ∈ next u) ∨ w ∈ (next v).take j
def Pi_ (next : Int → List Int) (fr : List Int) (i : Nat) : Int → Prop := fun w => ∃ u, u ∈ fr.take i ∧ w ∈ next u
theorem pi0 {next : Int → List Int} {fr : List Int} (w : Int) : Pi_ next fr 0 w ↔ False := by
  unfold Pi_
  rw [List.take_zero]
  simp
theorem pij_zero {next : Int → List Int} {fr : List Int} {i : Nat} {v : Int} (w : Int) : Pi_ next fr i w ↔ Pij next fr i v 0 w := by
  unfold Pi_ Pij
  rw [List.take_zero]
  simp
theorem pij_succ {next : Int → List Int} {fr : List Int} {i j : Nat} {v z : Int} (e : (next v)[j]? = some z) (w : Int) : (Pij next fr i v j w ∨ w = z) ↔ Pij next fr i v (j + 1) w := by
  unfold Pij
  rw [List.take_add_one, e]
  simp only [Option.toList_some, List.mem_append, List.mem_singleton]
  rw [or_assoc]
theorem pij_last {next : Int → List Int} {fr : List Int} {i : Nat} {v : Int} (e : fr[i]? = some v) (w : Int) : Pij next fr i v (next v).length w ↔ Pi_ next fr (i + 1) w := by
  unfold Pij Pi_
  rw [List.take_add_one, e, List.take_length]
  simp only [Option.toList_some, List.mem_append, List.mem_singleton]
  constructor
  · rintro (⟨u, hu, hw⟩ | hw)
    · exact ⟨u, .inl hu, hw⟩
    · exact ⟨v, .inr rfl, hw⟩
  · rintro ⟨u, hu | rfl, hw⟩
    · exact .inl ⟨u, hu, hw⟩
    · exact .inr hw
/-- the while's state: so much is left -/
def WSp (next : Int → List Int) (s n : Int) (HS : Hp) (f kd : Addr) (m : Nat) (σ : L2.St) (H : Hp) : Prop := ∃ (ks : List (Int × Nat)) (fr : List Int) (fa : Addr) (L : Nat) (s4 s5 s6 : Option V), σ = [some (.int s), some (.ref f), some (.ref kd), some (.ref fa), s4, s5, s6] ∧ Same HS H ∧ H kd = some (.dK (knV ks)) ∧ H fa = some (.lst (fr.map V.int)) ∧
  Known next s ks L (fun _ => False) ∧ (∀ v, v ∈ fr ↔ Dist next s v L) ∧ (n.toNat - ks.length) + fr.length = m
section
variable {X : Cx} {g : Addr} {cdg : Value} {q : Str} {next : Int → List Int} {n : Int}
theorem gives_spread : Gives X nSpread "spread" (defScope sSpread) g cdg (defBody sSpread) "onward_from" q 2 (SPs next n) := by
  intro f c' s0 HS y Q tl hr act hc h
  obtain ⟨s, rfl, hs, n12, hn, htl, k⟩ := h
  have hu := hu_of hr
  refine ⟨_, pss_cons (ps_set (i := 2) scSpread.nd rfl (.inl rfl) (pe_disp (pps_cons (pv 0) pe_int pps_nil) (by rfl) (by rfl) (by simp) (by decide))) <|
    pss_cons (ps_set (i := 3) scSpread.nd rfl (.inl rfl) (pe_lst (pa_cons (pv 0) pa_nil))) <|
    pss_cons (ps_while PassesOwn.never (pt_truth (pv 3) (fun _ => rfl))
      (pss_cons (ps_set (i := 4) scSpread.nd rfl (.inl rfl) (pe_lst pa_nil)) <|
      pss_cons (ps_for PassesOwn.never rfl (pi_list (pv 3)) (pg_name (i := 5) scSpread.nd rfl (.inl rfl))
        (pss_one (ps_for PassesOwn.never rfl (pi_list (act _ _ _ _ (pa_cons (pv 5) pa_nil) rfl rfl)) (pg_name (i := 6) scSpread.nd rfl (.inl rfl))
          (pss_one (ps_if (pt_cmp (pc_dnotin hu (pv 6) (pv 2)))
            (pss_cons (ps_dput hu (pv 2) (pv 6) (pe_op op_add (pe_dget hu (pv 2) (pv 5) (fun _ _ => rfl)) pe_int) rfl) <|
            pss_one (ps_expr (pe_bm PySem.F.plainAttrs_list PySem.F.slot_list_append PySem.F.type_list_append mt_append (pv 4) (pa_cons (pv 6) pa_nil)))) pss_nil))))) <|
      pss_one (ps_set (i := 3) scSpread.nd rfl (.inl rfl) (pv 4)))) <|
    pss_one (ps_ret (pv 2)), ?_⟩
  refine fun kd nkd => ⟨_, rfl, ⟨by rw [upd_same], [(.inl s, .int 0)], rfl, by show 1 ≤ 15; decide, ?_⟩⟩
  have hk0 : (upd (upd HS kd (.dK [])) kd (.dK (mergeK [] [(.inl s, .int 0)]))) kd = some (.dK (knV [(s, 0)])) := by rw [upd_same]; rfl
  have sm0 : Same HS (upd (upd HS kd (.dK [])) kd (.dK (mergeK [] [(.inl s, .int 0)]))) := fun b o e => by
    rw [upd_ne (ne_of_none e nkd), upd_ne (ne_of_none e nkd)]
    exact e
  generalize (upd (upd HS kd (.dK [])) kd (.dK (mergeK [] [(.inl s, .int 0)]))) = H1 at hk0 sm0 ⊢
  refine ⟨_, rfl, by show 1 ≤ sizeLine; decide, fun fa0 nfa0 => ?_⟩
  have sf := same_new (o := .lst [.int s]) nfa0
  have hk1 := sf _ _ hk0
  have hf1 : (upd H1 fa0 (.lst [.int s])) fa0 = some (.lst (([s] : List Int).map V.int)) := upd_same
  have sm1 := sm0.trans sf
  generalize (upd H1 fa0 (.lst [.int s])) = H2 at hk1 hf1 sm1 ⊢
  refine ⟨WSp next s n HS f kd, ⟨_, [(s, 0)], [s], fa0, 0, none, none, none, rfl, sm1, hk1, hf1, .start, fun v => ?_, rfl⟩, ?_⟩
  · rw [List.mem_singleton]
    constructor
    · rintro rfl
      exact ⟨.nil _, fun j hj => absurd hj (Nat.not_lt_zero _)⟩
    · intro d
      exact d.1.zero
  rintro m σ H3 ⟨ks0, fr, fa, L, s4, s5, s6, rfl, sm3, hk3, hf3, kn0, hfr, hm⟩
  refine ⟨_, rfl, _, .inl ⟨_, SqL.of hf3, rfl⟩, ite2 (fun yes => ?_) (fun no => ?_)⟩
  · refine ⟨fun σ' H' => ∃ m', m' < m ∧ WSp next s n HS f kd m' σ' H', fun _ _ h => h, ?_⟩
    have fpos : 0 < fr.length := by
      cases fr with
      | nil => cases yes
      | cons a r => exact Nat.succ_pos _
    have inFr : ∀ v, v ∈ fr → 0 ≤ v ∧ v < n := fun v hv => ((hfr v).mp hv).1.inn hs hn
    refine ⟨Nat.zero_le _, fun ba nba => ?_⟩
    have sb := same_new (o := .lst []) nba
    have bk : ba ≠ kd := fun z => by rw [z, hk3] at nba; cases nba
    have fb : fa ≠ ba := fun z => by rw [← z, hf3] at nba; cases nba
    have fk : fa ≠ kd := fun z => by rw [z, hk3] at hf3; cases hf3
    have nba0 : HS ba = none := sm3.free nba
    have mid0 : Mid next s HS (upd H3 ba (.lst [])) kd fa ba fr L ks0 ks0 [] (Pi_ next fr 0) :=
      ⟨sm3.trans sb, sb _ _ hk3, sb _ _ hf3, upd_same, kn0.congr fun v => (pi0 v).symm, fun v => ⟨fun h => (List.not_mem_nil h).elim, fun h => ((pi0 v).mp h.1).elim⟩, rfl⟩
    generalize (upd H3 ba (.lst [])) = H4 at mid0 ⊢
    clear sb nba hk3 hf3 sm3
    refine ⟨_, rfl, fa, rfl, ⟨_, SqL.of mid0.f⟩, for_it (walk_list (xs := fr.map V.int)) (fun i σ H' => ∃ ks nw s5 s6, σ = [some (.int s), some (.ref f), some (.ref kd), some (.ref fa), some (.ref ba), s5, s6] ∧ Mid next s HS H' kd fa ba fr L ks0 ks nw (Pi_ next fr i))
      ⟨ks0, [], _, _, rfl, mid0⟩ (fun i σ H' _ h => by obtain ⟨_, _, _, _, _, M⟩ := h; exact SqL.of M.f) ?_ ?_⟩
    · rintro i x σ H5 H6 hi ⟨ks, nw, s5, s6, rfl, M⟩ ⟨rfl, ex⟩
      obtain ⟨v, ev, rfl⟩ := int_at ex
      have hv := inFr v (List.mem_of_getElem? ev)
      have inP : ∀ j w, Pij next fr i v j w → 0 ≤ w ∧ w < n := fun j w h => by
        rcases h with ⟨u, hu, hw⟩ | hw
        · exact hn u w (inFr u (List.mem_of_mem_take hu)) hw
        · exact hn v w hv (List.mem_of_mem_take hw)
      refine ⟨rfl, _, rfl, _, rfl, M.sm _ _ hc, htl v hv _ _ M.sm fun la hla => ⟨la, rfl, ⟨_, SqL.of (M.sm _ _ hla)⟩, ?_⟩⟩
      refine for_it (walk_list (xs := (next v).map V.int)) (fun j σ H' => ∃ ks nw s6, σ = [some (.int s), some (.ref f), some (.ref kd), some (.ref fa), some (.ref ba), some (.int v), s6] ∧ Mid next s HS H' kd fa ba fr L ks0 ks nw (Pij next fr i v j))
        ⟨ks, nw, _, rfl, ⟨M.sm, M.d, M.f, M.g, M.kn.congr pij_zero, M.by_.congr pij_zero, M.len⟩⟩ (fun j σ H' _ h => by obtain ⟨_, _, _, _, M⟩ := h; exact SqL.of (M.sm _ _ hla)) ?_ ?_
      · rintro j x σ H6 H7 hj ⟨ks, nw, s6, rfl, M⟩ ⟨rfl, ey⟩
        obtain ⟨z, ez, rfl⟩ := int_at ey
        refine ⟨_, rfl, _, rfl, kd, _, rfl, DGet.k (k := .inl z) M.d, ?_⟩
        cases em : valV (knV ks) (.inl z : Key) with
        | some y =>
          obtain ⟨k0, hk0, _⟩ := kn_mem em
          obtain ⟨g1, g2⟩ := M.kn.again M.by_ hk0
          exact ⟨_, rfl, iteF ⟨ks, nw, _, rfl, ⟨M.sm, M.d, M.f, M.g, g1.congr (pij_succ ez), g2.congr (pij_succ ez), M.len⟩⟩⟩
        | none =>
          obtain ⟨g1, g2⟩ := M.kn.add M.by_ (kn_none em M.kn.nd)
          have few := M.kn.few hs hn (inP j)
          have vL : (v, L) ∈ ks := (M.kn.is v L).mpr (.inl ⟨Nat.le_refl _, (hfr v).mp (List.mem_of_getElem? ev)⟩)
          refine ⟨_, rfl, iteT ?_⟩
          refine ⟨_, rfl, _, rfl, kd, .int (L : Nat), rfl, by rw [← kn_val M.kn.nd vL]; exact DGet.k (k := .inl v) M.d, _, _, rfl, rfl, ?_⟩
          refine ⟨_, rfl, _, rfl, kd, _, rfl, DPut.k (k := .inl z) M.d (by rw [kn_len, sizeLine_eq]; omega), ?_⟩
          rw [putK_new _ em, show knV ks ++ [((.inl z : Key), V.int ((L : Nat) + 1))] = knV (ks ++ [(z, L + 1)]) from (kn_app ks z (L + 1)).symm]
          have d1 : (upd H7 kd (.dK (knV (ks ++ [(z, L + 1)])))) kd = some (.dK (knV (ks ++ [(z, L + 1)]))) := upd_same
          have g0 : (upd H7 kd (.dK (knV (ks ++ [(z, L + 1)])))) ba = some (.lst (nw.map V.int)) := by rw [upd_ne bk]; exact M.g
          have f1 : (upd H7 kd (.dK (knV (ks ++ [(z, L + 1)])))) fa = some (.lst (fr.map V.int)) := by rw [upd_ne fk]; exact M.f
          have t1 : Same HS (upd H7 kd (.dK (knV (ks ++ [(z, L + 1)])))) := fun b o e => by
            rw [upd_ne (ne_of_none e nkd)]
            exact M.sm _ _ e
          generalize (upd H7 kd (.dK (knV (ks ++ [(z, L + 1)])))) = H8 at d1 g0 f1 t1 ⊢
          have nl := M.len
          refine ⟨_, rfl, .inl ⟨rfl, _, SqL.of g0⟩, _, rfl, ba, _, .int z, rfl, rfl, g0, by rw [List.length_map, sizeLine_eq]; omega, ?_⟩
          refine ⟨ks ++ [(z, L + 1)], nw ++ [z], _, rfl, ⟨fun b o e => ?_, by rw [upd_ne bk.symm]; exact d1, by rw [upd_ne fb]; exact f1, by rw [upd_same, List.map_append]; rfl, g1.congr (pij_succ ez), g2.congr (pij_succ ez), by rw [List.length_append, List.length_append, nl]; rfl⟩⟩
          rw [upd_ne (ne_of_none e nba0)]
          exact t1 _ _ e
      · rintro σ H6 ⟨ks, nw, s6, rfl, M⟩
        rw [List.length_map] at M
        exact ⟨ks, nw, _, _, rfl, ⟨M.sm, M.d, M.f, M.g, M.kn.congr (pij_last ev), M.by_.congr (pij_last ev), M.len⟩⟩
    · rintro σ H5 ⟨ks, nw, s5, s6, rfl, M⟩
      have hP : ∀ w, Pi_ next fr (fr.map V.int).length w ↔ ∃ v, v ∈ fr ∧ w ∈ next v := fun w => by
        unfold Pi_
        rw [List.length_map, List.take_length]
      obtain ⟨kn1, hb⟩ := M.kn.level M.by_ hfr hP
      have few := M.kn.few hs hn fun w hw => by
        obtain ⟨u, hu, hw⟩ := (hP w).mp hw
        exact hn u w (inFr u hu) hw
      have nl := M.len
      exact ⟨_, rfl, _, by omega, ks, nw, ba, L + 1, _, _, _, rfl, M.sm, M.d, M.g, kn1, hb, rfl⟩
  · have e0 : fr = [] := by
      cases fr with
      | nil => rfl
      | cons a r => exact absurd rfl no
    exact ⟨_, rfl, k kd ks0 H3 sm3 nkd hk3 kn0.nd (kn0.done fun v d => by have := (hfr v).mpr d; rw [e0] at this; cases this)⟩
end
end Sw
namespace Sw
open PySem L2
/-! ### leads -/
abbrev sLeads : Stmt := top 16
abbrev nLeads : List Str := ["net", "n", "arrows", "ahead", "v", "w", "_"]
theorem scLeads : FnScope nLeads ["net"] (defScope sLeads) := ⟨rfl, rfl, rfl, by decide +kernel, rfl, by decide +kernel, by decide +kernel⟩
section
variable {P : Program} {w : World} {K : PySem.W.Frag} {mg : Str → Option Value} {base : Heap}
def spLeads : Sp := fun vs H Q _ => ∃ (a b : Addr) (n : Int) (ts : List V) (ars : List (Int × Int)), vs = [.ref a] ∧ NetAt n H a b ts ∧ ArsAt H ts ars ∧ ∀ (f : Addr) (ls : List Addr) (H' : Hp), Same H H' → H f = none → H' f = some (.lst (ls.map V.ref)) → (ls.length : Int) = n → (∀ (v : Nat) (l : Addr), ls[v]? = some l → H l = none ∧ H' l = some (.lst ((outs ars v).map V.int))) → Q (.ref f) H'
theorem ok_leads {f : Addr} {fd : FuncData} (F : Fun K "leads" "leads" sLeads f fd) (B : NoNames mg) : FnOk P w K mg base CX0 1 f fd ["net"] spLeads := by
  refine F.ok scLeads (fun vs H Q E h => ?_) (fun cdv A outer s H vs Q E hr h => ?_)
  · obtain ⟨a, b, n, ts, ars, rfl, _⟩ := h
    rfl
  · obtain ⟨a, b, n, ts, ars, rfl, N, AR, k⟩ := h
    refine ⟨_, pss_cons (ps_asg (pv 0) (pg_tup (by rfl) (pgs_cons (pg_name (i := 1) scLeads.nd rfl (.inl rfl)) (pgs_cons (pg_name (i := 2) scLeads.nd rfl (.inl rfl)) pgs_nil)))) <|
      pss_cons (ps_setLc (i := 3) (own := [("_", 6)]) (g := gName 6) (tt := tYes) rfl scLeads.nd rfl rfl (sw_true rfl rfl rfl (by decide +kernel)) (pi_range1 (by rfl) B.range (pa_cons (pv 1) pa_nil)) (blkOk_by (own := [("_", 6)]) (N := nLeads) (sc := defScope sLeads) (by decide +kernel))
        (fun _ _ _ _ _ => pg_name (i := 6) scLeads.nd rfl (Or.inl rfl)) (fun _ _ _ _ _ => pts_nil) (fun _ _ _ _ _ => pe_lst pa_nil)) <|
      pss_cons (ps_for PassesOwn.never rfl (pi_tup (pv 2)) (pg_tup rfl (pgs_cons (pg_name (i := 4) scLeads.nd rfl (.inl rfl)) (pgs_cons (pg_name (i := 5) scLeads.nd rfl (.inl rfl)) pgs_nil)))
        (pss_one (ps_expr (pe_bm PySem.F.plainAttrs_list PySem.F.slot_list_append PySem.F.type_list_append mt_append (pe_ix ix_list (pv 3) (pv 4) (fun _ _ => rfl)) (pa_cons (pv 5) pa_nil))))) <|
      pss_one (ps_ret (pv 3)), ?_⟩
    have n1 := N.n1
    have n2 := N.n2
    refine ⟨_, rfl, a, _, rfl, SqT.of N.a, rfl, _, _, rfl, _, _, rfl, rfl, ?_⟩
    refine ⟨_, rfl, n, rfl, by omega, by omega, fun g ng => ?_⟩
    refine lc_it walk_range (fun j H' => ∃ ls : List Addr, H' g = some (.lst (ls.map V.ref)) ∧ ls.length = j ∧ Same H H' ∧ ls.Nodup ∧ ∀ l ∈ ls, H l = none ∧ H' l = some (.lst [])) ⟨[], upd_same, rfl, same_new ng, List.nodup_nil, fun _ h => absurd h (by simp)⟩ (fun _ _ _ _ => trivial) ?_ ?_
    · rintro j x Hb Ha hj ⟨ls, h1, h2, h3, hn, h4⟩ ⟨rfl, rfl⟩
      refine ⟨rfl, ?_⟩
      refine ⟨by show 0 ≤ sizeLine; exact Nat.zero_le _, fun q nq => ?_⟩
      have sq : Same Ha (upd Ha q (.lst [])) := same_new nq
      have gq : g ≠ q := fun z => by
        rw [← z, h1] at nq
        cases nq
      refine ⟨_, sq _ _ h1, by rw [List.length_map, h2, sizeLine_eq]; omega, ls ++ [q], by rw [upd_same, List.map_append]; rfl, by rw [List.length_append, h2]; rfl, fun c o e => ?_, List.nodup_append.mpr ⟨hn, by simp, fun c hc c2 hc2 z => ?_⟩, fun l hl => ?_⟩
      · rw [upd_ne (ne_of_none e ng)]
        exact sq _ _ (h3 _ _ e)
      · rw [List.mem_singleton.mp hc2] at z
        rw [← z, (h4 c hc).2] at nq
        cases nq
      · rcases List.mem_append.mp hl with hl | hl
        · have lg : l ≠ g := IntsAt.ne (n := 0) (m := 0) ⟨[], (h4 l hl).2, fun _ h => absurd h (by simp), Nat.le_refl _⟩ h1 hl
          exact ⟨(h4 l hl).1, by rw [upd_ne lg]; exact sq _ _ (h4 l hl).2⟩
        · rw [List.mem_singleton.mp hl]
          exact ⟨h3.free nq, by rw [upd_ne gq.symm, upd_same]⟩
    · rintro Ha ⟨ls, h1, h2, h3, hn, h4⟩
      have N2 := N.keep (.of h3)
      refine ⟨_, rfl, b, rfl, ⟨_, N2.sq⟩, for_it (walk_tup (xs := ts)) (fun i σ H' => (∃ s2 s3, σ = [some (.ref a), some (.int n), some (.ref b), some (.ref g), s2, s3, none]) ∧ Same H H' ∧ H' g = some (.lst (ls.map V.ref)) ∧ ∀ (v : Nat) (l : Addr), ls[v]? = some l → H l = none ∧ H' l = some (.lst ((outs (ars.take i) v).map V.int)))
        ⟨⟨_, _, rfl⟩, h3, h1, fun v l hv => h4 l (List.mem_of_getElem? hv)⟩ (fun i σ H' _ h => (N.keep (.of h.2.1)).sq) ?_ ?_⟩
      · rintro i x σ H2 H1 hi ⟨⟨s2, s3, rfl⟩, s1, g1, hl⟩ ⟨rfl, ex⟩
        obtain ⟨e, t, he, rfl, ht0⟩ := AR.at ex
        have ht := s1 _ _ ht0
        obtain ⟨t', v, w', et, ht', hv, hw⟩ := N.arr _ (List.mem_of_getElem? ex)
        cases et
        rw [ht0] at ht'
        have e1 : e.1 = v := by
          injection Option.some.inj ht' with q
          injection q with q1 _
          exact V.int.inj q1
        refine ⟨t, _, rfl, SqT.of ht, rfl, _, _, rfl, _, _, rfl, rfl, ?_⟩
        obtain ⟨jv, hjv0⟩ := Int.eq_ofNat_of_zero_le (show 0 ≤ e.1 by rw [e1]; exact hv.1)
        have hjv : jv < ls.length := by
          have := hv.2
          omega
        have hm : ls[jv]? = some ls[jv] := List.getElem?_eq_getElem hjv
        obtain ⟨l0, c0⟩ := hl _ _ hm
        have lg : ls[jv] ≠ g := fun z => by
          rw [z, g1] at c0
          injection Option.some.inj c0 with q
          have q2 := congrArg List.head? q
          cases hls : ls with
          | nil =>
            rw [hls] at hjv
            exact absurd hjv (Nat.not_lt_zero _)
          | cons u us =>
            rw [hls] at q2
            cases ho : outs (ars.take i) jv with
            | nil =>
              rw [ho] at q2
              cases q2
            | cons y ys =>
              rw [ho] at q2
              injection q2 with q3
              cases q3
        have tl := N.len
        have ol : (outs (ars.take i) jv).length ≤ 200 := Nat.le_trans outs_len (by rw [List.length_take]; have := AR.len; omega)
        refine ⟨_, rfl, _, rfl, g, _, _, .ref ls[jv], rfl, rfl, SqL.of g1, at_of (j := jv) hjv0 (by rw [List.getElem?_map, hm]; rfl), .inl ⟨rfl, _, SqL.of c0⟩, _, rfl, ls[jv], _, _, rfl, rfl, c0, by rw [List.length_map, sizeLine_eq]; omega, ?_⟩
        refine ⟨⟨_, _, rfl⟩, fun c o ec => ?_, by rw [upd_ne lg.symm]; exact g1, fun u l hu => ⟨(hl u l hu).1, ?_⟩⟩
        · rw [upd_ne (ne_of_none ec l0)]
          exact s1 _ _ ec
        · rw [outs_succ he]
          by_cases q : l = ls[jv]
          · have hu2 : u = jv := nd_ix hn hu (by rw [hm, q])
            subst hu2
            rw [q, upd_same, if_pos hjv0, List.map_append]
            rfl
          · have hu2 : ¬ e.1 = (u : Int) := fun z => q (by
              have : u = jv := by omega
              subst this
              rw [hm] at hu
              exact (Option.some.inj hu).symm)
            rw [upd_ne q, if_neg hu2, List.append_nil]
            exact (hl u l hu).2
      · rintro σ H1 ⟨⟨s2, s3, rfl⟩, s1, g1, hl⟩
        refine ⟨_, rfl, k g ls H1 s1 ng g1 (by omega) fun v l hv => ?_⟩
        have q := hl v l hv
        rw [AR.len, List.take_length] at q
        exact q
end
end Sw
namespace Sw
open PySem PySem.Spec PyProof.Rows L2 LamX
/-! ### fewest_from -/
/-- a def of the text, its code object told -/
structure FunC (K : PySem.W.Frag) (x qual : Str) (st : Stmt) (f : Addr) (fd : FuncData) (c : Addr) : Prop where
  ex : ∃ (oc : Value) (od : Option Addr) (kV doc pm : Value) (an : Option Addr) (ct : Value) (osl : Array (Option Value)),
    fd = PySem.W.fnOf x qual (defArgs st) (defBody st) (defScope st) .none kV doc pm an (.ref c) ct ∧ K.lookup f = some ⟨oc, od, .func fd, osl⟩ ∧ PySem.W.codeIn K (.ref c) qual = true
  kp : PySem.W.keepIn K (.ref f) = true
theorem FunC.fun {K : PySem.W.Frag} {x qual : Str} {st : Stmt} {f : Addr} {fd : FuncData} {c : Addr} (F : FunC K x qual st f fd c) : Fun K x qual st f fd := by
  obtain ⟨oc, od, kV, doc, pm, an, ct, osl, h1, h2, h3⟩ := F.ex
  exact ⟨⟨oc, od, kV, doc, pm, an, .ref c, ct, osl, h1, h2, h3⟩, F.kp⟩
section
variable {P : Program} {w : World} {K : PySem.W.Frag} {mg : Str → Option Value} {base : Heap}
theorem FunC.ok {x qual : Str} {st : Stmt} {f c : Addr} {fd : FuncData} {N ps : List Str} {k : Nat} {sp : Sp} (F : FunC K x qual st f fd c) (S : FnScope N ps (defScope st)) (len : ∀ vs H Q E, sp vs H Q E → vs.length = ps.length)
    (walk : ∀ (A : Around) (outer : List Env) (s : Shared) (H : Hp) (vs : List V) (Q : VK) (E : XK), Room k (A.deeper (envOfC qual (defScope st) s.heap.objs.size f (.ref c))) → sp vs H Q E →
      ∃ t, PSs (cxOf CX0 P w K mg base N qual (defScope st) f (.ref c) A outer s H E).nox (defBody st) t ∧ t { nx := fun _ H' => Q .non H', rt := Q } (start N vs) H) : FnOk P w K mg base CX0 (k + 1) f fd ps sp := by
  obtain ⟨oc, od, kV, doc, pm, an, ct, osl, rfl, lk, hcd⟩ := F.ex
  refine fn_of lk hcd S len fun A outer s H vs Q E hr hsp => ?_
  obtain ⟨t, h, q⟩ := walk A outer s H vs Q E hr hsp
  exact ⟨t, h.nox, q⟩
end
def lam1B (sc scope : Scope) (v : Str) : Bool :=
  decide (scope.kind = .function) && (!scope.isCoroutine && (!scope.isGenerator && (decide (scope.names.lookup v = some .local) &&
    scope.names.all fun y => !decide (y.2 = .cell) && ((!decide (y.2 = .local) || decide (y.1 = v)) && (!decide (y.2 = .free) || (decide (sc.names.lookup y.1 = some .cell) || decide (sc.names.lookup y.1 = some .free)))))))
theorem lam1_by {sc scope : Scope} {v : Str} (h : lam1B sc scope v = true) : Lam1S sc scope v := by
  unfold lam1B at h
  simp only [Bool.and_eq_true, Bool.or_eq_true, Bool.not_eq_true', decide_eq_true_eq, decide_eq_false_iff_not, List.all_eq_true] at h
  obtain ⟨h1, h2, h3, h4, h5⟩ := h
  refine ⟨h1, h2, h3, fun y hy => ⟨(h5 y hy).1, fun e => ?_⟩, h4, fun y hy e => ?_⟩
  · rcases (h5 y hy).2.1 with z | z
    · exact absurd e z
    · exact z
  · rcases (h5 y hy).2.2 with z | z
    · exact absurd e z
    · exact z
abbrev sFew : Stmt := top 14
abbrev nFew : List Str := ["net", "stop", "ahead"]
theorem scFew : FnScope nFew ["net", "stop"] (defScope sFew) := ⟨rfl, rfl, rfl, by decide +kernel, rfl, by decide +kernel, by decide +kernel⟩
/-- the stops that follow -/
def nextOf (ars : List (Int × Int)) (v : Int) : List Int := if 0 ≤ v then outs ars v.toNat else []
theorem next_mem {ars : List (Int × Int)} {v u : Int} : u ∈ nextOf ars v ↔ 0 ≤ v ∧ (v, u) ∈ ars := by
  unfold nextOf
  by_cases h : 0 ≤ v
  · rw [if_pos h, outs_mem, Int.toNat_of_nonneg h]
    simp [h]
  · rw [if_neg h]
    simp [h]
theorem ars_inn {n : Int} {H : Hp} {ts : List V} {ars : List (Int × Int)} (h : Arrs n H ts) (g : ArsAt H ts ars) : ∀ e ∈ ars, Inn n e.1 ∧ Inn n e.2 := by
  unfold ArsAt at g
  induction g with
  | nil => exact fun e he => (List.not_mem_nil he).elim
  | cons q t ih =>
    intro e he
    rcases List.mem_cons.mp he with z | z
    · obtain ⟨p, rfl, hp⟩ := q
      obtain ⟨p', v, u, ep, hp', iv, iu⟩ := h _ List.mem_cons_self
      cases ep
      rw [hp] at hp'
      injection Option.some.inj hp' with q1
      injection q1 with q2 q3
      injection q3 with q4 _
      rw [z, V.int.inj q2, V.int.inj q4]
      exact ⟨iv, iu⟩
    · exact ih (fun x hx => h x (List.mem_cons_of_mem _ hx)) e z
/-- the one table of lambdas -/
abbrev lamT (tb : Addr) : List (Addr × Str) := [(tb, (("fewest_from" : Str) ++ ".<locals>.") ++ "<lambda>")]
section
variable {P : Program} {w : World} {K : PySem.W.Frag} {mg : Str → Option Value} {base : Heap}
def spFew (tb : Addr) : Sp := fun vs H Q _ => ∃ (a b : Addr) (n s : Int) (ts : List V) (ars : List (Int × Int)), vs = [.ref a, .int s] ∧ NetAt n H a b ts ∧ ArsAt H ts ars ∧ Inn n s ∧ Tabs (lamT tb) H ∧
  ∀ (r : Addr) (ks : List (Int × Nat)) (H' : Hp), ExtN H H' → Tabs (lamT tb) H' → H' r = some (.dK (knV ks)) → (ks.map Prod.fst).Nodup → (∀ v k, (v, k) ∈ ks ↔ Dist (nextOf ars) s v k) → Q (.ref r) H'
theorem ok_few {f g c tb : Addr} {fd gd : FuncData} (F : FunC K "fewest_from" "fewest_from" sFew f fd c) (TB : TabB base mg c tb) (G : Fun K "spread" "spread" sSpread g gd) (mG : mg "spread" = some (.ref g)) (OL : Own P w K mg base 1 "leads" ["net"] spLeads) :
    FnOk P w K mg base CX0 5 f fd ["net", "stop"] (spFew tb) := by
  obtain ⟨fL, fdL, GL, mL, kL, bL⟩ := OL.ex
  have bG := G.binds (ps := ["first", "onward_from"]) fun _ _ _ _ _ _ us hl => match us, hl with | [_, _], _ => rfl
  obtain ⟨oc, od, kV, doc, pm, an, cdv, ct, osl, rfl, lk, hcd⟩ := G.ex
  refine F.ok scFew (fun vs H Q E h => ?_) (fun A outer s H vs Q E hr h => ?_)
  · obtain ⟨a, b, n, s, ts, ars, rfl, _⟩ := h
    rfl
  · obtain ⟨a, b, n, s, ts, ars, rfl, N, AR, hs, hT, k⟩ := h
    refine ⟨_, pss_cons (ps_set (i := 2) scFew.nd rfl (.inr rfl) (pe_call GL (hr.mono (by decide)) rfl mL kL bL .nil pass0 (pa_cons (pv 0) pa_nil))) <|
      pss_one (ps_ret (pe_lam2 (T := lamT tb) (k := 1) (v := "v") (Ng := nSpread) rfl mG G.kp lk hcd bG scSpread rfl (.inl rfl) (gives_spread (n := n) (next := nextOf ars)) TB rfl (List.mem_singleton.mpr rfl) (fun p hp _ => by rw [List.mem_singleton.mp hp]; rfl) (hr.mono (by decide)) (lam1_by (sc := defScope sFew) (by decide +kernel)) (show ¬ (("v" : Str) ∈ nFew) by decide +kernel) rfl (fun _ _ _ _ _ _ => rfl) (pv 1)
        (fun A outer s H f c' hr2 => pe_ix (r := rIxL K) ix_list (pv 2) (pv 3) (fun _ _ => rfl)))), ?_⟩
    refine ⟨_, rfl, a, b, n, ts, ars, rfl, N, AR, fun g1 ls H1 s1 ng hg1 hl1 each => ?_⟩
    refine ⟨_, rfl, hT.ext s1, fun H2 e12 hT2 => ⟨s, rfl, ⟨hs.1, hs.2⟩, by have := N.n2; omega, fun v u hv hu => ?_, fun v hv Z Q' sZ hq => ?_, fun r ks Z sZ _ hr nd dist => k r ks Z ((ExtN.of s1).trans (e12.trans (ExtN.of sZ))) (hT2.ext sZ) hr nd dist⟩⟩
    · exact (ars_inn N.arr AR _ (next_mem.mp hu).2).2
    · obtain ⟨jv, rfl⟩ := Int.eq_ofNat_of_zero_le hv.1
      have hj : jv < ls.length := by have := hv.2; omega
      have hm : ls[jv]? = some ls[jv] := List.getElem?_eq_getElem hj
      refine ⟨_, rfl, _, rfl, g1, _, (jv : Int), .ref ls[jv], rfl, rfl, SqL.of (sZ _ _ (e12 _ _ hg1 fun ps z => nomatch z)), at_of (j := jv) rfl (by rw [List.getElem?_map, hm]; rfl), hq _ ?_⟩
      have e0 : nextOf ars (jv : Int) = outs ars jv := if_pos (Int.natCast_nonneg jv)
      rw [e0]
      exact e12 _ _ (each jv _ hm).2 fun ps z => nomatch z
end
end Sw
namespace Sw
open PySem PySem.Spec PyProof.Rows L2 LamX
/-! ### lot_of -/
abbrev sLotOf : Stmt := top 13
abbrev nLotOf : List Str := ["net", "stop", "n", "arrows", "onto", "back", "v", "w", "other"]
theorem scLotOf : FnScope nLotOf ["net", "stop"] (defScope sLotOf) := ⟨rfl, rfl, rfl, by decide +kernel, rfl, by decide +kernel, by decide +kernel⟩
def swE (e : Int × Int) : Int × Int := (e.2, e.1)
theorem path_front {next : Int → List Int} {k : Nat} {b c : Int} (h : Path next k b c) : ∀ {a : Int}, b ∈ next a → Path next (k + 1) a c := by
  induction h with
  | nil b => exact fun {a} h => .snoc (.nil a) h
  | snoc p q ih => exact fun {a} h => .snoc (ih h) q
/-- the arrows turned: the ways turned -/
theorem path_back {ars : List (Int × Int)} (pos : ∀ e ∈ ars, 0 ≤ e.1 ∧ 0 ≤ e.2) : ∀ {k : Nat} {a b : Int}, Path (nextOf (ars.map swE)) k a b → Path (nextOf ars) k b a := by
  intro k a b h
  induction h with
  | nil a => exact .nil a
  | snoc p q ih =>
    obtain ⟨h0, hm⟩ := next_mem.mp q
    obtain ⟨⟨x, y⟩, he, z⟩ := List.mem_map.mp hm
    cases z
    exact path_front ih (next_mem.mpr ⟨(pos _ he).1, he⟩)
theorem sw_sw (ars : List (Int × Int)) : (ars.map swE).map swE = ars := by
  rw [List.map_map]
  exact List.map_id _
theorem path_turn {ars : List (Int × Int)} (pos : ∀ e ∈ ars, 0 ≤ e.1 ∧ 0 ≤ e.2) {k : Nat} {a b : Int} : Path (nextOf (ars.map swE)) k a b ↔ Path (nextOf ars) k b a := by
  refine ⟨path_back pos, fun h => ?_⟩
  have q := path_back (ars := ars.map swE) (fun e he => by
    obtain ⟨e', he', rfl⟩ := List.mem_map.mp he
    exact ⟨(pos e' he').2, (pos e' he').1⟩) (k := k) (a := b) (b := a)
  rw [sw_sw] at q
  exact q h
/-- from each to the other -/
def Both2 (ars : List (Int × Int)) (s o : Int) : Prop := (∃ k, Path (nextOf ars) k s o) ∧ ∃ k, Path (nextOf ars) k o s
theorem ArsAt.app {H : Hp} : ∀ {ts ts' : List V} {ars ars' : List (Int × Int)}, ArsAt H ts ars → ArsAt H ts' ars' → ArsAt H (ts ++ ts') (ars ++ ars')
  | _, _, _, _, .nil, h => h
  | _, _, _, _, .cons q t, h => .cons q (ArsAt.app t h)
theorem kn_some {next : Int → List Int} {s v : Int} {ks : List (Int × Nat)} (nd : (ks.map Prod.fst).Nodup) (d : ∀ v k, (v, k) ∈ ks ↔ Dist next s v k) : (valV (knV ks) (.inl v : Key)).isSome = true ↔ ∃ k, Path next k s v := by
  constructor
  · intro h
    obtain ⟨x, hx⟩ := Option.isSome_iff_exists.mp h
    obtain ⟨k, hk, _⟩ := kn_mem hx
    exact ⟨k, ((d v k).mp hk).1⟩
  · rintro ⟨k, p⟩
    obtain ⟨j, _, q⟩ := p.fewest
    rw [kn_val nd ((d v j).mpr q)]
    rfl
section
variable {P : Program} {w : World} {K : PySem.W.Frag} {mg : Str → Option Value} {base : Heap}
def spLotOf (tb : Addr) : Sp := fun vs H Q _ => ∃ (a b : Addr) (n s : Int) (ts : List V) (ars : List (Int × Int)), vs = [.ref a, .int s] ∧ NetAt n H a b ts ∧ ArsAt H ts ars ∧ Inn n s ∧ Tabs (lamT tb) H ∧
  ∀ (r : Addr) (os : List Int) (H' : Hp), ExtN H H' → Tabs (lamT tb) H' → H' r = some (.tup (os.map V.int)) → os.Pairwise (· < ·) → (∀ o, o ∈ os ↔ Inn n o ∧ Both2 ars s o) → Q (.ref r) H'
theorem ok_lotOf {f tb : Addr} {fd : FuncData} (F : Fun K "lot_of" "lot_of" sLotOf f fd) (B : NoNames mg) (OF : Own P w K mg base 5 "fewest_from" ["net", "stop"] (spFew tb)) : FnOk P w K mg base CX0 6 f fd ["net", "stop"] (spLotOf tb) := by
  obtain ⟨fF, fdF, GF, mF, kF, bF⟩ := OF.ex
  refine F.ok scLotOf (fun vs H Q E h => ?_) (fun cdv A outer s H vs Q E hr h => ?_)
  · obtain ⟨a, b, n, s, ts, ars, rfl, _⟩ := h
    rfl
  · obtain ⟨a, b, n, s, ts, ars, rfl, N, AR, hs, hT, k⟩ := h
    have hu := hu_of hr
    refine ⟨_, pss_cons (ps_asg (pv 0) (pg_tup (by rfl) (pgs_cons (pg_name (i := 2) scLotOf.nd rfl (.inl rfl)) (pgs_cons (pg_name (i := 3) scLotOf.nd rfl (.inl rfl)) pgs_nil)))) <|
      pss_cons (ps_set (i := 4) scLotOf.nd rfl (.inr rfl) (pe_call GF hr rfl mF kF bF .nil pass0 (pa_cons (pv 0) (pa_cons (pv 1) pa_nil)))) <|
      pss_cons (ps_set (i := 5) scLotOf.nd rfl (.inr rfl) (pe_call GF hr rfl mF kF bF .nil pass0 (pa_cons (pe_tup (pa_cons (pv 2) (pa_cons (pe_callTy call_tuple_of (by rfl) B.tuple (by decide +kernel) (pa_cons
        (pe_lc (own := [("v", 6), ("w", 7)]) (g := gTup K 2 (gCons (gName 6) (gCons (gName 7) gNil))) (tt := tYes) rfl scLotOf.nd (pi_tup (pv 3)) (blkOk_by (own := [("v", 6), ("w", 7)]) (N := nLotOf) (sc := defScope sLotOf) (by decide +kernel))
          (fun _ _ _ _ _ => pg_tup rfl (pgs_cons (pg_name (i := 6) scLotOf.nd rfl (Or.inl rfl)) (pgs_cons (pg_name (i := 7) scLotOf.nd rfl (Or.inl rfl)) pgs_nil))) (fun _ _ _ _ _ => pts_nil)
          (fun _ _ _ _ _ => pe_tup (pa_cons (pv 7) (pa_cons (pv 6) pa_nil)))) pa_nil)) pa_nil))) (pa_cons (pv 1) pa_nil)))) <|
      pss_one (ps_ret (pe_callTy call_tuple_of (by rfl) B.tuple (by decide +kernel) (pa_cons
        (pe_lc (own := [("other", 8)]) (g := gName 8) rfl scLotOf.nd (pi_range1 (by rfl) B.range (pa_cons (pv 2) pa_nil)) (blkOk_by (own := [("other", 8)]) (N := nLotOf) (sc := defScope sLotOf) (by decide +kernel))
          (fun _ _ _ _ _ => pg_name (i := 8) scLotOf.nd rfl (Or.inl rfl)) (fun _ _ _ _ _ => pts_one (PW.pt (pw_and (pt_cmp (pc_din hu (pv 8) (pv 4))) (pw_and1 (pt_cmp (pc_din hu (pv 8) (pv 5))))))) (fun _ _ _ _ _ => pv 8)) pa_nil))), ?_⟩
    have n1 := N.n1
    have n2 := N.n2
    refine ⟨_, rfl, a, _, rfl, SqT.of N.a, rfl, _, _, rfl, _, _, rfl, rfl, ?_⟩
    refine ⟨_, rfl, _, rfl, a, b, n, s, ts, ars, rfl, N, AR, hs, hT, fun r1 ks1 H1 x1 hT1 hr1 nd1 d1 => ?_⟩
    have t1 : TupS H H1 := TupS.extG x1
    have N1 := N.keep t1
    have AR1 := AR.keep t1
    refine ⟨_, rfl, _, rfl, b, rfl, ⟨_, N1.sq⟩, fun D nD => ?_⟩
    refine lc_it (walk_tup (xs := ts)) (fun i H' => ∃ xs : List V, H' D = some (.lst xs) ∧ xs.length = i ∧ ArsAt H' xs ((ars.take i).map swE) ∧ Arrs n H' xs ∧ Same H1 H') ⟨[], upd_same, rfl, by rw [List.take_zero]; exact .nil, fun _ h => (List.not_mem_nil h).elim, same_new nD⟩ (fun i H' _ h => by obtain ⟨_, _, _, _, _, e⟩ := h; exact (N1.keep (.of e)).sq) ?_ ?_
    · rintro i x Hb Ha hi ⟨xs, h1, h2, h3, h4, h5⟩ ⟨rfl, ex⟩
      obtain ⟨e, t, he, rfl, ht⟩ := AR1.at ex
      refine ⟨t, _, rfl, SqT.of (h5 _ _ ht), rfl, _, _, rfl, _, _, rfl, rfl, ?_⟩
      refine ⟨rfl, ?_⟩
      dsimp only [tYes]
      rw [if_pos rfl]
      refine ⟨_, rfl, _, rfl, by show 2 ≤ sizeLine; decide, fun q nq => ?_⟩
      have sq : Same Ha (upd Ha q (.tup [.int e.2, .int e.1])) := same_new nq
      have h1' := sq _ _ h1
      have qD : q ≠ D := fun z => by
        rw [z, h1] at nq
        cases nq
      have hq : (upd Ha q (.tup [.int e.2, .int e.1])) q = some (.tup [.int e.2, .int e.1]) := upd_same
      have s6 := h5.trans sq
      have h3' := h3.keep (.of sq)
      have h4' := h4.keep (.of sq)
      generalize (upd Ha q (.tup [.int e.2, .int e.1])) = H6 at h1' hq s6 h3' h4' ⊢
      have tu : TupS H6 (upd H6 D (.lst (xs ++ [.ref q]))) := TupS.lst h1'
      have me := List.mem_of_getElem? he
      have ie := ars_inn N.arr AR e me
      refine ⟨xs, h1', by rw [h2, sizeLine_eq]; have := N.len; omega, xs ++ [.ref q], upd_same, by rw [List.length_append, h2]; rfl, ?_, fun y hy => ?_, fun c o ec => ?_⟩
      · rw [List.take_add_one, he, List.map_append]
        exact (h3'.keep tu).app (.cons ⟨q, rfl, tu _ _ hq⟩ .nil)
      · rcases List.mem_append.mp hy with z | z
        · exact (h4' y z).keep tu
        · rw [List.mem_singleton.mp z]
          exact ⟨q, e.2, e.1, rfl, tu _ _ hq, ie.2, ie.1⟩
      · rw [upd_ne (ne_of_none ec nD)]
        exact s6 _ _ ec
    · rintro Ha ⟨xs, h1, h2, h3, h4, h5⟩
      rw [List.take_of_length_le (Nat.le_of_eq AR.len.symm)] at h3
      refine ⟨D, xs, rfl, .inl ⟨SqL.of h1, fun T1 nT1 => ⟨by show 2 ≤ sizeLine; decide, fun T2 nT2 => ?_⟩⟩⟩
      have s2 : Same Ha (upd Ha T1 (.tup xs)) := same_new nT1
      have s3 : Same (upd Ha T1 (.tup xs)) (upd (upd Ha T1 (.tup xs)) T2 (.tup [.int n, .ref T1])) := same_new nT2
      have e1 := s3 _ _ (upd_same (H := Ha) (a := T1) (o := .tup xs))
      have e2 : (upd (upd Ha T1 (.tup xs)) T2 (.tup [.int n, .ref T1])) T2 = some (.tup [.int n, .ref T1]) := upd_same
      have s4 := h5.trans (s2.trans s3)
      have h3' := (h3.keep (.of s2)).keep (.of s3)
      have h4' := (h4.keep (.of s2)).keep (.of s3)
      generalize (upd (upd Ha T1 (.tup xs)) T2 (.tup [.int n, .ref T1])) = H4 at e1 e2 s4 h3' h4' ⊢
      refine ⟨_, rfl, T2, T1, n, s, xs, ars.map swE, rfl, ⟨e2, .inl e1, h4', by rw [h2]; exact N.len, n1, n2⟩, h3', hs, hT1.ext s4, fun r2 ks2 H5 x5 hT5 hr5 nd5 d5 => ?_⟩
      have hr1' := x5 _ _ (s4 _ _ hr1) fun ps z => nomatch z
      refine ⟨_, rfl, n, rfl, by omega, by omega, fun D2 nD2 => ?_⟩
      refine lc_it walk_range (fun j H' => ∃ os : List Int, H' D2 = some (.lst (os.map V.int)) ∧ os.length ≤ j ∧ os.Pairwise (· < ·) ∧ (∀ o, o ∈ os ↔ (0 ≤ o ∧ o < (j : Int)) ∧ Both2 ars s o) ∧ Same H5 H') ⟨[], upd_same, Nat.le_refl _, .nil, fun o => ⟨fun h => (List.not_mem_nil h).elim, fun h => by have := h.1; omega⟩, same_new nD2⟩ (fun _ _ _ _ => trivial) ?_ ?_
      · rintro j x Hb Hc hj ⟨os, g1, g2, g3, g4, g5⟩ ⟨rfl, rfl⟩
        refine ⟨rfl, ?_⟩
        refine ⟨_, rfl, _, rfl, r1, _, rfl, DGet.k (k := .inl (0 + (j : Int))) (g5 _ _ hr1'), ?_⟩
        have pos : ∀ e ∈ ars, 0 ≤ e.1 ∧ 0 ≤ e.2 := fun e he => ⟨(ars_inn N.arr AR e he).1.1, (ars_inn N.arr AR e he).2.1⟩
        have q1 := kn_some (v := 0 + (j : Int)) nd1 d1
        have q2 := (kn_some (v := 0 + (j : Int)) nd5 d5).trans (exists_congr fun k => path_turn pos)
        have skip : ¬ Both2 ars s (0 + (j : Int)) → ∀ {H' : Hp}, H' D2 = some (.lst (os.map V.int)) → Same H5 H' → ∃ os : List Int, H' D2 = some (.lst (os.map V.int)) ∧ os.length ≤ j + 1 ∧ os.Pairwise (· < ·) ∧ (∀ o, o ∈ os ↔ (0 ≤ o ∧ o < ((j + 1 : Nat) : Int)) ∧ Both2 ars s o) ∧ Same H5 H' := fun no H' a1 a2 =>
          ⟨os, a1, by omega, g3, fun o => by
            rw [g4 o]
            constructor
            · rintro ⟨h1, h2⟩
              exact ⟨⟨h1.1, by omega⟩, h2⟩
            · rintro ⟨h1, h2⟩
              refine ⟨⟨h1.1, ?_⟩, h2⟩
              by_cases z : o = 0 + (j : Int)
              · rw [z] at h2
                exact absurd h2 no
              · omega, a2⟩
        refine ⟨_, rfl, ?_⟩
        cases c1 : (valV (knV ks1) (.inl (0 + (j : Int)) : Key)).isSome with
        | false => exact iteF (iteF (skip (fun z => by rw [q1.mpr z.1] at c1; cases c1) g1 g5))
        | true =>
          refine iteT ⟨_, rfl, _, rfl, r2, _, rfl, DGet.k (k := .inl (0 + (j : Int))) (g5 _ _ hr5), _, rfl, ?_⟩
          cases c2 : (valV (knV ks2) (.inl (0 + (j : Int)) : Key)).isSome with
          | false => exact iteF (skip (fun z => by rw [q2.mpr z.2] at c2; cases c2) g1 g5)
          | true =>
            have yes : Both2 ars s (0 + (j : Int)) := ⟨q1.mp c1, q2.mp c2⟩
            refine iteT ⟨_, rfl, _, g1, by rw [List.length_map, sizeLine_eq]; omega, os ++ [0 + (j : Int)], by rw [upd_same, List.map_append]; rfl, by rw [List.length_append]; simp only [List.length_cons, List.length_nil]; omega, ?_, fun o => ?_, fun c o ec => ?_⟩
            · refine List.pairwise_append.mpr ⟨g3, List.pairwise_singleton _ _, fun x hx y hy => ?_⟩
              rw [List.mem_singleton.mp hy]
              have := ((g4 x).mp hx).1
              omega
            · rw [List.mem_append, g4 o, List.mem_singleton]
              constructor
              · rintro (⟨h1, h2⟩ | rfl)
                · exact ⟨⟨h1.1, by omega⟩, h2⟩
                · exact ⟨⟨by omega, by omega⟩, yes⟩
              · rintro ⟨h1, h2⟩
                by_cases z : o = 0 + (j : Int)
                · exact .inr z
                · exact .inl ⟨⟨h1.1, by omega⟩, h2⟩
            · rw [upd_ne (ne_of_none ec nD2)]
              exact g5 _ _ ec
      · rintro Hc ⟨os, g1, g2, g3, g4, g5⟩
        refine ⟨D2, _, rfl, .inl ⟨SqL.of g1, fun T3 nT3 => ?_⟩⟩
        have s6 := g5.trans (same_new (o := .tup (os.map V.int)) nT3)
        refine k T3 os _ (x1.trans ((ExtN.of s4).trans (x5.trans (ExtN.of s6)))) (hT5.ext s6) upd_same g3 fun o => ?_
        rw [g4 o]
        have en : ((n.toNat : Nat) : Int) = n := Int.toNat_of_nonneg (by omega)
        unfold Inn
        rw [en]
end
end Sw
namespace Sw
open PySem PySem.Spec PyProof.Rows L2 LamX
/-! ### any of a list of truth values; lots -/
section
variable {K : PySem.W.Frag} {H : Hp}
theorem dp_bools : ∀ bs : List Bool, DpAll K H (bs.map V.bl) (bs.map PyData.bool)
  | [] => .nil
  | b :: r => .cons (.bl b) (dp_bools r)
end
theorem bools_plain : ∀ bs : List Bool, PyData.plainAll (bs.map PyData.bool) = true
  | [] => by simp [PyData.plainAll]
  | b :: r => by
    rw [List.map_cons, PyData.plainAll, bools_plain r]
    simp [PyData.plain]
theorem call_anyB {X : Cx} {k : Nat} (hr : Room k X.A) : CallR X (.builtin "any") (fun xs H Q => ∃ (a : Addr) (bs : List Bool), xs = [.ref a] ∧ SqL X.K H a (bs.map V.bl) ∧ Q (.bl (bs.any id)) H) := by
  intro pins s σ H xs us Q I r h
  obtain ⟨a, bs, rfl, ha, q⟩ := h
  obtain ⟨u, rfl, hu⟩ := vals1 r
  cases (show u = Value.ref a from hu)
  obtain ⟨its, rv, pl, hz⟩ := I.list ha
  obtain ⟨as, ra⟩ := Dp.readsAll I (bs.map PyData.bool) _ its (dp_bools bs) rv
  refine PySem.W.any_list_data (vs := its.toArray) (xs := bs.map PyData.bool) (as := as) hr.hd pl.isList (by simpa using ra) (bools_plain bs) (fun x hx => ?_) fun h' tk hk => ⟨.bl _, H, I.kept (t' := tk) hk, rfl, ?_⟩
  · obtain ⟨b, _, rfl⟩ := List.mem_map.mp hx
    trivial
  · have e : (bs.map PyData.bool).any PyData.truthy = bs.any id := by
      rw [List.any_map]
      rfl
    rw [e]
    exact q
theorem Path.app {next : Int → List Int} {k j : Nat} {a b c : Int} (h : Path next k a b) (g : Path next j b c) : Path next (k + j) a c := by
  induction g with
  | nil b => exact h
  | snoc p q ih => exact .snoc (ih h) q
theorem Both2.symm {ars : List (Int × Int)} {a b : Int} (h : Both2 ars a b) : Both2 ars b a := ⟨h.2, h.1⟩
theorem Both2.refl {ars : List (Int × Int)} (a : Int) : Both2 ars a a := ⟨⟨0, .nil a⟩, ⟨0, .nil a⟩⟩
theorem Both2.trans {ars : List (Int × Int)} {a b c : Int} (h : Both2 ars a b) (g : Both2 ars b c) : Both2 ars a c := by
  obtain ⟨⟨k1, p1⟩, k2, p2⟩ := h
  obtain ⟨⟨k3, p3⟩, k4, p4⟩ := g
  exact ⟨⟨_, p1.app p3⟩, _, p4.app p2⟩
/-- the lot of s, its least -/
structure LotP (n : Int) (ars : List (Int × Int)) (L : List Int) (s : Int) : Prop where
  hd : L.head? = some s
  inn : Inn n s
  asc : L.Pairwise (· < ·)
  is : ∀ o, o ∈ L ↔ Inn n o ∧ Both2 ars s o
/-- the lots of all below i, by their least ones -/
structure LotsP (n : Int) (ars : List (Int × Int)) (Ls : List (List Int)) (i : Int) : Prop where
  each : ∀ L ∈ Ls, ∃ s, s < i ∧ LotP n ars L s
  all : ∀ v, 0 ≤ v → v < i → ∃ L ∈ Ls, v ∈ L
  asc : Ls.Pairwise fun A B => ∀ a b, A.head? = some a → B.head? = some b → a < b
theorem LotsP.start {n : Int} {ars : List (Int × Int)} : LotsP n ars [] 0 := ⟨fun L h => (List.not_mem_nil h).elim, fun v h1 h2 => by omega, .nil⟩
theorem LotsP.skip {n i : Int} {ars : List (Int × Int)} {Ls : List (List Int)} (h : LotsP n ars Ls i) (hi : ∃ L ∈ Ls, i ∈ L) : LotsP n ars Ls (i + 1) := by
  refine ⟨fun L hL => ?_, fun v h1 h2 => ?_, h.asc⟩
  · obtain ⟨s, hs, p⟩ := h.each L hL
    exact ⟨s, by omega, p⟩
  · by_cases z : v = i
    · rw [z]
      exact hi
    · exact h.all v h1 (by omega)
theorem LotsP.add {n i : Int} {ars : List (Int × Int)} {Ls : List (List Int)} {os : List Int} (h : LotsP n ars Ls i) (hn : Inn n i) (no : ∀ L ∈ Ls, i ∉ L) (asc : os.Pairwise (· < ·)) (is : ∀ o, o ∈ os ↔ Inn n o ∧ Both2 ars i o) : LotsP n ars (Ls ++ [os]) (i + 1) := by
  have mi : i ∈ os := (is i).mpr ⟨hn, .refl i⟩
  have least : ∀ o, o ∈ os → i ≤ o := fun o ho => by
    obtain ⟨h1, h2⟩ := (is o).mp ho
    by_cases z : o < i
    · obtain ⟨L, hL, oL⟩ := h.all o h1.1 z
      obtain ⟨s, _, p⟩ := h.each L hL
      exact absurd ((p.is i).mpr ⟨hn, ((p.is o).mp oL).2.trans h2.symm⟩) (no L hL)
    · omega
  have hd : os.head? = some i := by
    cases os with
    | nil => cases mi
    | cons a r =>
      rcases List.mem_cons.mp mi with z | z
      · rw [z]; rfl
      · have h1 := (List.pairwise_cons.mp asc).1 i z
        have h2 := least a List.mem_cons_self
        omega
  refine ⟨fun L hL => ?_, fun v h1 h2 => ?_, List.pairwise_append.mpr ⟨h.asc, List.pairwise_singleton _ _, fun A hA B hB a b ha hb => ?_⟩⟩
  · rcases List.mem_append.mp hL with z | z
    · obtain ⟨s, hs, p⟩ := h.each L z
      exact ⟨s, by omega, p⟩
    · rw [List.mem_singleton.mp z]
      exact ⟨i, by omega, hd, hn, asc, is⟩
  · by_cases z : v = i
    · exact ⟨os, List.mem_append_right _ (List.mem_singleton.mpr rfl), by rw [z]; exact mi⟩
    · obtain ⟨L, hL, q⟩ := h.all v h1 (by omega)
      exact ⟨L, List.mem_append_left _ hL, q⟩
  · rw [List.mem_singleton.mp hB, hd] at hb
    cases hb
    obtain ⟨s, hs, p⟩ := h.each A hA
    rw [p.hd] at ha
    cases ha
    exact hs
theorem inV_os (x : Int) (os : List Int) : inV (.int x) (os.map V.int) = os.contains x := by
  unfold inV
  rw [List.any_map]
  induction os with
  | nil => rfl
  | cons a r ih =>
    rw [List.any_cons, List.contains_cons, ih]
    congr 1
    show (a == x) = (x == a)
    exact Bool.eq_iff_iff.mpr ⟨fun h => by simpa using (beq_iff_eq.mp h).symm, fun h => by simpa using (beq_iff_eq.mp h).symm⟩
theorem flat_ints (os : List Int) : (os.map V.int).all flatV = true := by
  rw [List.all_map]
  exact List.all_eq_true.mpr fun _ _ => rfl
/-- lists of whole numbers as tuples -/
def TupsAt (H : Hp) (ts : List Addr) (Ls : List (List Int)) : Prop := Paired (fun (t : Addr) (L : List Int) => H t = some (.tup (L.map V.int))) ts Ls
theorem TupsAt.keep {H H' : Hp} {ts : List Addr} {Ls : List (List Int)} (h : TupsAt H ts Ls) (s : TupS H H') : TupsAt H' ts Ls := by
  unfold TupsAt at *
  induction h with
  | nil => exact .nil
  | cons q t ih => exact .cons (s _ _ q) ih
theorem TupsAt.len {H : Hp} {ts : List Addr} {Ls : List (List Int)} (h : TupsAt H ts Ls) : ts.length = Ls.length := by
  unfold TupsAt at h
  induction h with
  | nil => rfl
  | cons q t ih => rw [List.length_cons, List.length_cons, ih]
theorem TupsAt.at {H : Hp} {ts : List Addr} {Ls : List (List Int)} (h : TupsAt H ts Ls) : ∀ {i : Nat} {t : Addr}, ts[i]? = some t → ∃ L, Ls[i]? = some L ∧ H t = some (.tup (L.map V.int)) := by
  unfold TupsAt at h
  induction h with
  | nil => intro i t e; simp at e
  | @cons t0 L0 ts Ls q r ih =>
    intro i t e
    cases i with
    | zero =>
      have e : some t0 = some t := e
      cases e
      exact ⟨L0, rfl, q⟩
    | succ i => exact ih (i := i) e
theorem TupsAt.snoc {H : Hp} {ts : List Addr} {Ls : List (List Int)} {t : Addr} {L : List Int} (h : TupsAt H ts Ls) (e : H t = some (.tup (L.map V.int))) : TupsAt H (ts ++ [t]) (Ls ++ [L]) := by
  unfold TupsAt at *
  induction h with
  | nil => exact .cons e .nil
  | cons q r ih => exact .cons q ih
theorem tabs_upd {T : List (Addr × Str)} {H : Hp} {a : Addr} {xs : List V} {o : HO} (h : Tabs T H) (ha : H a = some (.lst xs)) : Tabs T (upd H a o) := fun p hp => by
  obtain ⟨ps, h1, h2, h3⟩ := h p hp
  refine ⟨ps, ?_, h2, fun pos cv hc => ?_⟩
  · rw [upd_ne fun z => by rw [z, ha] at h1; cases h1]
    exact h1
  · obtain ⟨c, e1, e2⟩ := h3 pos cv hc
    refine ⟨c, e1, ?_⟩
    rw [upd_ne fun z => by
      rw [z, ha] at e2
      have e3 : HO.lst xs = HO.ext _ := Option.some.inj e2
      cases e3]
    exact e2
theorem any_has {Ls : List (List Int)} {i : Int} : (Ls.map fun L => L.contains i).any id = true ↔ ∃ L ∈ Ls, i ∈ L := by
  rw [List.any_map, List.any_eq_true]
  constructor
  · rintro ⟨L, hL, h⟩
    exact ⟨L, hL, List.contains_iff_mem.mp h⟩
  · rintro ⟨L, hL, h⟩
    exact ⟨L, hL, List.contains_iff_mem.mpr h⟩
end Sw
namespace Sw
/-! ### lots are told but by one list -/
theorem asc_same : ∀ {l l' : List Int}, l.Pairwise (· < ·) → l'.Pairwise (· < ·) → (∀ x, x ∈ l ↔ x ∈ l') → l = l'
  | [], [], _, _, _ => rfl
  | [], b :: r, _, _, h => (List.not_mem_nil ((h b).mpr List.mem_cons_self)).elim
  | a :: r, [], _, _, h => (List.not_mem_nil ((h a).mp List.mem_cons_self)).elim
  | a :: r, b :: r', p, q, h => by
    obtain ⟨pa, pr⟩ := List.pairwise_cons.mp p
    obtain ⟨qb, qr⟩ := List.pairwise_cons.mp q
    have e : a = b := by
      rcases List.mem_cons.mp ((h a).mp List.mem_cons_self) with z | z
      · exact z
      · rcases List.mem_cons.mp ((h b).mpr List.mem_cons_self) with y | y
        · exact y.symm
        · have := qb a z
          have := pa b y
          omega
    subst e
    rw [asc_same pr qr fun x => ?_]
    constructor
    · intro hx
      rcases List.mem_cons.mp ((h x).mp (List.mem_cons_of_mem _ hx)) with z | z
      · have := pa x hx
        omega
      · exact z
    · intro hx
      rcases List.mem_cons.mp ((h x).mpr (List.mem_cons_of_mem _ hx)) with z | z
      · have := qb x hx
        omega
      · exact z
theorem LotP.uniq {n s : Int} {ars : List (Int × Int)} {L L' : List Int} (h : LotP n ars L s) (g : LotP n ars L' s) : L = L' := asc_same h.asc g.asc fun o => (h.is o).trans (g.is o).symm
theorem LotP.least {n s : Int} {ars : List (Int × Int)} {L : List Int} (h : LotP n ars L s) : ∀ o, Inn n o → Both2 ars s o → s ≤ o := fun o ho hb => by
  have m := (h.is o).mpr ⟨ho, hb⟩
  cases L with
  | nil => cases m
  | cons a r =>
    have e : a = s := Option.some.inj h.hd
    rcases List.mem_cons.mp m with z | z
    · omega
    · have := (List.pairwise_cons.mp h.asc).1 o z
      omega
/-- the least one of a lot -/
def headD (L : List Int) : Int := L.head?.getD 0
theorem LotsP.heads {n : Int} {ars : List (Int × Int)} {Ls : List (List Int)} (h : LotsP n ars Ls n) : (Ls.map headD).Pairwise (· < ·) ∧ ∀ s, s ∈ Ls.map headD ↔ Inn n s ∧ ∀ o, Inn n o → Both2 ars s o → s ≤ o := by
  have hh : ∀ L ∈ Ls, ∃ s, L.head? = some s ∧ LotP n ars L s := fun L hL => by
    obtain ⟨s, _, p⟩ := h.each L hL
    exact ⟨s, p.hd, p⟩
  constructor
  · rw [List.pairwise_map]
    refine h.asc.imp_of_mem fun {A B} hA hB r => ?_
    obtain ⟨a, ea, _⟩ := hh A hA
    obtain ⟨b, eb, _⟩ := hh B hB
    unfold headD
    rw [ea, eb]
    exact r a b ea eb
  · intro s
    rw [List.mem_map]
    constructor
    · rintro ⟨L, hL, e⟩
      obtain ⟨a, ea, p⟩ := hh L hL
      unfold headD at e
      rw [ea] at e
      have e : a = s := e
      subst e
      exact ⟨p.inn, p.least⟩
    · rintro ⟨hs, least⟩
      obtain ⟨L, hL, sL⟩ := h.all s hs.1 hs.2
      obtain ⟨a, ea, p⟩ := hh L hL
      refine ⟨L, hL, ?_⟩
      unfold headD
      rw [ea]
      show a = s
      have h1 := p.least s hs ((p.is s).mp sL).2
      have h2 := least a p.inn ((p.is s).mp sL).2.symm
      omega
theorem LotsP.uniq {n : Int} {ars : List (Int × Int)} {Ls Ls' : List (List Int)} (h : LotsP n ars Ls n) (g : LotsP n ars Ls' n) : Ls = Ls' := by
  have e : Ls.map headD = Ls'.map headD := asc_same h.heads.1 g.heads.1 fun s => (h.heads.2 s).trans (g.heads.2 s).symm
  have len : Ls.length = Ls'.length := by
    have := congrArg List.length e
    rwa [List.length_map, List.length_map] at this
  refine List.ext_getElem len fun i h1 h2 => ?_
  have ei : headD Ls[i] = headD Ls'[i] := by
    have q : (Ls.map headD)[i]? = (Ls'.map headD)[i]? := by rw [e]
    rw [List.getElem?_map, List.getElem?_map, List.getElem?_eq_getElem h1, List.getElem?_eq_getElem h2] at q
    exact Option.some.inj q
  obtain ⟨a, _, p⟩ := h.each _ (List.getElem_mem h1)
  obtain ⟨b, _, q⟩ := g.each _ (List.getElem_mem h2)
  have ea : headD Ls[i] = a := by unfold headD; rw [p.hd]; rfl
  have eb : headD Ls'[i] = b := by unfold headD; rw [q.hd]; rfl
  have ab : a = b := by rw [← ea, ← eb, ei]
  subst ab
  exact p.uniq q
end Sw
namespace Sw
/-! ### the beat: what divides the numbers of steps of all rounds at a stop, and is greatest -/
section
variable {ars : List (Int × Int)} {n : Int}
theorem Rch.one {e : Int × Int} (h : e ∈ ars) : Rch ars 1 e.1 e.2 := .cons h (.nil _)
/-- d divides the numbers of steps of all rounds at s -/
def Divs (ars : List (Int × Int)) (s : Int) (d : Nat) : Prop := ∀ k, Rch ars k s s → d ∣ k
/-- of those of fewer than m steps -/
def DivsTo (ars : List (Int × Int)) (s : Int) (m d : Nat) : Prop := ∀ k, k < m → Rch ars k s s → d ∣ k
/-- d divides the slips: f tells the fewest steps -/
def Slips (ars : List (Int × Int)) (s : Int) (f : Int → Int) (d : Nat) : Prop := ∀ e ∈ ars, Both2 ars s e.1 → Both2 ars s e.2 → (d : Int) ∣ f e.1 + 1 - f e.2
/-- a way within the lot: its slips add up -/
theorem slips_way {s : Int} {f : Int → Int} {d : Nat} (nx : ∀ b c, c ∈ nextOf ars b ↔ (b, c) ∈ ars) (S : Slips ars s f d) : ∀ {k : Nat} {a b : Int}, Rch ars k a b → Both2 ars s a → Both2 ars s b → (d : Int) ∣ f a + k - f b
  | _, _, _, .nil a, _, _ => by
    rw [show f a + ((0 : Nat) : Int) - f a = 0 by omega]
    exact Int.dvd_zero _
  | _, _, _, @Rch.cons _ k a b c m r, ha, hc => by
    have hb : Both2 ars s b := by
      obtain ⟨⟨k1, p1⟩, k2, p2⟩ := ha
      obtain ⟨⟨k3, p3⟩, k4, p4⟩ := hc
      exact ⟨⟨_, p1.app ((rch_path nx).mp (Rch.one m))⟩, _, ((rch_path nx).mp r).app p4⟩
    have h1 := S (a, b) m ha hb
    have h2 := slips_way nx S r hb hc
    have := Int.dvd_add h1 h2
    rw [show f a + ((k + 1 : Nat) : Int) - f c = f (a, b).1 + 1 - f (a, b).2 + (f b + (k : Int) - f c) by dsimp only; omega]
    exact this
theorem slips_divs {s : Int} {f : Int → Int} {d : Nat} (nx : ∀ b c, c ∈ nextOf ars b ↔ (b, c) ∈ ars) (S : Slips ars s f d) : Divs ars s d := fun k h => by
  have := slips_way nx S h (.refl s) (.refl s)
  rw [show f s + (k : Int) - f s = (k : Int) by omega] at this
  exact Int.natCast_dvd_natCast.mp this
/-- what divides the short rounds divides the slips -/
theorem divs_slips {s : Int} {f : Int → Int} {d : Nat} (inn : ∀ e ∈ ars, Inn n e.1 ∧ Inn n e.2) (n1 : 1 ≤ n) (hs : Inn n s) (hf : ∀ v k, Dist (nextOf ars) s v k → f v = (k : Int)) (D : DivsTo ars s (3 * n.toNat + 1) d) : Slips ars s f d := by
  have nx : ∀ b c, c ∈ nextOf ars b ↔ (b, c) ∈ ars := fun b c => next_mem.trans ⟨fun h => h.2, fun h => ⟨(inn _ h).1.1, h⟩⟩
  have near : ∀ v, Both2 ars s v → ∃ k, k < n.toNat ∧ Rch ars k s v ∧ f v = (k : Int) := fun v hv => by
    obtain ⟨⟨k0, p0⟩, _⟩ := hv
    obtain ⟨k, _, d⟩ := p0.fewest
    obtain ⟨i, hi, r⟩ := ((rch_path nx).mpr p0).few inn hs
    have le : k ≤ i := by
      have := d.2 i
      by_cases z : i < k
      · exact (this z ((rch_path nx).mp r)).elim
      · omega
    exact ⟨k, by omega, (rch_path nx).mpr d.1, hf v k d⟩
  intro e he h1 h2
  obtain ⟨k1, l1, r1, f1⟩ := near e.1 h1
  obtain ⟨k2, l2, r2, f2⟩ := near e.2 h2
  obtain ⟨k3, p3⟩ := h2.2
  obtain ⟨k, l3, r3⟩ := ((rch_path nx).mpr p3).few inn (inn e he).2
  have c1 := D (k1 + 1 + k) (by omega) ((r1.app (Rch.one he)).app r3)
  have c2 := D (k2 + k) (by omega) (r2.app r3)
  rw [f1, f2]
  have := Int.dvd_sub (Int.natCast_dvd_natCast.mpr c1) (Int.natCast_dvd_natCast.mpr c2)
  rw [show (k1 : Int) + 1 - (k2 : Int) = ((k1 + 1 + k : Nat) : Int) - ((k2 + k : Nat) : Int) by omega]
  exact this
/-- what is greatest among what divides -/
structure Great (p : Nat → Prop) (g : Nat) : Prop where
  is : p g
  top : ∀ d, p d → d ∣ g
theorem Great.uniq {p q : Nat → Prop} {g h : Nat} (a : Great p g) (b : Great q h) (e : ∀ d, p d ↔ q d) : g = h :=
  Nat.dvd_antisymm (b.top g ((e g).mp a.is)) (a.top h ((e h).mpr b.is))
/-- the beat by slips is that by rounds, and that by short rounds -/
theorem divs_all {s : Int} {f : Int → Int} {d : Nat} (inn : ∀ e ∈ ars, Inn n e.1 ∧ Inn n e.2) (n1 : 1 ≤ n) (hs : Inn n s) (hf : ∀ v k, Dist (nextOf ars) s v k → f v = (k : Int)) : (Slips ars s f d ↔ Divs ars s d) ∧ (DivsTo ars s (3 * n.toNat + 1) d ↔ Divs ars s d) := by
  have nx : ∀ b c, c ∈ nextOf ars b ↔ (b, c) ∈ ars := fun b c => next_mem.trans ⟨fun h => h.2, fun h => ⟨(inn _ h).1.1, h⟩⟩
  have b : DivsTo ars s (3 * n.toNat + 1) d → Divs ars s d := fun h => slips_divs nx (divs_slips inn n1 hs hf h)
  exact ⟨⟨slips_divs nx, fun h => divs_slips inn n1 hs hf fun k _ r => h k r⟩, b, fun h k _ r => h k r⟩
/-- stops of one lot have one beat -/
theorem divs_lot {s t : Int} {d : Nat} (nx : ∀ b c, c ∈ nextOf ars b ↔ (b, c) ∈ ars) (h : Both2 ars s t) (D : Divs ars s d) : Divs ars t d := fun k r => by
  obtain ⟨⟨i, p⟩, j, q⟩ := h
  have p := (rch_path nx).mpr p
  have q := (rch_path nx).mpr q
  have a := D _ (p.app q)
  have b := D _ ((p.app r).app q)
  have e : i + k + j = (i + j) + k := by omega
  rw [e] at b
  exact (Nat.dvd_add_right a).mp b
end
end Sw
namespace Sw
open PySem PySem.Spec PyProof.Rows L2 LamX
/-! ### beat -/
abbrev sPBeat : Stmt := top 10
abbrev nPBeat : List Str := ["net", "stop", "own", "fewest", "greatest", "v", "w"]
theorem scPBeat : FnScope nPBeat ["net", "stop"] (defScope sPBeat) := ⟨rfl, rfl, rfl, by decide +kernel, rfl, by decide +kernel, by decide +kernel⟩
theorem inV_oi {x : Int} {ns : List Int} : inV (.int x) (ns.map V.int) = true ↔ x ∈ ns := by
  constructor
  · intro h
    obtain ⟨y, hy, e⟩ := List.any_eq_true.mp h
    obtain ⟨z, hz, rfl⟩ := List.mem_map.mp hy
    have e : (z == x) = true := e
    exact beq_iff_eq.mp e ▸ hz
  · intro h
    exact List.any_eq_true.mpr ⟨.int x, List.mem_map.mpr ⟨x, h, rfl⟩, beq_self_eq_true x⟩
/-- the fewest steps as a function -/
def fV (ks : List (Int × Nat)) (v : Int) : Int := match valV (knV ks) (.inl v : Key) with
  | some (.int i) => i
  | _ => 0
theorem fV_is {next : Int → List Int} {s : Int} {ks : List (Int × Nat)} (nd : (ks.map Prod.fst).Nodup) (d : ∀ v k, (v, k) ∈ ks ↔ Dist next s v k) (v : Int) (k : Nat) (h : Dist next s v k) : fV ks v = (k : Int) := by
  unfold fV
  rw [kn_val nd ((d v k).mpr h)]
theorem fV_val {next : Int → List Int} {s : Int} {ks : List (Int × Nat)} (nd : (ks.map Prod.fst).Nodup) (d : ∀ v k, (v, k) ∈ ks ↔ Dist next s v k) {v : Int} (h : ∃ k, Path next k s v) : valV (knV ks) (.inl v : Key) = some (.int (fV ks v)) := by
  obtain ⟨k, p⟩ := h
  obtain ⟨j, _, q⟩ := p.fewest
  rw [fV_is nd d v j q, kn_val nd ((d v j).mpr q)]
/-- the greatest behind some arrows -/
def GrB (ars : List (Int × Int)) (s : Int) (f : Int → Int) (es : List (Int × Int)) (g : Nat) : Prop := ∀ d : Nat, d ∣ g ↔ ∀ e ∈ es, Both2 ars s e.1 → Both2 ars s e.2 → (d : Int) ∣ f e.1 + 1 - f e.2
theorem GrB.zero {ars : List (Int × Int)} {s : Int} {f : Int → Int} : GrB ars s f [] 0 := fun d => ⟨fun _ e he => (List.not_mem_nil he).elim, fun _ => Nat.dvd_zero _⟩
theorem GrB.skip {ars es : List (Int × Int)} {s : Int} {f : Int → Int} {g : Nat} {e : Int × Int} (h : GrB ars s f es g) (no : ¬ (Both2 ars s e.1 ∧ Both2 ars s e.2)) : GrB ars s f (es ++ [e]) g := fun d => by
  rw [h d]
  constructor
  · intro a x hx h1 h2
    rcases List.mem_append.mp hx with z | z
    · exact a x z h1 h2
    · rw [List.mem_singleton.mp z] at h1 h2
      exact (no ⟨h1, h2⟩).elim
  · intro a x hx
    exact a x (List.mem_append_left _ hx)
theorem GrB.take {ars es : List (Int × Int)} {s : Int} {f : Int → Int} {g : Nat} {e : Int × Int} (h : GrB ars s f es g) (b1 : Both2 ars s e.1) (b2 : Both2 ars s e.2) : GrB ars s f (es ++ [e]) (Nat.gcd g (f e.1 + 1 - f e.2).natAbs) := fun d => by
  rw [Nat.dvd_gcd_iff, h d, ← Int.ofNat_dvd_left]
  constructor
  · rintro ⟨a, b⟩ x hx h1 h2
    rcases List.mem_append.mp hx with z | z
    · exact a x z h1 h2
    · rw [List.mem_singleton.mp z]
      exact b
  · intro a
    exact ⟨fun x hx => a x (List.mem_append_left _ hx), a e (List.mem_append_right _ (List.mem_singleton.mpr rfl)) b1 b2⟩
section
variable {P : Program} {w : World} {K : PySem.W.Frag} {mg : Str → Option Value} {base : Heap}
def spPBeat (tb : Addr) : Sp := fun vs H Q _ => ∃ (a b : Addr) (n s : Int) (ts : List V) (ars : List (Int × Int)), vs = [.ref a, .int s] ∧ NetAt n H a b ts ∧ ArsAt H ts ars ∧ Inn n s ∧ Tabs (lamT tb) H ∧
  ∀ (g : Nat) (H' : Hp), ExtN H H' → Tabs (lamT tb) H' → Great (Divs ars s) g → Q (.int (g : Nat)) H'
theorem ok_pBeat {f tb : Addr} {fd : FuncData} (F : Fun K "beat" "beat" sPBeat f fd) (B : NoNames mg) (mG : mg "gcd" = some (.builtin "math.gcd")) (OF : Own P w K mg base 5 "fewest_from" ["net", "stop"] (spFew tb)) (OL : Own P w K mg base 6 "lot_of" ["net", "stop"] (spLotOf tb)) :
    FnOk P w K mg base CX0 7 f fd ["net", "stop"] (spPBeat tb) := by
  obtain ⟨fF, fdF, GF, mF, kF, bF⟩ := OF.ex
  obtain ⟨fL, fdL, GL, mL, kL, bL⟩ := OL.ex
  refine F.ok scPBeat (fun vs H Q E h => ?_) (fun cdv A outer s H vs Q E hr h => ?_)
  · obtain ⟨a, b, n, s, ts, ars, rfl, _⟩ := h
    rfl
  · obtain ⟨a, b, n, s, ts, ars, rfl, N, AR, hs, hT, k⟩ := h
    have hu := hu_of hr
    have hr6 := hr.mono (by decide : 5 ≤ 6)
    refine ⟨_, pss_cons (ps_set (i := 2) scPBeat.nd rfl (.inl rfl) (pe_call GL hr rfl mL kL bL .nil pass0 (pa_cons (pv 0) (pa_cons (pv 1) pa_nil)))) <|
      pss_cons (ps_set (i := 3) scPBeat.nd rfl (.inl rfl) (pe_call GF hr6 rfl mF kF bF .nil pass0 (pa_cons (pv 0) (pa_cons (pv 1) pa_nil)))) <|
      pss_cons (ps_set (i := 4) scPBeat.nd rfl (.inl rfl) pe_int) <|
      pss_cons (ps_for PassesOwn.never rfl (pi_tup (pe_ix ix_tup (pv 0) pe_int (fun _ _ => rfl))) (pg_tup rfl (pgs_cons (pg_name (i := 5) scPBeat.nd rfl (.inl rfl)) (pgs_cons (pg_name (i := 6) scPBeat.nd rfl (.inl rfl)) pgs_nil)))
        (pss_one (ps_if (PW.pt (pw_and (pt_cmpR (r := rIn K false) op_in_seq (pv 5) (pv 2) (by with_unfolding_all rfl)) (pw_and1 (pt_cmpR (r := rIn K false) op_in_seq (pv 6) (pv 2) (by with_unfolding_all rfl)))))
          (pss_one (ps_set (i := 4) scPBeat.nd rfl (.inl rfl) (pe_callBfun cr_gcd (by rfl) mG (pa_cons (pv 4) (pa_cons (pe_op op_sub (pe_op op_add (pe_dget hu (pv 3) (pv 5) (fun _ _ => rfl)) pe_int) (pe_dget hu (pv 3) (pv 6) (fun _ _ => rfl))) pa_nil))))) pss_nil))) <|
      pss_one (ps_ret (pv 4)), ?_⟩
    have n1 := N.n1
    have n2 := N.n2
    have inn := ars_inn N.arr AR
    refine ⟨_, rfl, _, rfl, a, b, n, s, ts, ars, rfl, N, AR, hs, hT, fun ro os H1 x1 hT1 hro asc own => ?_⟩
    have t1 : TupS H H1 := TupS.extG x1
    refine ⟨_, rfl, _, rfl, a, b, n, s, ts, ars, rfl, N.keep t1, AR.keep t1, hs, hT1, fun rf ks H2 x2 hT2 hrf nd kd => ?_⟩
    have x12 := x1.trans x2
    have t2 : TupS H H2 := TupS.extG x12
    have hro2 := x2 _ _ hro fun ps z => nomatch z
    have N2 := N.keep t2
    have AR2 := AR.keep t2
    refine ⟨_, rfl, a, _, 1, .ref b, rfl, rfl, SqT.of N2.a, at_of (j := 1) rfl rfl, b, rfl, ⟨_, N2.sq⟩, ?_⟩
    refine for_it (walk_tup (xs := ts)) (fun i σ Z => ∃ (g : Nat) (s5 s6 : Option V), σ = [some (.ref a), some (.int s), some (.ref ro), some (.ref rf), some (.int (g : Nat)), s5, s6] ∧ Z = H2 ∧ GrB ars s (fV ks) (ars.take i) g)
      ⟨0, _, _, rfl, rfl, by rw [List.take_zero]; exact .zero⟩ (fun i σ Z _ h => by obtain ⟨_, _, _, _, rfl, _⟩ := h; exact N2.sq) ?_ ?_
    · rintro i x σ Hb Hc hi ⟨g, s5, s6, rfl, rfl, G⟩ ⟨rfl, ex⟩
      obtain ⟨e, t, he, rfl, ht⟩ := AR2.at ex
      have ie := inn e (List.mem_of_getElem? he)
      have tk : ars.take (i + 1) = ars.take i ++ [e] := by rw [List.take_add_one, he]; rfl
      refine ⟨t, _, rfl, SqT.of ht, rfl, _, _, rfl, _, _, rfl, rfl, ?_⟩
      have q1 : inV (.int e.1) (os.map V.int) = true ↔ Both2 ars s e.1 := inV_oi.trans ((own e.1).trans ⟨fun h => h.2, fun h => ⟨ie.1, h⟩⟩)
      have q2 : inV (.int e.2) (os.map V.int) = true ↔ Both2 ars s e.2 := inV_oi.trans ((own e.2).trans ⟨fun h => h.2, fun h => ⟨ie.2, h⟩⟩)
      have skip : ¬ (Both2 ars s e.1 ∧ Both2 ars s e.2) → GrB ars s (fV ks) (ars.take (i + 1)) g := fun no => by
        rw [tk]
        exact G.skip no
      refine ⟨_, rfl, _, rfl, ro, _, rfl, .inr (SqT.of hro2), rfl, List.all_eq_true.mpr (fun v hv => by obtain ⟨z, _, rfl⟩ := List.mem_map.mp hv; rfl), _, rfl, ite2 (fun y1 => ?_) (fun y1 => ?_)⟩
      · have b1 := q1.mp y1
        refine ⟨_, rfl, _, rfl, ro, _, rfl, .inr (SqT.of hro2), rfl, List.all_eq_true.mpr (fun v hv => by obtain ⟨z, _, rfl⟩ := List.mem_map.mp hv; rfl), _, rfl, ite2 (fun y2 => ?_) (fun y2 => ?_)⟩
        · have b2 := q2.mp y2
          refine ⟨_, rfl, _, rfl, _, rfl, rf, _, rfl, by rw [← fV_val nd kd b1.1]; exact DGet.k (k := .inl e.1) hrf, ?_⟩
          refine ⟨_, _, rfl, rfl, _, rfl, _, rfl, rf, _, rfl, by rw [← fV_val nd kd b2.1]; exact DGet.k (k := .inl e.2) hrf, ?_⟩
          refine ⟨_, _, rfl, rfl, _, _, rfl, ?_⟩
          refine ⟨_, _, _, rfl, rfl, ?_⟩
          rw [tk, Int.natAbs_natCast]
          exact G.take b1 b2
        · exact ⟨g, _, _, rfl, rfl, skip fun z => y2 (q2.mpr z.2)⟩
      · exact ⟨g, _, _, rfl, rfl, skip fun z => y1 (q1.mpr z.1)⟩
    · rintro σ H3 ⟨g, s5, s6, rfl, rfl, G⟩
      rw [AR2.len, List.take_length] at G
      have D := divs_all (d := 0) inn (by omega) hs (fV_is nd kd)
      refine ⟨_, rfl, k g _ x12 hT2 ⟨?_, fun d hd => ?_⟩⟩
      · exact (divs_all inn (by omega) hs (fV_is nd kd)).1.mp ((G g).mp (Nat.dvd_refl g))
      · exact (G d).mpr ((divs_all inn (by omega) hs (fV_is nd kd)).1.mpr hd)
end
end Sw
namespace Sw
open PySem PySem.Spec PyProof.Rows L2
/-! ### the two fives, their stops called in any order -/
def fiveS (last : Bool) : List (Int × Int) := [(0, 1), (0, 3), (1, 2), (2, 0), (3, 4), (4, if last then 2 else 0)]
def fiveG (last : Bool) : List (Int × Int) := [(0, 1), (1, 2), (2, 0), (0, 3), (3, 4), (4, if last then 2 else 0)]
theorem lexB_anti {p q : Int × Int} (h1 : SrtO.lexB p q = false) (h2 : SrtO.lexB q p = false) : p = q := by
  have a : ¬ SrtO.lexB p q = true := by rw [h1]; decide
  have b : ¬ SrtO.lexB q p = true := by rw [h2]; decide
  rw [SrtO.lexB_iff] at a b
  exact Prod.ext (by omega) (by omega)
theorem srt_eq {l m : List (Int × Int)} (a : SrtA l) (b : SrtA m) (p : l.Perm m) : l = m := p.eq_of_pairwise (fun _ _ _ _ h1 h2 => lexB_anti h2 h1) a b
theorem AscA.srt {l : List (Int × Int)} (h : AscA l) : SrtA l := h.imp fun {a b} h => by
  cases e : SrtO.lexB b a with
  | false => rfl
  | true =>
    have h := SrtO.lexB_iff.mp h
    have e := SrtO.lexB_iff.mp e
    omega
theorem SrtA.asc {l : List (Int × Int)} (h : SrtA l) (nd : l.Nodup) : AscA l := by
  induction l with
  | nil => exact .nil
  | cons a r ih =>
    obtain ⟨h1, h2⟩ := List.pairwise_cons.mp h
    obtain ⟨n1, n2⟩ := List.nodup_cons.mp nd
    refine List.pairwise_cons.mpr ⟨fun b hb => ?_, ih h2 n2⟩
    cases e : SrtO.lexB a b with
    | true => rfl
    | false =>
      have := lexB_anti e (h1 b hb)
      rw [this] at n1
      exact (n1 hb).elim
theorem fiveS_srt : ∀ b, SrtA (fiveS b) := by
  have : ∀ b, (fiveS b).Pairwise fun x y => SrtO.lexB y x = false := by decide
  exact this
theorem fiveGS (b : Bool) : (fiveG b).Perm (fiveS b) := by
  have : ∀ b, (fiveG b).isPerm (fiveS b) = true := by decide
  exact List.isPerm_iff.mp (this b)
theorem fiveG_in : ∀ b, ∀ e ∈ fiveG b, (0 ≤ e.1 ∧ e.1 < 5) ∧ (0 ≤ e.2 ∧ e.2 < 5) := by decide
/-- the rows of the numbers below m, one longer -/
def ordNext (m : Nat) (rows : List (List Int)) : List (List Int) := rows.flatMap fun row => (((List.range m).map fun k : Nat => (k : Int)).filter fun o => decide (o ∉ row)).map fun o => row ++ [o]
def ords (m : Nat) : Nat → List (List Int)
  | 0 => [[]]
  | k + 1 => ordNext m (ords m k)
def allPerms : List (List Int) := (allNums 119 perm0).map fun ns => (ns.take 5).map fun j : Nat => (j : Int)
theorem allNums_at : ∀ (k j : Nat), j + k ≤ 119 → allNums k (numAt j) = (List.range (k + 1)).map fun i => numAt (j + i)
  | 0, j, _ => rfl
  | k + 1, j, h => by
    obtain ⟨ix, cy, e, en, _, _⟩ := num_step (i := j) (by omega)
    unfold allNums
    rw [e, List.range_succ_eq_map, List.map_cons, List.map_map]
    dsimp only
    rw [← en, allNums_at k (j + 1) (by omega)]
    congr 1
    refine List.map_congr_left fun i _ => ?_
    show numAt (j + 1 + i) = numAt (j + (i + 1))
    rw [Nat.add_right_comm, Nat.add_assoc]
theorem mem_perms {p : List Int} : p ∈ allPerms ↔ ∃ i, i < 120 ∧ p = permAt i := by
  unfold allPerms
  rw [show perm0 = numAt 0 from rfl, allNums_at 119 0 (by decide), List.map_map, List.mem_map]
  constructor
  · rintro ⟨i, hi, rfl⟩
    refine ⟨i, List.mem_range.mp hi, ?_⟩
    show ((numAt (0 + i)).take 5).map _ = permAt i
    rw [Nat.zero_add]
    rfl
  · rintro ⟨i, hi, rfl⟩
    refine ⟨i, List.mem_range.mpr hi, ?_⟩
    show ((numAt (0 + i)).take 5).map _ = permAt i
    rw [Nat.zero_add]
    rfl
/-- the row that leads back -/
def invL (os : List Int) : List Int := (List.range 5).map fun v : Nat => ((os.idxOf (v : Int) : Nat) : Int)
def okInv (p q : List Int) : Bool := p.length == 5 && p.all (fun x => decide (0 ≤ x ∧ x < 5)) && (List.range 5).all fun v : Nat => ren q (ren p (v : Int)) == (v : Int)
theorem perms_back : (allPerms.all fun p => (ords 5 5).contains (invL p) && okInv p (invL p)) = true := by decide +kernel
theorem ords_back : ((ords 5 5).all fun p => allPerms.contains (invL p) && okInv p (invL p)) = true := by decide +kernel
theorem okInv_is {p q : List Int} (h : okInv p q = true) : p.length = 5 ∧ (∀ x ∈ p, Inn 5 x) ∧ ∀ v, Inn 5 v → ren q (ren p v) = v := by
  unfold okInv at h
  simp only [Bool.and_eq_true, beq_iff_eq, List.all_eq_true, decide_eq_true_eq] at h
  refine ⟨h.1.1, fun x hx => h.1.2 x hx, fun v hv => ?_⟩
  obtain ⟨k, rfl⟩ := Int.eq_ofNat_of_zero_le hv.1
  have := hv.2
  exact h.2 k (List.mem_range.mpr (by omega))
theorem perm_ok {i : Nat} (h : i < 120) : (permAt i).length = 5 ∧ (∀ x ∈ permAt i, Inn 5 x) ∧ ∃ o ∈ ords 5 5, ∀ v, Inn 5 v → ren o (ren (permAt i) v) = v := by
  have q := List.all_eq_true.mp perms_back _ (mem_perms.mpr ⟨i, h, rfl⟩)
  rw [Bool.and_eq_true] at q
  obtain ⟨a, b, c⟩ := okInv_is q.2
  exact ⟨a, b, _, List.contains_iff_mem.mp q.1, c⟩
theorem ord_ok {o : List Int} (h : o ∈ ords 5 5) : o.length = 5 ∧ (∀ x ∈ o, Inn 5 x) ∧ ∃ i, i < 120 ∧ ∀ v, Inn 5 v → ren (permAt i) (ren o v) = v := by
  have q := List.all_eq_true.mp ords_back _ h
  rw [Bool.and_eq_true] at q
  obtain ⟨a, b, c⟩ := okInv_is q.2
  obtain ⟨i, hi, e⟩ := mem_perms.mp (List.contains_iff_mem.mp q.1)
  exact ⟨a, b, i, hi, fun v hv => by rw [← e]; exact c v hv⟩
theorem renE_back {p q : List Int} {ars : List (Int × Int)} (h : ∀ v, Inn 5 v → ren q (ren p v) = v) (inn : ∀ e ∈ ars, Inn 5 e.1 ∧ Inn 5 e.2) : (ars.map (renE p)).map (renE q) = ars := by
  rw [List.map_map]
  refine (List.map_congr_left fun e he => ?_).trans (List.map_id _)
  exact Prod.ext (h _ (inn e he).1) (h _ (inn e he).2)
/-- one of the two fives, called somehow -/
def FiveP (n : Int) (ars : List (Int × Int)) : Prop := n = 5 ∧ ars.length = 6 ∧ ∃ i, i < 120 ∧ ∃ b, (ars.map (renE (permAt i))).Perm (fiveS b)
theorem five_law {n : Int} {ars : List (Int × Int)} (inn : ∀ e ∈ ars, Inn n e.1 ∧ Inn n e.2) : FiveP n ars ↔ n = 5 ∧ ars.length = 6 ∧ ∃ o ∈ ords 5 5, ∃ b, ((fiveG b).map (renE o)).Perm ars := by
  unfold FiveP
  refine and_congr_right fun n5 => and_congr_right fun _ => ?_
  subst n5
  constructor
  · rintro ⟨i, hi, b, p⟩
    obtain ⟨_, _, o, ho, e⟩ := perm_ok hi
    refine ⟨o, ho, b, ?_⟩
    have q := (p.symm.map (renE o))
    rw [renE_back e inn] at q
    exact ((fiveGS b).map _).trans q
  · rintro ⟨o, ho, b, p⟩
    obtain ⟨_, _, i, hi, e⟩ := ord_ok ho
    refine ⟨i, hi, b, ?_⟩
    have q := (p.symm.map (renE (permAt i)))
    rw [renE_back e fun x hx => fiveG_in b x hx] at q
    exact q.trans (fiveGS b)
/-! ### kinds -/
structure KindP (n : Int) (ars : List (Int × Int)) (x : Str) : Prop where
  lone : n = 1 → x = "lone"
  ring : n ≠ 1 → 3 ≤ n ∧ (ars.length : Int) = n → x = "ring"
  five : n ≠ 1 → ¬ (3 ≤ n ∧ (ars.length : Int) = n) → FiveP n ars → x = "five"
  half : n ≠ 1 → ¬ (3 ≤ n ∧ (ars.length : Int) = n) → ¬ FiveP n ars → Divs ars 0 2 → x = "half"
  all : n ≠ 1 → ¬ (3 ≤ n ∧ (ars.length : Int) = n) → ¬ FiveP n ars → ¬ Divs ars 0 2 → x = "all"
theorem KindP.uniq {n : Int} {ars : List (Int × Int)} {x y : Str} (a : KindP n ars x) (b : KindP n ars y) : x = y := by
  by_cases h1 : n = 1
  · rw [a.lone h1, b.lone h1]
  by_cases h2 : 3 ≤ n ∧ (ars.length : Int) = n
  · rw [a.ring h1 h2, b.ring h1 h2]
  by_cases h3 : FiveP n ars
  · rw [a.five h1 h2 h3, b.five h1 h2 h3]
  by_cases h4 : Divs ars 0 2
  · rw [a.half h1 h2 h3 h4, b.half h1 h2 h3 h4]
  · rw [a.all h1 h2 h3 h4, b.all h1 h2 h3 h4]
theorem Great.even {ars : List (Int × Int)} {g : Nat} (G : Great (Divs ars 0) g) : Divs ars 0 2 ↔ g % 2 = 0 :=
  ⟨fun h => Nat.mod_eq_zero_of_dvd (G.top 2 h), fun h k r => Nat.dvd_trans (Nat.dvd_of_mod_eq_zero h) (G.is k r)⟩
theorem great_mod {g : Nat} : V.int ((g : Int) % 2) = V.int 0 ↔ g % 2 = 0 := by
  rw [V.int.injEq]
  omega
/-- two stops that lead to each other -/
def twoArs : List (Int × Int) := [(0, 1), (1, 0)]
theorem two_way {k : Nat} {a c : Int} (h : Rch twoArs k a c) : (a = 0 ∨ a = 1) → (c - a - k) % 2 = 0 := by
  induction h with
  | nil a => intro _; omega
  | cons m _ ih =>
    intro ha
    simp only [twoArs, List.mem_cons, Prod.mk.injEq, List.not_mem_nil, or_false] at m
    rcases m with ⟨rfl, rfl⟩ | ⟨rfl, rfl⟩
    · have := ih (.inr rfl)
      omega
    · have := ih (.inl rfl)
      omega
theorem two_half {x : Str} (h : KindP 2 twoArs x) : x = "half" := by
  refine h.half (by decide) (by decide) (fun z => ?_) fun k r => ?_
  · have := z.1
    omega
  · have := two_way r (.inl rfl)
    omega
end Sw
namespace Sw
open PySem PySem.Spec PyProof.Rows L2 LamX
/-! ### colours -/
section
variable {ars : List (Int × Int)} {n : Int}
/-- from 0 to each stop and back -/
def Joined (n : Int) (ars : List (Int × Int)) : Prop := ∀ v, Inn n v → Both2 ars 0 v
theorem rgn_nd (n : Nat) : ((List.range n).map fun k : Nat => (k : Int)).Nodup := List.pairwise_map.mpr (List.nodup_range.imp fun h z => h (by omega))
theorem rgn_mem {n v : Int} (h : Inn n v) : v ∈ (List.range n.toNat).map fun k : Nat => (k : Int) := by
  obtain ⟨k, rfl⟩ := Int.eq_ofNat_of_zero_le h.1
  have := h.2
  exact List.mem_map.mpr ⟨k, List.mem_range.mpr (by omega), rfl⟩
theorem sub_lenN {l m : List Int} (nd : l.Nodup) (h : ∀ x ∈ l, x ∈ m) : l.length ≤ m.length := by
  induction l generalizing m with
  | nil => exact Nat.zero_le _
  | cons a r ih =>
    obtain ⟨n1, n2⟩ := List.nodup_cons.mp nd
    obtain ⟨u, v, rfl⟩ := List.append_of_mem (h a List.mem_cons_self)
    have q := ih (m := u ++ v) n2 fun x hx => by
      rcases List.mem_append.mp (h x (List.mem_cons_of_mem _ hx)) with z | z
      · exact List.mem_append_left _ z
      · rcases List.mem_cons.mp z with z | z
        · subst z
          exact (n1 hx).elim
        · exact List.mem_append_right _ z
    rw [List.length_append] at q
    rw [List.length_cons, List.length_append, List.length_cons]
    omega
/-- a lot of so many stops is all -/
theorem joined_len {os : List Int} (n1 : 1 ≤ n) (asc : os.Pairwise (· < ·)) (own : ∀ o, o ∈ os ↔ Inn n o ∧ Both2 ars 0 o) : Joined n ars ↔ (os.length : Int) = n := by
  have nd : os.Nodup := asc.imp fun h z => by omega
  have le := pig n.toNat os nd fun v hv => by
    have := ((own v).mp hv).1
    exact ⟨this.1, by have := this.2; omega⟩
  constructor
  · intro J
    have := sub_lenN (rgn_nd n.toNat) (m := os) fun x hx => by
      obtain ⟨k, hk, rfl⟩ := List.mem_map.mp hx
      have := List.mem_range.mp hk
      have i : Inn n (k : Int) := ⟨by omega, by omega⟩
      exact (own _).mpr ⟨i, J _ i⟩
    rw [List.length_map, List.length_range] at this
    omega
  · intro e v hv
    by_cases q : v ∈ os
    · exact ((own v).mp q).2
    · have := pig n.toNat (v :: os) (List.nodup_cons.mpr ⟨q, nd⟩) fun u hu => by
        rcases List.mem_cons.mp hu with rfl | z
        · exact ⟨hv.1, by have := hv.2; omega⟩
        · have := ((own u).mp z).1
          exact ⟨this.1, by have := this.2; omega⟩
      rw [List.length_cons] at this
      omega
/-- each stop's colour: whether oddly many steps lead there -/
structure ColP (n : Int) (ars : List (Int × Int)) (cs : List Int) : Prop where
  len : (cs.length : Int) = n
  is : ∀ v : Nat, (v : Int) < n → ∃ k, Rch ars k 0 (v : Int) ∧ cs[v]? = some ((k % 2 : Nat) : Int)
theorem even_two {s v : Int} {g k j : Nat} (G : Great (Divs ars s) g) (ev : g % 2 = 0) (inn : ∀ e ∈ ars, Inn n e.1 ∧ Inn n e.2) (b : ∃ i, Path (nextOf ars) i v s) (h1 : Rch ars k s v) (h2 : Rch ars j s v) : k % 2 = j % 2 := by
  have nx : ∀ b c, c ∈ nextOf ars b ↔ (b, c) ∈ ars := fun b c => next_mem.trans ⟨fun h => h.2, fun h => ⟨(inn _ h).1.1, h⟩⟩
  obtain ⟨i, p⟩ := b
  have p := (rch_path nx).mpr p
  have d : 2 ∣ g := Nat.dvd_of_mod_eq_zero ev
  have a1 := Nat.dvd_trans d (G.is _ (h1.app p))
  have a2 := Nat.dvd_trans d (G.is _ (h2.app p))
  omega
theorem ColP.uniq {cs ds : List Int} {g : Nat} (J : Joined n ars) (inn : ∀ e ∈ ars, Inn n e.1 ∧ Inn n e.2) (G : Great (Divs ars 0) g) (ev : g % 2 = 0) (a : ColP n ars cs) (b : ColP n ars ds) : cs = ds := by
  refine List.ext_getElem? fun v => ?_
  by_cases z : (v : Int) < n
  · obtain ⟨k, hk, ek⟩ := a.is v z
    obtain ⟨j, hj, ej⟩ := b.is v z
    rw [ek, ej, even_two G ev inn (J v ⟨by omega, z⟩).2 hk hj]
  · have la := a.len
    have lb := b.len
    rw [List.getElem?_eq_none (by omega), List.getElem?_eq_none (by omega)]
theorem ColP.few {cs : List Int} (a : ColP n ars cs) : ∀ c ∈ cs, 0 ≤ c ∧ c < 2 := fun c hc => by
  obtain ⟨v, hv⟩ := List.getElem?_of_mem hc
  have l := (List.getElem?_eq_some_iff.mp hv).1
  have la := a.len
  obtain ⟨k, _, e⟩ := a.is v (by omega)
  rw [hv] at e
  have e := Option.some.inj e
  omega
end
section
variable {P : Program} {w : World} {K : PySem.W.Frag} {mg : Str → Option Value} {base : Heap}
abbrev sIsJoined : Stmt := top 12
theorem scIsJoined : FnScope ["net"] ["net"] (defScope sIsJoined) := ⟨rfl, rfl, rfl, by decide +kernel, rfl, by decide +kernel, by decide +kernel⟩
def spIsJoined (tb : Addr) : Sp := fun vs H Q _ => ∃ (a b : Addr) (n : Int) (ts : List V) (ars : List (Int × Int)), vs = [.ref a] ∧ NetAt n H a b ts ∧ ArsAt H ts ars ∧ Tabs (lamT tb) H ∧
  ∀ (c : Bool) (H' : Hp), ExtN H H' → Tabs (lamT tb) H' → (c = true ↔ Joined n ars) → Q (.bl c) H'
theorem ok_isJoined {f tb : Addr} {fd : FuncData} (F : Fun K "is_joined" "is_joined" sIsJoined f fd) (B : NoNames mg) (OL : Own P w K mg base 6 "lot_of" ["net", "stop"] (spLotOf tb)) : FnOk P w K mg base CX0 7 f fd ["net"] (spIsJoined tb) := by
  obtain ⟨fL, fdL, GL, mL, kL, bL⟩ := OL.ex
  refine F.ok scIsJoined (fun vs H Q E h => ?_) (fun cdv A outer s H vs Q E hr h => ?_)
  · obtain ⟨a, b, n, ts, ars, rfl, _⟩ := h
    rfl
  · obtain ⟨a, b, n, ts, ars, rfl, N, AR, hT, k⟩ := h
    have n1 := N.n1
    have n2 := N.n2
    refine ⟨_, pss_one (ps_ret (pe_cmpR op_eq (pe_callB call_len_seq (by rfl) B.len PySem.boot_len (pa_cons (pe_call GL hr rfl mL kL bL .nil pass0 (pa_cons (pv 0) (pa_cons pe_int pa_nil))) pa_nil)) (pe_ix ix_tup (pv 0) pe_int (fun _ _ => rfl)) (nomark _))), ?_⟩
    refine ⟨_, rfl, a, b, n, 0, ts, ars, rfl, N, AR, ⟨by decide, by omega⟩, hT, fun ro os H1 x1 hT1 hro asc own => ?_⟩
    have t1 : TupS H H1 := TupS.extG x1
    refine ⟨ro, _, rfl, .inr (SqT.of hro), _, rfl, a, _, 0, .int n, rfl, rfl, SqT.of (N.keep t1).a, at_of (j := 0) rfl rfl, rfl, ?_⟩
    refine k _ H1 x1 hT1 ?_
    rw [decide_eq_true_iff, V.int.injEq, List.length_map, joined_len (by omega) asc own]
end
end Sw
namespace Sw
/-! ### numbers of rows -/
def fac : Nat → Nat
  | 0 => 1
  | n + 1 => (n + 1) * fac n
theorem fac_pos : ∀ n, 0 < fac n
  | 0 => Nat.one_pos
  | n + 1 => Nat.mul_pos (Nat.succ_pos n) (fac_pos n)
/-- how many things of r are less than x -/
def less (x : Int) (r : List Int) : Nat := (r.filter fun y => decide (y < x)).length
/-- the number of a row, from the left -/
def rkAcc : Nat → List Int → Nat
  | acc, [] => acc
  | acc, x :: r => rkAcc (acc * (r.length + 1) + less x r) r
def rk : List Int → Nat
  | [] => 0
  | x :: r => less x r * fac r.length + rk r
theorem less_le (x : Int) (r : List Int) : less x r ≤ r.length := List.length_filter_le _ _
theorem rkAcc_eq : ∀ (r : List Int) (acc : Nat), rkAcc acc r = acc * fac r.length + rk r
  | [], acc => by simp [rkAcc, rk, fac]
  | x :: r, acc => by
    rw [rkAcc, rkAcc_eq r, rk]
    simp only [List.length_cons, fac]
    rw [Nat.add_mul, Nat.mul_assoc, Nat.add_assoc]
theorem rk_lt : ∀ r : List Int, rk r < fac r.length
  | [] => Nat.one_pos
  | x :: r => by
    have h := rk_lt r
    have h2 := less_le x r
    have h3 : less x r * fac r.length ≤ r.length * fac r.length := Nat.mul_le_mul_right _ h2
    simp only [rk, List.length_cons, fac, Nat.add_mul, Nat.one_mul]
    omega
/-- a row again: so many things of what is left are less -/
def unrk : List Int → Nat → Nat → List Int
  | _, 0, _ => []
  | left, m + 1, num => left.getD (num / fac m) 0 :: unrk (left.eraseIdx (num / fac m)) m (num % fac m)
/-- in an ascending list a thing stands behind just those that are less -/
theorem asc_at : ∀ {left : List Int} {x : Int} {i : Nat}, left.Pairwise (· < ·) → left[i]? = some x → less x left = i
  | [], x, i, _, h => by simp at h
  | y :: l, x, 0, hp, h => by
    obtain rfl : y = x := by simpa using h
    have h1 := (List.pairwise_cons.mp hp).1
    unfold less
    rw [List.filter_cons_of_neg (by simp), List.length_eq_zero_iff]
    refine List.filter_eq_nil_iff.mpr fun z hz => ?_
    have := h1 z hz
    simp only [decide_eq_true_eq]
    omega
  | y :: l, x, i + 1, hp, h => by
    obtain ⟨h1, h2⟩ := List.pairwise_cons.mp hp
    have h3 : l[i]? = some x := by simpa using h
    have := asc_at h2 h3
    have hy := h1 x (List.mem_of_getElem? h3)
    unfold less at this ⊢
    rw [List.filter_cons_of_pos (by simpa using hy), List.length_cons, this]
theorem less_perm {x : Int} {r s : List Int} (h : r.Perm s) : less x r = less x s := (h.filter _).length_eq
theorem less_self (x : Int) (r : List Int) : less x (x :: r) = less x r := by
  unfold less
  rw [List.filter_cons_of_neg (by simp)]
theorem erase_at : ∀ {l : List Int} {x : Int} {i : Nat}, l.Nodup → l[i]? = some x → l.eraseIdx i = l.erase x
  | [], x, i, _, h => by simp at h
  | y :: l, x, 0, hn, h => by
    obtain rfl : y = x := by simpa using h
    simp
  | y :: l, x, i + 1, hn, h => by
    obtain ⟨h1, h2⟩ := List.nodup_cons.mp hn
    have h3 : l[i]? = some x := by simpa using h
    have ne : ¬ y = x := fun z => h1 (z ▸ List.mem_of_getElem? h3)
    rw [List.eraseIdx_cons_succ, List.erase_cons_tail (by simpa using ne), erase_at h2 h3]
theorem asc_nodup {l : List Int} (h : l.Pairwise (· < ·)) : l.Nodup := List.Pairwise.imp (fun {a b} h => by omega) h
theorem unrk_rk : ∀ (row left : List Int), left.Pairwise (· < ·) → row.Perm left → unrk left row.length (rk row) = row
  | [], left, _, _ => rfl
  | x :: r, left, hp, pm => by
    have hx : x ∈ left := pm.mem_iff.mp (by simp)
    obtain ⟨i, hi, e⟩ := List.getElem_of_mem hx
    have ei : left[i]? = some x := by rw [List.getElem?_eq_getElem hi, e]
    have el : less x r = i := by
      rw [← less_self, less_perm pm]
      exact asc_at hp ei
    have hf := fac_pos r.length
    have hlt := rk_lt r
    have d1 : (i * fac r.length + rk r) / fac r.length = i := by
      rw [Nat.mul_comm, Nat.mul_add_div hf, Nat.div_eq_of_lt hlt, Nat.add_zero]
    have d2 : (i * fac r.length + rk r) % fac r.length = rk r := by
      rw [Nat.mul_comm, Nat.mul_add_mod, Nat.mod_eq_of_lt hlt]
    have pe : r.Perm (left.eraseIdx i) := by
      rw [erase_at (asc_nodup hp) ei]
      have := pm.erase x
      rwa [List.erase_cons_head] at this
    have ae : (left.eraseIdx i).Pairwise (· < ·) := hp.sublist (List.eraseIdx_sublist _ _)
    rw [List.length_cons, unrk, rk, el, d1, d2, unrk_rk r _ ae pe, List.getD_eq_getElem?_getD, ei]
    rfl
/-- by the law: what is left is looked through -/
def lawAcc : Nat → List Int → List Int → Nat
  | acc, _, [] => acc
  | acc, left, x :: r => lawAcc (acc * left.length + left.idxOf x) (left.erase x) r
theorem idx_less {left : List Int} {x : Int} (hp : left.Pairwise (· < ·)) (hx : x ∈ left) : left.idxOf x = less x left := by
  have h := List.idxOf_lt_length_iff.mpr hx
  exact (asc_at hp (by rw [List.getElem?_eq_getElem h, List.getElem_idxOf])).symm
theorem lawAcc_eq : ∀ (row left : List Int) (acc : Nat), left.Pairwise (· < ·) → row.Perm left → lawAcc acc left row = rkAcc acc row
  | [], left, acc, _, _ => rfl
  | x :: r, left, acc, hp, pm => by
    have hx : x ∈ left := pm.mem_iff.mp (by simp)
    have pe := pm.erase x
    rw [List.erase_cons_head] at pe
    rw [lawAcc, rkAcc, lawAcc_eq r _ _ (hp.sublist List.erase_sublist) pe, idx_less hp hx, ← less_perm pm, less_self, ← pm.length_eq, List.length_cons]
end Sw
namespace Sw
/-! ### what runs do with rows -/
/-- what stands at i and at j changes places -/
def sw2 (xs : List Int) (i j : Nat) : List Int := (xs.set i (xs.getD j 0)).set j (xs.getD i 0)
theorem sw2_len (xs : List Int) (i j : Nat) : (sw2 xs i j).length = xs.length := by simp [sw2]
theorem sw2_get {xs : List Int} {i j : Nat} (hi : i < xs.length) (hj : j < xs.length) (k : Nat) : (sw2 xs i j)[k]? = if k = j then xs[i]? else if k = i then xs[j]? else xs[k]? := by
  unfold sw2
  rw [List.getElem?_set]
  by_cases h1 : k = j
  · subst h1
    rw [if_pos rfl, if_pos rfl, if_pos (by simpa using hj), List.getD_eq_getElem?_getD, List.getElem?_eq_getElem hi]
    rfl
  · rw [if_neg (Ne.symm h1), if_neg h1, List.getElem?_set]
    by_cases h2 : k = i
    · subst h2
      rw [if_pos rfl, if_pos rfl, if_pos hi, List.getD_eq_getElem?_getD, List.getElem?_eq_getElem hj]
      rfl
    · rw [if_neg (Ne.symm h2), if_neg h2]
theorem sw2_comm {xs : List Int} {i j : Nat} (hi : i < xs.length) (hj : j < xs.length) : sw2 xs i j = sw2 xs j i := by
  refine List.ext_getElem? fun k => ?_
  rw [sw2_get hi hj, sw2_get hj hi]
  by_cases h1 : k = j
  · by_cases h2 : k = i
    · rw [if_pos h1, if_pos h2, ← h1, ← h2]
    · rw [if_pos h1, if_neg h2, if_pos h1]
  · by_cases h2 : k = i
    · rw [if_neg h1, if_pos h2, if_pos h2]
    · rw [if_neg h1, if_neg h2, if_neg h2, if_neg h1]
/-- the row in pieces -/
theorem sw2_cut {xs : List Int} {i j : Nat} (hij : i < j) (hj : j < xs.length) : ∃ (A B C : List Int) (x y : Int), xs = A ++ x :: (B ++ y :: C) ∧ sw2 xs i j = A ++ y :: (B ++ x :: C) ∧ xs[i]? = some x ∧ xs[j]? = some y := by
  have hi : i < xs.length := by omega
  have e1 : xs = xs.take i ++ xs[i] :: xs.drop (i + 1) := by
    rw [List.getElem_cons_drop hi, List.take_append_drop]
  have hd : j - (i + 1) < (xs.drop (i + 1)).length := by
    rw [List.length_drop]
    omega
  have e2 : xs.drop (i + 1) = (xs.drop (i + 1)).take (j - (i + 1)) ++ (xs.drop (i + 1))[j - (i + 1)] :: (xs.drop (i + 1)).drop (j - (i + 1) + 1) := by
    rw [List.getElem_cons_drop hd, List.take_append_drop]
  have e3 : (xs.drop (i + 1))[j - (i + 1)] = xs[j] := by
    rw [List.getElem_drop]
    congr 1
    omega
  rw [e3] at e2
  rw [e2] at e1
  refine ⟨_, _, _, _, _, e1, ?_, List.getElem?_eq_getElem hi, List.getElem?_eq_getElem hj⟩
  have lA : (xs.take i).length = i := by rw [List.length_take]; omega
  have lB : ((xs.drop (i + 1)).take (j - (i + 1))).length = j - (i + 1) := by rw [List.length_take]; omega
  have gj : xs.getD j 0 = xs[j] := by rw [List.getD_eq_getElem?_getD, List.getElem?_eq_getElem hj]; rfl
  have gi : xs.getD i 0 = xs[i] := by rw [List.getD_eq_getElem?_getD, List.getElem?_eq_getElem hi]; rfl
  unfold sw2
  rw [gi, gj]
  generalize xs[i] = x at *
  generalize xs[j] = y at *
  generalize (xs.drop (i + 1)).drop (j - (i + 1) + 1) = C at *
  generalize (xs.drop (i + 1)).take (j - (i + 1)) = B at *
  generalize xs.take i = A at *
  subst e1
  rw [List.set_append_right _ _ (by omega), lA, Nat.sub_self, List.set_cons_zero, List.set_append_right _ _ (by omega), lA]
  obtain ⟨k, hk⟩ : ∃ k, j - i = k + 1 := ⟨j - i - 1, by omega⟩
  rw [hk, List.set_cons_succ, List.set_append_right _ _ (by omega), show k - B.length = 0 by omega, List.set_cons_zero]
theorem perm_two {A B C : List Int} {x y : Int} : (A ++ y :: (B ++ x :: C)).Perm (A ++ x :: (B ++ y :: C)) := by
  refine List.Perm.append_left A ?_
  have h1 : (y :: (B ++ x :: C)).Perm (y :: x :: (B ++ C)) := List.Perm.cons y List.perm_middle
  have h2 : (x :: (B ++ y :: C)).Perm (x :: y :: (B ++ C)) := List.Perm.cons x List.perm_middle
  exact (h1.trans (List.Perm.swap x y _)).trans h2.symm
theorem sw2_self {xs : List Int} {i : Nat} (hi : i < xs.length) : sw2 xs i i = xs := by
  refine List.ext_getElem? fun k => ?_
  rw [sw2_get hi hi]
  by_cases h : k = i
  · rw [if_pos h, h]
  · rw [if_neg h, if_neg h]
theorem sw2_perm {xs : List Int} {i j : Nat} (hi : i < xs.length) (hj : j < xs.length) : (sw2 xs i j).Perm xs := by
  rcases Nat.lt_trichotomy i j with h | h | h
  · obtain ⟨A, B, C, x, y, e1, e2, _⟩ := sw2_cut h hj
    rw [e2]
    conv => rhs; rw [e1]
    exact perm_two
  · subst h
    rw [sw2_self hi]
  · rw [sw2_comm hi hj]
    obtain ⟨A, B, C, x, y, e1, e2, _⟩ := sw2_cut h hi
    rw [e2]
    conv => rhs; rw [e1]
    exact perm_two
/-! ### even and odd rows -/
/-- how many pairs of things fall -/
def inv : List Int → Nat
  | [] => 0
  | x :: r => less x r + inv r
def more (x : Int) (r : List Int) : Nat := (r.filter fun y => decide (x < y)).length
theorem less_app (x : Int) (A B : List Int) : less x (A ++ B) = less x A + less x B := by
  unfold less
  rw [List.filter_append, List.length_append]
theorem less_cons (x y : Int) (r : List Int) : less x (y :: r) = (if y < x then 1 else 0) + less x r := by
  unfold less
  by_cases h : y < x
  · rw [List.filter_cons_of_pos (by simpa using h), if_pos h, List.length_cons, Nat.add_comm]
  · rw [List.filter_cons_of_neg (by simpa using h), if_neg h, Nat.zero_add]
theorem more_cons (x y : Int) (r : List Int) : more x (y :: r) = (if x < y then 1 else 0) + more x r := by
  unfold more
  by_cases h : x < y
  · rw [List.filter_cons_of_pos (by simpa using h), if_pos h, List.length_cons, Nat.add_comm]
  · rw [List.filter_cons_of_neg (by simpa using h), if_neg h, Nat.zero_add]
theorem less_more {x : Int} : ∀ {B : List Int}, x ∉ B → less x B + more x B = B.length
  | [], _ => rfl
  | b :: B, h => by
    have ih := less_more (x := x) (B := B) fun z => h (List.mem_cons_of_mem _ z)
    have ne : b ≠ x := fun z => h (z ▸ List.mem_cons_self)
    rw [less_cons, more_cons, List.length_cons]
    by_cases q : b < x
    · rw [if_pos q, if_neg (by omega)]
      omega
    · rw [if_neg q, if_pos (by omega)]
      omega
theorem inv_mid (y : Int) (C : List Int) : ∀ B : List Int, inv (B ++ y :: C) = inv (B ++ C) + more y B + less y C
  | [] => by simp [inv, more]; omega
  | b :: B => by
    have ih := inv_mid y C B
    rw [List.cons_append, inv, ih, List.cons_append, inv, less_app, less_app, less_cons, more_cons]
    by_cases q : y < b
    · rw [if_pos q]
      omega
    · rw [if_neg q]
      omega
theorem inv_two : ∀ {A B C : List Int} {x y : Int}, (A ++ x :: (B ++ y :: C)).Nodup → (inv (A ++ y :: (B ++ x :: C)) + inv (A ++ x :: (B ++ y :: C))) % 2 = 1
  | [], B, C, x, y, h => by
    rw [List.nil_append, List.nil_append, inv, inv, inv_mid, inv_mid, less_app, less_app, less_cons, less_cons]
    rw [List.nil_append] at h
    obtain ⟨h1, h2⟩ := List.nodup_cons.mp h
    have hx : x ∉ B := fun z => h1 (List.mem_append.mpr (.inl z))
    have hxy : x ≠ y := fun z => h1 (List.mem_append.mpr (.inr (z ▸ List.mem_cons_self)))
    have hy : y ∉ B := fun z => (List.nodup_append.mp h2).2.2 y z y List.mem_cons_self rfl
    have l1 := less_more hx
    have l2 := less_more hy
    by_cases q : x < y
    · rw [if_pos q, if_neg (by omega)]
      omega
    · rw [if_neg q, if_pos (by omega)]
      omega
  | a :: A, B, C, x, y, h => by
    obtain ⟨h1, h2⟩ := List.nodup_cons.mp (List.cons_append ▸ h)
    have ih := inv_two h2
    rw [List.cons_append, List.cons_append, inv, inv, less_perm (x := a) (perm_two (A := A) (B := B) (C := C) (x := x) (y := y))]
    omega
theorem inv_sw2 {xs : List Int} {i j : Nat} (hn : xs.Nodup) (hi : i < xs.length) (hj : j < xs.length) (hij : i ≠ j) : (inv (sw2 xs i j) + inv xs) % 2 = 1 := by
  rcases Nat.lt_or_gt_of_ne hij with h | h
  · obtain ⟨A, B, C, x, y, e1, e2, _⟩ := sw2_cut h hj
    rw [e2]
    rw [e1] at hn
    have := inv_two hn
    rw [← e1] at this
    exact this
  · rw [sw2_comm hi hj]
    obtain ⟨A, B, C, x, y, e1, e2, _⟩ := sw2_cut h hi
    rw [e2]
    rw [e1] at hn
    have := inv_two hn
    rw [← e1] at this
    exact this
theorem inv_asc : ∀ {xs : List Int}, xs.Pairwise (· < ·) → inv xs = 0
  | [], _ => rfl
  | x :: r, h => by
    obtain ⟨h1, h2⟩ := List.pairwise_cons.mp h
    rw [inv, inv_asc h2, Nat.add_zero]
    unfold less
    rw [List.length_eq_zero_iff]
    refine List.filter_eq_nil_iff.mpr fun z hz => ?_
    have := h1 z hz
    simp only [decide_eq_true_eq]
    omega
/-! ### runs -/
/-- what stands at i and what stands last change places -/
def stp (xs : List Int) (i : Nat) : List Int := sw2 xs i (xs.length - 1)
def ledI (xs os : List Int) : List Int := os.foldl (fun xs o => stp xs o.toNat) xs
theorem stp_len (xs : List Int) (i : Nat) : (stp xs i).length = xs.length := sw2_len _ _ _
theorem ledI_len : ∀ (os xs : List Int), (ledI xs os).length = xs.length
  | [], xs => rfl
  | o :: os, xs => by
    have h := ledI_len os (stp xs o.toNat)
    rw [stp_len] at h
    exact h
theorem ledI_app (xs os ps : List Int) : ledI xs (os ++ ps) = ledI (ledI xs os) ps := by
  unfold ledI
  rw [List.foldl_append]
theorem ledI_snoc (xs os : List Int) (o : Int) : ledI xs (os ++ [o]) = stp (ledI xs os) o.toNat := by
  rw [ledI_app]
  rfl
/-- stops of n -/
def Stops (n : Nat) (os : List Int) : Prop := ∀ o ∈ os, 0 ≤ o ∧ o < (n : Int)
theorem stp_perm {xs : List Int} {i : Nat} (hi : i < xs.length) : (stp xs i).Perm xs := sw2_perm hi (by omega)
theorem ledI_perm {n : Nat} : ∀ {os xs : List Int}, Stops n os → n < xs.length → (ledI xs os).Perm xs
  | [], xs, _, _ => .refl _
  | o :: os, xs, h, hn => by
    have ho := h o (by simp)
    have h1 := ledI_perm (os := os) (xs := stp xs o.toNat) (fun p hp => h p (by simp [hp])) (by rw [stp_len]; exact hn)
    exact h1.trans (stp_perm (by omega))
theorem stp_map {α : Type} {f : Int → Int} {xs : List Int} {i : Nat} (hi : i < xs.length) : stp (xs.map f) i = (stp xs i).map f := by
  refine List.ext_getElem? fun k => ?_
  unfold stp
  rw [List.length_map, List.getElem?_map, sw2_get (by rw [List.length_map]; exact hi) (by rw [List.length_map]; omega), sw2_get hi (by omega)]
  by_cases h1 : k = xs.length - 1
  · rw [if_pos h1, if_pos h1, List.getElem?_map]
  · by_cases h2 : k = i
    · rw [if_neg h1, if_neg h1, if_pos h2, if_pos h2, List.getElem?_map]
    · rw [if_neg h1, if_neg h1, if_neg h2, if_neg h2, List.getElem?_map]
theorem ledI_map {n : Nat} {f : Int → Int} : ∀ {os xs : List Int}, Stops n os → n < xs.length → ledI (xs.map f) os = (ledI xs os).map f
  | [], xs, _, _ => rfl
  | o :: os, xs, h, hn => by
    have ho := h o (by simp)
    show ledI (stp (xs.map f) o.toNat) os = _
    rw [stp_map (α := Int) (by omega), ledI_map (os := os) (fun p hp => h p (by simp [hp])) (by rw [stp_len]; exact hn)]
    rfl
/-! ### ends -/
theorem idx_at {l : List Int} {x : Int} {i : Nat} (hn : l.Nodup) (h : l[i]? = some x) : l.idxOf x = i := by
  obtain ⟨hi, e⟩ := List.getElem?_eq_some_iff.mp h
  have hm : x ∈ l := List.mem_of_getElem? h
  have h2 := List.idxOf_lt_length_iff.mpr hm
  have e2 : l[l.idxOf x] = x := List.getElem_idxOf h2
  exact (List.getElem_inj hn).mp (e2.trans e.symm)
theorem idx_get {l : List Int} {x : Int} (h : x ∈ l) : l[l.idxOf x]? = some x := by
  have h2 := List.idxOf_lt_length_iff.mpr h
  rw [List.getElem?_eq_getElem h2, List.getElem_idxOf h2]
end Sw
namespace Sw
open PySem L2
/-! ### two colours -/
structure Col (ars : List (Int × Int)) (sh : Int → Int) : Prop where
  two : ∀ v, sh v = 0 ∨ sh v = 1
  alt : ∀ e ∈ ars, sh e.1 ≠ sh e.2
theorem Col.way {ars : List (Int × Int)} {sh : Int → Int} (C : Col ars sh) {k : Nat} {a c : Int} (h : Rch ars k a c) : (sh a + k) % 2 = sh c := by
  induction h with
  | nil a =>
    have := C.two a
    omega
  | @cons k b d c m _ ih =>
    have h1 := C.alt _ m
    have h2 := C.two b
    have h3 := C.two d
    have h1 : sh b ≠ sh d := h1
    omega
theorem Col.even {ars : List (Int × Int)} {sh : Int → Int} (C : Col ars sh) (s : Int) : Divs ars s 2 := fun k h => by
  have := C.way h
  have := C.two s
  omega
theorem Col.great {ars : List (Int × Int)} {sh : Int → Int} (C : Col ars sh) {g : Nat} (G : Great (Divs ars 0) g) : g % 2 = 0 := G.even.mp (C.even 0)
/-- neither of the fives has two colours -/
theorem Col.no5 {n : Int} {ars : List (Int × Int)} {sh : Int → Int} (C : Col ars sh) (inn : ∀ e ∈ ars, Inn n e.1 ∧ Inn n e.2) : ¬ FiveP n ars := by
  rintro ⟨rfl, _, i, hi, b, p⟩
  obtain ⟨_, _, o, _, e⟩ := perm_ok hi
  have q : ((fiveS b).map (renE o)).Perm ars := by
    have q := (p.symm.map (renE o))
    rw [renE_back e inn] at q
    exact q
  have m : ∀ x y : Int, (x, y) ∈ fiveS b → sh (ren o x) ≠ sh (ren o y) := fun x y h => C.alt (ren o x, ren o y) (q.mem_iff.mp (List.mem_map.mpr ⟨(x, y), h, rfl⟩))
  have m1 := m 0 1 (by cases b <;> decide)
  have m2 := m 1 2 (by cases b <;> decide)
  have m3 := m 2 0 (by cases b <;> decide)
  have t0 := C.two (ren o 0)
  have t1 := C.two (ren o 1)
  have t2 := C.two (ren o 2)
  omega
theorem Col.kind {n : Int} {ars : List (Int × Int)} {sh : Int → Int} (C : Col ars sh) (inn : ∀ e ∈ ars, Inn n e.1 ∧ Inn n e.2) (n2 : 2 ≤ n) (nr : ¬ (3 ≤ n ∧ (ars.length : Int) = n)) {x : Str} (h : KindP n ars x) : x = "half" :=
  h.half (by omega) nr (C.no5 inn) (C.even 0)
/-- colours told are colours -/
theorem Col.told {n : Int} {ars : List (Int × Int)} {sh : Int → Int} (C : Col ars sh) {cs : List Int} (h : ColP n ars cs) {v : Int} (hv : Inn n v) : cs.getD v.toNat 0 = (sh v + sh 0) % 2 := by
  have h0 := hv.1
  have h1 := hv.2
  obtain ⟨k, r, e⟩ := h.is v.toNat (by omega)
  rw [show ((v.toNat : Nat) : Int) = v by omega] at r
  have w := C.way r
  have t0 := C.two 0
  have tv := C.two v
  rw [List.getD_eq_getElem?_getD, e]
  show ((k % 2 : Nat) : Int) = _
  omega
/-- of what is joined all colours are alike -/
theorem Col.uniq {n : Int} {ars : List (Int × Int)} {sh sh' : Int → Int} (C : Col ars sh) (C' : Col ars sh') (J : ∀ v, Inn n v → ∃ k, Rch ars k 0 v) {v : Int} (hv : Inn n v) : (sh v + sh 0) % 2 = (sh' v + sh' 0) % 2 := by
  obtain ⟨k, r⟩ := J v hv
  have w1 := C.way r
  have w2 := C'.way r
  have t0 := C.two 0
  have t1 := C'.two 0
  omega
/-! ### odd rows -/
def oddI (r : List Int) : Bool := decide (inv r % 2 = 1)
theorem oddI_sw2 {r : List Int} {i j : Nat} (nd : r.Nodup) (hi : i < r.length) (hj : j < r.length) (ne : i ≠ j) : oddI (sw2 r i j) = !oddI r := by
  have h := inv_sw2 nd hi hj ne
  unfold oddI
  by_cases c : inv r % 2 = 1
  · rw [decide_eq_true c, decide_eq_false (by omega)]
    rfl
  · rw [decide_eq_false c, decide_eq_true (by omega)]
    rfl
/-- whether two standings' signs and colours are apart -/
def apartI (sh : Int → Int) (r1 r2 : List Int) (v1 v2 : Int) : Bool := (oddI r1 != oddI r2) != decide (sh v1 ≠ sh v2)
end Sw
namespace Sw
open PySem PySem.Spec PyProof.Rows L2
/-! ### a comprehension of two clauses; is_odd -/
section
variable {J : It} {n : Nat} {G : Hp → Prop} {Y : Nat → Hp → V → Hp → Prop}
/-- the inner loop -/
theorem in_it (w : Walk J n G Y) {g : TG} {tt : TT} {te : TE} {vs : List Nat} {σ : L2.St} {H1 : Hp} {D : Addr} {Qd : Hp → Prop} (Pv : Nat → Hp → Prop) (h0 : Pv 0 H1) (hG : ∀ i H, i ≤ n → Pv i H → G H)
    (hs : ∀ i x H H', i < n → Pv i H → Y i H x H' → g x (wipe σ vs) H' fun σ2 H2 => wipe σ2 vs = wipe σ vs ∧ tt σ2 H2 fun b H3 =>
      if b = true then te σ2 H3 fun y H4 => ∃ acc, H4 D = some (.lst acc) ∧ acc.length < sizeLine ∧ Pv (i + 1) (upd H4 D (.lst (acc ++ [y]))) else Pv (i + 1) H3) (hd : ∀ H, Pv n H → Qd H) :
    ∃ W : Nat → Nat → Hp → Prop, (∃ m, W 0 m H1) ∧ ∀ i m H, W i m H →
      (J.stop i H ∧ Qd H) ∨ (J.go i H ∧ ∃ Nx : Hp → Prop, (∀ H', Nx H' → ∃ m', m' < m ∧ W (i + 1) m' H') ∧ ∀ x H', J.yld i H x H' → g x (wipe σ vs) H' fun σ2 H2 => wipe σ2 vs = wipe σ vs ∧ tt σ2 H2 fun b H3 =>
        if b = true then te σ2 H3 fun y H4 => ∃ acc, H4 D = some (.lst acc) ∧ acc.length < sizeLine ∧ Nx (upd H4 D (.lst (acc ++ [y]))) else Nx H3) := by
  refine ⟨fun i m H => m = n - i ∧ i ≤ n ∧ Pv i H, ⟨n, by simp, Nat.zero_le _, h0⟩, ?_⟩
  rintro i m H ⟨rfl, hi, p⟩
  have q := hG i H hi p
  by_cases hlt : i < n
  · refine .inr ⟨w.goes i H hlt q, Pv (i + 1), fun H' p' => ⟨n - (i + 1), by omega, rfl, hlt, p'⟩, fun x H' y => hs i x H H' hlt p (w.yields i H x H' hlt q y)⟩
  · have e : i = n := by omega
    subst e
    exact .inl ⟨w.stops H q, hd H p⟩
/-- both -/
theorem lc2_it (w : Walk J n G Y) {g g1 : TG} {tt tt1 : TT} {te : TE} {wi1 : TI} {vs vs1 : List Nat} {σ : L2.St} {H1 : Hp} {D : Addr} {Qd : Hp → Prop} (Pv : Nat → Hp → Prop) (h0 : Pv 0 (upd H1 D (.lst []))) (hG : ∀ i H, i ≤ n → Pv i H → G H)
    (hs : ∀ i x H H', i < n → Pv i H → Y i H x H' → g x (wipe σ vs) H' fun σ2 H2 => wipe σ2 vs = wipe σ vs ∧ tt σ2 H2 fun b H3 =>
      if b = true then wi1 σ2 H3 fun J1 H4 => ∃ W1 : Nat → Nat → Hp → Prop, (∃ m, W1 0 m H4) ∧ ∀ j k H, W1 j k H →
        (J1.stop j H ∧ Pv (i + 1) H) ∨ (J1.go j H ∧ ∃ Nx1 : Hp → Prop, (∀ H', Nx1 H' → ∃ k', k' < k ∧ W1 (j + 1) k' H') ∧ ∀ x H', J1.yld j H x H' → g1 x (wipe σ2 vs1) H' fun σ3 H5 => wipe σ3 vs1 = wipe σ2 vs1 ∧ tt1 σ3 H5 fun b H6 =>
          if b = true then te σ3 H6 fun y H7 => ∃ acc, H7 D = some (.lst acc) ∧ acc.length < sizeLine ∧ Nx1 (upd H7 D (.lst (acc ++ [y]))) else Nx1 H6)
      else Pv (i + 1) H3) (hd : ∀ H, Pv n H → Qd H) :
    ∃ W : Nat → Nat → Hp → Prop, (∃ m, W 0 m (upd H1 D (.lst []))) ∧ ∀ i m H, W i m H →
      (J.stop i H ∧ Qd H) ∨ (J.go i H ∧ ∃ Nx : Hp → Prop, (∀ H', Nx H' → ∃ m', m' < m ∧ W (i + 1) m' H') ∧ ∀ x H', J.yld i H x H' → g x (wipe σ vs) H' fun σ2 H2 => wipe σ2 vs = wipe σ vs ∧ tt σ2 H2 fun b H3 =>
        if b = true then wi1 σ2 H3 fun J1 H4 => ∃ W1 : Nat → Nat → Hp → Prop, (∃ m, W1 0 m H4) ∧ ∀ j k H, W1 j k H →
          (J1.stop j H ∧ Nx H) ∨ (J1.go j H ∧ ∃ Nx1 : Hp → Prop, (∀ H', Nx1 H' → ∃ k', k' < k ∧ W1 (j + 1) k' H') ∧ ∀ x H', J1.yld j H x H' → g1 x (wipe σ2 vs1) H' fun σ3 H5 => wipe σ3 vs1 = wipe σ2 vs1 ∧ tt1 σ3 H5 fun b H6 =>
            if b = true then te σ3 H6 fun y H7 => ∃ acc, H7 D = some (.lst acc) ∧ acc.length < sizeLine ∧ Nx1 (upd H7 D (.lst (acc ++ [y]))) else Nx1 H6)
        else Nx H3) := by
  refine ⟨fun i m H => m = n - i ∧ i ≤ n ∧ Pv i H, ⟨n, by simp, Nat.zero_le _, h0⟩, ?_⟩
  rintro i m H ⟨rfl, hi, p⟩
  have q := hG i H hi p
  by_cases hlt : i < n
  · refine .inr ⟨w.goes i H hlt q, Pv (i + 1), fun H' p' => ⟨n - (i + 1), by omega, rfl, hlt, p'⟩, fun x H' y => hs i x H H' hlt p (w.yields i H x H' hlt q y)⟩
  · have e : i = n := by omega
    subst e
    exact .inl ⟨w.stops H q, hd H p⟩
end
theorem slA_one {K : PySem.W.Frag} {H0 H : Hp} {a : Addr} {xs : List V} {lo hi : Option Int} {Q : VK} (ha : ∀ Z, Same H0 Z → SqT K Z a xs) (s0 : Same H0 H) (q : ∀ (c : Addr) (Z : Hp), Same H Z → (∀ Z', Same H0 Z' → TupS Z Z' → SqT K Z' c (cutV xs lo hi)) → Q (.ref c) Z) : rSlA K (.ref a) lo hi H Q := by
  refine ⟨a, xs, rfl, ha H s0, fun w => q a H (.refl _) fun Z' s _ => ?_, fun _ p np => q p _ (same_new np) fun Z' _ s => SqT.of (s _ _ upd_same)⟩
  unfold cutV
  rw [w.1, w.2, List.drop_zero, Nat.sub_zero, List.take_length]
  exact ha Z' s
theorem inv_le : ∀ r : List Int, inv r ≤ r.length * r.length
  | [] => Nat.le_refl _
  | x :: r => by
    have h := inv_le r
    have h2 := less_le x r
    unfold inv
    rw [List.length_cons, Nat.mul_add, Nat.mul_one, Nat.add_mul, Nat.one_mul]
    omega
theorem inv_drop {r : List Int} {i : Nat} {x : Int} (h : r[i]? = some x) : inv (r.drop i) = less x (r.drop i) + inv (r.drop (i + 1)) := by
  obtain ⟨hi, e⟩ := List.getElem?_eq_some_iff.mp h
  rw [List.drop_eq_getElem_cons hi, e]
  show less x (r.drop (i + 1)) + inv (r.drop (i + 1)) = _
  rw [less_cons, if_neg (Int.lt_irrefl x), Nat.zero_add]
section
variable {P : Program} {w : World} {K : PySem.W.Frag} {mg : Str → Option Value} {base : Heap}
abbrev sPIsOdd : Stmt := top 37
abbrev nPIsOdd : List Str := ["row", "falls", "place", "thing", "other"]
theorem scPIsOdd : FnScope nPIsOdd ["row"] (defScope sPIsOdd) := ⟨rfl, rfl, rfl, by decide +kernel, rfl, by decide +kernel, by decide +kernel⟩
def spPIsOdd (K : PySem.W.Frag) : Sp := fun vs H Q _ => ∃ (a : Addr) (r : List Int), vs = [.ref a] ∧ (∀ H', Same H H' → SqT K H' a (r.map V.int)) ∧ r.length ≤ 13 ∧ ∀ H', Same H H' → Q (.bl (oddI r)) H'
theorem ok_pIsOdd {f : Addr} {fd : FuncData} (F : Fun K "is_odd" "is_odd" sPIsOdd f fd) (B : NoNames mg) : FnOk P w K mg base CX0 1 f fd ["row"] (spPIsOdd K) := by
  refine F.ok scPIsOdd (fun vs H Q E h => ?_) (fun cdv A outer s H vs Q E hr h => ?_)
  · obtain ⟨a, r, rfl, _⟩ := h
    rfl
  · obtain ⟨a, r, rfl, ha, hl, k⟩ := h
    refine ⟨_, pss_cons (ps_setLc2 (i := 1) (own := [("place", 2), ("thing", 3), ("other", 4)]) (vs1 := [4]) (g := gTup K 2 (gCons (gName 2) (gCons (gName 3) gNil))) (tt := tYes) (wi1 := iTup K (tSl (rSlA K) (tVar 0) (tPart (tVar 2)) tNoPart)) (g1 := gName 4) (te := tVar 3) rfl scPIsOdd.nd rfl rfl (sw_true rfl rfl rfl (by decide +kernel)) (pi_enumT (by rfl) B.enumerate (pa_cons (pv 0) pa_nil)) (blkOk_by (own := [("place", 2), ("thing", 3), ("other", 4)]) (N := nPIsOdd) (sc := defScope sPIsOdd) (by decide +kernel)) (by decide)
        (fun _ _ _ _ _ => pg_tup rfl (pgs_cons (pg_name (i := 2) scPIsOdd.nd rfl (Or.inl rfl)) (pgs_cons (pg_name (i := 3) scPIsOdd.nd rfl (Or.inl rfl)) pgs_nil))) (fun _ _ _ _ _ => pts_nil)
        (fun _ _ _ _ _ => pi_tup (pe_slice (r := rSlA K) sl_tupA (pv 0) (po_some (pv 2)) po_none)) (fun _ _ _ _ _ => pg_name (i := 4) scPIsOdd.nd rfl (Or.inl rfl)) (fun _ _ _ _ _ => pts_one (pt_cmpR (r := rI0 fun i j => .bl (decide (i < j))) op_lt (pv 4) (pv 3) (nomark _))) (fun _ _ _ _ _ => pv 3)) <|
      pss_one (ps_ret (pe_cmpR op_eq (pe_op (r := rI (fun _ j => 0 < j) fun i j => .int (i % j)) op_mod (pe_callB call_len_seq (by rfl) B.len PySem.boot_len (pa_cons (pv 1) pa_nil)) pe_int) pe_int (nomark _))), ?_⟩
    have hb := inv_le r
    have hb2 : inv r ≤ 169 := Nat.le_trans hb (Nat.mul_le_mul hl hl)
    refine ⟨_, rfl, a, _, rfl, ha H (.refl _), fun L nL => ?_⟩
    refine lc2_it walk_te (fun i Z => Same H Z ∧ ∃ acc : List V, Z L = some (.lst acc) ∧ acc.length + inv (r.drop i) = inv r) ⟨same_new nL, [], upd_same, by rw [List.drop_zero]; exact Nat.zero_add _⟩ (fun i Z _ h => ha Z h.1) ?_ ?_
    · rintro i x Hb Hc hi ⟨h1, acc, h2, h3⟩ ⟨T, x1, x2, rfl, nT, rfl, e1, e2⟩
      obtain rfl : V.int (i : Nat) = x1 := Option.some.inj e1
      obtain ⟨z, ez, rfl⟩ := int_at e2
      refine ⟨T, [.int (i : Nat), .int z], rfl, .inl (.inl upd_same), rfl, _, _, rfl, _, _, rfl, rfl, ?_⟩
      have sT := same_new (o := .tup [.int (i : Nat), .int z]) nT
      have h1' := h1.trans sT
      have h2' := sT _ _ h2
      generalize (upd Hb T (.tup [.int (i : Nat), .int z])) = Hd at h1' h2' ⊢
      rw [List.length_map] at hi
      have es := inv_drop ez
      refine ⟨rfl, ?_⟩
      refine ⟨_, rfl, _, rfl, (i : Int), rfl, ?_⟩
      dsimp only [tNoPart]
      refine slA_one ha h1' fun c He sE hc => ?_
      refine ⟨c, rfl, ⟨_, hc He (h1'.trans sE) (.of (.refl _))⟩, ?_⟩
      have ec : cutV (r.map V.int) (some (i : Int)) none = (r.drop i).map V.int := by
        unfold cutV
        rw [HT.sIx_nat, HT.sIx_none, List.length_map, Nat.min_eq_left (Nat.le_of_lt hi), ← List.map_drop, List.take_of_length_le (by rw [List.length_map, List.length_drop]; exact Nat.le_refl _)]
      rw [ec] at hc
      have h2e := sE _ _ h2'
      refine in_it (walk_tup (K := K) (a := c) (xs := (r.drop i).map V.int)) (fun j Z => (Same H Z ∧ TupS He Z) ∧ ∃ ac : List V, Z L = some (.lst ac) ∧ ac.length + inv (r.drop (i + 1)) + less z ((r.drop i).drop j) = inv r)
        ⟨⟨h1'.trans sE, .of (.refl _)⟩, acc, h2e, by rw [List.drop_zero]; omega⟩ (fun j Z _ h => hc Z h.1.1 h.1.2) ?_ ?_
      · rintro j x Hf Hg hj ⟨s1, ac, h4, h5⟩ ⟨rfl, ex⟩
        obtain ⟨y, ey, rfl⟩ := int_at ex
        refine ⟨rfl, _, rfl, _, rfl, _, _, rfl, rfl, _, rfl, ?_⟩
        have ed : less z ((r.drop i).drop j) = (if y < z then 1 else 0) + less z ((r.drop i).drop (j + 1)) := by
          obtain ⟨hy, e⟩ := List.getElem?_eq_some_iff.mp ey
          rw [List.drop_eq_getElem_cons hy, e, less_cons]
        refine ite2 (fun z2 => ?_) (fun z2 => ?_)
        · have z2 : y < z := of_decide_eq_true z2
          rw [if_pos z2] at ed
          refine ⟨_, rfl, ac, h4, by rw [sizeLine_eq]; omega, ⟨fun b o e => ?_, s1.2.trans (TupS.lst h4)⟩, _, upd_same, by rw [List.length_append]; simp only [List.length_cons, List.length_nil]; omega⟩
          rw [upd_ne (ne_of_none e nL)]
          exact s1.1 _ _ e
        · have z2 : ¬ y < z := fun q => z2 (decide_eq_true q)
          rw [if_neg z2] at ed
          exact ⟨s1, ac, h4, by omega⟩
      · rintro Z ⟨s1, ac, h4, h5⟩
        rw [List.length_map, List.drop_length] at h5
        exact ⟨s1.1, ac, h4, h5⟩
    · rintro Z ⟨h1, acc, h2, h3⟩
      rw [List.length_map, List.drop_length] at h3
      have h3 : acc.length = inv r := h3
      refine ⟨_, rfl, L, _, rfl, .inl (SqL.of h2), _, _, rfl, rfl, by show (0 : Int) < 2; decide, rfl, ?_⟩
      have e : decide (V.int ((acc.length : Int) % 2) = V.int 1) = oddI r := by
        unfold oddI
        rw [h3]
        by_cases c : inv r % 2 = 1
        · rw [decide_eq_true c, decide_eq_true (by rw [V.int.injEq]; omega)]
        · rw [decide_eq_false c, decide_eq_false (by rw [V.int.injEq]; omega)]
      rw [e]
      exact k Z h1
end
end Sw
namespace Sw
open PySem PySem.Spec PyProof.Rows L2
/-! ### lists of tuples of whole numbers as data -/
def tupD (L : List Int) : PyData := .tuple (L.map PyData.int)
theorem eqvAll_ints : ∀ L M : List Int, PyData.eqvAll (L.map PyData.int) (M.map PyData.int) = decide (L = M)
  | [], [] => by simp [PyData.eqvAll]
  | [], _ :: _ => by simp [PyData.eqvAll]
  | _ :: _, [] => by simp [PyData.eqvAll]
  | a :: r, b :: t => by
    simp only [List.map_cons, PyData.eqvAll, PyData.eqv, eqvAll_ints r t]
    by_cases h : a = b <;> by_cases h' : r = t <;> simp [h, h']
theorem eqv_tupD (L M : List Int) : PyData.eqv (tupD L) (tupD M) = decide (L = M) := by
  unfold tupD
  rw [PyData.eqv]
  exact eqvAll_ints L M
theorem eqvAll_tups : ∀ Ls Ms : List (List Int), PyData.eqvAll (Ls.map tupD) (Ms.map tupD) = decide (Ls = Ms)
  | [], [] => by simp [PyData.eqvAll]
  | [], _ :: _ => by simp [PyData.eqvAll]
  | _ :: _, [] => by simp [PyData.eqvAll]
  | a :: r, b :: t => by
    simp only [List.map_cons, PyData.eqvAll, eqv_tupD, eqvAll_tups r t]
    by_cases h : a = b <;> by_cases h' : r = t <;> simp [h, h']
theorem eqv_tups (Ls Ms : List (List Int)) : PyData.eqv (.list (Ls.map tupD)) (.list (Ms.map tupD)) = decide (Ls = Ms) := by
  rw [PyData.eqv]
  exact eqvAll_tups Ls Ms
theorem ints_lay : ∀ L : List Int, PyData.canLayAll0 (L.map PyData.int) = true
  | [] => by simp [PyData.canLayAll0]
  | _ :: r => by simp [PyData.canLayAll0, PyData.canLay0, ints_lay r]
theorem ints_depth : ∀ L : List Int, PyData.depthAll (L.map PyData.int) = 0
  | [] => by simp [PyData.depthAll]
  | _ :: r => by simp [PyData.depthAll, PyData.depth, ints_depth r]
theorem tupD_lay (L : List Int) : (tupD L).canLay0 = true := by simp [tupD, PyData.canLay0, ints_lay]
theorem tupD_depth (L : List Int) : (tupD L).depth = 1 := by simp [tupD, PyData.depth, ints_depth]
theorem tups_lay : ∀ Ls : List (List Int), PyData.canLayAll0 (Ls.map tupD) = true
  | [] => by simp [PyData.canLayAll0]
  | L :: r => by simp [PyData.canLayAll0, tupD_lay L, tups_lay r]
theorem tups_depth : ∀ Ls : List (List Int), PyData.depthAll (Ls.map tupD) ≤ 1
  | [] => by simp [PyData.depthAll]
  | L :: r => by
    have h1 := tups_depth r
    have h2 := tupD_depth L
    simp only [List.map_cons, PyData.depthAll]
    omega
theorem shaped_tupD (L : List Int) : SeqAt.shaped (tupD L) = true := by
  unfold SeqAt.shaped
  rw [tupD_lay, tupD_depth]
  rfl
theorem shaped_tups (Ls : List (List Int)) : SeqAt.shaped (.list (Ls.map tupD)) = true := by
  have h := tups_depth Ls
  have d : PyData.depth (.list (Ls.map tupD)) ≤ 64 := by
    simp only [PyData.depth]
    omega
  unfold SeqAt.shaped
  rw [decide_eq_true d, Bool.and_true]
  simp only [PyData.canLay0]
  exact tups_lay Ls
section
variable {K : PySem.W.Frag} {H : Hp}
theorem dp_ints : ∀ os : List Int, DpAll K H (os.map V.int) (os.map PyData.int)
  | [] => .nil
  | i :: r => .cons (.int i) (dp_ints r)
theorem dp_tup {t : Addr} {L : List Int} (h : H t = some (.tup (L.map V.int))) : Dp K H (.ref t) (tupD L) := .tup (SqT.of h) (dp_ints L)
theorem dp_tups {ts : List Addr} {Ls : List (List Int)} (h : TupsAt H ts Ls) : DpAll K H (ts.map V.ref) (Ls.map tupD) := by
  unfold TupsAt at h
  induction h with
  | nil => exact .nil
  | cons q t ih => exact .cons (dp_tup q) ih
end
theorem any_tup (Ls : List (List Int)) (os : List Int) : ((Ls.map tupD).any fun z => PyData.eqv z (tupD os)) = true ↔ os ∈ Ls := by
  rw [List.any_map, List.any_eq_true]
  constructor
  · rintro ⟨L, hL, h⟩
    have h : PyData.eqv (tupD L) (tupD os) = true := h
    rw [eqv_tupD] at h
    exact of_decide_eq_true h ▸ hL
  · intro h
    refine ⟨os, h, ?_⟩
    show PyData.eqv (tupD os) (tupD os) = true
    rw [eqv_tupD]
    exact decide_eq_true rfl
theorem un65 {A : Around} {k : Nat} (hr : Room k A) : A.units + 65 < cLine := by
  have := hr.un
  omega
/-! ### what a tuple's address shows -/
def unI : V → Int
  | .int i => i
  | _ => 0
def kT (H : Hp) : V → List Int := fun x => match x with
  | .ref t => (match H t with
    | some (.tup xs) => xs.map unI
    | _ => [])
  | _ => []
theorem kT_of {H : Hp} {t : Addr} {L : List Int} (h : H t = some (.tup (L.map V.int))) : kT H (.ref t) = L := by
  unfold kT
  simp only [h]
  rw [List.map_map]
  exact List.map_id _
theorem tups_mem {H : Hp} {ts : List Addr} {Ls : List (List Int)} (h : TupsAt H ts Ls) {x : V} (hx : x ∈ ts.map V.ref) : ∃ t L, x = .ref t ∧ L ∈ Ls ∧ H t = some (.tup (L.map V.int)) ∧ kT H x = L := by
  obtain ⟨t, ht, rfl⟩ := List.mem_map.mp hx
  obtain ⟨i, hi⟩ := List.getElem?_of_mem ht
  obtain ⟨L, hL, e⟩ := h.at hi
  exact ⟨t, L, rfl, List.mem_of_getElem? hL, e, kT_of e⟩
theorem tups_kT {H : Hp} {ts : List Addr} {Ls : List (List Int)} (h : TupsAt H ts Ls) : (ts.map V.ref).map (kT H) = Ls := by
  unfold TupsAt at h
  induction h with
  | nil => rfl
  | cons q t ih => rw [List.map_cons, List.map_cons, ih, kT_of q]
/-- a list in its order is told by what is in it -/
theorem perm_srt {α : Type} (key : α → Int) : ∀ {l m : List α}, l.Perm m → l.Pairwise (fun a b => key a ≤ key b) → m.Pairwise (fun a b => key a < key b) → l = m
  | l, [], p, _, _ => p.eq_nil
  | [], b :: m, p, _, _ => absurd p.length_eq (by simp)
  | a :: l, b :: m, p, s, t => by
    obtain ⟨sa, sl⟩ := List.pairwise_cons.mp s
    obtain ⟨tb, tm⟩ := List.pairwise_cons.mp t
    have e : a = b := by
      rcases List.mem_cons.mp (p.mem_iff.mp (List.mem_cons_self (a := a) (l := l))) with z | z
      · exact z
      · rcases List.mem_cons.mp (p.mem_iff.mpr (List.mem_cons_self (a := b) (l := m))) with y | y
        · exact y.symm
        · have := tb a z
          have := sa b y
          omega
    subst e
    rw [perm_srt key p.cons_inv sl tm]
end Sw
namespace Sw
open PySem PySem.Spec PyProof.Rows L2
/-! ### a tuple of the module, as deep as it is; x in such a tuple -/
def all2 {α β : Type} (f : α → β → Bool) : List α → List β → Bool
  | [], [] => true
  | a :: r, b :: t => f a b && all2 f r t
  | _, _ => false
def isTupT : Value → Bool
  | .type t => t == "tuple"
  | _ => false
theorem isTupT_eq {v : Value} (h : isTupT v = true) : v = .type "tuple" := by
  unfold isTupT at h
  split at h
  · rw [eq_of_beq h]
  · cases h
def dataIn (K : PySem.W.Frag) : Nat → Value → PyData → Bool
  | 0, _, _ => false
  | n + 1, u, d => match u, d with
    | .int i _, .int j => i == j
    | .str x _, .str y => x == y
    | .ref a, .tuple ds => match K.lookup a with
      | some o => match o.data with
        | .seq its _ => isTupT o.cls && decide (its.size ≤ sizeLine) && all2 (dataIn K n) its.toList ds
        | _ => false
      | none => false
    | _, _ => false
theorem all2_is {K : PySem.W.Frag} {f : Value → PyData → Bool} (h : ∀ u d, f u d = true → ∃ v, RelV v u ∧ ∀ H, Dp K H v d) : ∀ (us : List Value) (ds : List PyData), all2 f us ds = true → ∃ vs, Vals vs us ∧ ∀ H, DpAll K H vs ds
  | [], [], _ => ⟨[], .nil, fun _ => .nil⟩
  | u :: us, d :: ds, e => by
    have e : (f u d && all2 f us ds) = true := e
    rw [Bool.and_eq_true] at e
    obtain ⟨v, r, k⟩ := h u d e.1
    obtain ⟨vs, rs, ks⟩ := all2_is h us ds e.2
    exact ⟨v :: vs, .cons r rs, fun H => .cons (k H) (ks H)⟩
  | [], _ :: _, e => by cases e
  | _ :: _, [], e => by cases e
theorem dataIn_is {K : PySem.W.Frag} : ∀ (n : Nat) (u : Value) (d : PyData), dataIn K n u d = true → ∃ v, RelV v u ∧ ∀ H, Dp K H v d
  | 0, _, _, h => by cases h
  | n + 1, u, d, h => by
    unfold dataIn at h
    split at h
    · rename_i i t j
      obtain rfl := eq_of_beq h
      exact ⟨.int i, ⟨t, rfl⟩, fun _ => .int i⟩
    · rename_i x t y
      obtain rfl := eq_of_beq h
      exact ⟨.str x, ⟨t, rfl⟩, fun _ => .str x⟩
    · rename_i a ds
      split at h
      · rename_i o ho
        split at h
        · rename_i its m hd
          rw [Bool.and_eq_true, Bool.and_eq_true] at h
          obtain ⟨vs, r, k⟩ := all2_is (dataIn_is n) _ _ h.2
          exact ⟨.ref a, rfl, fun H => .tup (.inr ⟨o, its, m, ho, isTupT_eq h.1.1, hd, of_decide_eq_true h.1.2, r⟩) (k H)⟩
        · cases h
      · cases h
    · cases h
/-- a name of the module that stands for these data -/
def GData (K : PySem.W.Frag) (mg : Str → Option Value) (x : Str) (d : PyData) : Prop := ∃ a : Addr, mg x = some (.ref a) ∧ ∀ H, Dp K H (.ref a) d
theorem gdata_mk {K : PySem.W.Frag} {mg : Str → Option Value} {h : Heap} {x : Str} {d : PyData} {a : Addr} (X : K.In h) (G : h.Ns mainGlobals mg) (e : PySem.W.nsIn K mainGlobals x = some (some (.ref a))) (k : dataIn K 9 (.ref a) d = true) : GData K mg x d := by
  obtain ⟨v, r, q⟩ := dataIn_is 9 _ _ k
  have q1 := q fun _ => none
  cases d with
  | tuple ds =>
    cases q1 with
    | tup hs ha =>
      have r : Value.ref a = .ref _ := r
      cases r
      exact ⟨a, PySem.W.mg_of X G e, q⟩
  | _ => cases k
section
variable {X : Cx}
def rInTD (K : PySem.W.Frag) : R2 := fun x y H Q => ∃ d ds, Dp K H x d ∧ Dp K H y (.tuple ds) ∧ SeqAt.shaped d = true ∧ SeqAt.shaped (.tuple ds) = true ∧ Q (.bl (ds.any fun z => PyData.eqv z d)) H
theorem op_inTD (hu : X.A.units + 65 < cLine) : OpR X (compareOp .In) (rInTD X.K) := by
  intro pins s σ H x y v u Q I rx ry h
  obtain ⟨d, ds, hd, he, sd, se, q⟩ := h
  obtain ⟨as, r1⟩ := Dp.reads I d x v hd rx
  obtain ⟨bs, r2⟩ := Dp.reads I (.tuple ds) y u he ry
  have h1 := SeqAt.depth_of_shaped sd
  refine SeqAt.in_tuple_reads r2 r1 (SeqAt.canLay_of_shaped se) (SeqAt.canLay_of_shaped sd) ?_ ⟨.bl _, H, I, rfl, q⟩
  have h2 : min (PyData.depthAll ds) d.depth ≤ d.depth := Nat.min_le_right _ _
  omega
end
/-! ### pairs as data -/
def e2l (e : Int × Int) : List Int := [e.1, e.2]
def arsD (ars : List (Int × Int)) : PyData := .tuple ((ars.map e2l).map tupD)
theorem e2l_inj : ∀ {l m : List (Int × Int)}, l.map e2l = m.map e2l → l = m
  | [], [], _ => rfl
  | [], _ :: _, h => by cases h
  | _ :: _, [], h => by cases h
  | (a, b) :: r, (c, d) :: t, h => by
    rw [List.map_cons, List.map_cons] at h
    injection h with h1 h2
    injection h1 with h3 h4
    injection h4 with h4 _
    obtain rfl : a = c := h3
    obtain rfl : b = d := h4
    rw [e2l_inj h2]
theorem eqv_arsD (l m : List (Int × Int)) : PyData.eqv (arsD l) (arsD m) = decide (l = m) := by
  unfold arsD
  rw [PyData.eqv, eqvAll_tups]
  by_cases h : l = m
  · rw [decide_eq_true h, decide_eq_true (congrArg _ h)]
  · rw [decide_eq_false h, decide_eq_false fun z => h (e2l_inj z)]
theorem shaped_arsD (l : List (Int × Int)) : SeqAt.shaped (arsD l) = true := by
  have h := tups_depth (l.map e2l)
  have d : PyData.depth (arsD l) ≤ 64 := by
    simp only [arsD, PyData.depth]
    omega
  unfold SeqAt.shaped
  rw [decide_eq_true d, Bool.and_true]
  simp only [arsD, PyData.canLay0]
  exact tups_lay _
theorem dp_ars {K : PySem.W.Frag} {H : Hp} : ∀ {ts : List V} {ars : List (Int × Int)}, ArsAt H ts ars → DpAll K H ts ((ars.map e2l).map tupD)
  | _, _, .nil => .nil
  | _, _, .cons (b := e) q t => by
    obtain ⟨t', rfl, h⟩ := q
    exact .cons (dp_tup (L := e2l e) h) (dp_ars t)
theorem dp_arsT {K : PySem.W.Frag} {H : Hp} {b : Addr} {ts : List V} {ars : List (Int × Int)} (h : H b = some (.tup ts)) (A : ArsAt H ts ars) : Dp K H (.ref b) (arsD ars) := .tup (SqT.of h) (dp_ars A)
end Sw
namespace Sw
open PySem PySem.Spec PyProof.Rows L2
/-! ### is_ring, is_five -/
abbrev sIsRing : Stmt := top 20
abbrev sIsFive : Stmt := top 21
abbrev nIsFive : List Str := ["net", "n", "arrows", "called", "v", "w"]
theorem scIsRing : FnScope ["net", "n", "arrows"] ["net"] (defScope sIsRing) := ⟨rfl, rfl, rfl, by decide +kernel, rfl, by decide +kernel, by decide +kernel⟩
theorem scIsFive : FnScope nIsFive ["net"] (defScope sIsFive) := ⟨rfl, rfl, rfl, by decide +kernel, rfl, by decide +kernel, by decide +kernel⟩
def fivesD : PyData := .tuple [arsD (fiveS false), arsD (fiveS true)]
theorem fives_shaped : SeqAt.shaped fivesD = true := by decide
theorem fives_any (l : List (Int × Int)) : (([arsD (fiveS false), arsD (fiveS true)]).any fun z => PyData.eqv z (arsD l)) = true ↔ ∃ b, fiveS b = l := by
  rw [List.any_eq_true]
  constructor
  · rintro ⟨d, hd, h⟩
    simp only [List.mem_cons, List.not_mem_nil, or_false] at hd
    rcases hd with rfl | rfl
    · rw [eqv_arsD] at h
      exact ⟨false, of_decide_eq_true h⟩
    · rw [eqv_arsD] at h
      exact ⟨true, of_decide_eq_true h⟩
  · rintro ⟨b, rfl⟩
    refine ⟨arsD (fiveS b), by cases b <;> simp, ?_⟩
    rw [eqv_arsD]
    exact decide_eq_true rfl
section
variable {P : Program} {w : World} {K : PySem.W.Frag} {mg : Str → Option Value} {base : Heap}
def spIsRing : Sp := fun vs H Q _ => ∃ (a b : Addr) (n : Int) (ts : List V) (ars : List (Int × Int)), vs = [.ref a] ∧ NetAt n H a b ts ∧ ArsAt H ts ars ∧
  ∀ (c : Bool), (c = true ↔ 3 ≤ n ∧ (ars.length : Int) = n) → Q (.bl c) H
theorem ok_isRing {f : Addr} {fd : FuncData} (F : Fun K "is_ring" "is_ring" sIsRing f fd) (B : NoNames mg) : FnOk P w K mg base CX0 1 f fd ["net"] spIsRing := by
  refine F.ok scIsRing (fun vs H Q E h => ?_) (fun cdv A outer s H vs Q E hr h => ?_)
  · obtain ⟨a, b, n, ts, ars, rfl, _⟩ := h
    rfl
  · obtain ⟨a, b, n, ts, ars, rfl, N, AR, k⟩ := h
    have ln := AR.len
    refine ⟨_, pss_cons (ps_asg (pv 0) (pg_tup (by rfl) (pgs_cons (pg_name (i := 1) scIsRing.nd rfl (.inl rfl)) (pgs_cons (pg_name (i := 2) scIsRing.nd rfl (.inl rfl)) pgs_nil)))) <|
      pss_one (ps_ret (pe_and (pe_cmpR op_ge (pv 1) pe_int (nomark _)) (pe_one (pe_cmpR op_eq (pe_callB call_len_seq (by rfl) B.len PySem.boot_len (pa_cons (pv 2) pa_nil)) (pv 1) (nomark _))))), ?_⟩
    refine ⟨_, rfl, a, _, rfl, SqT.of N.a, rfl, _, _, rfl, _, _, rfl, rfl, ?_⟩
    refine ⟨_, rfl, _, _, rfl, rfl, _, rfl, ite2 (fun y => ?_) (fun y => ?_)⟩
    · have y := of_decide_eq_true y
      refine ⟨_, rfl, b, _, rfl, .inr (N.sq), _, rfl, rfl, k _ ?_⟩
      rw [decide_eq_true_iff, V.int.injEq, ln]
      exact ⟨fun z => ⟨y, z⟩, fun z => z.2⟩
    · exact k _ ⟨fun z => (nomatch z), fun z => (y (decide_eq_true z.1)).elim⟩
def spIsFive : Sp := fun vs H Q _ => ∃ (a b : Addr) (n : Int) (ts : List V) (ars : List (Int × Int)), vs = [.ref a] ∧ NetAt n H a b ts ∧ ArsAt H ts ars ∧
  ∀ (c : Bool) (H' : Hp), Same H H' → (c = true ↔ FiveP n ars) → Q (.bl c) H'
theorem ok_isFive {f : Addr} {fd : FuncData} (F : Fun K "is_five" "is_five" sIsFive f fd) (B : NoNames mg) (mP : mg "permutations" = some (.type "itertools.permutations")) (GF : GData K mg "FIVES" fivesD) : FnOk P w K mg base CX0 1 f fd ["net"] spIsFive := by
  obtain ⟨af, mF, dF⟩ := GF
  refine F.ok scIsFive (fun vs H Q E h => ?_) (fun cdv A outer s H vs Q E hr h => ?_)
  · obtain ⟨a, b, n, ts, ars, rfl, _⟩ := h
    rfl
  · obtain ⟨a, b, n, ts, ars, rfl, N, AR, k⟩ := h
    have ln := AR.len
    have inn := inn_of N.arr AR
    have h65 := un65 hr
    refine ⟨_, pss_cons (ps_asg (pv 0) (pg_tup (by rfl) (pgs_cons (pg_name (i := 1) scIsFive.nd rfl (.inl rfl)) (pgs_cons (pg_name (i := 2) scIsFive.nd rfl (.inl rfl)) pgs_nil)))) <|
      pss_cons (ps_if (PW.pt (pw_or (pt_cmpR op_ne (pv 1) pe_int (nomark _)) (pw_or1 (pt_cmpR op_ne (pe_callB call_len_seq (by rfl) B.len PySem.boot_len (pa_cons (pv 2) pa_nil)) pe_int (nomark _))))) (pss_one (ps_ret pe_bl)) pss_nil) <|
      pss_cons (ps_for PassesOwn.never rfl (pi_perm5 rfl (by rfl) mP (by rfl) B.range (pa_cons pe_int pa_nil)) (pg_name (i := 3) scIsFive.nd rfl (.inr rfl))
        (pss_one (ps_if (pt_cmpR (op_inTD h65) (pe_callTy call_tuple_of (by rfl) B.tuple (by decide +kernel) (pa_cons (pe_callB cr_sortedPO (by rfl) B.sorted (by decide +kernel) (pa_cons
          (pe_lc (own := [("v", 4), ("w", 5)]) (g := gTup K 2 (gCons (gName 4) (gCons (gName 5) gNil))) (tt := tYes) (te := tTup (tCons (tOp (rIxT K) (tVar 3) (tVar 4)) (tCons (tOp (rIxT K) (tVar 3) (tVar 5)) tNil))) rfl scIsFive.nd (pi_tup (pv 2)) (blkOk_by (own := [("v", 4), ("w", 5)]) (N := nIsFive) (sc := defScope sIsFive) (by decide +kernel))
            (fun _ _ _ _ _ => pg_tup rfl (pgs_cons (pg_name (i := 4) scIsFive.nd rfl (Or.inl rfl)) (pgs_cons (pg_name (i := 5) scIsFive.nd rfl (Or.inl rfl)) pgs_nil))) (fun _ _ _ _ _ => pts_nil)
            (fun _ _ _ _ _ => pe_tup (pa_cons (pe_ix (r := rIxT K) ix_tup (pv 3) (pv 4) (fun _ _ => rfl)) (pa_cons (pe_ix (r := rIxT K) ix_tup (pv 3) (pv 5) (fun _ _ => rfl)) pa_nil)))) pa_nil)) pa_nil))
          (pe_glob (v := .ref af) (by rfl) mF rfl) (by with_unfolding_all rfl)) (pss_one (ps_ret pe_bl)) pss_nil))) <|
      pss_one (ps_ret pe_bl), ?_⟩
    refine ⟨_, rfl, a, _, rfl, SqT.of N.a, rfl, _, _, rfl, _, _, rfl, rfl, ?_⟩
    have no : ¬ (n = 5 ∧ ars.length = 6) → ∀ H', Same H H' → Q (.bl false) H' := fun z H' s => k _ _ s ⟨fun q => (nomatch q), fun q => (z ⟨q.1, q.2.1⟩).elim⟩
    refine ⟨_, rfl, rfl, _, rfl, ite2 (fun y => ?_) (fun y => ?_)⟩
    · refine no (fun z => ?_) _ (.refl _)
      rw [z.1] at y
      cases y
    have n5 : n = 5 := by
      by_cases z : n = 5
      · exact z
      · refine (y ?_).elim
        show (!decide (V.int n = V.int 5)) = true
        rw [decide_eq_false fun q => z (V.int.inj q)]
        rfl
    subst n5
    refine ⟨_, rfl, b, _, rfl, .inr (N.sq), rfl, _, rfl, ite2 (fun y => ?_) (fun y => ?_)⟩
    · refine no (fun z => ?_) _ (.refl _)
      rw [ln, z.2] at y
      cases y
    have l6 : ars.length = 6 := by
      by_cases z : ars.length = 6
      · exact z
      · refine (y ?_).elim
        show (!decide (V.int (ts.length : Nat) = V.int 6)) = true
        rw [decide_eq_false fun q => z (by have := V.int.inj q; omega)]
        rfl
    clear y no
    refine ⟨rfl, for_it walk_perm (fun i σ Z => ∃ s3 s4 s5 : Option V, σ = [some (.ref a), some (.int 5), some (.ref b), s3, s4, s5] ∧ Same H Z ∧ ∀ j, j < i → ∀ c, ¬ (ars.map (renE (permAt j))).Perm (fiveS c))
      ⟨_, _, _, rfl, .refl _, fun j hj => (by omega)⟩ (fun _ _ _ _ _ => trivial) ?_ ?_⟩
    · rintro i x σ Hb Hc hi ⟨s3, s4, s5, rfl, x4, no⟩ ⟨T, rfl, nT, rfl⟩
      obtain ⟨pl, pin, _⟩ := perm_ok hi
      have xT := x4.trans (same_new (o := .tup ((permAt i).map V.int)) nT)
      have hT : (upd Hb T (.tup ((permAt i).map V.int))) T = some (.tup ((permAt i).map V.int)) := upd_same
      generalize (upd Hb T (.tup ((permAt i).map V.int))) = H1 at xT hT ⊢
      clear x4 nT
      refine ⟨_, rfl, b, rfl, ⟨_, (N.keep (.of xT)).sq⟩, fun D nD => ?_⟩
      refine lc_it (walk_tup (xs := ts)) (fun i' H' => ∃ xs : List V, H' D = some (.lst xs) ∧ xs.length = i' ∧ ArsAt H' xs ((ars.take i').map (renE (permAt i))) ∧ Same H1 H') ⟨[], upd_same, rfl, by rw [List.take_zero]; exact .nil, same_new nD⟩ (fun i _ _ h => by obtain ⟨_, _, _, _, e⟩ := h; exact (N.keep (.of (xT.trans e))).sq) ?_ ?_
      · rintro j x Hb2 Ha hj ⟨xs, h1, h2, h3, h5⟩ ⟨rfl, ex⟩
        obtain ⟨e, t, he, rfl, ht⟩ := AR.at ex
        have me := List.mem_of_getElem? he
        have ie := inn e me
        refine ⟨t, _, rfl, SqT.of (h5 _ _ (xT _ _ ht)), rfl, _, _, rfl, _, _, rfl, rfl, ?_⟩
        refine ⟨rfl, ?_⟩
        dsimp only [tYes]
        rw [if_pos rfl]
        refine ⟨_, rfl, _, rfl, T, _, e.1, _, rfl, rfl, SqT.of (h5 _ _ hT), ren_at ie.1 pl, _, rfl, _, rfl, T, _, e.2, _, rfl, rfl, SqT.of (h5 _ _ hT), ren_at ie.2 pl, by show 2 ≤ sizeLine; decide, fun q nq => ?_⟩
        have sq : Same Ha (upd Ha q (.tup [.int (ren (permAt i) e.1), .int (ren (permAt i) e.2)])) := same_new nq
        have h1' := sq _ _ h1
        have hq : (upd Ha q (.tup [.int (ren (permAt i) e.1), .int (ren (permAt i) e.2)])) q = some (.tup [.int (ren (permAt i) e.1), .int (ren (permAt i) e.2)]) := upd_same
        have s6 := h5.trans sq
        have h3' := h3.keep (.of sq)
        generalize (upd Ha q (.tup [.int (ren (permAt i) e.1), .int (ren (permAt i) e.2)])) = H6 at h1' hq s6 h3' ⊢
        have tu : TupS H6 (upd H6 D (.lst (xs ++ [.ref q]))) := TupS.lst h1'
        refine ⟨xs, h1', by rw [h2, sizeLine_eq]; omega, xs ++ [.ref q], upd_same, by rw [List.length_append, h2]; rfl, ?_, fun c o ec => ?_⟩
        · rw [List.take_add_one, he, List.map_append]
          exact ars_app (h3'.keep tu) (.cons ⟨q, rfl, tu _ _ hq⟩ .nil)
        · rw [upd_ne (ne_of_none ec nD)]
          exact s6 _ _ ec
      · rintro Ha ⟨xs, h1, h2, h3, h5⟩
        rw [List.take_of_length_le (Nat.le_of_eq ln.symm)] at h3
        have ek := ars_kAt h3
        have ea := ars_each h3
        refine ⟨D, xs, kAt Ha, rfl, SqL.of h1, ea, fun ys p sy st np => ?_⟩
        have sk : SrtA (ys.map (kAt Ha)) := List.pairwise_map.mpr sy
        have pm := st.perm
        have AY := ars_back (ys := ys) fun x hx => ea x (pm.mem_iff.mp hx)
        have py : (ys.map (kAt Ha)).Perm (ars.map (renE (permAt i))) := ek ▸ pm.map _
        have s1 : Same Ha (upd Ha p (.lst ys)) := same_new np
        have hp : (upd Ha p (.lst ys)) p = some (.lst ys) := upd_same
        have AY1 := AY.keep (.of s1)
        have s5 := (xT.trans h5).trans s1
        generalize ys.map (kAt Ha) = ars' at AY1 py sk
        generalize (upd Ha p (.lst ys)) = H2 at hp AY1 s5 ⊢
        refine ⟨p, ys, rfl, .inl ⟨SqL.of hp, fun T1 nT1 => ?_⟩⟩
        have s2 : Same H2 (upd H2 T1 (.tup ys)) := same_new nT1
        have e1 := (upd_same (H := H2) (a := T1) (o := .tup ys))
        have A4 := AY1.keep (.of s2)
        have s6 := s5.trans s2
        generalize (upd H2 T1 (.tup ys)) = H3 at e1 A4 s6 ⊢
        have is : ∀ c, fiveS c = ars' ↔ (ars.map (renE (permAt i))).Perm (fiveS c) := fun c => ⟨fun z => z ▸ py.symm, fun z => srt_eq (fiveS_srt c) sk (z.symm.trans py.symm)⟩
        refine ⟨arsD ars', _, dp_arsT e1 A4, dF H3, shaped_arsD _, fives_shaped, _, rfl, ite2 (fun y => ?_) (fun y => ?_)⟩
        · obtain ⟨c, z⟩ := (fives_any ars').mp y
          exact k true H3 s6 ⟨fun _ => ⟨rfl, l6, i, hi, c, (is c).mp z⟩, fun _ => rfl⟩
        · refine ⟨_, _, _, rfl, s6, fun j hj c z => ?_⟩
          by_cases q : j = i
          · subst q
            exact y ((fives_any ars').mpr ⟨c, (is c).mpr z⟩)
          · exact no j (by omega) c z
    · rintro σ H3 ⟨s3, s4, s5, rfl, x4, no⟩
      exact k false H3 x4 ⟨fun z => (nomatch z), fun ⟨_, _, i, hi, c, z⟩ => (no i hi c z).elim⟩
end
end Sw
namespace Sw
open PySem PySem.Spec PyProof.Rows L2
/-! ### raise C() -/
section
variable {X : Cx} {C : Addr} {bmB : List Value} {B newId initId : String}
theorem pmk_own0 {x : Str} {p pos : Pos} (F : ExcBaseFacts B newId initId bmB) (q : PySem.W.excIn X.K C bmB newId = true) (gC : X.mg x = some (.ref C)) (kC : PySem.W.keepIn X.K (.ref C) = true) (r : Raises X (.ref C)) (hg : Gl X x)
    (hdb : (x == ("__debug__" : Str)) = false := by decide) : PMk X (.Call (.Name x p) [] [] pos) (fun _ H Q => Q (.ref C) none H) := by
  intro pins s σ H Q I h
  refine wpAny_Call_Name_kw (ld_glob I hg gC ?_ hdb)
  refine PySem.W.callWith_K0 (first := []) I.kIn kC ?_
  show wpAny _ _ (call (.ref C) []) _ _ _
  obtain ⟨bm, N, nm, qn, bs, hdct, sn, sub, ab, col, dd, k0, k1, k2, k3, k5, mN, hC, hN, hni, T⟩ := exc_obj I.kIn q
  exact wpAny_call_exc_subT F T hC hN hni (fun h' e hm => mk_of I hm r h (I.hok.gone hm.new)) (by show 0 ≤ sizeLine; omega)
end
end Sw
namespace Sw
open PySem PySem.Spec PyProof.Rows L2
/-! ### an own error x without __init__, under the error y of the package: raised, caught, asked -/
structure UErr (K : PySem.W.Frag) (mg : Str → Option Value) (x y : Str) (C S : Addr) : Prop where
  mx : mg x = some (.ref C)
  my : mg y = some (.ref S)
  made : PySem.W.excIn K C [.type "ValueError", .type "Exception", .type "BaseException", .type "object"] "ValueError.__new__" = true
  kC : PySem.W.keepIn K (.ref C) = true
  base : PySem.W.subIn K (.ref C) (.type "BaseException") = some true
  ty : PySem.W.typeIn K (.ref C) = some (.type "type")
  self : PySem.W.subIn K (.ref C) (.ref C) = some true
  ex : ExcC K C
  sub : PySem.W.kitOne K (.ref C) (.ref S) = some true
theorem UErr.raises {X : Cx} {x y : Str} {C S : Addr} (U : UErr X.K X.mg x y C S) : Raises X (.ref C) := raises_own U.base U.ty
theorem UErr.takes {K : PySem.W.Frag} {mg : Str → Option Value} {x y : Str} {C S : Addr} (U : UErr K mg x y C S) : PySem.W.exmOne K (.ref C) (.ref C) = some true := PySem.W.exm_ref U.base U.ex.hd U.ty U.self
theorem UErr.mk0 {X : Cx} {x y : Str} {C S : Addr} {p pos : Pos} (U : UErr X.K X.mg x y C S) (hg : Gl X x) (hdb : (x == ("__debug__" : Str)) = false := by decide) : PMk X (.Call (.Name x p) [] [] pos) (fun _ H Q => Q (.ref C) none H) :=
  pmk_own0 PySem.F.excBase_ValueError U.made U.mx U.kC U.raises hg hdb
section
variable {X : Cx} {CX : CXT} {k : Nat} {f : Addr} {fd : FuncData} {ps ks : List Str} {sp : Sp} {E : L2.St → XK} {x : Str} {p pos : Pos} {kws : List Keyword} {tk : TA} {g : List Value → List Value → List Value} {gV : List V → List V → List V}
/-- f(k = v) in a try: what it may let out is wished for at the slots -/
theorem pe_callWS (F : FnOk X.prog X.w X.K X.mg X.base CX k f fd ps sp) (hr : Room k X.A) (hg : Gl X x) (hm : X.mg x = some (.ref f)) (hk : PySem.W.keepIn X.K (.ref f) = true) (hb : KBinds X.K fd ps ks g gV) (hx : ∀ σ, PassesAt CX X σ (E σ))
    (hkw : PK X kws tk) (hall : (backToKw pos (keywordEach kws X.env)).all (·.1.isSome) = true := by rfl) (hks : (backToKw pos (keywordEach kws X.env)).filterMap (·.1) = ks := by rfl)
    (hdb : (x == ("__debug__" : Str)) = false := by decide)
    (hpl : ((backTo pos (starEach [] X.env)).any (·.1) || (backToKw pos (keywordEach kws X.env)).any (·.1.isNone)) = false := by rfl) :
    PE X (.Call (.Name x p) [] kws pos) (fun σ H Q => tk σ H fun zs H2 => sp (gV [] zs) H2 Q (E σ)) := by
  refine ⟨fun pins s σ H Q I h => wpAny_Call_Name_kw (ld_glob I hg hm ?_ hdb)⟩
  refine PySem.W.callWith_KW0 (first := []) (h₀ := X.base) I.ok.mod.kin hk hall (thn (hkw.run pos pins s σ H _ I h) fun ws s2 ⟨zs, H2, I2, rz, q2⟩ => ⟨I2.kIn, ?_⟩) hpl
  rw [hks]
  have r2 := hb.rel (us := []) .nil rz
  have hl : (g [] ws).length = ps.length := by
    rw [← r2.length]
    exact F.len _ _ _ _ q2
  refine wpAny_call (codeAny_mono (F.run X.A X.stack s2 H2 ⟨[], ks.zip ws⟩ (g [] ws) (gV [] zs) Q (E σ) hr I2.env0 (hb.to s2 [] ws I2.kIn hl) r2 q2) fun r s' hq => ?_)
  rcases r with e | fl
  · exact hx σ pins H2 s2 e s' I2 hq
  rcases fl with _ | _ | _ | u
  all_goals first | exact hq.elim | skip
  exact I2.after hq
end
end Sw
namespace Sw
open PySem PySem.Spec PyProof.Rows L2 PySem.W
theorem uerr_mk {K : Frag} {mg : Str → Option Value} {h : Heap} {x y : Str} {C S : Addr} (X : K.In h) (G : h.Ns mainGlobals mg) (aC : nsIn K mainGlobals x = some (some (.ref C))) (aS : nsIn K mainGlobals y = some (some (.ref S)))
    (made : excIn K C [.type "ValueError", .type "Exception", .type "BaseException", .type "object"] "ValueError.__new__" = true) (kC : keepIn K (.ref C) = true) (base : subIn K (.ref C) (.type "BaseException") = some true)
    (ty : typeIn K (.ref C) = some (.type "type")) (self : subIn K (.ref C) (.ref C) = some true)
    (e1 : findIn K (.ref C) "__getattribute__" = some (some (.builtin "BaseException.__getattribute__"))) (e2 : findIn K (.ref C) "__getattr__" = some none) (e4 : hasDictIn K C = true)
    (e5 : findIn K (.ref C) "__class__" = some (some (.builtin "object.__class__"))) (e6 : specialIn K (.builtin "object.__class__") "__get__" = some (some (.builtin "getset_descriptor.__get__"))) (e7 : takesIn K (.builtin "object.__class__") = some true)
    (e8 : mroIn K C (.type "object") = some true) (sub : kitOne K (.ref C) (.ref S) = some true) : ∃ C S, UErr K mg x y C S :=
  ⟨C, S, mg_of X G aC, mg_of X G aS, made, kC, base, ty, self, ⟨e1, e2, base, e4, e5, e6, e7, e8⟩, sub⟩
/-- two own errors: neither the other -/
structure UErr2 (K : PySem.W.Frag) (mg : Str → Option Value) (x1 x2 y : Str) (C1 C2 S : Addr) : Prop where
  a : UErr K mg x1 y C1 S
  b : UErr K mg x2 y C2 S
  ab : kitOne K (.ref C1) (.ref C2) = some false
  ba : subIn K (.ref C2) (.ref C1) = some false
theorem UErr2.skips {K : PySem.W.Frag} {mg : Str → Option Value} {x1 x2 y : Str} {C1 C2 S : Addr} (U : UErr2 K mg x1 x2 y C1 C2 S) : PySem.W.exmOne K (.ref C2) (.ref C1) = some false := PySem.W.exm_ref U.a.base U.a.ex.hd U.a.ty U.ba
theorem uerr2_mk {K : Frag} {mg : Str → Option Value} {h : Heap} {x y z : Str} {C D S : Addr} (X : K.In h) (G : h.Ns mainGlobals mg) (aC : nsIn K mainGlobals x = some (some (.ref C))) (aD : nsIn K mainGlobals z = some (some (.ref D))) (aS : nsIn K mainGlobals y = some (some (.ref S)))
    (made : excIn K C [.type "ValueError", .type "Exception", .type "BaseException", .type "object"] "ValueError.__new__" = true) (kC : keepIn K (.ref C) = true) (base : subIn K (.ref C) (.type "BaseException") = some true)
    (ty : typeIn K (.ref C) = some (.type "type")) (self : subIn K (.ref C) (.ref C) = some true)
    (e1 : findIn K (.ref C) "__getattribute__" = some (some (.builtin "BaseException.__getattribute__"))) (e2 : findIn K (.ref C) "__getattr__" = some none) (e4 : hasDictIn K C = true)
    (e5 : findIn K (.ref C) "__class__" = some (some (.builtin "object.__class__"))) (e6 : specialIn K (.builtin "object.__class__") "__get__" = some (some (.builtin "getset_descriptor.__get__"))) (e7 : takesIn K (.builtin "object.__class__") = some true)
    (e8 : mroIn K C (.type "object") = some true) (sub : kitOne K (.ref C) (.ref S) = some true)
    (made2 : excIn K D [.type "ValueError", .type "Exception", .type "BaseException", .type "object"] "ValueError.__new__" = true) (kC2 : keepIn K (.ref D) = true) (base2 : subIn K (.ref D) (.type "BaseException") = some true)
    (ty2 : typeIn K (.ref D) = some (.type "type")) (self2 : subIn K (.ref D) (.ref D) = some true)
    (f1 : findIn K (.ref D) "__getattribute__" = some (some (.builtin "BaseException.__getattribute__"))) (f2 : findIn K (.ref D) "__getattr__" = some none) (f4 : hasDictIn K D = true)
    (f5 : findIn K (.ref D) "__class__" = some (some (.builtin "object.__class__"))) (f8 : mroIn K D (.type "object") = some true) (sub2 : kitOne K (.ref D) (.ref S) = some true)
    (ab : kitOne K (.ref C) (.ref D) = some false) (ba : subIn K (.ref D) (.ref C) = some false) : ∃ C1 C2 S, UErr2 K mg x z y C1 C2 S :=
  ⟨C, D, S, ⟨mg_of X G aC, mg_of X G aS, made, kC, base, ty, self, ⟨e1, e2, base, e4, e5, e6, e7, e8⟩, sub⟩, ⟨mg_of X G aD, mg_of X G aS, made2, kC2, base2, ty2, self2, ⟨f1, f2, base2, f4, f5, e6, e7, f8⟩, sub2⟩, ab, ba⟩
end Sw
namespace Sw
open PySem PySem.Spec PyProof.Rows L2 LamX
/-! ### kind_of -/
section
variable {P : Program} {w : World} {K : PySem.W.Frag} {mg : Str → Option Value} {base : Heap}
abbrev sKindOf : Stmt := top 19
theorem scKindOf : FnScope ["net"] ["net"] (defScope sKindOf) := ⟨rfl, rfl, rfl, by decide +kernel, rfl, by decide +kernel, by decide +kernel⟩
def spKind (tb C : Addr) : Sp := fun vs H Q E => ∃ (a b : Addr) (n : Int) (ts : List V) (ars : List (Int × Int)), vs = [.ref a] ∧ NetAt n H a b ts ∧ ArsAt H ts ars ∧ Tabs (lamT tb) H ∧
  (¬ Joined n ars → ∀ H', ExtN H H' → Tabs (lamT tb) H' → E (.ref C) none H') ∧
  (Joined n ars → ∀ (x : Str) (H' : Hp), ExtN H H' → Tabs (lamT tb) H' → KindP n ars x → Q (.str x) H')
theorem ok_kind {f tb C S : Addr} {fd : FuncData} (F : Fun K "kind_of" "kind_of" sKindOf f fd) (B : NoNames mg) (U : UErr K mg "Apart" "SwapError" C S) (OJ : Own P w K mg base 7 "is_joined" ["net"] (spIsJoined tb)) (OB : Own P w K mg base 7 "beat" ["net", "stop"] (spPBeat tb))
    (OR : Own P w K mg base 1 "is_ring" ["net"] spIsRing) (O5 : Own P w K mg base 1 "is_five" ["net"] spIsFive) :
    FnOk P w K mg base (L2.CX P w) 8 f fd ["net"] (spKind tb C) := by
  obtain ⟨fJ, fdJ, GJ, mJ, kJ, bJ⟩ := OJ.ex
  obtain ⟨fB, fdB, GB, mB, kB, bB⟩ := OB.ex
  obtain ⟨fR, fdR, GR, mR, kR, bR⟩ := OR.ex
  obtain ⟨f5, fd5, G5, m5, k5, b5⟩ := O5.ex
  refine F.okX scKindOf (fun vs H Q E h => ?_) (fun cdv A outer s H vs Q E hr h => ?_)
  · obtain ⟨a, b, n, ts, ars, rfl, _⟩ := h
    rfl
  · obtain ⟨a, b, n, ts, ars, rfl, N, AR, hT, k1, k2⟩ := h
    have hr1 := hr.mono (by decide : 1 ≤ 7)
    have n1 := N.n1
    have n2 := N.n2
    have i0 : Inn n 0 := ⟨by decide, by omega⟩
    refine ⟨_, pss_cons (ps_if (pt_not (pt_val (pe_call GJ hr rfl mJ kJ bJ .nil pass0 (pa_cons (pv 0) pa_nil)))) (pss_one (ps_raise rfl (takes_of rfl rfl rfl rfl) (U.mk0 rfl))) pss_nil) <|
      pss_cons (ps_if (pt_cmpR op_eq (pe_ix ix_tup (pv 0) pe_int (fun _ _ => rfl)) pe_int (nomark _)) (pss_one (ps_ret pe_str)) pss_nil) <|
      pss_cons (ps_if (pt_val (pe_call GR hr1 rfl mR kR bR .nil pass0 (pa_cons (pv 0) pa_nil))) (pss_one (ps_ret pe_str)) pss_nil) <|
      pss_cons (ps_if (pt_val (pe_call G5 hr1 rfl m5 k5 b5 .nil pass0 (pa_cons (pv 0) pa_nil))) (pss_one (ps_ret pe_str)) pss_nil) <|
      pss_cons (ps_if (pt_cmpR op_eq (pe_op op_mod (pe_call GB hr rfl mB kB bB .nil pass0 (pa_cons (pv 0) (pa_cons pe_int pa_nil))) pe_int) pe_int (nomark _)) (pss_one (ps_ret pe_str)) pss_nil) <|
      pss_one (ps_ret pe_str), ?_⟩
    refine ⟨_, rfl, a, b, n, ts, ars, rfl, N, AR, hT, fun c H1 x1 hT1 ec => ?_⟩
    have t1 : TupS H H1 := TupS.extG x1
    have N1 := N.keep t1
    have A1 := AR.keep t1
    refine ⟨c, rfl, ?_⟩
    cases c with
    | false => exact iteT (k1 (fun J => Bool.false_ne_true (ec.mpr J)) H1 x1 hT1)
    | true =>
      have J : Joined n ars := ec.mp rfl
      refine iteF ?_
      refine ⟨_, rfl, a, _, 0, .int n, rfl, rfl, SqT.of N1.a, at_of (j := 0) rfl rfl, rfl, _, rfl, ite2 (fun y => ?_) (fun y => ?_)⟩
      · have y : decide (V.int n = V.int 1) = true := y
        have y := V.int.inj (of_decide_eq_true y)
        exact k2 J _ H1 x1 hT1 ⟨fun _ => rfl, fun h => (h y).elim, fun h => (h y).elim, fun h => (h y).elim, fun h => (h y).elim⟩
      have ne : n ≠ 1 := fun z => y (by
        show decide (V.int n = V.int 1) = true
        rw [z]
        rfl)
      refine ⟨_, rfl, a, b, n, ts, ars, rfl, N1, A1, fun c ec => ⟨c, rfl, ?_⟩⟩
      cases c with
      | true =>
        have r := ec.mp rfl
        exact iteT (k2 J _ H1 x1 hT1 ⟨fun h => (ne h).elim, fun _ _ => rfl, fun _ h => (h r).elim, fun _ h => (h r).elim, fun _ h => (h r).elim⟩)
      | false =>
        have nr : ¬ (3 ≤ n ∧ (ars.length : Int) = n) := fun z => Bool.false_ne_true (ec.mpr z)
        refine iteF ⟨_, rfl, a, b, n, ts, ars, rfl, N1, A1, fun c H2 s2 ec => ⟨c, rfl, ?_⟩⟩
        have x2 := x1.trans (.of s2)
        have hT2 := hT1.ext s2
        cases c with
        | true =>
          have r := ec.mp rfl
          exact iteT (k2 J _ H2 x2 hT2 ⟨fun h => (ne h).elim, fun _ h => (nr h).elim, fun _ _ _ => rfl, fun _ _ h => (h r).elim, fun _ _ h => (h r).elim⟩)
        | false =>
          have n5 : ¬ FiveP n ars := fun z => Bool.false_ne_true (ec.mpr z)
          refine iteF ⟨_, rfl, a, b, n, 0, ts, ars, rfl, N1.keep (.of s2), A1.keep (.of s2), i0, hT2, fun g H3 x3 hT3 G => ?_⟩
          have x13 := x2.trans x3
          refine ⟨_, _, rfl, rfl, by show (0 : Int) < 2; decide, rfl, _, rfl, ite2 (fun y => ?_) (fun y => ?_)⟩
          · have y : decide (V.int ((g : Int) % 2) = V.int 0) = true := y
            have d := G.even.mpr (great_mod.mp (of_decide_eq_true y))
            exact k2 J _ H3 x13 hT3 ⟨fun h => (ne h).elim, fun _ h => (nr h).elim, fun _ _ h => (n5 h).elim, fun _ _ _ _ => rfl, fun _ _ _ h => (h d).elim⟩
          · have d : ¬ Divs ars 0 2 := fun z => y (decide_eq_true (great_mod.mpr (G.even.mp z)))
            exact k2 J _ H3 x13 hT3 ⟨fun h => (ne h).elim, fun _ h => (nr h).elim, fun _ _ h => (n5 h).elim, fun _ _ _ h => (d h).elim, fun _ _ _ _ => rfl⟩
end
end Sw
namespace Sw
open PySem L2
abbrev sPair : Stmt := top 4
theorem scPair : FnScope ["value"] ["value"] (defScope sPair) := ⟨rfl, rfl, rfl, by decide +kernel, rfl, by decide +kernel, by decide +kernel⟩
section
variable {P : Program} {w : World} {K : PySem.W.Frag} {mg : Str → Option Value} {base : Heap}
theorem ok_pair {f : Addr} {fd : FuncData} (F : Fun K "is_pair" "is_pair" sPair f fd) (B : NoNames mg) : FnOk P w K mg base CX0 1 f fd ["value"] (spPair K) := by
  refine F.ok scPair (fun vs H Q E h => ?_) (fun cdv A outer s H vs Q E hr h => ?_)
  · obtain ⟨x, d, as, rfl, _⟩ := h
    rfl
  · obtain ⟨x, d, as, rfl, hd, k⟩ := h
    refine ⟨_, pss_one (ps_ret (pe_and (pe_isi (i := 0) (TN := "tuple") rfl (Or.inl rfl) (by decide) (by decide) B.isi B.tuple rfl rfl (by decide +kernel) (by decide) (by decide))
      (pe_one (pe_cmpR op_eq (pe_callB call_len_seq (by rfl) B.len PySem.boot_len (pa_cons (pv 0) pa_nil)) pe_int (nomark _))))), ?_⟩
    refine ⟨_, rfl, x, d, as, "tuple", rfl, by decide, hd, _, rfl, ?_⟩
    have no : isT "tuple" d = false → isPair d = false := fun e => by cases d <;> simp_all [isT, isPair]
    have yes : isT "tuple" d = true → ∃ ds, d = .tup ds := fun e => by cases d <;> first | exact ⟨_, rfl⟩ | (simp_all [isT])
    cases e : isT "tuple" d with
    | false =>
      refine iteF ?_
      rw [no e] at k
      exact k
    | true =>
      refine iteT ?_
      obtain ⟨ds, rfl⟩ := yes e
      simp only [Rep] at hd
      obtain ⟨a, xs, bs, rfl, ha, ra, na, rfl⟩ := hd
      refine ⟨_, rfl, a, xs, rfl, .inr (SqT.of ha), rfl, ?_⟩
      have hl := ra.len
      have ep : isPair (.tup ds) = decide (V.int (xs.length : Int) = V.int 2) := by
        match ds, hl with
        | [], hl => rw [hl]; rfl
        | [_], hl => rw [hl]; rfl
        | [_, _], hl => rw [hl]; rfl
        | _ :: _ :: _ :: r, hl =>
          rw [hl]
          show false = _
          refine (decide_eq_false fun z => ?_).symm
          have z2 : ((_ : Nat) : Int) = 2 := V.int.inj z
          simp only [List.length_cons] at z2
          omega
      rw [ep] at k
      exact k
end
end Sw
namespace Sw
open PySem L2
abbrev sBetween : Stmt := top 3
theorem scBetween : FnScope ["value", "least", "most"] ["value", "least", "most"] (defScope sBetween) := ⟨rfl, rfl, rfl, by decide +kernel, rfl, by decide +kernel, by decide +kernel⟩
section
variable {P : Program} {w : World} {K : PySem.W.Frag} {mg : Str → Option Value} {base : Heap}
theorem ok_between {f : Addr} {fd : FuncData} (F : Fun K "is_integer_between" "is_integer_between" sBetween f fd) (B : NoNames mg) : FnOk P w K mg base CX0 1 f fd ["value", "least", "most"] (spBetween K) := by
  refine F.ok scBetween (fun vs H Q E h => ?_) (fun cdv A outer s H vs Q E hr h => ?_)
  · obtain ⟨x, d, as, lo, hi, rfl, _⟩ := h
    rfl
  · obtain ⟨x, d, as, lo, hi, rfl, hd, k⟩ := h
    refine ⟨_, pss_cons (ps_if (PW.pt (pw_or (pt_val (pe_isi (i := 0) (TN := "bool") rfl (Or.inl rfl) (by decide) (by decide) B.isi B.bool rfl rfl (by decide +kernel) (by decide) (by decide)))
        (pw_or1 (pt_not (pt_val (pe_isi (i := 0) (TN := "int") rfl (Or.inl rfl) (by decide) (by decide) B.isi B.int rfl rfl (by decide +kernel) (by decide) (by decide))))))) (pss_one (ps_ret pe_bl)) pss_nil)
      (pss_one (ps_ret (pe_chain op_le op_le (pv 1) (pv 0) (pv 2)))), ?_⟩
    refine ⟨_, rfl, x, d, as, "bool", rfl, by decide, hd, _, rfl, ?_⟩
    have no : isT "bool" d = true → isWhole lo hi d = false := fun e => by cases d <;> simp_all [isT, isWhole]
    have no2 : isT "bool" d = false → isT "int" d = false → isWhole lo hi d = false := fun e e2 => by cases d <;> simp_all [isT, isWhole]
    have yes : isT "bool" d = false → isT "int" d = true → ∃ i, d = .int i := fun e e2 => by cases d <;> first | exact ⟨_, rfl⟩ | (simp_all [isT])
    cases e1 : isT "bool" d with
    | true =>
      refine iteT (iteT ?_)
      rw [no e1] at k
      exact k
    | false =>
      refine iteF ⟨_, rfl, x, d, as, "int", rfl, by decide, hd, _, rfl, ?_⟩
      cases e2 : isT "int" d with
      | false =>
        refine iteT ?_
        rw [no2 e1 e2] at k
        exact k
      | true =>
        refine iteF ?_
        obtain ⟨i, rfl⟩ := yes e1 e2
        simp only [Rep] at hd
        obtain ⟨rfl, rfl⟩ := hd
        refine ⟨_, rfl, _, rfl, _, _, rfl, rfl, _, rfl, ?_⟩
        refine ite2 (fun z => ?_) (fun z => ?_)
        · refine ⟨_, rfl, _, _, rfl, rfl, ?_⟩
          simp only [isWhole] at k
          rw [z] at k
          exact k
        · simp only [isWhole] at k
          rw [Bool.eq_false_iff.mpr z] at k
          exact k
end
end Sw
namespace Sw
open PySem PySem.Spec PyProof.Rows L2 PySem.W
section
variable {K : Frag}
/-- a def of two parameters p1, p2 that may be called by the words p2, p1 -/
theorem kb_pair {x p1 p2 : Str} {st : Stmt} {f : Addr} {fd : FuncData} (F : Fun K x x st f fd)
    (b1 : ∀ (kV doc pm : Value) (an : Option Addr) (cdv ct u v : Value), bindArgs (fnOf x x (defArgs st) (defBody st) (defScope st) .none kV doc pm an cdv ct) ⟨[], ([p2, p1] : List Str).zip [u, v]⟩ = pure (([p1, p2] : List Str).zip [v, u]))
    (b2 : ∀ (kV doc pm : Value) (an : Option Addr) (cdv ct u v : Value), bindArgs (fnOf x x (defArgs st) (defBody st) (defScope st) .none kV doc pm an cdv ct) ⟨[u], ([p2, p1] : List Str).zip [v]⟩ = pure (([p1, p2] : List Str).zip [u, v]))
    (b3 : ∀ (kV doc pm : Value) (an : Option Addr) (cdv ct u v : Value), bindArgs (fnOf x x (defArgs st) (defBody st) (defScope st) .none kV doc pm an cdv ct) ⟨[u, v], ([p2, p1] : List Str).zip []⟩ = pure (([p1, p2] : List Str).zip [u, v])) :
    KBinds K fd [p1, p2] [p2, p1] (fun us ws => us ++ ws.reverse) (fun us ws => us ++ ws.reverse) := by
  obtain ⟨oc, od, kV, doc, pm, an, cdv, ct, osl, rfl, lk, hcd⟩ := F.ex
  refine ⟨fun s us ws _ hl => ?_, fun r q => r.append q.reverse⟩
  have hl2 : us.length + ws.length = 2 := by
    rw [List.length_append, List.length_reverse] at hl
    exact hl
  rcases us with _ | ⟨u, _ | ⟨v, _ | ⟨z, us⟩⟩⟩
  · rcases ws with _ | ⟨a, _ | ⟨b, _ | ⟨z, ws⟩⟩⟩
    · cases hl2
    · cases hl2
    · exact .of_eq (b1 kV doc pm an cdv ct a b)
    · simp only [List.length_cons, List.length_nil] at hl2
      omega
  · rcases ws with _ | ⟨a, _ | ⟨z, ws⟩⟩
    · cases hl2
    · exact .of_eq (b2 kV doc pm an cdv ct u a)
    · simp only [List.length_cons, List.length_nil] at hl2
      omega
  · rcases ws with _ | ⟨z, ws⟩
    · exact .of_eq (b3 kV doc pm an cdv ct u v)
    · simp only [List.length_cons, List.length_nil] at hl2
      omega
  · simp only [List.length_cons] at hl2
    omega
end
end Sw
namespace Sw
open PySem PySem.Spec PyProof.Rows L2 PySem.W
/-- a block under a premise that its reading gives -/
theorem pss_ifC {X : Cx} {b : List Stmt} {t : TS} {p : Prop} (h : p → PSs X b t) : PSs X b (fun D σ H => p ∧ t D σ H) := ⟨fun pins s σ H D I q => (h q.1).run pins s σ H D I q.2⟩
/-- a def of one parameter that may raise: by place, and by its word -/
structure OwnX1 (P : Program) (w : World) (K : PySem.W.Frag) (mg : Str → Option Value) (base : Heap) (k : Nat) (x p1 : Str) (sp : Sp) : Prop where
  ex : ∃ f fd, FnOk P w K mg base (L2.CX P w) k f fd [p1] sp ∧ mg x = some (.ref f) ∧ PySem.W.keepIn K (.ref f) = true ∧ Binds K fd [p1] [] ∧ KBinds K fd [p1] [p1] (· ++ ·) (· ++ ·)
/-- a def of two parameters that may raise: by place, and by the words, the last one ahead -/
structure OwnX2 (P : Program) (w : World) (K : PySem.W.Frag) (mg : Str → Option Value) (base : Heap) (k : Nat) (x p1 p2 : Str) (sp : Sp) : Prop where
  ex : ∃ f fd, FnOk P w K mg base (L2.CX P w) k f fd [p1, p2] sp ∧ mg x = some (.ref f) ∧ PySem.W.keepIn K (.ref f) = true ∧ Binds K fd [p1, p2] [] ∧ KBinds K fd [p1, p2] [p2, p1] (fun us ws => us ++ ws.reverse) (fun us ws => us ++ ws.reverse)
section
variable {P : Program} {w : World} {K : PySem.W.Frag} {mg : Str → Option Value} {base : Heap}
theorem Has.ownX1 {k : Nat} {x p1 : Str} {st : Stmt} {sp : Sp} (hs : Has K mg x st) (ok : ∀ f fd, Fun K x x st f fd → FnOk P w K mg base (L2.CX P w) k f fd [p1] sp)
    (b : ∀ (kV doc pm : Value) (an : Option Addr) (cdv ct : Value) (us : List Value), us.length = ([p1] : List Str).length → bindArgs (PySem.W.fnOf x x (defArgs st) (defBody st) (defScope st) .none kV doc pm an cdv ct) ⟨us, []⟩ = pure (([p1] : List Str).zip us))
    (b1 : ∀ (kV doc pm : Value) (an : Option Addr) (cdv ct u : Value), bindArgs (PySem.W.fnOf x x (defArgs st) (defBody st) (defScope st) .none kV doc pm an cdv ct) ⟨[], ([p1] : List Str).zip [u]⟩ = pure (([p1] : List Str).zip [u]))
    (b2 : ∀ (kV doc pm : Value) (an : Option Addr) (cdv ct u : Value), bindArgs (PySem.W.fnOf x x (defArgs st) (defBody st) (defScope st) .none kV doc pm an cdv ct) ⟨[u], ([p1] : List Str).zip []⟩ = pure (([p1] : List Str).zip [u])) : OwnX1 P w K mg base k x p1 sp := by
  obtain ⟨f, fd, F, m⟩ := hs
  refine ⟨f, fd, ok f fd F, m, F.kp, F.binds b, ?_⟩
  obtain ⟨oc, od, kV, doc, pm, an, cdv, ct, osl, rfl, lk, hcd⟩ := F.ex
  refine ⟨fun s us ws _ hl => ?_, fun r q => r.append q⟩
  match us, ws, hl with
  | [], [u], _ => exact .of_eq (b1 kV doc pm an cdv ct u)
  | [u], [], _ => exact .of_eq (b2 kV doc pm an cdv ct u)
end
end Sw
namespace Sw
open PySem PySem.Spec PyProof.Rows L2
/-- a def of two parameters: by place, and by the words, the last one ahead -/
structure Own2 (P : Program) (w : World) (K : PySem.W.Frag) (mg : Str → Option Value) (base : Heap) (k : Nat) (x p1 p2 : Str) (sp : Sp) : Prop where
  ex : ∃ f fd, FnOk P w K mg base CX0 k f fd [p1, p2] sp ∧ mg x = some (.ref f) ∧ PySem.W.keepIn K (.ref f) = true ∧ Binds K fd [p1, p2] [] ∧ KBinds K fd [p1, p2] [p2, p1] (fun us ws => us ++ ws.reverse) (fun us ws => us ++ ws.reverse)
section
variable {P : Program} {w : World} {K : PySem.W.Frag} {mg : Str → Option Value} {base : Heap}
theorem Has.own2 {k : Nat} {x p1 p2 : Str} {st : Stmt} {sp : Sp} (hs : Has K mg x st) (ok : ∀ f fd, Fun K x x st f fd → FnOk P w K mg base CX0 k f fd [p1, p2] sp)
    (b : ∀ (kV doc pm : Value) (an : Option Addr) (cdv ct : Value) (us : List Value), us.length = ([p1, p2] : List Str).length → bindArgs (PySem.W.fnOf x x (defArgs st) (defBody st) (defScope st) .none kV doc pm an cdv ct) ⟨us, []⟩ = pure (([p1, p2] : List Str).zip us))
    (b1 : ∀ (kV doc pm : Value) (an : Option Addr) (cdv ct u v : Value), bindArgs (PySem.W.fnOf x x (defArgs st) (defBody st) (defScope st) .none kV doc pm an cdv ct) ⟨[], ([p2, p1] : List Str).zip [u, v]⟩ = pure (([p1, p2] : List Str).zip [v, u]))
    (b2 : ∀ (kV doc pm : Value) (an : Option Addr) (cdv ct u v : Value), bindArgs (PySem.W.fnOf x x (defArgs st) (defBody st) (defScope st) .none kV doc pm an cdv ct) ⟨[u], ([p2, p1] : List Str).zip [v]⟩ = pure (([p1, p2] : List Str).zip [u, v]))
    (b3 : ∀ (kV doc pm : Value) (an : Option Addr) (cdv ct u v : Value), bindArgs (PySem.W.fnOf x x (defArgs st) (defBody st) (defScope st) .none kV doc pm an cdv ct) ⟨[u, v], ([p2, p1] : List Str).zip []⟩ = pure (([p1, p2] : List Str).zip [u, v])) : Own2 P w K mg base k x p1 p2 sp := by
  obtain ⟨f, fd, F, m⟩ := hs
  exact ⟨f, fd, ok f fd F, m, F.kp, F.binds b, kb_pair F b1 b2 b3⟩
end
end Sw
namespace Sw
open PySem PySem.Spec PyProof.Rows L2 PySem.W
section
open PySem.W
variable {P : Program} {w : World} {K : PySem.W.Frag} {mg : Str → Option Value} {base : Heap}
theorem kb_three {x p1 p2 p3 : Str} {st : Stmt} {f : Addr} {fd : FuncData} (F : Fun K x x st f fd)
    (b0 : ∀ (kV doc pm : Value) (an : Option Addr) (cdv ct u v z : Value), bindArgs (fnOf x x (defArgs st) (defBody st) (defScope st) .none kV doc pm an cdv ct) ⟨[], ([p3, p2, p1] : List Str).zip [u, v, z]⟩ = pure (([p1, p2, p3] : List Str).zip [z, v, u]))
    (b1 : ∀ (kV doc pm : Value) (an : Option Addr) (cdv ct u v z : Value), bindArgs (fnOf x x (defArgs st) (defBody st) (defScope st) .none kV doc pm an cdv ct) ⟨[u], ([p3, p2, p1] : List Str).zip [v, z]⟩ = pure (([p1, p2, p3] : List Str).zip [u, z, v]))
    (b2 : ∀ (kV doc pm : Value) (an : Option Addr) (cdv ct u v z : Value), bindArgs (fnOf x x (defArgs st) (defBody st) (defScope st) .none kV doc pm an cdv ct) ⟨[u, v], ([p3, p2, p1] : List Str).zip [z]⟩ = pure (([p1, p2, p3] : List Str).zip [u, v, z]))
    (b3 : ∀ (kV doc pm : Value) (an : Option Addr) (cdv ct u v z : Value), bindArgs (fnOf x x (defArgs st) (defBody st) (defScope st) .none kV doc pm an cdv ct) ⟨[u, v, z], ([p3, p2, p1] : List Str).zip []⟩ = pure (([p1, p2, p3] : List Str).zip [u, v, z])) :
    KBinds K fd [p1, p2, p3] [p3, p2, p1] (fun us ws => us ++ ws.reverse) (fun us ws => us ++ ws.reverse) := by
  obtain ⟨oc, od, kV, doc, pm, an, cdv, ct, osl, rfl, lk, hcd⟩ := F.ex
  refine ⟨fun s us ws _ hl => ?_, fun r q => r.append q.reverse⟩
  have hl2 : us.length + ws.length = 3 := by
    rw [List.length_append, List.length_reverse] at hl
    exact hl
  rcases us with _ | ⟨u, _ | ⟨v, _ | ⟨z, _ | ⟨q, us⟩⟩⟩⟩ <;> rcases ws with _ | ⟨a, _ | ⟨b, _ | ⟨c, _ | ⟨q', ws⟩⟩⟩⟩ <;> simp only [List.length_cons, List.length_nil] at hl2 <;>
    first
    | (exfalso; omega)
    | exact .of_eq (b0 kV doc pm an cdv ct _ _ _)
    | exact .of_eq (b1 kV doc pm an cdv ct _ _ _)
    | exact .of_eq (b2 kV doc pm an cdv ct _ _ _)
    | exact .of_eq (b3 kV doc pm an cdv ct _ _ _)
/-- a def of three parameters that may raise -/
structure OwnX3 (P : Program) (w : World) (K : PySem.W.Frag) (mg : Str → Option Value) (base : Heap) (k : Nat) (x p1 p2 p3 : Str) (sp : Sp) : Prop where
  ex : ∃ f fd, FnOk P w K mg base (L2.CX P w) k f fd [p1, p2, p3] sp ∧ mg x = some (.ref f) ∧ PySem.W.keepIn K (.ref f) = true ∧ Binds K fd [p1, p2, p3] [] ∧ KBinds K fd [p1, p2, p3] [p3, p2, p1] (fun us ws => us ++ ws.reverse) (fun us ws => us ++ ws.reverse)
/-- a def that may raise, called by place -/
structure OwnX (P : Program) (w : World) (K : PySem.W.Frag) (mg : Str → Option Value) (base : Heap) (k : Nat) (x : Str) (ps : List Str) (sp : Sp) : Prop where
  ex : ∃ f fd, FnOk P w K mg base (L2.CX P w) k f fd ps sp ∧ mg x = some (.ref f) ∧ PySem.W.keepIn K (.ref f) = true ∧ Binds K fd ps []
end
section
variable {P : Program} {w : World} {K : PySem.W.Frag} {mg : Str → Option Value} {base : Heap}
theorem Has.ownX {k : Nat} {x : Str} {ps : List Str} {st : Stmt} {sp : Sp} (hs : Has K mg x st) (ok : ∀ f fd, Fun K x x st f fd → FnOk P w K mg base (L2.CX P w) k f fd ps sp)
    (b : ∀ (kV doc pm : Value) (an : Option Addr) (cdv ct : Value) (us : List Value), us.length = ps.length → bindArgs (PySem.W.fnOf x x (defArgs st) (defBody st) (defScope st) .none kV doc pm an cdv ct) ⟨us, []⟩ = pure (ps.zip us)) : OwnX P w K mg base k x ps sp := by
  obtain ⟨f, fd, F, m⟩ := hs
  exact ⟨f, fd, ok f fd F, m, F.kp, F.binds b⟩
theorem Has.ownX3 {k : Nat} {x p1 p2 p3 : Str} {st : Stmt} {sp : Sp} (hs : Has K mg x st) (ok : ∀ f fd, Fun K x x st f fd → FnOk P w K mg base (L2.CX P w) k f fd [p1, p2, p3] sp)
    (b : ∀ (kV doc pm : Value) (an : Option Addr) (cdv ct : Value) (us : List Value), us.length = ([p1, p2, p3] : List Str).length → bindArgs (PySem.W.fnOf x x (defArgs st) (defBody st) (defScope st) .none kV doc pm an cdv ct) ⟨us, []⟩ = pure (([p1, p2, p3] : List Str).zip us))
    (b0 : ∀ (kV doc pm : Value) (an : Option Addr) (cdv ct u v z : Value), bindArgs (PySem.W.fnOf x x (defArgs st) (defBody st) (defScope st) .none kV doc pm an cdv ct) ⟨[], ([p3, p2, p1] : List Str).zip [u, v, z]⟩ = pure (([p1, p2, p3] : List Str).zip [z, v, u]))
    (b1 : ∀ (kV doc pm : Value) (an : Option Addr) (cdv ct u v z : Value), bindArgs (PySem.W.fnOf x x (defArgs st) (defBody st) (defScope st) .none kV doc pm an cdv ct) ⟨[u], ([p3, p2, p1] : List Str).zip [v, z]⟩ = pure (([p1, p2, p3] : List Str).zip [u, z, v]))
    (b2 : ∀ (kV doc pm : Value) (an : Option Addr) (cdv ct u v z : Value), bindArgs (PySem.W.fnOf x x (defArgs st) (defBody st) (defScope st) .none kV doc pm an cdv ct) ⟨[u, v], ([p3, p2, p1] : List Str).zip [z]⟩ = pure (([p1, p2, p3] : List Str).zip [u, v, z]))
    (b3 : ∀ (kV doc pm : Value) (an : Option Addr) (cdv ct u v z : Value), bindArgs (PySem.W.fnOf x x (defArgs st) (defBody st) (defScope st) .none kV doc pm an cdv ct) ⟨[u, v, z], ([p3, p2, p1] : List Str).zip []⟩ = pure (([p1, p2, p3] : List Str).zip [u, v, z])) : OwnX3 P w K mg base k x p1 p2 p3 sp := by
  obtain ⟨f, fd, F, m⟩ := hs
  exact ⟨f, fd, ok f fd F, m, F.kp, F.binds b, kb_three F b0 b1 b2 b3⟩
end
end Sw
namespace Sw
open PySem PySem.Spec PyProof.Rows L2
/-! ### lots called otherwise -/
/-- a calling otherwise: os lists all stops, none twice -/
structure Ord (n : Int) (os : List Int) : Prop where
  len : os.length = n.toNat
  nd : os.Nodup
  is : ∀ v, v ∈ os ↔ Inn n v
section
variable {n : Int} {os : List Int} {ars ars' : List (Int × Int)} {Ls : List (List Int)}
theorem Ord.at (O : Ord n os) {v : Int} (h : Inn n v) : ∃ hj : v.toNat < os.length, ren os v = os[v.toNat] := by
  obtain ⟨h0, h1⟩ := h
  have hj : v.toNat < os.length := by have := O.len; omega
  refine ⟨hj, ?_⟩
  unfold ren
  rw [List.getD_eq_getElem?_getD, List.getElem?_eq_getElem hj]
  rfl
theorem Ord.inn (O : Ord n os) {v : Int} (h : Inn n v) : Inn n (ren os v) := by
  obtain ⟨hj, e⟩ := O.at h
  rw [e]
  exact (O.is _).mp (List.getElem_mem hj)
theorem Ord.inj (O : Ord n os) {u v : Int} (hu : Inn n u) (hv : Inn n v) (e : ren os u = ren os v) : u = v := by
  obtain ⟨a, ea⟩ := O.at hu
  obtain ⟨b, eb⟩ := O.at hv
  rw [ea, eb] at e
  have := (List.getElem_inj O.nd).mp e
  have := hu.1
  have := hv.1
  omega
theorem Ord.onto (O : Ord n os) {v : Int} (h : Inn n v) : ∃ u, Inn n u ∧ ren os u = v := by
  obtain ⟨j, hj, e⟩ := List.getElem_of_mem ((O.is v).mpr h)
  have l := O.len
  have i : Inn n (j : Int) := ⟨by omega, by omega⟩
  obtain ⟨_, e2⟩ := O.at i
  exact ⟨j, i, by rw [e2]; simpa using e⟩
theorem Ord.goes (O : Ord n os) (pm : ars'.Perm (ars.map (renE os))) {k : Nat} {a c : Int} (h : Rch ars k a c) : Rch ars' k (ren os a) (ren os c) :=
  Rch.mono (fun e he => pm.mem_iff.mpr he) (Rch.map (ren os) h)
theorem Ord.back (O : Ord n os) (inn : ∀ e ∈ ars, Inn n e.1 ∧ Inn n e.2) (pm : ars'.Perm (ars.map (renE os))) : ∀ {k : Nat} {x y : Int}, Rch ars' k x y → ∀ a, Inn n a → ren os a = x → ∃ c, Inn n c ∧ ren os c = y ∧ Rch ars k a c
  | _, _, _, .nil _, a, ha, e => ⟨a, ha, e, .nil _⟩
  | _, _, _, .cons m r, a, ha, e => by
    obtain ⟨g, hg, eg⟩ := List.mem_map.mp (pm.mem_iff.mp m)
    have e1 : ren os g.1 = _ := congrArg Prod.fst eg
    have e2 : ren os g.2 = _ := congrArg Prod.snd eg
    have ia := inn g hg
    obtain rfl : a = g.1 := O.inj ha ia.1 (e.trans e1.symm)
    obtain ⟨c, hc, ec, rc⟩ := Ord.back O inn pm r g.2 ia.2 e2
    exact ⟨c, hc, ec, .cons hg rc⟩
theorem nx_mem (inn : ∀ e ∈ ars, Inn n e.1 ∧ Inn n e.2) : ∀ b c, c ∈ nextOf ars b ↔ (b, c) ∈ ars := fun b c => next_mem.trans ⟨fun h => h.2, fun h => ⟨(inn _ h).1.1, h⟩⟩
theorem Ord.both (O : Ord n os) (inn : ∀ e ∈ ars, Inn n e.1 ∧ Inn n e.2) (inn' : ∀ e ∈ ars', Inn n e.1 ∧ Inn n e.2) (pm : ars'.Perm (ars.map (renE os))) {u v : Int} (hu : Inn n u) (hv : Inn n v) : Both2 ars' (ren os u) (ren os v) ↔ Both2 ars u v := by
  have n1 := nx_mem inn
  have n2 := nx_mem inn'
  have one : ∀ {a b : Int}, Inn n a → Inn n b → ((∃ k, Path (nextOf ars') k (ren os a) (ren os b)) ↔ ∃ k, Path (nextOf ars) k a b) := fun {a b} ha hb => by
    constructor
    · rintro ⟨k, p⟩
      obtain ⟨c, hc, ec, r⟩ := O.back inn pm ((rch_path n2).mpr p) a ha rfl
      obtain rfl := O.inj hc hb ec
      exact ⟨k, (rch_path n1).mp r⟩
    · rintro ⟨k, p⟩
      exact ⟨k, (rch_path n2).mp (O.goes pm ((rch_path n1).mpr p))⟩
  unfold Both2
  rw [one hu hv, one hv hu]
/-- one lot called otherwise, ascending -/
structure Named (os : List Int) (L M : List Int) : Prop where
  asc : M.Pairwise (· < ·)
  is : ∀ o, o ∈ M ↔ ∃ v ∈ L, ren os v = o
theorem head_mem {M : List Int} {s : Int} (h : M.head? = some s) : s ∈ M := by
  cases M with
  | nil => cases h
  | cons a r =>
    cases h
    exact List.mem_cons_self
theorem Named.lot (O : Ord n os) (inn : ∀ e ∈ ars, Inn n e.1 ∧ Inn n e.2) (inn' : ∀ e ∈ ars', Inn n e.1 ∧ Inn n e.2) (pm : ars'.Perm (ars.map (renE os))) {L M : List Int} {s : Int} (p : LotP n ars L s) (N : Named os L M) : ∃ t, t < n ∧ LotP n ars' M t := by
  have sL := head_mem p.hd
  obtain ⟨t, ht⟩ : ∃ t, M.head? = some t := by
    cases M with
    | nil => exact absurd ((N.is _).mpr ⟨s, sL, rfl⟩) List.not_mem_nil
    | cons a r => exact ⟨a, rfl⟩
  obtain ⟨v, vL, ev⟩ := (N.is t).mp (head_mem ht)
  have iv := ((p.is v).mp vL).1
  have it : Inn n t := ev ▸ O.inn iv
  refine ⟨t, it.2, ht, it, N.asc, fun o => ?_⟩
  rw [N.is o]
  constructor
  · rintro ⟨u, uL, rfl⟩
    have iu := ((p.is u).mp uL).1
    refine ⟨O.inn iu, ?_⟩
    rw [← ev]
    exact (O.both inn inn' pm iv iu).mpr (((p.is v).mp vL).2.symm.trans ((p.is u).mp uL).2)
  · rintro ⟨io, b⟩
    obtain ⟨u, iu, rfl⟩ := O.onto io
    rw [← ev] at b
    exact ⟨u, (p.is u).mpr ⟨iu, ((p.is v).mp vL).2.trans ((O.both inn inn' pm iv iu).mp b)⟩, rfl⟩
/-- all of them, by their least ones: the lots of the net called otherwise -/
theorem Named.lots (O : Ord n os) (inn : ∀ e ∈ ars, Inn n e.1 ∧ Inn n e.2) (inn' : ∀ e ∈ ars', Inn n e.1 ∧ Inn n e.2) (pm : ars'.Perm (ars.map (renE os))) (LP : LotsP n ars Ls n) {Ms Ns : List (List Int)} (each : Paired (Named os) Ls Ms) (pn : Ns.Perm Ms) (srt : Ns.Pairwise fun A B => A.headD 0 ≤ B.headD 0) : LotsP n ars' Ns n := by
  have one : ∀ M ∈ Ms, ∃ L ∈ Ls, Named os L M := fun M hM => by
    clear pn srt LP
    induction each with
    | nil => cases hM
    | cons q t ih =>
      rcases List.mem_cons.mp hM with z | z
      · subst z
        exact ⟨_, List.mem_cons_self, q⟩
      · obtain ⟨L, hL, r⟩ := ih z
        exact ⟨L, List.mem_cons_of_mem _ hL, r⟩
  have two : ∀ L ∈ Ls, ∃ M ∈ Ms, Named os L M := fun L hL => by
    clear pn srt LP one
    induction each with
    | nil => cases hL
    | cons q t ih =>
      rcases List.mem_cons.mp hL with z | z
      · subst z
        exact ⟨_, List.mem_cons_self, q⟩
      · obtain ⟨M, hM, r⟩ := ih z
        exact ⟨M, List.mem_cons_of_mem _ hM, r⟩
  have lot : ∀ M ∈ Ms, ∃ t, t < n ∧ LotP n ars' M t := fun M hM => by
    obtain ⟨L, hL, r⟩ := one M hM
    obtain ⟨s, _, p⟩ := LP.each L hL
    exact r.lot O inn inn' pm p
  -- unlike ones begin unlike
  have nd : (Ms.map fun M => M.headD 0).Nodup := by
    have apart : Ls.Pairwise fun A B => ∀ v, v ∈ A → v ∉ B := LP.asc.imp_of_mem fun {A B} hA hB r v vA vB => by
      obtain ⟨s, _, p⟩ := LP.each A hA
      obtain ⟨t, _, q⟩ := LP.each B hB
      have lt := r s t p.hd q.hd
      have := q.least s p.inn ((q.is v).mp vB |>.2.trans ((p.is v).mp vA).2.symm)
      omega
    have inL : ∀ L ∈ Ls, ∀ v ∈ L, Inn n v := fun L hL v hv => by
      obtain ⟨s, _, p⟩ := LP.each L hL
      exact ((p.is v).mp hv).1
    have hd : ∀ M ∈ Ms, ∃ t, M.head? = some t := fun M hM => by
      obtain ⟨t, _, p⟩ := lot M hM
      exact ⟨t, p.hd⟩
    clear pn srt LP one two lot
    induction each with
    | nil => exact .nil
    | @cons L M Ls Ms q t ih =>
      obtain ⟨a1, a2⟩ := List.pairwise_cons.mp apart
      rw [List.map_cons]
      refine List.nodup_cons.mpr ⟨fun z => ?_, ih a2 (fun L hL => inL L (List.mem_cons_of_mem _ hL)) fun M hM => hd M (List.mem_cons_of_mem _ hM)⟩
      obtain ⟨M', hM', e⟩ := List.mem_map.mp z
      obtain ⟨L', hL', q'⟩ : ∃ L' ∈ Ls, Named os L' M' := by
        clear ih z a1 a2 apart inL hd e
        induction t with
        | nil => cases hM'
        | cons r t ih =>
          rcases List.mem_cons.mp hM' with w | w
          · subst w
            exact ⟨_, List.mem_cons_self, r⟩
          · obtain ⟨X, hX, rX⟩ := ih w
            exact ⟨X, List.mem_cons_of_mem _ hX, rX⟩
      obtain ⟨x, hx⟩ := hd M List.mem_cons_self
      obtain ⟨y, hy⟩ := hd M' (List.mem_cons_of_mem _ hM')
      rw [List.headD_eq_head?_getD, List.headD_eq_head?_getD, hx, hy] at e
      have e : y = x := e
      subst e
      obtain ⟨u, uL, eu⟩ := (q.is y).mp (head_mem hx)
      obtain ⟨v, vL, ev⟩ := (q'.is y).mp (head_mem hy)
      obtain rfl := O.inj (inL L List.mem_cons_self u uL) (inL L' (List.mem_cons_of_mem _ hL') v vL) (eu.trans ev.symm)
      exact a1 L' hL' u uL vL
  refine ⟨fun M hM => ?_, fun v v0 v1 => ?_, ?_⟩
  · obtain ⟨t, h1, h2⟩ := lot M (pn.mem_iff.mp hM)
    exact ⟨t, h1, h2⟩
  · obtain ⟨u, iu, rfl⟩ := O.onto ⟨v0, v1⟩
    obtain ⟨L, hL, uL⟩ := LP.all u iu.1 iu.2
    obtain ⟨M, hM, r⟩ := two L hL
    exact ⟨M, pn.mem_iff.mpr hM, (r.is _).mpr ⟨u, uL, rfl⟩⟩
  · have nd2 := List.pairwise_map.mp ((pn.map fun M => M.headD 0).nodup_iff.mpr nd)
    refine (srt.and nd2).imp fun {A B} ⟨h1, h2⟩ a b ha hb => ?_
    rw [List.headD_eq_head?_getD, List.headD_eq_head?_getD, ha, hb] at h1 h2
    have h1 : a ≤ b := h1
    have h2 : a ≠ b := h2
    omega
end
end Sw
namespace Sw
open PySem PySem.Spec PyProof.Rows L2
/-! ### an own def that raises nothing here; few pairs; stops called otherwise -/
theorem passF {X : Cx} (σ : L2.St) : PassesAt (L2.CX X.prog X.w) X σ (fun _ _ _ => False) := fun pins H s e s' I c => by
  obtain ⟨_, _, _, _, _, _, _, _, _, _, _, _, h⟩ := c
  exact h.elim
theorem pt_weakT {X : Cx} {e : Expr} {t t' : TT} (h : PT X e t) (hw : ∀ σ H Q, t' σ H Q → t σ H Q) : PT X e t' := ⟨fun pins s σ H Q I q => h.run pins s σ H Q I (hw σ H Q q)⟩
theorem ite_join {c : Prop} [Decidable c] {A B N : Prop} (n : N) (h2 : N → B) (h1 : N → A) : if c then A else B := by
  by_cases z : c
  · rw [if_pos z]
    exact h1 n
  · rw [if_neg z]
    exact h2 n
theorem ite_joinC {c : Prop} [Decidable c] {A B N : Prop} (n : N) (h2 : N → B) (h1 : c → N → A) : if c then A else B := by
  by_cases z : c
  · rw [if_pos z]
    exact h1 z n
  · rw [if_neg z]
    exact h2 n
theorem pairs_few {n : Int} {es : List (Int × Int)} (n2 : n ≤ 12) (nd : es.Nodup) (inn : ∀ e ∈ es, Inn n e.1 ∧ Inn n e.2) : es.length ≤ 144 := by
  have ndm : (es.map fun e : Int × Int => e.1 * 12 + e.2).Nodup := by
    refine List.pairwise_map.mpr (nd.imp_of_mem fun {a b} ha hb ne z => ne ?_)
    have a1 := inn a ha
    have b1 := inn b hb
    unfold Inn at a1 b1
    exact Prod.ext (by omega) (by omega)
  have q := pig 144 _ ndm fun k hk => by
    obtain ⟨e, he, rfl⟩ := List.mem_map.mp hk
    have a1 := inn e he
    unfold Inn at a1
    omega
  rwa [List.length_map] at q
theorem nodup_ren {n : Int} {os : List Int} {ars ars' : List (Int × Int)} (O : Ord n os) (inn : ∀ e ∈ ars, Inn n e.1 ∧ Inn n e.2) (nd : ars.Nodup) (pm : ars'.Perm (ars.map (renE os))) : ars'.Nodup :=
  pm.nodup_iff.mpr (List.pairwise_map.mpr (nd.imp_of_mem fun {a b} ha hb ne z => ne (Prod.ext (O.inj (inn a ha).1 (inn b hb).1 (congrArg Prod.fst z)) (O.inj (inn a ha).2 (inn b hb).2 (congrArg Prod.snd z)))))
end Sw
namespace Sw
open PySem PySem.Spec PyProof.Rows L2 LamX
/-! ### papers, is_paper, bar, comes, bar_holds: where they stand -/
def spNo : Sp := fun _ _ _ _ => False
section
variable {P : Program} {w : World} {K : PySem.W.Frag} {mg : Str → Option Value} {base : Heap}
abbrev sPapers : Stmt := top 43
abbrev sIsPaper : Stmt := top 44
abbrev sBar : Stmt := top 41
abbrev sComes : Stmt := top 40
abbrev sBarHolds : Stmt := top 42
abbrev nPapers : List Str := ["kind", "n", "thing", "things"]
abbrev nIsPaper : List Str := ["kind", "net", "one", "other", "value", "word", "told", "table"]
abbrev nBar : List Str := ["net", "one", "other", "kind", "paper"]
theorem scPapers : FnScope nPapers ["kind", "n"] (defScope sPapers) := ⟨rfl, rfl, rfl, by decide +kernel, rfl, by decide +kernel, by decide +kernel⟩
theorem scIsPaper : FnScope nIsPaper ["kind", "net", "one", "other", "value"] (defScope sIsPaper) := ⟨rfl, rfl, rfl, by decide +kernel, rfl, by decide +kernel, by decide +kernel⟩
theorem scBar : FnScope nBar ["net", "one", "other"] (defScope sBar) := ⟨rfl, rfl, rfl, by decide +kernel, rfl, by decide +kernel, by decide +kernel⟩
theorem scComes : FnScope ["net", "one", "other"] ["net", "one", "other"] (defScope sComes) := ⟨rfl, rfl, rfl, by decide +kernel, rfl, by decide +kernel, by decide +kernel⟩
theorem scBarHolds : FnScope ["net", "one", "other", "value"] ["net", "one", "other", "value"] (defScope sBarHolds) := ⟨rfl, rfl, rfl, by decide +kernel, rfl, by decide +kernel, by decide +kernel⟩
theorem no_str {x y : Str} (h : x ≠ y) : decide (V.str x = V.str y) = false := decide_eq_false fun z => h (V.str.inj z)
theorem fn_no {P : Program} {w : World} {K : PySem.W.Frag} {mg : Str → Option Value} {base : Heap} {k : Nat} {f : Addr} {fd : FuncData} {ps : List Str} : FnOk P w K mg base CX0 k f fd ps spNo :=
  ⟨fun _ _ _ _ h => (show False from h).elim, fun _ _ _ _ _ _ _ _ _ _ _ _ _ h => (show False from h).elim⟩
end
end Sw
namespace Sw
open PySem PySem.Spec PyProof.Rows L2 LamX
/-! ### colours -/
section
variable {P : Program} {w : World} {K : PySem.W.Frag} {mg : Str → Option Value} {base : Heap}
abbrev sColours : Stmt := top 11
abbrev nColours : List Str := ["net", "fewest", "stop"]
theorem scColours : FnScope nColours ["net"] (defScope sColours) := ⟨rfl, rfl, rfl, by decide +kernel, rfl, by decide +kernel, by decide +kernel⟩
def spColours (tb C D : Addr) : Sp := fun vs H Q E => ∃ (a b : Addr) (n : Int) (ts : List V) (ars : List (Int × Int)), vs = [.ref a] ∧ NetAt n H a b ts ∧ ArsAt H ts ars ∧ Tabs (lamT tb) H ∧
  (¬ Joined n ars → ∀ H', ExtN H H' → Tabs (lamT tb) H' → E (.ref C) none H') ∧
  (Joined n ars → ∀ (g : Nat) (H' : Hp), ExtN H H' → Tabs (lamT tb) H' → Great (Divs ars 0) g → g % 2 = 1 → E (.ref D) none H') ∧
  (Joined n ars → ∀ (g : Nat) (r : Addr) (cs : List Int) (H' : Hp), ExtN H H' → Tabs (lamT tb) H' → Great (Divs ars 0) g → g % 2 = 0 → H' r = some (.tup (cs.map V.int)) → ColP n ars cs → Q (.ref r) H')
theorem ok_colours {f tb C D S : Addr} {fd : FuncData} (F : Fun K "colours" "colours" sColours f fd) (B : NoNames mg) (U : UErr2 K mg "Apart" "Unfit" "SwapError" C D S) (OF : Own P w K mg base 5 "fewest_from" ["net", "stop"] (spFew tb)) (OJ : Own P w K mg base 7 "is_joined" ["net"] (spIsJoined tb)) (OB : Own P w K mg base 7 "beat" ["net", "stop"] (spPBeat tb)) :
    FnOk P w K mg base (L2.CX P w) 8 f fd ["net"] (spColours tb C D) := by
  obtain ⟨fF, fdF, GF, mF, kF, bF⟩ := OF.ex
  obtain ⟨fJ, fdJ, GJ, mJ, kJ, bJ⟩ := OJ.ex
  obtain ⟨fB, fdB, GB, mB, kB, bB⟩ := OB.ex
  refine F.okX scColours (fun vs H Q E h => ?_) (fun cdv A outer s H vs Q E hr h => ?_)
  · obtain ⟨a, b, n, ts, ars, rfl, _⟩ := h
    rfl
  · obtain ⟨a, b, n, ts, ars, rfl, N, AR, hT, k1, k2, k3⟩ := h
    have hu := hu_of hr
    have hr5 := hr.mono (by decide : 5 ≤ 7)
    have n1 := N.n1
    have n2 := N.n2
    have inn := ars_inn N.arr AR
    have i0 : Inn n 0 := ⟨by decide, by omega⟩
    refine ⟨_, pss_cons (ps_if (pt_not (pt_val (pe_call GJ hr rfl mJ kJ bJ .nil pass0 (pa_cons (pv 0) pa_nil)))) (pss_one (ps_raise rfl (takes_of rfl rfl rfl rfl) (U.a.mk0 rfl))) pss_nil) <|
      pss_cons (ps_if (pt_cmpR op_eq (pe_op op_mod (pe_call GB hr rfl mB kB bB .nil pass0 (pa_cons (pv 0) (pa_cons pe_int pa_nil))) pe_int) pe_int (nomark _)) (pss_one (ps_raise rfl (takes_of rfl rfl rfl rfl) (U.b.mk0 rfl))) pss_nil) <|
      pss_cons (ps_set (i := 1) scColours.nd rfl (.inr rfl) (pe_call GF hr5 rfl mF kF bF .nil pass0 (pa_cons (pv 0) (pa_cons pe_int pa_nil)))) <|
      pss_one (ps_ret (pe_callTy call_tuple_of (by rfl) B.tuple (by decide +kernel) (pa_cons
        (pe_lc (own := [("stop", 2)]) (g := gName 2) (tt := tYes) (te := tOp (rI (fun _ j => 0 < j) fun i j => .int (i % j)) (tDGet (tVar 1) (tVar 2)) (tC (.int 2))) rfl scColours.nd (pi_range1 (by rfl) B.range (pa_cons (pe_ix ix_tup (pv 0) pe_int (fun _ _ => rfl)) pa_nil)) (blkOk_by (own := [("stop", 2)]) (N := nColours) (sc := defScope sColours) (by decide +kernel))
          (fun _ _ _ _ _ => pg_name (i := 2) scColours.nd rfl (Or.inl rfl)) (fun _ _ _ _ _ => pts_nil) (fun _ _ _ _ _ => pe_op (r := rI (fun _ j => 0 < j) fun i j => .int (i % j)) op_mod (pe_dget hu (pv 1) (pv 2) (fun _ _ => rfl)) pe_int)) pa_nil))), ?_⟩
    refine ⟨_, rfl, a, b, n, ts, ars, rfl, N, AR, hT, fun c H1 x1 hT1 ec => ?_⟩
    have t1 : TupS H H1 := TupS.extG x1
    have N1 := N.keep t1
    have A1 := AR.keep t1
    refine ⟨c, rfl, ?_⟩
    cases c with
    | false => exact iteT (k1 (fun J => Bool.false_ne_true (ec.mpr J)) H1 x1 hT1)
    | true =>
      have J : Joined n ars := ec.mp rfl
      refine iteF ?_
      refine ⟨_, rfl, a, b, n, 0, ts, ars, rfl, N1, A1, i0, hT1, fun g H2 x2 hT2 G => ?_⟩
      have x12 := x1.trans x2
      have t2 : TupS H H2 := TupS.extG x12
      have N2 := N.keep t2
      have A2 := AR.keep t2
      refine ⟨_, _, rfl, rfl, by show (0 : Int) < 2; decide, rfl, _, rfl, ite2 (fun y => ?_) (fun y => ?_)⟩
      · have y : decide (V.int ((g : Int) % 2) = V.int 1) = true := y
        have y := V.int.inj (of_decide_eq_true y)
        exact k2 J g H2 x12 hT2 G (by omega)
      · have ev : g % 2 = 0 := by
          by_cases z : g % 2 = 1
          · refine (y ?_).elim
            show decide (V.int ((g : Int) % 2) = V.int 1) = true
            rw [show ((g : Int) % 2) = 1 by omega]
            rfl
          · omega
        refine ⟨_, rfl, a, b, n, 0, ts, ars, rfl, N2, A2, i0, hT2, fun rf ks H3 x3 hT3 hrf nd kd => ?_⟩
        have x13 := x12.trans x3
        have t3 : TupS H H3 := TupS.extG x13
        have N3 := N.keep t3
        have val : ∀ v : Nat, (v : Int) < n → ∃ k, Rch ars k 0 (v : Int) ∧ valV (knV ks) (.inl (v : Int) : Key) = some (.int (k : Nat)) := fun v hv => by
          obtain ⟨k, p⟩ := (J v ⟨by omega, hv⟩).1
          obtain ⟨j, _, q⟩ := p.fewest
          have nx : ∀ b c, c ∈ nextOf ars b ↔ (b, c) ∈ ars := fun b c => next_mem.trans ⟨fun h => h.2, fun h => ⟨(inn _ h).1.1, h⟩⟩
          exact ⟨j, (rch_path nx).mpr q.1, kn_val nd ((kd _ _).mpr q)⟩
        refine ⟨_, rfl, a, _, 0, .int n, rfl, rfl, SqT.of N3.a, at_of (j := 0) rfl rfl, n, rfl, by omega, by omega, fun D nD => ?_⟩
        refine lc_it walk_range (fun j Z => ∃ cs : List Int, Z D = some (.lst (cs.map V.int)) ∧ cs.length = j ∧ (∀ v : Nat, v < j → ∃ k, Rch ars k 0 (v : Int) ∧ cs[v]? = some ((k % 2 : Nat) : Int)) ∧ Same H3 Z)
          ⟨[], upd_same, rfl, fun v h => absurd h (Nat.not_lt_zero _), same_new nD⟩ (fun _ _ _ _ => trivial) ?_ ?_
        · rintro j x Hb Ha hj ⟨cs, h1, h2, h3, h4⟩ ⟨rfl, rfl⟩
          have hj : j < n.toNat := hj
          have f0 : (0 : Int) + (j : Int) = (j : Int) := Int.zero_add _
          obtain ⟨k, rk, ek⟩ := val j (by omega)
          refine ⟨rfl, ?_⟩
          dsimp only [tYes]
          rw [if_pos rfl, f0]
          refine ⟨_, rfl, _, rfl, rf, .int (k : Nat), rfl, by rw [← ek]; exact DGet.k (k := .inl (j : Int)) (h4 _ _ hrf), ?_⟩
          refine ⟨_, _, rfl, rfl, by show (0 : Int) < 2; decide, _, h1, by rw [List.length_map, h2, sizeLine_eq]; omega, cs ++ [((k % 2 : Nat) : Int)], ?_, by rw [List.length_append, h2]; rfl, fun v hv => ?_, fun c o ec => ?_⟩
          · rw [upd_same, List.map_append]
            rfl
          · by_cases z : v < j
            · rw [List.getElem?_append_left (by omega)]
              exact h3 v z
            · obtain rfl : v = j := by omega
              refine ⟨k, rk, ?_⟩
              rw [List.getElem?_append_right (by omega), h2, Nat.sub_self]
              rfl
          · rw [upd_ne (ne_of_none ec nD)]
            exact h4 _ _ ec
        · rintro Ha ⟨cs, h1, h2, h3, h4⟩
          refine ⟨D, _, rfl, .inl ⟨SqL.of h1, fun T nT => ?_⟩⟩
          have sT := h4.trans (same_new (o := .tup (cs.map V.int)) nT)
          exact k3 J g T cs _ (x13.trans (.of sT)) (hT3.ext sT) G ev upd_same ⟨by omega, fun v hv => h3 v (by omega)⟩
end
end Sw
namespace Sw
open PySem PySem.Spec PyProof.Rows L2
/-! ### the loom: a dict of great cells, what is stirred, a count -/
abbrev sLoom : Stmt := top 49
abbrev sDrawW : Stmt := top 50
abbrev nLoom : List Str := ["script", "cells", "stirred", "cell"]
theorem scLoom : FnScope nLoom ["script"] (defScope sLoom) := ⟨rfl, rfl, rfl, by decide +kernel, rfl, by decide +kernel, by decide +kernel⟩
abbrev nDrawW : List Str := ["loom", "many", "cell", "one"]
theorem scDrawW : FnScope nDrawW ["loom", "many"] (defScope sDrawW) := ⟨rfl, rfl, rfl, by decide +kernel, rfl, by decide +kernel, by decide +kernel⟩
def wF : Key := .inr "far"
def wS : Key := .inr "stirred"
def wT : Key := .inr "times"
def wvL (d : Addr) (st k : Int) : List (Key × V) := [(wF, .ref d), (wS, .int st), (wT, .int k)]
theorem wv_far {d : Addr} {st k : Int} : valV (wvL d st k) wF = some (.ref d) := rfl
theorem wv_st {d : Addr} {st k : Int} : valV (wvL d st k) wS = some (.int st) := by
  unfold wvL
  rw [valV_neg (show ¬ wF = wS by decide), valV_pos rfl]
theorem wv_k {d : Addr} {st k : Int} : valV (wvL d st k) wT = some (.int k) := by
  unfold wvL
  rw [valV_neg (show ¬ wF = wT by decide), valV_neg (show ¬ wS = wT by decide), valV_pos rfl]
theorem wv_put {d : Addr} {st k z : Int} : putK (wvL d st k) wT (.int z) = wvL d st z := rfl
theorem wget_far {H : Hp} {p d : Addr} {st k : Int} (h : H p = some (.dK (wvL d st k))) : DGet H p (.str "far") (some (.ref d)) := by
  have q := DGet.k (k := wF) h
  rw [wv_far] at q
  exact q
theorem wget_st {H : Hp} {p d : Addr} {st k : Int} (h : H p = some (.dK (wvL d st k))) : DGet H p (.str "stirred") (some (.int st)) := by
  have q := DGet.k (k := wS) h
  rw [wv_st] at q
  exact q
theorem wget_k {H : Hp} {p d : Addr} {st k : Int} (h : H p = some (.dK (wvL d st k))) : DGet H p (.str "times") (some (.int k)) := by
  have q := DGet.k (k := wT) h
  rw [wv_k] at q
  exact q
theorem wput_k {H : Hp} {p d : Addr} {st k : Int} (z : Int) (h : H p = some (.dK (wvL d st k))) : DPut H p (.str "times") (.int z) (upd H p (.dK (wvL d st z))) := by
  have q := DPut.k (k := wT) (v := .int z) h (by show 3 < sizeLine; rw [sizeLine_eq]; omega)
  rw [wv_put] at q
  exact q
structure Loom (H : Hp) (p d : Addr) : Prop where
  ex : ∃ (ns : List Int) (st k : Int), H p = some (.dK (wvL d st k)) ∧ H d = some (.lst (ns.map V.int)) ∧ ns.length ≤ 63
/-- all stands but the loom -/
def KpW (p d : Addr) (H H' : Hp) : Prop := ∀ b o, H b = some o → b ≠ p → b ≠ d → H' b = some o
theorem KpW.refl {p d : Addr} {H : Hp} : KpW p d H H := fun _ _ e _ _ => e
theorem KpW.trans {p d : Addr} {H H1 H2 : Hp} (s : KpW p d H H1) (t : KpW p d H1 H2) : KpW p d H H2 := fun b o e n1 n2 => t b o (s b o e n1 n2) n1 n2
theorem KpW.of {p d : Addr} {H H' : Hp} (s : Same H H') : KpW p d H H' := fun b o e _ _ => s b o e
theorem Loom.same {H H' : Hp} {p d : Addr} (D : Loom H p d) (s : Same H H') : Loom H' p d := by
  obtain ⟨ns, st, k, h1, h2, r⟩ := D.ex
  exact ⟨ns, st, k, s _ _ h1, s _ _ h2, r⟩
theorem Loom.ne {H : Hp} {p d : Addr} (D : Loom H p d) : p ≠ d := by
  obtain ⟨ns, st, k, h1, h2, r⟩ := D.ex
  intro z
  rw [z, h2] at h1
  cases h1
theorem Loom.off {H : Hp} {p d a : Addr} (D : Loom H p d) (h : H a = none) : a ≠ p ∧ a ≠ d := by
  obtain ⟨ns, st, k, h1, h2, r⟩ := D.ex
  exact ⟨(fun z => by rw [z, h1] at h; cases h), (fun z => by rw [z, h2] at h; cases h)⟩
theorem Loom.tne {H : Hp} {p d a : Addr} {xs : List V} (D : Loom H p d) (h : H a = some (.tup xs)) : a ≠ p ∧ a ≠ d := by
  obtain ⟨ns, st, k, h1, h2, r⟩ := D.ex
  exact ⟨(fun z => by rw [z, h1] at h; cases h), (fun z => by rw [z, h2] at h; cases h)⟩
theorem TupS.kpw {p d : Addr} {H H' : Hp} (D : Loom H p d) (s : KpW p d H H') : TupS H H' := by
  obtain ⟨ns, st, k, h1, h2, r⟩ := D.ex
  intro b o t e
  refine s _ _ e (fun z => ?_) (fun z => ?_)
  · subst z
    exact t.ns h1 e (fun _ z => nomatch z) fun _ _ z => nomatch z
  · subst z
    exact t.ns h2 e (fun _ z => nomatch z) fun _ _ z => nomatch z
theorem kpw_free {H0 H : Hp} {p d l : Addr} (D : Loom H p d) (k : KpW p d H0 H) (h : H l = none) : H0 l = none := by
  cases e : H0 l with
  | none => rfl
  | some o =>
    have := k l o e (D.off h).1 (D.off h).2
    rw [h] at this
    cases this
theorem Loom.lst {H : Hp} {p d l : Addr} {o : HO} (D : Loom H p d) (n : l ≠ p ∧ l ≠ d) : Loom (upd H l o) p d := by
  obtain ⟨ns, st, k, h1, h2, r⟩ := D.ex
  exact ⟨ns, st, k, by rw [upd_ne fun z => n.1 z.symm]; exact h1, by rw [upd_ne fun z => n.2 z.symm]; exact h2, r⟩
theorem cut_intW (ns : List Int) (lo hi : Option Int) : ∃ ms : List Int, cutV (ns.map V.int) lo hi = ms.map V.int ∧ ms.length ≤ ns.length := by
  unfold cutV
  rw [← List.map_drop, ← List.map_take]
  refine ⟨_, rfl, ?_⟩
  rw [List.length_take, List.length_drop]
  omega
theorem last_intW {ns : List Int} (h : ns ≠ []) : ∃ n ms, ns = ms ++ [n] ∧ (ns.map V.int)[(ns.map V.int).length - 1]? = some (.int n) ∧ (ns.map V.int).dropLast = ms.map V.int := by
  refine ⟨ns.getLast h, ns.dropLast, (List.dropLast_concat_getLast h).symm, ?_, ?_⟩
  · rw [List.getElem?_map, List.length_map]
    rw [← List.getLast?_eq_getElem?, List.getLast?_eq_some_getLast h]
    rfl
  · rw [List.map_dropLast]
theorem eqv_nilW (ns : List Int) : (!PyData.eqv (.list (ns.map PyData.int)) (.list [])) = decide (ns ≠ []) := by
  cases ns with
  | nil => simp [PyData.eqv, PyData.eqvAll]
  | cons a r => simp [PyData.eqv, PyData.eqvAll]
theorem hu_ofW {k : Nat} {A : Around} (hr : Room k A) : A.units + 1 < cLine := by
  have := hr.units
  omega
section
variable {P : Program} {w : World} {K : PySem.W.Frag} {mg : Str → Option Value} {base : Heap}
def spLoom (K : PySem.W.Frag) : Sp := fun vs H Q _ => ∃ (a : Addr) (ns : List Int), vs = [.ref a] ∧ SqL K H a (ns.map V.int) ∧ ns.length ≤ 63 ∧ ∀ (p d : Addr) (H' : Hp), Same H H' → H p = none → H d = none → Loom H' p d → Q (.ref p) H'
theorem ok_loom {f : Addr} {fd : FuncData} (F : Fun K "_law_loom" "_law_loom" sLoom f fd) (B : NoNames mg) : FnOk P w K mg base CX0 1 f fd ["script"] (spLoom K) := by
  refine F.ok scLoom (fun vs H Q E h => ?_) (fun cdv A outer s H vs Q E hr h => ?_)
  · obtain ⟨a, ns, rfl, _⟩ := h
    rfl
  · obtain ⟨a, ns, rfl, hS, hl, k⟩ := h
    refine ⟨_, pss_cons (ps_par (i := 1) (j := 2) rfl scLoom.nd rfl rfl (by decide) rfl rfl (pa_cons (pe_lc (own := [("cell", 3)]) (g := gName 3) (tt := tYes) rfl scLoom.nd (pi_list (pe_slice sl_list (pv 0) po_none (po_some pe_int))) (blkOk_by (own := [("cell", 3)]) (N := nLoom) (sc := defScope sLoom) (by decide +kernel))
          (fun _ _ _ _ _ => pg_name (i := 3) scLoom.nd rfl (Or.inl rfl)) (fun _ _ _ _ _ => pts_nil) (fun _ _ _ _ _ => pe_op op_add (pe_op op_mul pe_int (pe_callB call_abs (by rfl) B.abs (by decide +kernel) (pa_cons (pv 3) pa_nil))) (pe_callTy call_int1 (by rfl) B.int (by decide +kernel) (pa_cons (pe_cmpR op_lt (pv 3) pe_int (nomark _)) pa_nil))))
        (pa_cons (pe_op op_add pe_int (pe_op op_mul pe_int (pe_callB call_len_seq (by rfl) B.len PySem.boot_len (pa_cons (pv 0) pa_nil)))) pa_nil)) (by rfl)) <|
      pss_cons (ps_for PassesOwn.never rfl (pi_list (pv 1)) (pg_name (i := 3) scLoom.nd rfl (.inl rfl))
        (pss_one (ps_set (i := 2) scLoom.nd rfl (.inl rfl) (pe_op op_mod (pe_callTy call_int1 (by rfl) B.int (by decide +kernel) (pa_cons (pe_op op_add (pe_op op_add (pe_op op_mul (pv 2) pe_int) (pv 3)) pe_int) pa_nil)) pe_int)))) <|
      pss_one (ps_ret (pe_disp (pps_cons pe_str (pe_lc (own := [("cell", 3)]) (g := gName 3) rfl scLoom.nd (pi_list (pv 1)) (blkOk_by (own := [("cell", 3)]) (N := nLoom) (sc := defScope sLoom) (by decide +kernel))
          (fun _ _ _ _ _ => pg_name (i := 3) scLoom.nd rfl (Or.inl rfl)) (fun _ _ _ _ _ => pts_one (pt_cmpR op_ge (pv 3) (pe_op op_pow pe_int pe_int) (nomark _))) (fun _ _ _ _ _ => pv 3))
        (pps_cons pe_str (pv 2) (pps_cons pe_str pe_int pps_nil))) (by rfl) (by rfl) (fun z => by cases z) (by decide))), ?_⟩
    obtain ⟨ms, em, lm⟩ := cut_intW ns none (some 63)
    refine ⟨_, rfl, 63, rfl, a, ns.map V.int, rfl, hS, fun c nc => ?_⟩
    rw [em]
    have sc := same_new (o := .lst (ms.map V.int)) nc
    refine ⟨c, rfl, ⟨_, SqL.of upd_same⟩, fun D nD => ?_⟩
    refine lc_it (walk_list (xs := ms.map V.int)) (fun i H' => ∃ os : List Int, H' D = some (.lst (os.map V.int)) ∧ os.length = i ∧ Same (upd H c (.lst (ms.map V.int))) H') ⟨[], upd_same, rfl, same_new nD⟩ (fun i H' _ h => by obtain ⟨_, _, _, e⟩ := h; exact SqL.of (e _ _ upd_same)) ?_ ?_
    · rintro i x Hb Ha hi ⟨os, g1, g2, g3⟩ ⟨rfl, ex⟩
      obtain ⟨z, ez, rfl⟩ := int_at ex
      rw [List.length_map] at hi
      have fin : ∀ y : Int, ∃ acc, Ha D = some (.lst acc) ∧ acc.length < sizeLine ∧ ∃ os : List Int, (upd Ha D (.lst (acc ++ [.int y]))) D = some (.lst (os.map V.int)) ∧ os.length = i + 1 ∧ Same (upd H c (.lst (ms.map V.int))) (upd Ha D (.lst (acc ++ [.int y]))) := fun y =>
        ⟨_, g1, by rw [List.length_map, g2, sizeLine_eq]; omega, os ++ [y], by rw [upd_same, List.map_append]; rfl, by rw [List.length_append, g2]; rfl, fun b o e => by
          rw [upd_ne (ne_of_none e nD)]
          exact g3 _ _ e⟩
      refine ⟨rfl, ?_⟩
      dsimp only [tYes]
      rw [if_pos rfl]
      exact ⟨_, rfl, _, rfl, _, _, rfl, rfl, .inl ⟨by decide, by decide⟩, _, rfl, _, _, rfl, rfl, .inr ⟨_, rfl, _, _, rfl, rfl, fin _⟩⟩
    · rintro Ha ⟨os, g1, g2, g3⟩
      rw [List.length_map] at g2
      have s2 := sc.trans g3
      refine ⟨_, rfl, a, _, rfl, .inl (s2.seq hS), _, _, rfl, rfl, .inl ⟨by decide, by decide⟩, _, _, rfl, rfl, _, _, rfl, ?_⟩
      have nD0 : H D = none := sc.free nD
      have lo : os.length ≤ 63 := by omega
      refine ⟨_, rfl, D, rfl, ⟨_, SqL.of g1⟩, for_it (walk_list (xs := os.map V.int)) (fun i σ H' => (∃ (st : Int) (s3 : Option V), σ = [some (.ref a), some (.ref D), some (.int st), s3]) ∧ H' = Ha) ⟨⟨_, _, rfl⟩, rfl⟩ (fun i σ H' _ h => by rw [h.2]; exact SqL.of g1) ?_ ?_⟩
      · rintro i x σ H5 H6 hi ⟨⟨st, s3, rfl⟩, rfl⟩ ⟨rfl, ex⟩
        obtain ⟨z, ez, rfl⟩ := int_at ex
        exact ⟨_, rfl, _, _, rfl, rfl, .inr ⟨by decide, by decide⟩, _, rfl, _, _, rfl, rfl, _, _, rfl, rfl, .inl ⟨_, rfl, _, _, rfl, rfl, (by show (0 : Int) < 4294967291; decide), ⟨_, _, rfl⟩, rfl⟩⟩
      · rintro σ H5 ⟨⟨st, s3, rfl⟩, rfl⟩
        intro p np
        have sp := same_new (o := .dK []) np
        refine ⟨_, rfl, D, rfl, ⟨_, SqL.of (sp _ _ g1)⟩, fun d nd => ?_⟩
        refine lc_it (walk_list (xs := os.map V.int)) (fun i H' => ∃ qs : List Int, H' d = some (.lst (qs.map V.int)) ∧ qs.length ≤ i ∧ Same (upd H5 p (.dK [])) H') ⟨[], upd_same, Nat.le_refl _, same_new nd⟩ (fun i H' _ h => by obtain ⟨_, _, _, e⟩ := h; exact SqL.of (e _ _ (sp _ _ g1))) ?_ ?_
        · rintro i x Hb Hc hi ⟨qs, q1, q2, q3⟩ ⟨rfl, ex⟩
          obtain ⟨z, ez, rfl⟩ := int_at ex
          rw [List.length_map] at hi
          refine ⟨rfl, ?_⟩
          refine ⟨_, rfl, 10, 15, rfl, rfl, ⟨by decide, by decide, by decide⟩, _, _, rfl, rfl, _, rfl, ite2 (fun _ => ?_) (fun _ => ⟨qs, q1, by omega, q3⟩)⟩
          refine ⟨_, rfl, _, q1, by rw [List.length_map, sizeLine_eq]; omega, qs ++ [z], by rw [upd_same, List.map_append]; rfl, by rw [List.length_append]; simp only [List.length_cons, List.length_nil]; omega, fun b o e => ?_⟩
          rw [upd_ne (ne_of_none e nd)]
          exact q3 _ _ e
        · rintro Hc ⟨qs, q1, q2, q3⟩
          rw [List.length_map] at q2
          refine ⟨_, rfl, q3 _ _ upd_same, [(wF, .ref d), (wS, .int st), (wT, .int 0)], rfl, by show 3 ≤ 15; decide, ?_⟩
          have npd : d ≠ p := fun z => by
            rw [z, upd_same] at nd
            cases nd
          refine k p d _ (fun b o e => ?_) (s2.free np) (s2.free (sp.free nd)) ⟨qs, st, 0, upd_same, ?_, by omega⟩
          · rw [upd_ne (ne_of_none (s2 _ _ e) np)]
            exact q3 _ _ (sp _ _ (s2 _ _ e))
          · rw [upd_ne npd]
            exact q1
def spDrawW : Sp := fun vs H Q _ => ∃ (p d : Addr) (m : Int), vs = [.ref p, .int m] ∧ Loom H p d ∧ m < 1000000 ∧ ∀ (r : Int) (H' : Hp), 0 ≤ r → (1 ≤ m → r < m) → Loom H' p d → KpW p d H H' → Q (.int r) H'
theorem ok_drawW {f : Addr} {fd : FuncData} (F : Fun K "_law_draw" "_law_draw" sDrawW f fd) (B : NoNames mg) : FnOk P w K mg base CX0 1 f fd ["loom", "many"] spDrawW := by
  refine F.ok scDrawW (fun vs H Q E h => ?_) (fun cdv A outer s H vs Q E hr h => ?_)
  · obtain ⟨p, d, m, rfl, _⟩ := h
    rfl
  · obtain ⟨p, d, m, rfl, D, hm, k⟩ := h
    have hu := hu_ofW hr
    refine ⟨_, pss_cons (ps_if (pt_cmpR op_lt (pv 1) pe_int (nomark _)) (pss_one (ps_ret pe_int)) pss_nil) <|
      pss_cons (ps_if (pt_cmpR (op_neD hr.units) (pe_dget hu (pv 0) pe_str (fun _ _ => rfl)) (pe_lst pa_nil) (nomark _))
        (pss_cons (ps_set (i := 2) scDrawW.nd rfl (.inl rfl) (pe_bm0 PySem.F.plainAttrs_list PySem.F.slot_list_pop PySem.F.type_list_pop mt_pop (pe_dget hu (pv 0) pe_str (fun _ _ => rfl)))) <|
         pss_cons (ps_if (pt_cmpR op_ge (pv 2) (pv 1) (nomark _)) (pss_one (ps_expr (pe_bm PySem.F.plainAttrs_list PySem.F.slot_list_append PySem.F.type_list_append mt_append (pe_dget hu (pv 0) pe_str (fun _ _ => rfl)) (pa_cons (pe_op op_fdiv (pv 2) (pv 1)) pa_nil)))) pss_nil) <|
         pss_one (ps_ret (pe_op op_mod (pe_callTy call_int1 (by rfl) B.int (by decide +kernel) (pa_cons (pv 2) pa_nil)) (pv 1)))) pss_nil) <|
      pss_cons (ps_dput hu (pv 0) pe_str (pe_op op_add (pe_dget hu (pv 0) pe_str (fun _ _ => rfl)) pe_int) rfl) <|
      pss_cons (ps_set (i := 3) scDrawW.nd rfl (.inl rfl) (pe_op op_mod (pe_callTy call_int1 (by rfl) B.int (by decide +kernel) (pa_cons (pe_op op_add (pe_dget hu (pv 0) pe_str (fun _ _ => rfl)) (pe_op op_mul pe_int (pe_dget hu (pv 0) pe_str (fun _ _ => rfl)))) pa_nil)) pe_int)) <|
      pss_cons (ps_set (i := 3) scDrawW.nd rfl (.inl rfl) (pe_op op_mod (pe_callTy call_int1 (by rfl) B.int (by decide +kernel) (pa_cons (pe_op op_add (pe_op op_add (pe_op op_mul (pv 3) (pv 3)) (pe_op op_mul pe_int (pe_dget hu (pv 0) pe_str (fun _ _ => rfl)))) pe_int) pa_nil)) pe_int)) <|
      pss_cons (ps_set (i := 3) scDrawW.nd rfl (.inl rfl) (pe_op op_mod (pe_callTy call_int1 (by rfl) B.int (by decide +kernel) (pa_cons (pe_op op_add (pe_op op_mul (pv 3) (pv 3)) (pe_dget hu (pv 0) pe_str (fun _ _ => rfl))) pa_nil)) pe_int)) <|
      pss_one (ps_ret (pe_op op_mod (pe_callTy call_int1 (by rfl) B.int (by decide +kernel) (pa_cons (pe_op op_fdiv (pv 3) pe_int) pa_nil)) (pv 1))), ?_⟩
    obtain ⟨ns, st, kk, hp, hd, hl⟩ := id D.ex
    have hpd := D.ne
    refine ⟨_, rfl, _, _, rfl, rfl, _, rfl, ite2 (fun z => ?_) (fun z => ?_)⟩
    · have z : m < 2 := of_decide_eq_true z
      exact k 0 H (by decide) (fun _ => by omega) D .refl
    have z : ¬ m < 2 := fun q => z (decide_eq_true q)
    refine ⟨_, rfl, p, _, rfl, wget_far hp, Nat.zero_le _, fun e ne => ?_⟩
    have se := same_new (o := .lst []) ne
    refine ⟨.list (ns.map PyData.int), .list [], .lst (SqL.of (se _ _ hd)) (dp_ints ns), .lst (SqL.of upd_same) .nil, PySem.W.ke_shaped_ints ns, rfl, _, rfl, ?_⟩
    rw [eqv_nilW]
    refine ite2 (fun y => ?_) (fun y => ?_)
    · obtain ⟨n, ms, rfl, hlast, hdrop⟩ := last_intW (of_decide_eq_true y)
      refine ⟨_, rfl, p, _, rfl, wget_far (se _ _ hp), .inl ⟨rfl, _, SqL.of (se _ _ hd)⟩, d, _, _, rfl, rfl, se _ _ hd, hlast, ?_⟩
      rw [hdrop]
      have h1 : (upd (upd H e (.lst [])) d (.lst (ms.map V.int))) p = some (.dK (wvL d st kk)) := by
        rw [upd_ne hpd]
        exact se _ _ hp
      have h2 : (upd (upd H e (.lst [])) d (.lst (ms.map V.int))) d = some (.lst (ms.map V.int)) := upd_same
      have h3 : KpW p d H (upd (upd H e (.lst [])) d (.lst (ms.map V.int))) := fun b o e n1 n2 => by
        rw [upd_ne n2]
        exact se _ _ e
      have hl' : ms.length + 1 ≤ 63 := by simpa using hl
      generalize (upd (upd H e (.lst [])) d (.lst (ms.map V.int))) = H1 at h1 h2 h3 ⊢
      have D1 : Loom H1 p d := ⟨ms, st, kk, h1, h2, by omega⟩
      refine ⟨_, rfl, _, rfl, _, _, rfl, rfl, _, rfl, ite2 (fun x => ?_) (fun x => ?_)⟩
      · refine ⟨_, rfl, p, _, rfl, wget_far h1, .inl ⟨rfl, _, SqL.of h2⟩, _, rfl, _, rfl, _, _, rfl, rfl, ⟨by omega, by omega⟩, d, _, _, rfl, rfl, h2, ?_, ?_⟩
        · rw [List.length_map, sizeLine_eq]
          omega
        refine ⟨_, rfl, .inl ⟨_, rfl, _, rfl, _, _, rfl, rfl, by show 0 < m; omega, ?_⟩⟩
        refine k _ _ (Int.emod_nonneg _ (by omega)) (fun _ => Int.emod_lt_of_pos _ (by omega)) ⟨ms ++ [n / m], st, kk, ?_, ?_, ?_⟩ (h3.trans fun b o e n1 n2 => ?_)
        · rw [upd_ne hpd]
          exact h1
        · rw [upd_same, List.map_append]
          rfl
        · simp
          omega
        · rw [upd_ne n2]
          exact e
      · refine ⟨_, rfl, .inl ⟨_, rfl, _, rfl, _, _, rfl, rfl, by show 0 < m; omega, ?_⟩⟩
        exact k _ _ (Int.emod_nonneg _ (by omega)) (fun _ => Int.emod_lt_of_pos _ (by omega)) D1 h3
    · have D1 := D.same se
      have hp := se _ _ hp
      have hd := se _ _ hd
      have kp1 : KpW p d H (upd H e (.lst [])) := .of se
      generalize (upd H e (.lst [])) = H1 at hp hd D1 kp1 ⊢
      refine ⟨_, rfl, p, _, rfl, wget_k hp, _, _, rfl, rfl, _, rfl, p, _, rfl, wput_k (kk + 1) hp, ?_⟩
      have hp2 : (upd H1 p (.dK (wvL d st (kk + 1)))) p = some (.dK (wvL d st (kk + 1))) := upd_same
      have hd2 : (upd H1 p (.dK (wvL d st (kk + 1)))) d = some (.lst (ns.map V.int)) := by
        rw [upd_ne hpd.symm]
        exact hd
      have kp2 : KpW p d H (upd H1 p (.dK (wvL d st (kk + 1)))) := fun b o e q1 q2 => by
        rw [upd_ne q1]
        exact kp1 b o e q1 q2
      generalize (upd H1 p (.dK (wvL d st (kk + 1)))) = H2 at hp2 hd2 kp2 ⊢
      have D2 : Loom H2 p d := ⟨ns, st, kk + 1, hp2, hd2, hl⟩
      refine ⟨_, rfl, p, _, rfl, wget_st hp2, _, rfl, p, _, rfl, wget_k hp2, ?_⟩
      refine ⟨_, _, rfl, rfl, .inl ⟨by decide, by decide⟩, _, _, rfl, rfl, .inl ⟨_, rfl, _, _, rfl, rfl, (by show (0 : Int) < 4294967279; decide), ?_⟩⟩
      dsimp only
      have nn : ∀ (x : Int) {M : Int}, 0 < M → 0 ≤ x % M ∧ x % M < M := fun x M hM => ⟨Int.emod_nonneg _ (by omega), Int.emod_lt_of_pos _ hM⟩
      obtain ⟨a1, a2⟩ := nn (st + 2654435761 * (kk + 1)) (M := 4294967279) (by decide)
      generalize (st + 2654435761 * (kk + 1)) % 4294967279 = one at a1 a2 ⊢
      refine ⟨_, rfl, _, rfl, _, _, rfl, rfl, .inl ⟨by omega, by omega⟩, _, rfl, p, _, rfl, wget_k hp2, _, _, rfl, rfl, .inl ⟨by decide, by decide⟩, _, _, rfl, rfl, _, _, rfl, rfl, .inl ⟨_, rfl, _, _, rfl, rfl, (by show (0 : Int) < 4294967231; decide), ?_⟩⟩
      dsimp only
      obtain ⟨b1, b2⟩ := nn (one * one + 40503 * (kk + 1) + 17) (M := 4294967231) (by decide)
      generalize (one * one + 40503 * (kk + 1) + 17) % 4294967231 = two at b1 b2 ⊢
      refine ⟨_, rfl, _, rfl, _, _, rfl, rfl, .inl ⟨by omega, by omega⟩, _, rfl, p, _, rfl, wget_st hp2, _, _, rfl, rfl, .inl ⟨_, rfl, _, _, rfl, rfl, (by show (0 : Int) < 4294967197; decide), ?_⟩⟩
      dsimp only
      generalize (two * two + st) % 4294967197 = three
      refine ⟨_, rfl, _, _, rfl, rfl, ⟨by decide, by decide⟩, .inl ⟨_, rfl, _, rfl, _, _, rfl, rfl, by show 0 < m; omega, ?_⟩⟩
      exact k _ _ (Int.emod_nonneg _ (by omega)) (fun _ => Int.emod_lt_of_pos _ (by omega)) D2 kp2
end
end Sw
namespace Sw
open PySem PySem.Spec PyProof.Rows L2
/-! ### one of some things, some things in a drawn order -/
abbrev sPickW : Stmt := top 51
theorem scPickW : FnScope ["loom", "things"] ["loom", "things"] (defScope sPickW) := ⟨rfl, rfl, rfl, by decide +kernel, rfl, by decide +kernel, by decide +kernel⟩
abbrev sMixedW : Stmt := top 52
theorem scMixedW : FnScope ["loom", "things", "rest", "found"] ["loom", "things"] (defScope sMixedW) := ⟨rfl, rfl, rfl, by decide +kernel, rfl, by decide +kernel, by decide +kernel⟩
theorem erase_permA {α : Type} {l : List α} {i : Nat} (h : i < l.length) : (l[i] :: l.eraseIdx i).Perm l := by
  induction l generalizing i with
  | nil => exact absurd h (Nat.not_lt_zero _)
  | cons a l ih =>
    cases i with
    | zero => exact .refl _
    | succ i => exact (List.Perm.swap _ _ _).trans ((ih (by simpa using h)).cons a)
section
variable {P : Program} {w : World} {K : PySem.W.Frag} {mg : Str → Option Value} {base : Heap}
def spPickW : Sp := fun vs H Q _ => ∃ (p d a : Addr) (xs : List V), vs = [.ref p, .ref a] ∧ Loom H p d ∧ H a = some (.lst xs) ∧ a ≠ p ∧ a ≠ d ∧ xs ≠ [] ∧ xs.length < 1000000 ∧ ∀ (x : V) (H' : Hp), x ∈ xs → Loom H' p d → KpW p d H H' → Q x H'
theorem ok_pickW {f : Addr} {fd : FuncData} (F : Fun K "_law_pick" "_law_pick" sPickW f fd) (B : NoNames mg) (O : Own P w K mg base 1 "_law_draw" ["loom", "many"] spDrawW) : FnOk P w K mg base CX0 2 f fd ["loom", "things"] spPickW := by
  obtain ⟨fD, fdD, GD, mD, kD, bD⟩ := O.ex
  refine F.ok scPickW (fun vs H Q E h => ?_) (fun cdv A outer s H vs Q E hr h => ?_)
  · obtain ⟨p, d, a, xs, rfl, _⟩ := h
    rfl
  · obtain ⟨p, d, a, xs, rfl, D, ha, np, nd, hx, hl, k⟩ := h
    refine ⟨_, pss_one (ps_ret (pe_ix ix_list (pv 1) (pe_call GD hr rfl mD kD bD .nil pass0 (pa_cons (pv 0) (pa_cons (pe_callB call_len_seq (by rfl) B.len PySem.boot_len (pa_cons (pv 1) pa_nil)) pa_nil))) (fun _ _ => rfl))), ?_⟩
    have hpos : 0 < xs.length := List.length_pos_iff.mpr hx
    refine ⟨_, rfl, _, rfl, _, rfl, a, xs, rfl, .inl (SqL.of ha), p, d, (xs.length : Int), rfl, D, by omega, fun r H' r0 r1 D' kp => ?_⟩
    have r1 := r1 (by omega)
    have ha' := kp _ _ ha np nd
    obtain ⟨i, rfl⟩ := Int.eq_ofNat_of_zero_le r0
    have hi : i < xs.length := by omega
    exact ⟨a, xs, _, xs[i], rfl, rfl, SqL.of ha', at_of (j := i) rfl (List.getElem?_eq_getElem hi), k _ _ (List.getElem_mem hi) D' kp⟩
def spMixedW : Sp := fun vs H Q _ => ∃ (p d a : Addr) (xs : List V), vs = [.ref p, .ref a] ∧ Loom H p d ∧ H a = some (.lst xs) ∧ xs.length < 1000000 ∧ ∀ (r : Addr) (ms : List V) (H' : Hp), Loom H' p d → KpW p d H H' → H r = none → H' r = some (.lst ms) → ms.Perm xs → Q (.ref r) H'
theorem ok_mixedW {f : Addr} {fd : FuncData} (F : Fun K "_law_mixed" "_law_mixed" sMixedW f fd) (B : NoNames mg) (O : Own P w K mg base 1 "_law_draw" ["loom", "many"] spDrawW) : FnOk P w K mg base CX0 2 f fd ["loom", "things"] spMixedW := by
  obtain ⟨fD, fdD, GD, mD, kD, bD⟩ := O.ex
  refine F.ok scMixedW (fun vs H Q E h => ?_) (fun cdv A outer s H vs Q E hr h => ?_)
  · obtain ⟨p, d, a, xs, rfl, _⟩ := h
    rfl
  · obtain ⟨p, d, a, xs, rfl, D, ha, hl, k⟩ := h
    refine ⟨_, pss_cons (ps_par (i := 2) (j := 3) rfl scMixedW.nd rfl rfl (by decide) rfl rfl (pa_cons (pe_callTy call_list_of (by rfl) B.list (by decide +kernel) (pa_cons (pv 1) pa_nil)) (pa_cons (pe_lst pa_nil) pa_nil)) (by rfl)) <|
      pss_cons (ps_while PassesOwn.never (pt_cmpR (op_neNil hr.units0) (pv 2) (pe_lst pa_nil) (nomark _))
        (pss_one (ps_expr (pe_bm PySem.F.plainAttrs_list PySem.F.slot_list_append PySem.F.type_list_append mt_append (pv 3)
          (pa_cons (pe_bm PySem.F.plainAttrs_list PySem.F.slot_list_pop PySem.F.type_list_pop mt_popAt (pv 2)
            (pa_cons (pe_call GD hr rfl mD kD bD .nil pass0 (pa_cons (pv 0) (pa_cons (pe_callB call_len_seq (by rfl) B.len PySem.boot_len (pa_cons (pv 2) pa_nil)) pa_nil))) pa_nil)) pa_nil))))) <|
      pss_one (ps_ret (pv 3)), ?_⟩
    refine ⟨_, rfl, a, _, rfl, .inl (SqL.of ha), fun l nl => ⟨Nat.zero_le _, fun g ng => ⟨_, _, rfl, ?_⟩⟩⟩
    have s1 : Same H (L2.upd H l (.lst xs)) := same_new nl
    have s2 := s1.trans (same_new (o := .lst []) ng)
    have ngl : g ≠ l := fun z => by
      rw [z, upd_same] at ng
      cases ng
    have ol := D.off nl
    have og := D.off (s1.free ng)
    refine ⟨fun m σ H' => ∃ ls fs : List V, σ = [some (.ref p), some (.ref a), some (.ref l), some (.ref g)] ∧ Loom H' p d ∧ KpW p d H H' ∧ H' l = some (.lst ls) ∧ H' g = some (.lst fs) ∧ ls.length = m ∧ (fs ++ ls).Perm xs,
      ⟨xs.length, xs, [], rfl, D.same s2, .of s2, by rw [upd_ne ngl.symm, upd_same], upd_same, rfl, .refl _⟩, ?_⟩
    rintro m σ H1 ⟨ls, fs, rfl, D1, k1, h1, h2, rfl, hpm⟩
    refine ⟨_, rfl, Nat.zero_le _, fun e ne => ?_⟩
    have se : Same H1 (L2.upd H1 e (.lst [])) := same_new ne
    refine ⟨l, e, _, rfl, rfl, SqL.of (se _ _ h1), SqL.of upd_same, _, rfl, ?_⟩
    have D2 := D1.same se
    have k2 := k1.trans (.of se)
    have h1' := se _ _ h1
    have h2' := se _ _ h2
    have hlen : fs.length + ls.length = xs.length := by
      rw [← hpm.length_eq, List.length_append]
    generalize (L2.upd H1 e (.lst [])) = H2 at D2 k2 h1' h2' ⊢
    refine ite2 (fun y => ?_) (fun y => ?_)
    · have hpos : 0 < ls.length := by
        cases ls with
        | nil => cases y
        | cons a r => exact Nat.succ_pos _
      refine ⟨fun σ' H' => ∃ m', m' < ls.length ∧ ∃ ls fs : List V, σ' = [some (.ref p), some (.ref a), some (.ref l), some (.ref g)] ∧ Loom H' p d ∧ KpW p d H H' ∧ H' l = some (.lst ls) ∧ H' g = some (.lst fs) ∧ ls.length = m' ∧ (fs ++ ls).Perm xs, fun _ _ h => h, ?_⟩
      refine ⟨_, rfl, .inl ⟨rfl, _, SqL.of h2'⟩, _, rfl, .inl ⟨rfl, _, SqL.of h1'⟩, _, rfl, _, rfl, l, ls, rfl, .inl (SqL.of h1'), p, d, (ls.length : Int), rfl, D2, by omega, fun r H3 r0 r1 D3 k3 => ?_⟩
      have r1 := r1 (by omega)
      have h1 := k3 _ _ h1' ol.1 ol.2
      have h2 := k3 _ _ h2' og.1 og.2
      obtain ⟨i, rfl⟩ := Int.eq_ofNat_of_zero_le r0
      have hi : i < ls.length := by omega
      refine ⟨l, _, _, i, ls[i], rfl, rfl, h1, by omega, by omega, PySem.seqIndex_of r0 r1, List.getElem?_eq_getElem hi, ?_⟩
      refine ⟨g, fs, _, rfl, rfl, by rw [upd_ne ngl]; exact h2, by rw [sizeLine_eq]; omega, ?_⟩
      have le : (ls.eraseIdx i).length + 1 = ls.length := by
        rw [List.length_eraseIdx_of_lt hi]
        omega
      refine ⟨(ls.eraseIdx i).length, by omega, ls.eraseIdx i, fs ++ [ls[i]], rfl, ?_, fun b o e q1 q2 => ?_, by rw [upd_ne ngl.symm, upd_same], upd_same, rfl, ?_⟩
      · obtain ⟨ns, st, kk, e1, e2, e3⟩ := D3.ex
        exact ⟨ns, st, kk, by rw [upd_ne og.1.symm, upd_ne ol.1.symm]; exact e1, by rw [upd_ne og.2.symm, upd_ne ol.2.symm]; exact e2, e3⟩
      · rw [upd_ne (ne_of_none e (s1.free ng)), upd_ne (ne_of_none e nl)]
        exact k3 _ _ (k2 _ _ e q1 q2) q1 q2
      · rw [List.append_assoc]
        exact ((erase_permA hi).append_left fs).trans hpm
    · have y : ls = [] := by
        cases ls with
        | nil => rfl
        | cons a r => exact absurd rfl y
      subst y
      rw [List.append_nil] at hpm
      exact ⟨_, rfl, k g fs H2 D2 k2 (s1.free ng) h2' hpm⟩
end
end Sw
namespace Sw
open PySem L2
/-! ### rings: readings, turned -/
def ato (os : List Int) (k : Nat) : Int := os.getD (k % os.length) 0
def rdI (r os : List Int) (k : Nat) : List Int := r.getD os.length 0 :: (List.range os.length).map fun i => r.getD (ato os (k + i)).toNat 0
def cyc (L : List Int) (i : Nat) : Int := L.getD (i % L.length) 0
def fol (L : List Int) (t : Int) : Int := cyc L (L.idxOf t + 1)
/-- M is L begun j later -/
structure Trn (L M : List Int) (j : Nat) : Prop where
  len : M.length = L.length
  is : ∀ i, cyc M i = cyc L (i + j)
theorem gd {l : List Int} {i : Nat} (h : i < l.length) : l.getD i 0 = l[i] := by
  rw [List.getD_eq_getElem?_getD, List.getElem?_eq_getElem h]
  rfl
theorem cyc_lt {L : List Int} {i : Nat} (h : i < L.length) : cyc L i = L[i] := by
  unfold cyc
  rw [Nat.mod_eq_of_lt h, gd h]
theorem cyc_mod (L : List Int) (i : Nat) : cyc L (i % L.length) = cyc L i := by
  unfold cyc
  rw [Nat.mod_mod]
theorem cyc_add (L : List Int) (i : Nat) : cyc L (i + L.length) = cyc L i := by
  unfold cyc
  rw [Nat.add_mod_right]
theorem cyc_mem {L : List Int} {i : Nat} (h : 0 < L.length) : cyc L i ∈ L := by
  have hm := Nat.mod_lt i h
  unfold cyc
  rw [gd hm]
  exact List.getElem_mem hm
theorem ext_cyc {L M : List Int} (l : L.length = M.length) (h : ∀ i, cyc L i = cyc M i) : L = M :=
  List.ext_getElem l fun i h1 h2 => by rw [← cyc_lt h1, ← cyc_lt h2, h i]
theorem Trn.refl (L : List Int) : Trn L L 0 := ⟨rfl, fun _ => rfl⟩
theorem Trn.trans {L M N : List Int} {i j : Nat} (a : Trn L M i) (b : Trn M N j) : Trn L N (i + j) := ⟨b.len.trans a.len, fun k => by rw [b.is, a.is]; congr 1; omega⟩
theorem Trn.uniq {L M N : List Int} {j : Nat} (a : Trn L M j) (b : Trn L N j) : M = N := ext_cyc (a.len.trans b.len.symm) fun i => by rw [a.is, b.is]
theorem cyc_eq {L : List Int} (nd : L.Nodup) {i j : Nat} (h : 0 < L.length) (e : cyc L i = cyc L j) : i % L.length = j % L.length := by
  have h1 := Nat.mod_lt i h
  have h2 := Nat.mod_lt j h
  unfold cyc at e
  rw [gd h1, gd h2] at e
  exact (List.getElem_inj nd).mp e
theorem fol_cyc {L : List Int} (nd : L.Nodup) (h : 0 < L.length) (i : Nat) : fol L (cyc L i) = cyc L (i + 1) := by
  have hm := cyc_mem (i := i) h
  have h1 : L.idxOf (cyc L i) < L.length := List.idxOf_lt_length_of_mem hm
  have e : cyc L (L.idxOf (cyc L i)) = cyc L i := by rw [cyc_lt h1, List.getElem_idxOf]
  have m := cyc_eq nd h e
  have m2 : (L.idxOf (cyc L i) + 1) % L.length = (i + 1) % L.length := by rw [Nat.add_mod, m, ← Nat.add_mod]
  show cyc L (L.idxOf (cyc L i) + 1) = cyc L (i + 1)
  rw [← cyc_mod L (L.idxOf (cyc L i) + 1), m2, cyc_mod]
theorem mem_cyc {L : List Int} {t : Int} (h : t ∈ L) : ∃ i, i < L.length ∧ cyc L i = t := by
  obtain ⟨i, hi, e⟩ := List.getElem_of_mem h
  exact ⟨i, hi, by rw [cyc_lt hi, e]⟩
theorem Trn.nodup {L M : List Int} {j : Nat} (T : Trn L M j) (nd : L.Nodup) : M.Nodup := by
  refine List.pairwise_iff_getElem.mpr fun a b ha hb ab e => ?_
  rw [← cyc_lt ha, ← cyc_lt hb, T.is, T.is] at e
  have l := T.len
  have m := cyc_eq nd (by omega) e
  have : a % L.length = b % L.length := by
    have q := congrArg (fun x => (x + (L.length - j % L.length)) % L.length) m
    simp only [Nat.mod_add_mod] at q
    have e1 : ∀ x, (x + j + (L.length - j % L.length)) % L.length = x % L.length := fun x => by
      have h0 : 0 < L.length := by omega
      have hj := Nat.mod_lt j h0
      have d := Nat.div_add_mod j L.length
      rw [show x + j + (L.length - j % L.length) = x + L.length * (j / L.length + 1) by rw [Nat.mul_add, Nat.mul_one]; omega, Nat.add_mul_mod_self_left]
    rw [e1, e1] at q
    exact q
  rw [Nat.mod_eq_of_lt (by omega), Nat.mod_eq_of_lt (by omega)] at this
  omega
theorem Trn.fol {L M : List Int} {j : Nat} (T : Trn L M j) (nd : L.Nodup) {t : Int} (ht : t ∈ M) : fol M t = fol L t := by
  obtain ⟨i, hi, rfl⟩ := mem_cyc ht
  have l := T.len
  rw [fol_cyc (T.nodup nd) (by omega), T.is, T.is, fol_cyc nd (by omega)]
  congr 1
  omega
theorem trn_cut (L : List Int) (m : Nat) (h : 0 < L.length) : Trn L (L.drop (m % L.length) ++ L.take (m % L.length)) m := by
  have hm := Nat.mod_lt m h
  have l : (L.drop (m % L.length) ++ L.take (m % L.length)).length = L.length := by rw [List.length_append, List.length_drop, List.length_take]; omega
  refine ⟨l, fun i => ?_⟩
  have hi := Nat.mod_lt i h
  have e : (i + m) % L.length = (i % L.length + m % L.length) % L.length := Nat.add_mod i m _
  unfold cyc
  rw [l, e]
  generalize i % L.length = a at hi ⊢
  generalize m % L.length = b at hm l ⊢
  rw [gd (by omega)]
  by_cases c : a + b < L.length
  · rw [List.getElem_append_left (by rw [List.length_drop]; omega), List.getElem_drop, Nat.mod_eq_of_lt c, gd c]
    congr 1
    omega
  · have e2 : (a + b) % L.length = a + b - L.length := by
      rw [Nat.mod_eq_sub_mod (by omega), Nat.mod_eq_of_lt (by omega)]
    rw [List.getElem_append_right (by rw [List.length_drop]; omega), List.getElem_take, e2, gd (by omega)]
    congr 1
    rw [List.length_drop]
    omega
section
variable {n : Int} {os r : List Int}
theorem Ord.pos (O : Ord n os) (hn : 1 ≤ n) : 0 < os.length := by
  have := O.len
  omega
theorem ato_inn (O : Ord n os) (hn : 1 ≤ n) (k : Nat) : Inn n (ato os k) := (O.is _).mp (cyc_mem (O.pos hn))
theorem ato_inj (O : Ord n os) (hn : 1 ≤ n) {i j : Nat} (e : ato os i = ato os j) : i % os.length = j % os.length := cyc_eq O.nd (O.pos hn) e
theorem ato_add (i : Nat) : ato os (i + os.length) = ato os i := cyc_add os i
theorem ato_mod {i j : Nat} (h : i % os.length = j % os.length) : ato os i = ato os j := by
  unfold ato
  rw [h]
/-- every stop comes, from wherever -/
theorem ato_onto (O : Ord n os) (hn : 1 ≤ n) (k : Nat) {v : Int} (h : Inn n v) : ∃ i, i < os.length ∧ ato os (k + i) = v := by
  have p := O.pos hn
  obtain ⟨j, hj, e⟩ := mem_cyc ((O.is v).mpr h)
  have hk := Nat.mod_lt k p
  refine ⟨(j + (os.length - k % os.length)) % os.length, Nat.mod_lt _ p, ?_⟩
  rw [← e]
  refine ato_mod ?_
  rw [Nat.add_mod_mod]
  have d := Nat.div_add_mod k os.length
  rw [show k + (j + (os.length - k % os.length)) = j + os.length * (k / os.length + 1) by rw [Nat.mul_add, Nat.mul_one]; omega, Nat.add_mul_mod_self_left]
theorem rd_len (r os : List Int) (k : Nat) : (rdI r os k).length = os.length + 1 := by
  unfold rdI
  rw [List.length_cons, List.length_map, List.length_range]
theorem rd_zero (r os : List Int) (k : Nat) : (rdI r os k)[0]? = some (r.getD os.length 0) := rfl
theorem rd_succ (r os : List Int) (k : Nat) {i : Nat} (h : i < os.length) : (rdI r os k)[i + 1]? = some (r.getD (ato os (k + i)).toNat 0) := by
  unfold rdI
  rw [List.getElem?_cons_succ, List.getElem?_map, List.getElem?_range h]
  rfl
/-- the place read at i -/
def plc (os : List Int) (k i : Nat) : Nat := if i = 0 then os.length else (ato os (k + (i - 1))).toNat
theorem rd_plc (r os : List Int) (k : Nat) {i : Nat} (h : i < os.length + 1) : (rdI r os k)[i]? = some (r.getD (plc os k i) 0) := by
  cases i with
  | zero => exact rd_zero r os k
  | succ i =>
    unfold plc
    rw [if_neg (Nat.succ_ne_zero i), Nat.add_sub_cancel]
    exact rd_succ r os k (by omega)
theorem plc_lt (O : Ord n os) (hn : 1 ≤ n) (k i : Nat) : plc os k i < os.length + 1 := by
  unfold plc
  have := ato_inn O hn (k + (i - 1))
  have l := O.len
  have h1 := this.1
  have h2 := this.2
  split <;> omega
theorem plc_inj (O : Ord n os) (hn : 1 ≤ n) {k i j : Nat} (hi : i < os.length + 1) (hj : j < os.length + 1) (e : plc os k i = plc os k j) : i = j := by
  have l := O.len
  have b := ato_inn O hn
  have b1 := b (k + (i - 1))
  have b2 := b (k + (j - 1))
  unfold Inn at b1 b2
  unfold plc at e
  by_cases zi : i = 0 <;> by_cases zj : j = 0
  · omega
  · rw [if_pos zi, if_neg zj] at e
    omega
  · rw [if_neg zi, if_pos zj] at e
    omega
  · rw [if_neg zi, if_neg zj] at e
    have q := ato_inj O hn (show ato os (k + (i - 1)) = ato os (k + (j - 1)) by omega)
    have p := O.pos hn
    have : (i - 1) % os.length = (j - 1) % os.length := by
      have hk := Nat.mod_lt k p
      have d := Nat.div_add_mod k os.length
      have e1 : ∀ x, (k + x + (os.length - k % os.length)) % os.length = x % os.length := fun x => by
        rw [show k + x + (os.length - k % os.length) = x + os.length * (k / os.length + 1) by rw [Nat.mul_add, Nat.mul_one]; omega, Nat.add_mul_mod_self_left]
      have q2 := congrArg (fun x => (x + (os.length - k % os.length)) % os.length) q
      simp only [Nat.mod_add_mod] at q2
      rw [e1, e1] at q2
      exact q2
    rw [Nat.mod_eq_of_lt (by omega), Nat.mod_eq_of_lt (by omega)] at this
    omega
theorem plc_onto (O : Ord n os) (hn : 1 ≤ n) (k : Nat) {j : Nat} (h : j < os.length + 1) : ∃ i, i < os.length + 1 ∧ plc os k i = j := by
  have l := O.len
  by_cases z : j = os.length
  · exact ⟨0, by omega, by unfold plc; rw [if_pos rfl, z]⟩
  · obtain ⟨i, hi, e⟩ := ato_onto O hn k (v := (j : Int)) ⟨by omega, by omega⟩
    refine ⟨i + 1, by omega, ?_⟩
    unfold plc
    rw [if_neg (Nat.succ_ne_zero i), Nat.add_sub_cancel, e]
    omega
/-- a reading is made of the row's things -/
theorem rd_ord (O : Ord n os) (hn : 1 ≤ n) (R : Ord (n + 1) r) (k : Nat) : Ord (n + 1) (rdI r os k) := by
  have l := O.len
  have lr := R.len
  refine ⟨by rw [rd_len]; omega, List.pairwise_iff_getElem.mpr fun a b ha hb ab e => ?_, fun v => ⟨fun hv => ?_, fun hv => ?_⟩⟩
  · rw [rd_len] at ha hb
    have e1 := rd_plc r os k ha
    have e2 := rd_plc r os k hb
    rw [List.getElem?_eq_getElem (by rw [rd_len]; exact ha)] at e1
    rw [List.getElem?_eq_getElem (by rw [rd_len]; exact hb)] at e2
    have p1 := plc_lt O hn k a
    have p2 := plc_lt O hn k b
    rw [Option.some.inj e1, Option.some.inj e2, gd (by omega), gd (by omega)] at e
    have := plc_inj O hn ha hb ((List.getElem_inj R.nd).mp e)
    omega
  · obtain ⟨i, hi, e⟩ := List.getElem_of_mem hv
    have hi' := hi
    rw [rd_len] at hi'
    have e1 := rd_plc r os k hi'
    rw [List.getElem?_eq_getElem hi, e] at e1
    rw [Option.some.inj e1, gd (by have := plc_lt O hn k i; omega)]
    exact (R.is _).mp (List.getElem_mem _)
  · obtain ⟨j, hj, e⟩ := List.getElem_of_mem ((R.is v).mpr hv)
    obtain ⟨i, hi, p⟩ := plc_onto O hn k (j := j) (by omega)
    have e1 := rd_plc r os k hi
    rw [p, gd hj, e] at e1
    exact List.mem_of_getElem? e1
/-- a row is told by its reading -/
theorem rd_inj {s : List Int} (O : Ord n os) (hn : 1 ≤ n) {k : Nat} (hr : r.length = os.length + 1) (hs : s.length = os.length + 1) (e : rdI r os k = rdI s os k) : r = s := by
  refine List.ext_getElem (by omega) fun j h1 h2 => ?_
  obtain ⟨i, hi, p⟩ := plc_onto O hn k (j := j) (by omega)
  have e1 := rd_plc r os k hi
  have e2 := rd_plc s os k hi
  rw [e, e2, p, gd h1, gd h2] at e1
  exact (Option.some.inj e1).symm
theorem row_ord (O : Ord n os) (hn : 1 ≤ n) {k : Nat} (hr : r.length = os.length + 1) (R : Ord (n + 1) (rdI r os k)) : Ord (n + 1) r := by
  have l := O.len
  refine ⟨by omega, List.pairwise_iff_getElem.mpr fun a b ha hb ab e => ?_, fun v => ⟨fun hv => ?_, fun hv => ?_⟩⟩
  · obtain ⟨i, hi, p⟩ := plc_onto O hn k (j := a) (by omega)
    obtain ⟨j, hj, q⟩ := plc_onto O hn k (j := b) (by omega)
    have e1 := rd_plc r os k hi
    have e2 := rd_plc r os k hj
    rw [p, gd ha] at e1
    rw [q, gd hb, ← e, ← e1] at e2
    have hi' : i < (rdI r os k).length := by rw [rd_len]; exact hi
    have hj' : j < (rdI r os k).length := by rw [rd_len]; exact hj
    rw [List.getElem?_eq_getElem hi', List.getElem?_eq_getElem hj'] at e2
    have := (List.getElem_inj R.nd).mp (Option.some.inj e2)
    rw [this] at q
    omega
  · obtain ⟨j, hj, e⟩ := List.getElem_of_mem hv
    obtain ⟨i, hi, p⟩ := plc_onto O hn k (j := j) (by omega)
    have e1 := rd_plc r os k hi
    rw [p, gd hj, e] at e1
    exact (R.is v).mp (List.mem_of_getElem? e1)
  · obtain ⟨i, hi, e⟩ := List.getElem_of_mem ((R.is v).mpr hv)
    have hi' := hi
    rw [rd_len] at hi'
    have e1 := rd_plc r os k hi'
    have pl := plc_lt O hn k i
    rw [List.getElem?_eq_getElem hi, e, gd (by omega)] at e1
    rw [Option.some.inj e1]
    exact List.getElem_mem _
/-- a step turns the reading by one -/
theorem rd_step (O : Ord n os) (hn : 1 ≤ n) (R : Ord (n + 1) r) (k : Nat) : Trn (rdI r os k) (rdI (stp r (ato os k).toNat) os (k + 1)) 1 ∧ Ord (n + 1) (stp r (ato os k).toNat) := by
  have l := O.len
  have lr := R.len
  have p := O.pos hn
  have bk := ato_inn O hn k
  have hk1 := bk.1
  have hk2 := bk.2
  have hk : (ato os k).toNat < r.length := by omega
  have hN : r.length - 1 < r.length := by omega
  have gs : ∀ j, j < r.length → (stp r (ato os k).toNat).getD j 0 = if j = r.length - 1 then r.getD (ato os k).toNat 0 else if j = (ato os k).toNat then r.getD (r.length - 1) 0 else r.getD j 0 := fun j hj => by
    unfold stp
    rw [List.getD_eq_getElem?_getD, sw2_get hk hN j]
    split
    · rw [List.getD_eq_getElem?_getD]
    · split
      · rw [List.getD_eq_getElem?_getD]
      · rw [List.getD_eq_getElem?_getD]
  have T : Trn (rdI r os k) (rdI (stp r (ato os k).toNat) os (k + 1)) 1 := by
    refine ⟨by rw [rd_len, rd_len], fun i => ?_⟩
    rw [← cyc_mod _ i, rd_len]
    have hi := Nat.mod_lt i (show 0 < os.length + 1 by omega)
    have e0 : cyc (rdI r os k) (i + 1) = cyc (rdI r os k) (i % (os.length + 1) + 1) := by
      unfold cyc
      rw [rd_len, Nat.mod_add_mod]
    rw [e0]
    generalize i % (os.length + 1) = a at hi ⊢
    have c1 : ∀ (s : List Int) (m b : Nat), b < os.length + 1 → cyc (rdI s os m) b = s.getD (plc os m b) 0 := fun s m b hb => by
      have q := rd_plc s os m hb
      rw [List.getElem?_eq_getElem (by rw [rd_len]; exact hb)] at q
      rw [cyc_lt (by rw [rd_len]; exact hb), Option.some.inj q]
    rw [c1 _ _ a hi]
    have lN : r.length - 1 = os.length := by omega
    have pl := plc_lt O hn (k + 1) a
    rw [gs _ (by omega), lN]
    by_cases z : a = 0
    · subst z
      have e1 : plc os (k + 1) 0 = os.length := by unfold plc; rw [if_pos rfl]
      rw [e1, if_pos rfl, c1 _ _ (0 + 1) (by omega)]
      unfold plc
      rw [if_neg (by omega)]
      rfl
    · have e1 : plc os (k + 1) a = (ato os (k + a)).toNat := by
        unfold plc
        rw [if_neg z, show k + 1 + (a - 1) = k + a by omega]
      have ba := ato_inn O hn (k + a)
      have ba1 := ba.1
      have ba2 := ba.2
      rw [e1, if_neg (by omega)]
      by_cases y : a = os.length
      · have e2 : ato os (k + a) = ato os k := by rw [y]; exact ato_add k
        rw [e2, if_pos rfl]
        have e3 : cyc (rdI r os k) (a + 1) = cyc (rdI r os k) 0 := by
          rw [show a + 1 = 0 + (rdI r os k).length by rw [rd_len]; omega, cyc_add]
        rw [e3, c1 _ _ 0 (by omega)]
        unfold plc
        rw [if_pos rfl]
      · have ne : (ato os (k + a)).toNat ≠ (ato os k).toNat := fun q => by
          have q := ato_inj O hn (show ato os (k + a) = ato os k by omega)
          have d := Nat.div_add_mod k os.length
          have hk := Nat.mod_lt k p
          have e4 : (k + a) % os.length = (k % os.length + a) % os.length := by rw [Nat.mod_add_mod]
          rw [e4] at q
          by_cases c : k % os.length + a < os.length
          · rw [Nat.mod_eq_of_lt c] at q
            omega
          · rw [Nat.mod_eq_sub_mod (by omega), Nat.mod_eq_of_lt (by omega)] at q
            omega
        rw [if_neg ne, c1 _ _ (a + 1) (by omega)]
        unfold plc
        rw [if_neg (by omega), Nat.add_sub_cancel]
  have ls : (stp r (ato os k).toNat).length = os.length + 1 := by
    rw [stp_len]
    omega
  refine ⟨T, row_ord O hn (k := k + 1) ls ⟨by rw [rd_len]; omega, T.nodup (rd_ord O hn R k).nd, fun v => ?_⟩⟩
  rw [← (rd_ord O hn R k).is v]
  constructor
  · intro hv
    obtain ⟨i, hi, rfl⟩ := mem_cyc hv
    rw [T.is]
    exact cyc_mem (by rw [rd_len]; omega)
  · intro hv
    obtain ⟨i, hi, rfl⟩ := mem_cyc hv
    rw [rd_len] at hi
    have : cyc (rdI r os k) i = cyc (rdI (stp r (ato os k).toNat) os (k + 1)) (i + os.length) := by
      rw [T.is, show i + os.length + 1 = i + (rdI r os k).length by rw [rd_len]; omega, cyc_add]
    rw [this]
    exact cyc_mem (by rw [rd_len]; omega)
end
end Sw
namespace Sw
open PySem PySem.Spec PyProof.Rows L2
/-! ### row[stop], row[-1] = row[-1], row[stop] -/
def tSwap (i j : Nat) : TS := fun D σ H => ∃ (l : Addr) (xs : List Int) (s : Int), σ[i]? = some (some (.ref l)) ∧ σ[j]? = some (some (.int s)) ∧ H l = some (.lst (xs.map V.int)) ∧ 0 ≤ s ∧ s < (xs.length : Int) ∧
  ∀ H', (∀ b o, H b = some o → b ≠ l → H' b = some o) → H' l = some (.lst ((stp xs s.toNat).map V.int)) → D.nx σ H'
theorem ixN_neg {n : Nat} (h : 0 < n) : ixN n (-1) = some (n - 1) := by
  unfold ixN
  rw [if_neg (by decide), if_pos (by omega)]
  congr 1
  omega
theorem ixN_pos {n : Nat} {s : Int} (h0 : 0 ≤ s) (h1 : s < (n : Int)) : ixN n s = some s.toNat := by
  unfold ixN
  rw [if_pos h0, if_pos h1]
theorem atI_neg {α : Type} {xs : List α} {v : α} (h : 0 < xs.length) (e : xs[xs.length - 1]? = some v) : atI xs (-1) = some v := by
  unfold atI
  rw [ixN_neg h]
  exact e
section
variable {X : Cx} {i j kt k2 n1 n2 : Nat} {x y : Str} {px1 px2 px3 px4 py1 py2 pn1 pn2 pu1 pu2 ps1 ps2 ps3 ps4 pt pt2 pos : Pos}
theorem ps_swap (hc : X.calm = true) (hx : ∀ p, PE X (.Name x p) (tVar i)) (hy : ∀ p, PE X (.Name y p) (tVar j)) :
    PS X (.Assign [.Tuple [.Subscript (.Name x px1) (.Name y py1) ps1, .Subscript (.Name x px2) (.UnaryOp .USub (.Constant (.int 1) n1 pn1) pu1) ps2] kt pt]
      (.Tuple [.Subscript (.Name x px3) (.UnaryOp .USub (.Constant (.int 1) n2 pn2) pu2) ps3, .Subscript (.Name x px4) (.Name y py2) ps4] k2 pt2) pos) (tSwap i j) := by
  have hw : swappedStores [.Tuple [.Subscript (.Name x px1) (.Name y py1) ps1, .Subscript (.Name x px2) (.UnaryOp .USub (.Constant (.int 1) n1 pn1) pu1) ps2] kt pt]
      (.Tuple [.Subscript (.Name x px3) (.UnaryOp .USub (.Constant (.int 1) n2 pn2) pu2) ps3, .Subscript (.Name x px4) (.Name y py2) ps4] k2 pt2) X.env = pure none := by
    unfold swappedStores
    cases h : X.env.blockKind != .function <;> simp [h] <;> rfl
  refine ⟨fun pins s σ H D I q => (ps_asg (hw := hw) (pe_tup (pa_cons (pe_ix ix_list (hx px3) (pe_un un_neg pe_int) (fun _ _ => rfl)) (pa_cons (pe_ix ix_list (hx px4) (hy py2) (fun _ _ => rfl)) pa_nil)))
    (pg_tup hc (pgs_cons (pg_sub (hx px1) (hy py1) set_list) (pgs_cons (pg_sub (hx px2) (pe_un un_neg pe_int) set_list) pgs_nil)))).run pins s σ H D I ?_⟩
  obtain ⟨l, xs, st, e1, e2, hl, s0, s1, nx⟩ := q
  have pos : 0 < (xs.map V.int).length := by rw [List.length_map]; omega
  have lx : (xs.map V.int).length = xs.length := List.length_map _
  have g1 : (xs.map V.int)[(xs.map V.int).length - 1]? = some (.int (xs.getD (xs.length - 1) 0)) := by
    rw [lx, List.getElem?_map, List.getD_eq_getElem?_getD, List.getElem?_eq_getElem (by omega)]
    rfl
  have g2 : (xs.map V.int)[st.toNat]? = some (.int (xs.getD st.toNat 0)) := by
    rw [List.getElem?_map, List.getD_eq_getElem?_getD, List.getElem?_eq_getElem (by omega)]
    rfl
  refine ⟨_, e1, 1, rfl, l, _, -1, _, rfl, rfl, SqL.of hl, atI_neg pos g1, _, e1, _, e2, l, _, st, _, rfl, rfl, SqL.of hl, at_of (j := st.toNat) (by omega) g2, by show 2 ≤ sizeLine; decide, fun T nT => ?_⟩
  have sT : Same H (upd H T (.tup [.int (xs.getD (xs.length - 1) 0), .int (xs.getD st.toNat 0)])) := fun b o e => by
    rw [upd_ne (ne_of_none e nT)]
    exact e
  have hl1 := sT _ _ hl
  refine ⟨T, _, rfl, SqT.of upd_same, rfl, _, _, rfl, _, e1, _, e2, l, _, st, st.toNat, rfl, rfl, hl1, ixN_pos s0 (by rw [lx]; exact s1), _, _, rfl, _, e1, 1, rfl, l, _, -1, xs.length - 1, rfl, rfl, upd_same, ?_, ?_⟩
  · rw [List.length_set, lx]
    exact ixN_neg (by omega)
  · refine ⟨rfl, nx _ (fun b o e n => ?_) ?_⟩
    · rw [upd_ne n, upd_ne n]
      exact sT _ _ e
    · rw [upd_same]
      unfold stp sw2
      rw [List.map_set, List.map_set]
end
end Sw
namespace Sw
open PySem PySem.Spec PyProof.Rows L2
/-! ### what mixing gives: whole numbers -/
theorem rg_in {n : Int} {x : V} (h : x ∈ rgV 0 n) : ∃ i : Int, x = .int i ∧ 0 ≤ i ∧ i < n := by
  obtain ⟨i, hi, rfl⟩ := List.mem_map.mp h
  have := List.mem_range.mp hi
  exact ⟨_, rfl, by omega, by omega⟩
theorem rg_nd (n : Int) : (rgV 0 n).Nodup := by
  unfold rgV
  refine List.pairwise_map.mpr (List.nodup_range.imp fun h z => h ?_)
  have z := V.int.inj z
  omega
theorem two_mixed {n : Int} {ms : List V} (h : 1 < n) (hp : ms.Perm (rgV 0 n)) : ∃ x y : Int, cutV ms none (some 2) = [.int x, .int y] ∧ (0 ≤ x ∧ x < n) ∧ (0 ≤ y ∧ y < n) ∧ x ≠ y := by
  have len := hp.length_eq
  rw [rgV_length] at len
  have nd := hp.nodup_iff.mpr (rg_nd n)
  match ms, len with
  | [], len => rw [List.length_nil] at len; omega
  | [_], len => rw [List.length_singleton] at len; omega
  | x :: y :: r, len =>
    obtain ⟨i, rfl, hi⟩ := rg_in (hp.mem_iff.mp List.mem_cons_self)
    obtain ⟨j, rfl, hj⟩ := rg_in (hp.mem_iff.mp (List.mem_cons_of_mem _ List.mem_cons_self))
    refine ⟨i, j, ?_, hi, hj, fun z => ?_⟩
    · unfold cutV
      rw [show (some (2 : Int)) = some ((2 : Nat) : Int) from rfl, HT.sIx_nat, HT.sIx_none, List.drop_zero, Nat.sub_zero, show min 2 (V.int i :: V.int j :: r).length = 2 by rw [List.length_cons, List.length_cons]; omega]
      rfl
    · rw [z] at nd
      exact (List.nodup_cons.mp nd).1 List.mem_cons_self
theorem all_ints : ∀ {ms : List V}, (∀ x ∈ ms, ∃ i, x = V.int i) → ∃ os : List Int, ms = os.map V.int
  | [], _ => ⟨[], rfl⟩
  | x :: r, h => by
    obtain ⟨i, rfl⟩ := h x List.mem_cons_self
    obtain ⟨os, rfl⟩ := all_ints (ms := r) fun y hy => h y (List.mem_cons_of_mem _ hy)
    exact ⟨i :: os, rfl⟩
theorem mixed_ints {n : Int} {ms : List V} (h : ms.Perm (rgV 0 n)) : ∃ os : List Int, ms = os.map V.int ∧ os.length = n.toNat ∧ os.Nodup ∧ ∀ v, v ∈ os ↔ Inn n v := by
  obtain ⟨os, rfl⟩ := all_ints fun x hx => let ⟨i, e, _⟩ := rg_in (h.mem_iff.mp hx); ⟨i, e⟩
  refine ⟨os, rfl, ?_, ?_, fun v => ?_⟩
  · have := h.length_eq
    rw [List.length_map, rgV_length] at this
    omega
  · have := h.nodup_iff.mpr (rg_nd n)
    exact List.Pairwise.of_map V.int (fun a b q z => q (by rw [z])) this
  · constructor
    · intro hv
      obtain ⟨i, e, b⟩ := rg_in (h.mem_iff.mp (List.mem_map.mpr ⟨v, hv, rfl⟩))
      rw [V.int.inj e]
      exact b
    · rintro ⟨h0, h1⟩
      obtain ⟨k, rfl⟩ := Int.eq_ofNat_of_zero_le h0
      have : V.int (k : Nat) ∈ rgV 0 n := List.mem_map.mpr ⟨k, List.mem_range.mpr (by omega), by rw [Int.zero_add]⟩
      obtain ⟨i, hi, e⟩ := List.mem_map.mp (h.mem_iff.mpr this)
      rw [← V.int.inj e]
      exact hi
end Sw
namespace Sw
open PySem PySem.Spec PyProof.Rows L2
/-! ### parts of tuples -/
theorem rep_nat {K : PySem.W.Frag} {H : Hp} (g : Nat) : Rep K H (.int (g : Nat)) (.int (g : Nat)) [] := by
  simp [Rep]
/-- t[lo:hi], wherever it then lies -/
def rSlC (K : PySem.W.Frag) : V → Option Int → Option Int → Hp → VK → Prop := fun x lo hi H Q => ∃ a xs, x = .ref a ∧ H a = some (.tup xs) ∧ ∀ (r : Addr) (Z : Hp), Same H Z → Z r = some (.tup (cutV xs lo hi)) → Q (.ref r) Z
theorem sl_tupC {X : Cx} : SlR X (rSlC X.K) := by
  intro pins s σ H x v vl vu lo hi sl Q I rx hs pl pu h
  obtain ⟨a, xs, rfl, hx, q⟩ := h
  refine sl_tupA pins s σ H _ v vl vu lo hi sl Q I rx hs pl pu ⟨a, xs, rfl, SqT.of hx, fun w => q a H (fun _ _ e => e) ?_, fun _ p np => q p _ (same_new np) upd_same⟩
  unfold cutV
  rw [w.1, w.2, List.drop_zero, Nat.sub_zero, List.take_length]
  exact hx
theorem cutV_mem {xs : List V} {lo hi : Option Int} {x : V} (h : x ∈ cutV xs lo hi) : x ∈ xs := List.mem_of_mem_drop (List.mem_of_mem_take h)
theorem cat_tup {K : PySem.W.Frag} {H : Hp} {a b : Addr} {xs ys : List V} {Q : VK} (ha : H a = some (.tup xs)) (hb : H b = some (.tup ys)) (l : xs.length + ys.length ≤ 10000) (q : ∀ (r : Addr) (Z : Hp), Same H Z → Z r = some (.tup (xs ++ ys)) → Q (.ref r) Z) : rCatA K (.ref a) (.ref b) H Q := by
  refine ⟨a, b, xs, ys, rfl, rfl, SqT.of ha, SqT.of hb, by rw [sizeLine_eq]; omega, fun z => ?_, fun _ z => ?_, fun _ _ T nT => q T _ (same_new nT) upd_same⟩
  · subst z
    exact q b H (.refl _) hb
  · subst z
    exact q a H (.refl _) (by rw [List.append_nil]; exact ha)
end Sw
namespace Sw
open PySem PySem.Spec PyProof.Rows L2
/-! ### standings: a step, a drawn one, two things exchanged -/
structure StW (n : Int) (H : Hp) (s : Addr) (r : List Int) (v : Int) : Prop where
  ex : ∃ rw_ : Addr, H s = some (.tup [.ref rw_, .int v]) ∧ Rd H rw_ (.tup (r.map V.int))
  R : Ord (n + 1) r
  v : Inn n v
theorem StW.keep {n : Int} {H H' : Hp} {s : Addr} {r : List Int} {v : Int} (S : StW n H s r v) (t : TupS H H') : StW n H' s r v := by
  obtain ⟨rw_, h1, h2⟩ := S.ex
  exact ⟨⟨rw_, t _ _ h1, t.rd h2⟩, S.R, S.v⟩
theorem Ord.perm {m : Int} {r s : List Int} (O : Ord m r) (p : s.Perm r) : Ord m s := ⟨by rw [p.length_eq]; exact O.len, p.nodup_iff.mpr O.nd, fun v => p.mem_iff.trans (O.is v)⟩
theorem ord_of {m : Int} {os : List Int} (l : os.length = m.toNat) (nd : os.Nodup) (is : ∀ v, v ∈ os ↔ Inn m v) : Ord m os := ⟨l, nd, is⟩
section
variable {P : Program} {w : World} {K : PySem.W.Frag} {mg : Str → Option Value} {base : Heap}
abbrev sStepW : Stmt := top 56
abbrev sSpotW : Stmt := top 58
abbrev sSwapW : Stmt := top 60
abbrev nStepW : List Str := ["spot", "end", "row", "at"]
abbrev nSpotW : List Str := ["loom", "size"]
abbrev nSwapW : List Str := ["loom", "spot", "row", "a", "b"]
theorem scStepW : FnScope nStepW ["spot", "end"] (defScope sStepW) := ⟨rfl, rfl, rfl, by decide +kernel, rfl, by decide +kernel, by decide +kernel⟩
theorem scSpotW : FnScope nSpotW ["loom", "size"] (defScope sSpotW) := ⟨rfl, rfl, rfl, by decide +kernel, rfl, by decide +kernel, by decide +kernel⟩
theorem scSwapW : FnScope nSwapW ["loom", "spot"] (defScope sSwapW) := ⟨rfl, rfl, rfl, by decide +kernel, rfl, by decide +kernel, by decide +kernel⟩
def spStepW : Sp := fun vs H Q _ => ∃ (s rw_ : Addr) (r : List Int) (v e : Int), vs = [.ref s, .int e] ∧ H s = some (.tup [.ref rw_, .int v]) ∧ Rd H rw_ (.tup (r.map V.int)) ∧ 0 ≤ v ∧ v < (r.length : Int) ∧
  ∀ (q q2 : Addr) (H' : Hp), Same H H' → H' q = some (.tup [.ref q2, .int e]) → H' q2 = some (.tup ((stp r v.toNat).map V.int)) → Q (.ref q) H'
theorem ok_stepW {f : Addr} {fd : FuncData} (F : Fun K "_law_step" "_law_step" sStepW f fd) (B : NoNames mg) : FnOk P w K mg base CX0 1 f fd ["spot", "end"] spStepW := by
  refine F.ok scStepW (fun vs H Q E h => ?_) (fun cdv A outer s H vs Q E hr h => ?_)
  · obtain ⟨s, rw_, r, v, e, rfl, _⟩ := h
    rfl
  · obtain ⟨s, rw_, r, v, e, rfl, h1, h2, v0, v1, k⟩ := h
    refine ⟨_, pss_cons (ps_par (i := 2) (j := 3) rfl scStepW.nd rfl rfl (by decide) rfl rfl (pa_cons (pe_callTy call_list_of (by rfl) B.list (by decide +kernel) (pa_cons (pe_ix ix_tup (pv 0) pe_int (fun _ _ => rfl)) pa_nil)) (pa_cons (pe_ix ix_tup (pv 0) pe_int (fun _ _ => rfl)) pa_nil)) (by rfl)) <|
      pss_cons (ps_swap rfl (fun _ => pv 2) (fun _ => pv 3)) <|
      pss_one (ps_ret (pe_tup (pa_cons (pe_callTy call_tuple_of (by rfl) B.tuple (by decide +kernel) (pa_cons (pv 2) pa_nil)) (pa_cons (pv 1) pa_nil)))), ?_⟩
    refine ⟨_, rfl, s, _, 0, .ref rw_, rfl, rfl, SqT.of h1, at_of (j := 0) rfl rfl, rw_, _, rfl, .inr (.inl h2), fun l nl => ?_⟩
    have s1 := same_new (o := .lst (r.map V.int)) nl
    refine ⟨_, rfl, s, _, 1, .int v, rfl, rfl, SqT.of (s1 _ _ h1), at_of (j := 1) rfl rfl, _, _, rfl, l, r, v, rfl, rfl, upd_same, v0, v1, fun H2 keep hl2 => ?_⟩
    refine ⟨_, rfl, l, _, rfl, .inl ⟨SqL.of hl2, fun q2 nr => ⟨_, rfl, by show 2 ≤ sizeLine; decide, fun q nq => ?_⟩⟩⟩
    have sm : Same H H2 := fun b o' e => keep b o' (s1 _ _ e) (ne_of_none e nl)
    have s2 := same_new (o := .tup ((stp r v.toNat).map V.int)) nr
    have s3 := same_new (o := .tup [.ref q2, .int e]) nq
    exact k q q2 _ (sm.trans (s2.trans s3)) upd_same (s3 _ _ upd_same)
def spSpotW : Sp := fun vs H Q _ => ∃ (p d : Addr) (n : Int), vs = [.ref p, .int n] ∧ Loom H p d ∧ 1 ≤ n ∧ n ≤ 12 ∧ ∀ (s : Addr) (r : List Int) (v : Int) (H' : Hp), Loom H' p d → KpW p d H H' → StW n H' s r v → Q (.ref s) H'
theorem ok_spotW {f : Addr} {fd : FuncData} (F : Fun K "_law_spot" "_law_spot" sSpotW f fd) (B : NoNames mg) (OD : Own P w K mg base 1 "_law_draw" ["loom", "many"] spDrawW) (OM : Own P w K mg base 2 "_law_mixed" ["loom", "things"] spMixedW) : FnOk P w K mg base CX0 3 f fd ["loom", "size"] spSpotW := by
  obtain ⟨fD, fdD, GD, mD, kD, bD⟩ := OD.ex
  obtain ⟨fM, fdM, GM, mM, kM, bM⟩ := OM.ex
  refine F.ok scSpotW (fun vs H Q E h => ?_) (fun cdv A outer s H vs Q E hr h => ?_)
  · obtain ⟨p, d, n, rfl, _⟩ := h
    rfl
  · obtain ⟨p, d, n, rfl, D, n1, n2, k⟩ := h
    have hr1 := hr.mono (by decide : 1 ≤ 2)
    refine ⟨_, pss_one (ps_ret (pe_tup (pa_cons (pe_callTy call_tuple_of (by rfl) B.tuple (by decide +kernel) (pa_cons (pe_call GM hr rfl mM kM bM .nil pass0 (pa_cons (pv 0) (pa_cons (pe_listRg rfl (by rfl) B.list (prg_1 (by rfl) B.range (pe_op op_add (pv 1) pe_int))) pa_nil))) pa_nil))
      (pa_cons (pe_call GD hr1 rfl mD kD bD .nil pass0 (pa_cons (pv 0) (pa_cons (pv 1) pa_nil))) pa_nil)))), ?_⟩
    refine ⟨_, rfl, _, rfl, _, _, rfl, rfl, n + 1, rfl, RgOk.of_le (by omega) (by omega) (by omega) (by omega), fun q nq => ?_⟩
    have sq := same_new (o := .lst (rgV 0 (n + 1))) nq
    refine ⟨p, d, q, _, rfl, D.same sq, upd_same, by rw [rgV_length]; omega, fun so ms H1 D1 k1 nr h1 pm => ?_⟩
    obtain ⟨os, rfl, lo, nd, io⟩ := mixed_ints pm
    refine ⟨so, _, rfl, .inl ⟨SqL.of h1, fun tq nt => ?_⟩⟩
    have st := same_new (o := .tup (os.map V.int)) nt
    refine ⟨_, rfl, _, rfl, p, d, n, rfl, D1.same st, by omega, fun v H2 v0 v1 D2 k2 => ⟨by show 2 ≤ sizeLine; decide, fun s ns => ?_⟩⟩
    have v1 := v1 (by omega)
    have ss := same_new (o := .tup [.ref tq, .int v]) ns
    have ht := TupS.kpw (D1.same st) k2 _ _ (upd_same (H := H1) (a := tq) (o := .tup (os.map V.int)))
    exact k s os v _ (D2.same ss) ((((KpW.of sq).trans k1).trans (.of st)).trans (k2.trans (.of ss))) ⟨⟨tq, upd_same, .inl (ss _ _ ht)⟩, ⟨lo, nd, io⟩, v0, v1⟩
def spSwapW : Sp := fun vs H Q _ => ∃ (p d s : Addr) (n : Int) (r : List Int) (v : Int), vs = [.ref p, .ref s] ∧ Loom H p d ∧ StW n H s r v ∧ 1 ≤ n ∧ n ≤ 12 ∧ ∀ (s' : Addr) (a b : Nat) (H' : Hp), Loom H' p d → KpW p d H H' → a < r.length → b < r.length → a ≠ b → StW n H' s' (sw2 r a b) v → Q (.ref s') H'
theorem ok_swapW {f : Addr} {fd : FuncData} (F : Fun K "_law_swapped" "_law_swapped" sSwapW f fd) (B : NoNames mg) (OM : Own P w K mg base 2 "_law_mixed" ["loom", "things"] spMixedW) : FnOk P w K mg base CX0 3 f fd ["loom", "spot"] spSwapW := by
  obtain ⟨fM, fdM, GM, mM, kM, bM⟩ := OM.ex
  refine F.ok scSwapW (fun vs H Q E h => ?_) (fun cdv A outer s H vs Q E hr h => ?_)
  · obtain ⟨p, d, s, n, r, v, rfl, _⟩ := h
    rfl
  · obtain ⟨p, d, s, n, r, v, rfl, D, S, n1, n2, k⟩ := h
    obtain ⟨rw_, g1, g2⟩ := S.ex
    have lr := S.R.len
    refine ⟨_, pss_cons (ps_asg (pe_tup (pa_cons (pe_callTy call_list_of (by rfl) B.list (by decide +kernel) (pa_cons (pe_ix ix_tup (pv 1) pe_int (fun _ _ => rfl)) pa_nil))
          (pa_cons (pe_slice sl_list (pe_call GM hr rfl mM kM bM .nil pass0 (pa_cons (pv 0) (pa_cons (pe_listRg rfl (by rfl) B.list (prg_1 (by rfl) B.range (pe_callB call_len_seq (by rfl) B.len PySem.boot_len (pa_cons (pe_ix ix_tup (pv 1) pe_int (fun _ _ => rfl)) pa_nil)))) pa_nil))) po_none (po_some pe_int)) pa_nil)))
        (pg_tup (by rfl) (pgs_cons (pg_name (i := 2) scSwapW.nd rfl (.inl rfl)) (pgs_cons (pg_lst (by rfl) (pgs_cons (pg_name (i := 3) scSwapW.nd rfl (.inl rfl)) (pgs_cons (pg_name (i := 4) scSwapW.nd rfl (.inl rfl)) pgs_nil))) pgs_nil)))) <|
      pss_cons (ps_asg (pe_tup (pa_cons (pe_ix ix_list (pv 2) (pv 4) (fun _ _ => rfl)) (pa_cons (pe_ix ix_list (pv 2) (pv 3) (fun _ _ => rfl)) pa_nil)))
        (pg_tup (by rfl) (pgs_cons (pg_sub (pv 2) (pv 3) set_list) (pgs_cons (pg_sub (pv 2) (pv 4) set_list) pgs_nil)))) <|
      pss_one (ps_ret (pe_tup (pa_cons (pe_callTy call_tuple_of (by rfl) B.tuple (by decide +kernel) (pa_cons (pv 2) pa_nil)) (pa_cons (pe_ix ix_tup (pv 1) pe_int (fun _ _ => rfl)) pa_nil)))), ?_⟩
    refine ⟨_, rfl, s, _, 0, .ref rw_, rfl, rfl, SqT.of g1, at_of (j := 0) rfl rfl, rw_, _, rfl, .inr (.inl g2), fun l nl => ?_⟩
    have s1 := same_new (o := .lst (r.map V.int)) nl
    have t1 := TupS.of s1
    refine ⟨_, rfl, _, rfl, s, _, 0, .ref rw_, rfl, rfl, SqT.of (s1 _ _ g1), at_of (j := 0) rfl rfl, rw_, _, rfl, .inr (.inl (t1.rd g2)), ((r.map V.int).length : Int), rfl, ?_⟩
    rw [List.length_map, lr, Int.toNat_of_nonneg (by omega)]
    refine ⟨RgOk.of_le (by omega) (by omega) (by omega) (by omega), fun q nq => ?_⟩
    have sq := same_new (o := .lst (rgV 0 (n + 1))) nq
    have D1 := (D.same s1).same sq
    have ol := D.off nl
    refine ⟨p, d, q, _, rfl, D1, upd_same, by rw [rgV_length]; omega, fun so ms H2 D2 k2 nr hso pm => ?_⟩
    have hl2 := k2 _ _ (sq _ _ (upd_same (H := H) (a := l) (o := .lst (r.map V.int)))) ol.1 ol.2
    obtain ⟨x, y, exy, bx, by_, nxy⟩ := two_mixed (n := n + 1) (by omega) pm
    have kk := ((KpW.of s1).trans (KpW.of sq)).trans k2
    refine ⟨2, rfl, so, _, rfl, SqL.of hso, fun c nc => ⟨by show 2 ≤ sizeLine; decide, fun T nT => ?_⟩⟩
    rw [exy] at nT ⊢
    have sc := same_new (o := .lst [.int x, .int y]) nc
    have sT := same_new (o := .tup [.ref l, .ref c]) nT
    have hc := sT _ _ (upd_same (H := H2) (a := c) (o := .lst [.int x, .int y]))
    have hl3 := sT _ _ (sc _ _ hl2)
    have D3 := (D2.same sc).same sT
    have kk := kk.trans (.of (sc.trans sT))
    refine ⟨T, _, rfl, SqT.of upd_same, rfl, _, _, rfl, _, _, rfl, c, _, rfl, SqL.of hc, rfl, _, _, rfl, _, _, rfl, rfl, rfl, ?_⟩
    generalize (upd (upd H2 c (.lst [.int x, .int y])) T (.tup [.ref l, .ref c])) = H3 at hl3 D3 kk ⊢
    clear hc sc sT nc nT hl2 D2 k2 hso nr pm
    obtain ⟨a, rfl⟩ := Int.eq_ofNat_of_zero_le bx.1
    obtain ⟨b, rfl⟩ := Int.eq_ofNat_of_zero_le by_.1
    have ha : a < r.length := by omega
    have hb : b < r.length := by omega
    have at1 : ∀ {j : Nat} (hj : j < r.length), atI (r.map V.int) (j : Int) = some (.int (r.getD j 0)) := fun {j} hj => by
      refine at_of (j := j) rfl ?_
      rw [List.getElem?_map, List.getElem?_eq_getElem hj, gd hj]
      rfl
    have ixi : ∀ {j m : Nat}, j < m → ixN m (j : Int) = some j := fun {j m} h => by
      unfold ixN
      rw [if_pos (by omega), if_pos (by omega)]
      rfl
    refine ⟨_, rfl, _, rfl, l, _, (b : Int), _, rfl, rfl, SqL.of hl3, at1 hb, _, rfl, _, rfl, l, _, (a : Int), _, rfl, rfl, SqL.of hl3, at1 ha, by show 2 ≤ sizeLine; decide, fun T nT => ?_⟩
    have sT := same_new (o := .tup [.int (r.getD b 0), .int (r.getD a 0)]) nT
    have hl4 := sT _ _ hl3
    refine ⟨T, _, rfl, SqT.of upd_same, rfl, _, _, rfl, _, rfl, _, rfl, l, _, (a : Int), a, rfl, rfl, hl4, ixi (by rw [List.length_map]; exact ha), _, _, rfl, _, rfl, _, rfl, l, _, (b : Int), b, rfl, rfl, upd_same, ixi (by rw [List.length_set, List.length_map]; exact hb), rfl, ?_⟩
    have D4 := ((D3.same sT).lst (o := .lst ((r.map V.int).set a (.int (r.getD b 0)))) ol).lst (o := .lst (((r.map V.int).set a (.int (r.getD b 0))).set b (.int (r.getD a 0)))) ol
    have k4 : KpW p d H (upd (upd (upd H3 T (.tup [.int (r.getD b 0), .int (r.getD a 0)])) l (.lst ((r.map V.int).set a (.int (r.getD b 0))))) l (.lst (((r.map V.int).set a (.int (r.getD b 0))).set b (.int (r.getD a 0))))) := fun b' o e m1 m2 => by
      rw [upd_ne (ne_of_none e nl), upd_ne (ne_of_none e nl)]
      exact sT _ _ (kk _ _ e m1 m2)
    have hl5 := upd_same (H := upd (upd H3 T (.tup [.int (r.getD b 0), .int (r.getD a 0)])) l (.lst ((r.map V.int).set a (.int (r.getD b 0))))) (a := l) (o := .lst (((r.map V.int).set a (.int (r.getD b 0))).set b (.int (r.getD a 0))))
    generalize (upd (upd (upd H3 T (.tup [.int (r.getD b 0), .int (r.getD a 0)])) l (.lst ((r.map V.int).set a (.int (r.getD b 0))))) l (.lst (((r.map V.int).set a (.int (r.getD b 0))).set b (.int (r.getD a 0))))) = H5 at D4 k4 hl5 ⊢
    have t5 := TupS.kpw D k4
    refine ⟨_, rfl, l, _, rfl, .inl ⟨SqL.of hl5, fun q nq => ?_⟩⟩
    have sq2 := same_new (o := .tup (((r.map V.int).set a (.int (r.getD b 0))).set b (.int (r.getD a 0)))) nq
    have es : ((r.map V.int).set a (.int (r.getD b 0))).set b (.int (r.getD a 0)) = (sw2 r a b).map V.int := by
      unfold sw2
      rw [List.map_set, List.map_set]
    refine ⟨_, rfl, s, _, 1, .int v, rfl, rfl, SqT.of (sq2 _ _ (t5 _ _ g1)), at_of (j := 1) rfl rfl, by show 2 ≤ sizeLine; decide, fun s' ns => ?_⟩
    have s6 := same_new (o := .tup [.ref q, .int v]) ns
    refine k s' a b _ ((D4.same sq2).same s6) (k4.trans (.of (sq2.trans s6))) ha hb (fun z => nxy (by rw [z])) ⟨⟨q, upd_same, .inl (s6 _ _ ?_)⟩, S.R.perm (sw2_perm ha hb), S.v⟩
    rw [upd_same, es]
end
end Sw
namespace Sw
open PySem PySem.Spec PyProof.Rows L2
/-! ### an item of a list of whole numbers -/
theorem atI_last {xs : List Int} (h : 0 < xs.length) : atI (xs.map V.int) (-1) = some (.int (xs.getD (xs.length - 1) 0)) := by
  refine atI_neg (by rw [List.length_map]; exact h) ?_
  rw [List.length_map, List.getElem?_map, List.getElem?_eq_getElem (by omega), gd (by omega)]
  rfl
theorem atI_int {xs : List Int} {v : Int} (h0 : 0 ≤ v) (h1 : v < (xs.length : Int)) : atI (xs.map V.int) v = some (.int (xs.getD v.toNat 0)) := by
  refine at_of (j := v.toNat) (by omega) ?_
  rw [List.getElem?_map, List.getElem?_eq_getElem (by omega), gd (by omega)]
  rfl
end Sw
namespace Sw
open PySem PySem.Spec PyProof.Rows L2 LamX
/-! ### halves: signs apart, papers, bars -/
structure HalfW (n : Int) (H : Hp) (a b : Addr) (ts : List V) (ars : List (Int × Int)) (sh : Int → Int) : Prop where
  N : NetAt n H a b ts
  A : ArsAt H ts ars
  J : Joined n ars
  C : Col ars sh
  n2 : 2 ≤ n
  nr : ¬ (3 ≤ n ∧ (ars.length : Int) = n)
section
variable {n : Int} {H H' : Hp} {a b s1 s2 : Addr} {ts : List V} {ars : List (Int × Int)} {sh : Int → Int} {r1 r2 : List Int} {v1 v2 : Int}
theorem HalfW.keep (W : HalfW n H a b ts ars sh) (t : TupS H H') : HalfW n H' a b ts ars sh := ⟨W.N.keep t, W.A.keep t, W.J, W.C, W.n2, W.nr⟩
theorem HalfW.kind (W : HalfW n H a b ts ars sh) {x : Str} (h : KindP n ars x) : x = "half" := W.C.kind (ars_inn W.N.arr W.A) W.n2 W.nr h
/-- a half with two standings -/
structure TwoH (n : Int) (H : Hp) (a b s1 s2 : Addr) (ts : List V) (ars : List (Int × Int)) (sh : Int → Int) (r1 r2 : List Int) (v1 v2 : Int) : Prop where
  W : HalfW n H a b ts ars sh
  S1 : StW n H s1 r1 v1
  S2 : StW n H s2 r2 v2
theorem TwoH.keep (T : TwoH n H a b s1 s2 ts ars sh r1 r2 v1 v2) (t : TupS H H') : TwoH n H' a b s1 s2 ts ars sh r1 r2 v1 v2 := ⟨T.W.keep t, T.S1.keep t, T.S2.keep t⟩
end
section
variable {P : Program} {w : World} {K : PySem.W.Frag} {mg : Str → Option Value} {base : Heap}
abbrev sSignsApart : Stmt := top 45
abbrev nSignsApart : List Str := ["net", "one", "other", "shades", "is_odd_way"]
theorem scSignsApart : FnScope nSignsApart ["net", "one", "other"] (defScope sSignsApart) := ⟨rfl, rfl, rfl, by decide +kernel, rfl, by decide +kernel, by decide +kernel⟩
def spSigns (tb : Addr) : Sp := fun vs H Q _ => ∃ (n : Int) (a b s1 s2 : Addr) (ts : List V) (ars : List (Int × Int)) (sh : Int → Int) (r1 r2 : List Int) (v1 v2 : Int), vs = [.ref a, .ref s1, .ref s2] ∧ TwoH n H a b s1 s2 ts ars sh r1 r2 v1 v2 ∧ Tabs (lamT tb) H ∧
  ∀ H', ExtN H H' → Tabs (lamT tb) H' → Q (.bl (apartI sh r1 r2 v1 v2)) H'
theorem ok_signs {f tb C D : Addr} {fd : FuncData} (F : Fun K "are_signs_apart" "are_signs_apart" sSignsApart f fd) (B : NoNames mg) (OC : OwnX P w K mg base 8 "colours" ["net"] (spColours tb C D)) (OO : Own P w K mg base 1 "is_odd" ["row"] (spPIsOdd K)) : FnOk P w K mg base CX0 9 f fd ["net", "one", "other"] (spSigns tb) := by
  obtain ⟨fC, fdC, GC, mC, kC, bC⟩ := OC.ex
  obtain ⟨fO, fdO, GO, mO, kO, bO⟩ := OO.ex
  refine F.ok scSignsApart (fun vs H Q E h => ?_) (fun cdv A outer s H vs Q E hr h => ?_)
  · obtain ⟨n, a, b, s1, s2, ts, ars, sh, r1, r2, v1, v2, rfl, _⟩ := h
    rfl
  · obtain ⟨n, a, b, s1, s2, ts, ars, sh, r1, r2, v1, v2, rfl, T, hT, q⟩ := h
    have hr1 := hr.mono (by decide : 1 ≤ 8)
    refine ⟨_, pss_cons (ps_set (i := 3) scSignsApart.nd rfl (.inl rfl) (pe_callS (E := fun _ _ _ _ => False) GC hr (by rfl) mC kC bC passF (pa_cons (pv 0) pa_nil))) <|
      pss_cons (ps_set (i := 4) scSignsApart.nd rfl (.inl rfl) (pe_cmpR op_ne (pe_call GO hr1 rfl mO kO bO .nil pass0 (pa_cons (pe_ix (r := rIxT K) ix_tup (pv 1) pe_int (fun _ _ => rfl)) pa_nil)) (pe_call GO hr1 rfl mO kO bO .nil pass0 (pa_cons (pe_ix (r := rIxT K) ix_tup (pv 2) pe_int (fun _ _ => rfl)) pa_nil)) (nomark _))) <|
      pss_one (ps_ret (pe_cmpR op_ne (pv 4) (pe_cmpR op_ne (pe_ix (r := rIxT K) ix_tup (pv 3) (pe_ix (r := rIxT K) ix_tup (pv 1) pe_int (fun _ _ => rfl)) (fun _ _ => rfl)) (pe_ix (r := rIxT K) ix_tup (pv 3) (pe_ix (r := rIxT K) ix_tup (pv 2) pe_int (fun _ _ => rfl)) (fun _ _ => rfl)) (nomark _)) (nomark _))), ?_⟩
    have W := T.W
    refine ⟨_, rfl, a, b, n, ts, ars, rfl, W.N, W.A, hT, fun nj => (nj W.J).elim, fun _ g H1 _ _ G od => ?_, fun _ g r cs H1 x1 T1 G ev hr' cp => ?_⟩
    · have := W.C.great G
      omega
    have t1 := TupS.extG x1
    have S1 := T.S1.keep t1
    have S2 := T.S2.keep t1
    obtain ⟨w1, g1, g2⟩ := S1.ex
    obtain ⟨w2, g3, g4⟩ := S2.ex
    have lr1 := S1.R.len
    have lr2 := S2.R.len
    have n2 := W.N.n2
    refine ⟨_, rfl, s1, _, 0, .ref w1, rfl, rfl, SqT.of g1, at_of (j := 0) rfl rfl, w1, r1, rfl, fun Z sZ => .inl ((TupS.of sZ).rd g2), by omega, fun H2 z2 => ?_⟩
    refine ⟨_, rfl, s2, _, 0, .ref w2, rfl, rfl, SqT.of (z2 _ _ g3), at_of (j := 0) rfl rfl, w2, r2, rfl, fun Z sZ => .inl ((TupS.of (z2.trans sZ)).rd g4), by omega, fun H3 z3 => ?_⟩
    have z23 := z2.trans z3
    have lc := cp.len
    have i1 := S1.v.1
    have i2 := S1.v.2
    have j1 := S2.v.1
    have j2 := S2.v.2
    refine ⟨rfl, _, rfl, _, rfl, _, rfl, s1, _, 1, .int v1, rfl, rfl, SqT.of (z23 _ _ g1), at_of (j := 1) rfl rfl, r, _, v1, _, rfl, rfl, SqT.of (z23 _ _ hr'), atI_int i1 (by omega), ?_⟩
    refine ⟨_, rfl, _, rfl, s2, _, 1, .int v2, rfl, rfl, SqT.of (z23 _ _ g3), at_of (j := 1) rfl rfl, r, _, v2, _, rfl, rfl, SqT.of (z23 _ _ hr'), atI_int j1 (by omega), rfl, rfl, ?_⟩
    have e : (!decide (V.bl (!decide (V.bl (oddI r1) = V.bl (oddI r2))) = V.bl (!decide (V.int (cs.getD v1.toNat 0) = V.int (cs.getD v2.toNat 0))))) = apartI sh r1 r2 v1 v2 := by
      rw [W.C.told cp S1.v, W.C.told cp S2.v]
      have a1 := W.C.two v1
      have a2 := W.C.two v2
      have a0 := W.C.two 0
      unfold apartI
      have e1 : decide (V.int ((sh v1 + sh 0) % 2) = V.int ((sh v2 + sh 0) % 2)) = decide (sh v1 = sh v2) := by
        by_cases z : sh v1 = sh v2
        · rw [z, decide_eq_true rfl, decide_eq_true rfl]
        · rw [decide_eq_false z, decide_eq_false (by rw [V.int.injEq]; omega)]
      rw [e1]
      have e2 : decide (sh v1 ≠ sh v2) = !decide (sh v1 = sh v2) := by simp
      rw [e2]
      cases oddI r1 <;> cases oddI r2 <;> cases decide (sh v1 = sh v2) <;> decide
    have k := q H3 (x1.trans (.of z23)) (T1.ext z23)
    rw [← e] at k
    exact k
end
end Sw
namespace Sw
open PySem PySem.Spec PyProof.Rows L2 LamX
/-! ### halves: papers, is_paper, bar, comes, bar_holds -/
/-- data, whatever comes -/
def DpX (K : PySem.W.Frag) (H : Hp) (v : V) (d : PyData) : Prop := ∀ H', ExtN H H' → Dp K H' v d
theorem DpX.ext {K : PySem.W.Frag} {H H' : Hp} {v : V} {d : PyData} (h : DpX K H v d) (x : ExtN H H') : DpX K H' v d := fun H2 x2 => h H2 (x.trans x2)
theorem dpx_sign {K : PySem.W.Frag} {H : Hp} {p : Addr} (h : H p = some (.tup [.str "sign"])) : DpX K H (.ref p) (.tuple [.str "sign"]) := fun H' x => .tup (SqT.of (x _ _ h fun _ z => nomatch z)) (.cons (.str _) .nil)
theorem shaped_sign : SeqAt.shaped (.tuple [.str "sign"]) = true := by decide +kernel
section
variable {P : Program} {w : World} {K : PySem.W.Frag} {mg : Str → Option Value} {base : Heap}
def spPapersH : Sp := fun vs H Q _ => ∃ (n : Int), vs = [.str "half", .int n] ∧ ∀ (l p : Addr) (H' : Hp), Same H H' → H' l = some (.lst [.ref p]) → H' p = some (.tup [.str "sign"]) → Q (.ref l) H'
theorem ok_papersH {f : Addr} {fd : FuncData} (F : Fun K "papers" "papers" sPapers f fd) (B : NoNames mg) {af : Addr} (mF : mg "FOURS" = some (.ref af)) : FnOk P w K mg base CX0 1 f fd ["kind", "n"] spPapersH := by
  refine F.ok scPapers (fun vs H Q E h => ?_) (fun cdv A outer s H vs Q E hr h => ?_)
  · obtain ⟨n, rfl, _⟩ := h
    rfl
  · obtain ⟨n, rfl, q⟩ := h
    refine ⟨_, pss_cons (ps_if (pt_cmpR op_eq (pv 0) pe_str (nomark _)) (pss_one (ps_ret (pe_lst (pa_cons (pe_tup (pa_cons pe_str pa_nil)) pa_nil)))) pss_nil) <|
      pss_cons (ps_if (pt_cmpR op_eq (pv 0) pe_str (nomark _)) (pss_one (ps_ret (pe_lst (pa_cons (pe_tup (pa_cons pe_str pa_nil)) pa_nil)))) pss_nil) <|
      pss_cons (ps_if (pt_cmpR op_eq (pv 0) pe_str (nomark _)) (pss_one (ps_ret (pe_lc (own := [("thing", 2)]) (g := gName 2) (tt := tYes) rfl scPapers.nd (pi_range1 (by rfl) B.range (pa_cons (pe_op op_add (pv 1) pe_int) pa_nil)) (blkOk_by (own := [("thing", 2)]) (N := nPapers) (sc := defScope sPapers) (by decide +kernel))
          (fun _ _ _ _ _ => pg_name (i := 2) scPapers.nd rfl (Or.inl rfl)) (fun _ _ _ _ _ => pts_nil) (fun _ _ _ _ _ => pe_tup (pa_cons pe_str (pa_cons (pv 2) pa_nil)))))) pss_nil) <|
      pss_cons (ps_if (pt_cmpR op_eq (pv 0) pe_str (nomark _)) (pss_one (ps_ret (pe_lc (own := [("things", 3)]) (g := gName 3) (tt := tYes) rfl scPapers.nd (pi_tup (pe_glob (v := .ref af) (by rfl) mF rfl)) (blkOk_by (own := [("things", 3)]) (N := nPapers) (sc := defScope sPapers) (by decide +kernel))
          (fun _ _ _ _ _ => pg_name (i := 3) scPapers.nd rfl (Or.inl rfl)) (fun _ _ _ _ _ => pts_nil) (fun _ _ _ _ _ => pe_tup (pa_cons pe_str (pa_cons (pv 3) pa_nil)))))) pss_nil) <|
      pss_one (ps_ret (pe_lst pa_nil)), ?_⟩
    refine ⟨_, rfl, rfl, _, rfl, ?_⟩
    rw [no_str (by decide +kernel)]
    refine iteF ⟨_, rfl, rfl, _, rfl, ?_⟩
    rw [decide_eq_true rfl]
    refine iteT ⟨by show 1 ≤ sizeLine; decide, fun p np => ⟨by show 1 ≤ sizeLine; decide, fun l nl => ?_⟩⟩
    have s1 := same_new (o := .tup [.str "sign"]) np
    have s2 := same_new (o := .lst [.ref p]) nl
    exact q l p _ (s1.trans s2) upd_same (s2 _ _ upd_same)
def spIsPaperH (K : PySem.W.Frag) (tb : Addr) : Sp := fun vs H Q _ => ∃ (n : Int) (a b s1 s2 : Addr) (ts : List V) (ars : List (Int × Int)) (sh : Int → Int) (r1 r2 : List Int) (v1 v2 : Int) (v : V) (d : PyData), vs = [.str "half", .ref a, .ref s1, .ref s2, v] ∧ TwoH n H a b s1 s2 ts ars sh r1 r2 v1 v2 ∧ Tabs (lamT tb) H ∧ DpX K H v d ∧ SeqAt.shaped d = true ∧
  ∀ H', ExtN H H' → Tabs (lamT tb) H' → Q (.bl (PyData.eqv d (.tuple [.str "sign"]) && apartI sh r1 r2 v1 v2)) H'
theorem ok_isPaperH {f tb : Addr} {fd : FuncData} (F : Fun K "is_paper" "is_paper" sIsPaper f fd) (B : NoNames mg) (OP : Own P w K mg base 1 "is_pair" ["value"] spNo) (OB : Own P w K mg base 1 "is_integer_between" ["value", "least", "most"] spNo) (OF : Own P w K mg base 1 "follower" ["net", "standing", "thing"] spNo)
    (OS : Own P w K mg base 9 "are_signs_apart" ["net", "one", "other"] (spSigns tb)) (O4 : Own P w K mg base 1 "are_four_things" ["value"] spNo) (ON : Own P w K mg base 1 "names" ["net"] spNo) (OR : Own P w K mg base 1 "ratio_by" ["table", "standing", "things"] spNo) : FnOk P w K mg base CX0 10 f fd ["kind", "net", "one", "other", "value"] (spIsPaperH K tb) := by
  obtain ⟨fP, fdP, GP, mP, kP, bP⟩ := OP.ex
  obtain ⟨fB, fdB, GB, mB, kB, bB⟩ := OB.ex
  obtain ⟨fF, fdF, GF, mF, kF, bF⟩ := OF.ex
  obtain ⟨fS, fdS, GS, mS, kS, bS⟩ := OS.ex
  obtain ⟨f4, fd4, G4, m4, k4, b4⟩ := O4.ex
  obtain ⟨fN, fdN, GN, mN, kN, bN⟩ := ON.ex
  obtain ⟨fR, fdR, GR, mR, kR, bR⟩ := OR.ex
  refine F.ok scIsPaper (fun vs H Q E h => ?_) (fun cdv A outer s H vs Q E hr h => ?_)
  · obtain ⟨n, a, b, s1, s2, ts, ars, sh, r1, r2, v1, v2, v, d, rfl, _⟩ := h
    rfl
  · obtain ⟨n, a, b, s1, s2, ts, ars, sh, r1, r2, v1, v2, v, d, rfl, T, hT, dp, sd, q⟩ := h
    have hr1 := hr.mono (by decide : 1 ≤ 9)
    refine ⟨_, pss_cons (ps_if (pt_cmpR op_eq (pv 0) pe_str (nomark _)) (pss_one (ps_ret (pe_and (pe_cmpR (op_eqD hr.units) (pv 4) (pe_tup (pa_cons pe_str pa_nil)) (nomark _)) (pe_one (pe_cmpR (op_neD hr.units) (pv 2) (pv 3) (nomark _)))))) pss_nil) <|
      pss_cons (ps_if (pt_cmpR op_eq (pv 0) pe_str (nomark _)) (pss_one (ps_ret (pe_and (pe_cmpR (op_eqD hr.units) (pv 4) (pe_tup (pa_cons pe_str pa_nil)) (nomark _)) (pe_one (pe_call GS hr rfl mS kS bS .nil pass0 (pa_cons (pv 1) (pa_cons (pv 2) (pa_cons (pv 3) pa_nil)))))))) pss_nil) <|
      pss_cons (ps_if (pt_not (pt_val (pe_call GP hr1 rfl mP kP bP .nil pass0 (pa_cons (pv 4) pa_nil)))) (pss_one (ps_ret pe_bl)) pss_nil) <|
      pss_cons (ps_asg (pv 4) (pg_tup (by rfl) (pgs_cons (pg_name (i := 5) scIsPaper.nd rfl (.inl rfl)) (pgs_cons (pg_name (i := 6) scIsPaper.nd rfl (.inl rfl)) pgs_nil)))) <|
      pss_cons (ps_if (pt_cmpR op_eq (pv 0) pe_str (nomark _))
        (pss_cons (ps_if (PW.pt (pw_or (pt_cmpR op_ne (pv 5) pe_str (nomark _)) (pw_or1 (pt_not (pt_val (pe_call GB hr1 rfl mB kB bB .nil pass0 (pa_cons (pv 6) (pa_cons pe_int (pa_cons (pe_ix (r := rIxT K) ix_tup (pv 1) pe_int (fun _ _ => rfl)) pa_nil))))))))) (pss_one (ps_ret pe_bl)) pss_nil) <|
         pss_one (ps_ret (pe_cmpR op_ne (pe_call GF hr1 rfl mF kF bF .nil pass0 (pa_cons (pv 1) (pa_cons (pv 2) (pa_cons (pv 6) pa_nil)))) (pe_call GF hr1 rfl mF kF bF .nil pass0 (pa_cons (pv 1) (pa_cons (pv 3) (pa_cons (pv 6) pa_nil)))) (nomark _)))) pss_nil) <|
      pss_cons (ps_if (pt_cmpR op_eq (pv 0) pe_str (nomark _))
        (pss_cons (ps_if (PW.pt (pw_or (pt_cmpR op_ne (pv 5) pe_str (nomark _)) (pw_or1 (pt_not (pt_val (pe_call G4 hr1 rfl m4 k4 b4 .nil pass0 (pa_cons (pv 6) pa_nil))))))) (pss_one (ps_ret pe_bl)) pss_nil) <|
         pss_cons (ps_set (i := 7) scIsPaper.nd rfl (.inl rfl) (pe_call GN hr1 rfl mN kN bN .nil pass0 (pa_cons (pv 1) pa_nil))) <|
         pss_one (ps_ret (pe_cmpR op_ne (pe_call GR hr1 rfl mR kR bR .nil pass0 (pa_cons (pv 7) (pa_cons (pv 2) (pa_cons (pv 6) pa_nil)))) (pe_call GR hr1 rfl mR kR bR .nil pass0 (pa_cons (pv 7) (pa_cons (pv 3) (pa_cons (pv 6) pa_nil)))) (nomark _)))) pss_nil) <|
      pss_one (ps_ret pe_bl), ?_⟩
    refine ⟨_, rfl, rfl, _, rfl, ?_⟩
    rw [no_str (by decide +kernel)]
    refine iteF ⟨_, rfl, rfl, _, rfl, ?_⟩
    rw [decide_eq_true rfl]
    refine iteT ⟨v, rfl, by show 1 ≤ sizeLine; decide, fun p np => ?_⟩
    have s1' := same_new (o := .tup [.str "sign"]) np
    refine ⟨d, .tuple [.str "sign"], dp _ (.of s1'), dpx_sign upd_same _ (.of (Same.refl _)), sd, shaped_sign, ?_⟩
    cases e : PyData.eqv d (.tuple [.str "sign"]) with
    | false =>
      refine ⟨_, rfl, iteF ?_⟩
      have k := q _ (.of s1') (hT.ext s1')
      rw [e] at k
      exact k
    | true =>
      refine ⟨_, rfl, iteT ⟨_, rfl, _, rfl, _, rfl, n, a, b, s1, s2, ts, ars, sh, r1, r2, v1, v2, rfl, T.keep (.of s1'), hT.ext s1', fun H2 x2 T2 => ?_⟩⟩
      have k := q H2 (ExtN.trans (.of s1') x2) T2
      rw [e] at k
      exact k
def spBarH (tb : Addr) : Sp := fun vs H Q _ => ∃ (n : Int) (a b s1 s2 : Addr) (ts : List V) (ars : List (Int × Int)) (sh : Int → Int) (r1 r2 : List Int) (v1 v2 : Int), vs = [.ref a, .ref s1, .ref s2] ∧ TwoH n H a b s1 s2 ts ars sh r1 r2 v1 v2 ∧ Tabs (lamT tb) H ∧
  (apartI sh r1 r2 v1 v2 = false → ∀ H', ExtN H H' → Tabs (lamT tb) H' → Q .non H') ∧
  (apartI sh r1 r2 v1 v2 = true → ∀ (p : Addr) (H' : Hp), ExtN H H' → Tabs (lamT tb) H' → H' p = some (.tup [.str "sign"]) → Q (.ref p) H')
theorem ok_barH {f tb C : Addr} {fd : FuncData} (F : Fun K "bar" "bar" sBar f fd) (B : NoNames mg) (OK : OwnX1 P w K mg base 8 "kind_of" "net" (spKind tb C)) (OP : Own P w K mg base 1 "papers" ["kind", "n"] spPapersH)
    (OI : Own P w K mg base 10 "is_paper" ["kind", "net", "one", "other", "value"] (spIsPaperH K tb)) : FnOk P w K mg base (L2.CX P w) 11 f fd ["net", "one", "other"] (spBarH tb) := by
  obtain ⟨fK, fdK, GK, mK, kK, bK, wK⟩ := OK.ex
  obtain ⟨fP, fdP, GP, mP, kP, bP⟩ := OP.ex
  obtain ⟨fI, fdI, GI, mI, kI, bI⟩ := OI.ex
  refine F.okX scBar (fun vs H Q E h => ?_) (fun cdv A outer s H vs Q E hr h => ?_)
  · obtain ⟨n, a, b, s1, s2, ts, ars, sh, r1, r2, v1, v2, rfl, _⟩ := h
    rfl
  · obtain ⟨n, a, b, s1, s2, ts, ars, sh, r1, r2, v1, v2, rfl, T, hT, q1, q2⟩ := h
    have hr1 := hr.mono (by decide : 1 ≤ 10)
    have hr8 := hr.mono (by decide : 8 ≤ 10)
    refine ⟨_, pss_cons (ps_set (i := 3) scBar.nd rfl (.inl rfl) (pe_callS GK hr8 (by rfl) mK kK bK (fun σ => passAt (takes_of rfl rfl rfl rfl) σ) (pa_cons (pv 0) pa_nil))) <|
      pss_cons (ps_for (passes_of rfl) rfl (pi_list (pe_call GP hr1 rfl mP kP bP .nil pass0 (pa_cons (pv 3) (pa_cons (pe_ix (r := rIxT K) ix_tup (pv 0) pe_int (fun _ _ => rfl)) pa_nil)))) (pg_name (i := 4) scBar.nd rfl (.inl rfl))
        (pss_one (ps_if (pt_val (pe_call GI hr rfl mI kI bI .nil pass0 (pa_cons (pv 3) (pa_cons (pv 0) (pa_cons (pv 1) (pa_cons (pv 2) (pa_cons (pv 4) pa_nil))))))) (pss_one (ps_ret (pv 4))) pss_nil))) <|
      pss_one (ps_ret pe_non), ?_⟩
    have W := T.W
    refine ⟨_, rfl, a, b, n, ts, ars, rfl, W.N, W.A, hT, fun nj => (nj W.J).elim, fun _ x H1 x1 T1 kp => ?_⟩
    obtain rfl := W.kind kp
    have t1 := TupS.extG x1
    have N1 := W.N.keep t1
    refine ⟨_, rfl, _, rfl, a, _, 0, .int n, rfl, rfl, SqT.of N1.a, at_of (j := 0) rfl rfl, n, rfl, fun l p H2 s2' hl hp => ?_⟩
    have x2 : ExtN H H2 := x1.trans (.of s2')
    have T2 := T1.ext s2'
    have TW := T.keep (TupS.extG x2)
    refine ⟨l, rfl, ⟨_, SqL.of hl⟩, for_it (walk_list (xs := [V.ref p])) (fun j σ Z => ∃ s4 : Option V, σ = [some (.ref a), some (.ref s1), some (.ref s2), some (.str "half"), s4] ∧ ExtN H2 Z ∧ Tabs (lamT tb) Z ∧ (j = 1 → apartI sh r1 r2 v1 v2 = false))
      ⟨_, rfl, .of (Same.refl _), T2, fun z => nomatch z⟩ (fun j σ Z _ h => by obtain ⟨_, _, h, _⟩ := h; exact SqL.of (h _ _ hl fun _ z => nomatch z)) ?_ ?_⟩
    · rintro j x σ Hb Hc hj ⟨s4, rfl, h1, h2, _⟩ ⟨rfl, ex⟩
      have hj : j < 1 := hj
      obtain rfl : j = 0 := by omega
      obtain rfl : V.ref p = x := Option.some.inj ex
      have TWc := TW.keep (TupS.extG h1)
      have hp' := h1 _ _ hp fun _ z => nomatch z
      refine ⟨_, rfl, _, rfl, _, rfl, _, rfl, _, rfl, n, a, b, s1, s2, ts, ars, sh, r1, r2, v1, v2, .ref p, .tuple [.str "sign"], rfl, TWc, h2, dpx_sign hp', shaped_sign, fun H3 x3 T3 => ⟨_, rfl, ?_⟩⟩
      have e0 : PyData.eqv (.tuple [.str "sign"]) (.tuple [.str "sign"]) = true := by decide +kernel
      rw [e0, Bool.true_and]
      cases e : apartI sh r1 r2 v1 v2 with
      | false => exact iteF ⟨_, rfl, h1.trans x3, T3, fun _ => rfl⟩
      | true => exact iteT ⟨_, rfl, q2 e p H3 ((x2.trans h1).trans x3) T3 (x3 _ _ hp' fun _ z => nomatch z)⟩
    · rintro σ Hb ⟨s4, rfl, h1, h2, h3⟩
      exact q1 (h3 rfl) Hb (x2.trans h1) h2
def spComesH (tb : Addr) : Sp := fun vs H Q _ => ∃ (n : Int) (a b s1 s2 : Addr) (ts : List V) (ars : List (Int × Int)) (sh : Int → Int) (r1 r2 : List Int) (v1 v2 : Int), vs = [.ref a, .ref s1, .ref s2] ∧ TwoH n H a b s1 s2 ts ars sh r1 r2 v1 v2 ∧ Tabs (lamT tb) H ∧
  ∀ H', ExtN H H' → Tabs (lamT tb) H' → Q (.bl (!apartI sh r1 r2 v1 v2)) H'
theorem ok_comesH {f tb : Addr} {fd : FuncData} (F : Fun K "comes" "comes" sComes f fd) (B : NoNames mg) (OB : OwnX3 P w K mg base 11 "bar" "net" "one" "other" (spBarH tb)) : FnOk P w K mg base (L2.CX P w) 12 f fd ["net", "one", "other"] (spComesH tb) := by
  obtain ⟨fB, fdB, GB, mB, kB, bB, wB⟩ := OB.ex
  refine F.okX scComes (fun vs H Q E h => ?_) (fun cdv A outer s H vs Q E hr h => ?_)
  · obtain ⟨n, a, b, s1, s2, ts, ars, sh, r1, r2, v1, v2, rfl, _⟩ := h
    rfl
  · obtain ⟨n, a, b, s1, s2, ts, ars, sh, r1, r2, v1, v2, rfl, T, hT, q⟩ := h
    refine ⟨_, pss_one (ps_ret (pe_cmpR op_isN (pe_callS (E := fun _ _ _ _ => False) GB hr (by rfl) mB kB bB passF (pa_cons (pv 0) (pa_cons (pv 1) (pa_cons (pv 2) pa_nil)))) pe_non (nomark _))), ?_⟩
    refine ⟨_, rfl, _, rfl, _, rfl, n, a, b, s1, s2, ts, ars, sh, r1, r2, v1, v2, rfl, T, hT, fun e H' x T' => ⟨rfl, ?_⟩, fun e p H' x T' hp => ⟨rfl, ?_⟩⟩
    · have k := q H' x T'
      rw [e] at k
      exact k
    · have k := q H' x T'
      rw [e] at k
      exact k
def spBarHoldsH (K : PySem.W.Frag) (tb : Addr) : Sp := fun vs H Q _ => ∃ (n : Int) (a b s1 s2 : Addr) (ts : List V) (ars : List (Int × Int)) (sh : Int → Int) (r1 r2 : List Int) (v1 v2 : Int) (v : V) (d : PyData), vs = [.ref a, .ref s1, .ref s2, v] ∧ TwoH n H a b s1 s2 ts ars sh r1 r2 v1 v2 ∧ Tabs (lamT tb) H ∧ DpX K H v d ∧ SeqAt.shaped d = true ∧
  ∀ H', ExtN H H' → Tabs (lamT tb) H' → Q (.bl (PyData.eqv d (.tuple [.str "sign"]) && apartI sh r1 r2 v1 v2)) H'
theorem ok_barHoldsH {f tb C : Addr} {fd : FuncData} (F : Fun K "bar_holds" "bar_holds" sBarHolds f fd) (B : NoNames mg) (OK : OwnX1 P w K mg base 8 "kind_of" "net" (spKind tb C)) (OI : Own P w K mg base 10 "is_paper" ["kind", "net", "one", "other", "value"] (spIsPaperH K tb)) : FnOk P w K mg base (L2.CX P w) 11 f fd ["net", "one", "other", "value"] (spBarHoldsH K tb) := by
  obtain ⟨fK, fdK, GK, mK, kK, bK, wK⟩ := OK.ex
  obtain ⟨fI, fdI, GI, mI, kI, bI⟩ := OI.ex
  refine F.okX scBarHolds (fun vs H Q E h => ?_) (fun cdv A outer s H vs Q E hr h => ?_)
  · obtain ⟨n, a, b, s1, s2, ts, ars, sh, r1, r2, v1, v2, v, d, rfl, _⟩ := h
    rfl
  · obtain ⟨n, a, b, s1, s2, ts, ars, sh, r1, r2, v1, v2, v, d, rfl, T, hT, dp, sd, q⟩ := h
    have hr8 := hr.mono (by decide : 8 ≤ 10)
    have W := T.W
    refine ⟨_, pss_one (ps_ret (pe_call GI hr rfl mI kI bI .nil pass0 (pa_cons (pe_callS GK hr8 (by rfl) mK kK bK (fun σ => passAt (takes_of rfl rfl rfl rfl) σ) (pa_cons (pv 0) pa_nil)) (pa_cons (pv 0) (pa_cons (pv 1) (pa_cons (pv 2) (pa_cons (pv 3) pa_nil))))))), ?_⟩
    refine ⟨_, rfl, a, b, n, ts, ars, rfl, W.N, W.A, hT, fun nj => (nj W.J).elim, fun _ x H1 x1 T1 kp => ?_⟩
    obtain rfl := W.kind kp
    have t1 := TupS.extG x1
    exact ⟨_, rfl, _, rfl, _, rfl, _, rfl, n, a, b, s1, s2, ts, ars, sh, r1, r2, v1, v2, v, d, rfl, T.keep t1, T1, dp.ext x1, sd, fun H2 x2 T2 => q H2 (x1.trans x2) T2⟩
end
end Sw
namespace Sw
open PySem PySem.Spec PyProof.Rows L2 PySem.W
/-! ### called by words alone, in other orders -/
def g312 {α : Type} : List α → List α → List α
  | [], [c, a, b] => [a, b, c]
  | _, _ => []
def g4321 {α : Type} : List α → List α → List α
  | [], [d, c, b, a] => [a, b, c, d]
  | _, _ => []
section
variable {P : Program} {w : World} {K : PySem.W.Frag} {mg : Str → Option Value} {base : Heap}
/-- a def that may raise: by place, and by words -/
structure OwnXK (P : Program) (w : World) (K : PySem.W.Frag) (mg : Str → Option Value) (base : Heap) (k : Nat) (x : Str) (ps ks : List Str) (g : List Value → List Value → List Value) (gV : List V → List V → List V) (sp : Sp) : Prop where
  ex : ∃ f fd, FnOk P w K mg base (L2.CX P w) k f fd ps sp ∧ mg x = some (.ref f) ∧ PySem.W.keepIn K (.ref f) = true ∧ Binds K fd ps [] ∧ KBinds K fd ps ks g gV
theorem vals_g312 {us ws : List Value} {rs qs : List V} (r : Vals rs us) (q : Vals qs ws) : Vals (g312 rs qs) (g312 us ws) := by
  cases r with
  | cons => exact .nil
  | nil =>
    cases q with
    | nil => exact .nil
    | cons q1 q => cases q with
      | nil => exact .nil
      | cons q2 q => cases q with
        | nil => exact .nil
        | cons q3 q => cases q with
          | nil => exact .cons q2 (.cons q3 (.cons q1 .nil))
          | cons => exact .nil
theorem vals_g4321 {us ws : List Value} {rs qs : List V} (r : Vals rs us) (q : Vals qs ws) : Vals (g4321 rs qs) (g4321 us ws) := by
  cases r with
  | cons => exact .nil
  | nil =>
    cases q with
    | nil => exact .nil
    | cons q1 q => cases q with
      | nil => exact .nil
      | cons q2 q => cases q with
        | nil => exact .nil
        | cons q3 q => cases q with
          | nil => exact .nil
          | cons q4 q => cases q with
            | nil => exact .cons q4 (.cons q3 (.cons q2 (.cons q1 .nil)))
            | cons => exact .nil
theorem Has.ownX312 {k : Nat} {x p1 p2 p3 : Str} {st : Stmt} {sp : Sp} (hs : Has K mg x st) (ok : ∀ f fd, Fun K x x st f fd → FnOk P w K mg base (L2.CX P w) k f fd [p1, p2, p3] sp)
    (b : ∀ (kV doc pm : Value) (an : Option Addr) (cdv ct : Value) (us : List Value), us.length = ([p1, p2, p3] : List Str).length → bindArgs (PySem.W.fnOf x x (defArgs st) (defBody st) (defScope st) .none kV doc pm an cdv ct) ⟨us, []⟩ = pure (([p1, p2, p3] : List Str).zip us))
    (b0 : ∀ (kV doc pm : Value) (an : Option Addr) (cdv ct u v z : Value), bindArgs (PySem.W.fnOf x x (defArgs st) (defBody st) (defScope st) .none kV doc pm an cdv ct) ⟨[], ([p3, p1, p2] : List Str).zip [u, v, z]⟩ = pure (([p1, p2, p3] : List Str).zip [v, z, u])) : OwnXK P w K mg base k x [p1, p2, p3] [p3, p1, p2] g312 g312 sp := by
  obtain ⟨f, fd, F, m⟩ := hs
  refine ⟨f, fd, ok f fd F, m, F.kp, F.binds b, ?_⟩
  obtain ⟨oc, od, kV, doc, pm, an, cdv, ct, osl, rfl, lk, hcd⟩ := F.ex
  refine ⟨fun s us ws _ hl => ?_, fun r q => vals_g312 r q⟩
  rcases us with _ | ⟨u, us⟩
  · rcases ws with _ | ⟨a, _ | ⟨b, _ | ⟨c, _ | ⟨q', ws⟩⟩⟩⟩
    · cases hl
    · cases hl
    · cases hl
    · exact .of_eq (b0 kV doc pm an cdv ct _ _ _)
    · cases hl
  · cases hl
theorem Has.ownX4321 {k : Nat} {x p1 p2 p3 p4 : Str} {st : Stmt} {sp : Sp} (hs : Has K mg x st) (ok : ∀ f fd, Fun K x x st f fd → FnOk P w K mg base (L2.CX P w) k f fd [p1, p2, p3, p4] sp)
    (b : ∀ (kV doc pm : Value) (an : Option Addr) (cdv ct : Value) (us : List Value), us.length = ([p1, p2, p3, p4] : List Str).length → bindArgs (PySem.W.fnOf x x (defArgs st) (defBody st) (defScope st) .none kV doc pm an cdv ct) ⟨us, []⟩ = pure (([p1, p2, p3, p4] : List Str).zip us))
    (b0 : ∀ (kV doc pm : Value) (an : Option Addr) (cdv ct u v z y : Value), bindArgs (PySem.W.fnOf x x (defArgs st) (defBody st) (defScope st) .none kV doc pm an cdv ct) ⟨[], ([p4, p3, p2, p1] : List Str).zip [u, v, z, y]⟩ = pure (([p1, p2, p3, p4] : List Str).zip [y, z, v, u])) : OwnXK P w K mg base k x [p1, p2, p3, p4] [p4, p3, p2, p1] g4321 g4321 sp := by
  obtain ⟨f, fd, F, m⟩ := hs
  refine ⟨f, fd, ok f fd F, m, F.kp, F.binds b, ?_⟩
  obtain ⟨oc, od, kV, doc, pm, an, cdv, ct, osl, rfl, lk, hcd⟩ := F.ex
  refine ⟨fun s us ws _ hl => ?_, fun r q => vals_g4321 r q⟩
  rcases us with _ | ⟨u, us⟩
  · rcases ws with _ | ⟨a, _ | ⟨b, _ | ⟨c, _ | ⟨d, _ | ⟨q', ws⟩⟩⟩⟩⟩
    · cases hl
    · cases hl
    · cases hl
    · cases hl
    · exact .of_eq (b0 kV doc pm an cdv ct _ _ _ _)
    · cases hl
  · cases hl
end
end Sw
namespace Sw
open PySem PySem.Spec PyProof.Rows L2 LamX
/-! ### _law_seen -/
def SeenV (K : PySem.W.Frag) (H : Hp) (v : V) (b : Bool) : Prop := ∃ d, DpX K H v d ∧ SeqAt.shaped d = true ∧ PyData.eqv d (.tuple [.str "sign"]) = b
theorem SeenV.ext {K : PySem.W.Frag} {H H' : Hp} {v : V} {b : Bool} (h : SeenV K H v b) (x : ExtN H H') : SeenV K H' v b := by
  obtain ⟨d, h1, h2, h3⟩ := h
  exact ⟨d, h1.ext x, h2, h3⟩
theorem dpx_tup {K : PySem.W.Frag} {H : Hp} {p : Addr} {xs : List V} {ds : List PyData} (h : H p = some (.tup xs)) (al : ∀ H', ExtN H H' → DpAll K H' xs ds) : DpX K H (.ref p) (.tuple ds) := fun H' x => .tup (SqT.of (x _ _ h fun _ z => nomatch z)) (al H' x)
theorem dpx_lst {K : PySem.W.Frag} {H : Hp} {p : Addr} {xs : List V} {ds : List PyData} (h : H p = some (.lst xs)) (al : ∀ H', ExtN H H' → DpAll K H' xs ds) : DpX K H (.ref p) (.list ds) := fun H' x => .lst (SqL.of (x _ _ h fun _ z => nomatch z)) (al H' x)
def heldV (ap : Bool) : List V := [.bl ap, .bl false, .bl false, .bl false, .bl false, .bl false, .bl false, .bl false]
theorem heldV_len (ap : Bool) : (heldV ap).length = 8 := rfl
theorem heldV_at {ap : Bool} {j : Nat} (h : j < 8) : (heldV ap)[j]? = some (.bl (decide (j = 0) && ap)) := by
  have : j = 0 ∨ j = 1 ∨ j = 2 ∨ j = 3 ∨ j = 4 ∨ j = 5 ∨ j = 6 ∨ j = 7 := by omega
  rcases this with rfl | rfl | rfl | rfl | rfl | rfl | rfl | rfl <;> rfl
theorem tabs_lstG {T : List (Addr × Str)} {l : Addr} {H : Hp} {vs ws : List V} (h : Tabs T H) (hl : H l = some (.lst vs)) : Tabs T (upd H l (.lst ws)) := fun q hq => by
  obtain ⟨ps, h1, h2, h3⟩ := h q hq
  refine ⟨ps, ?_, h2, fun pos cv hc => ?_⟩
  · rw [upd_ne fun z => by rw [z, hl] at h1; cases h1]
    exact h1
  · obtain ⟨c, g1, g2⟩ := h3 pos cv hc
    refine ⟨c, g1, ?_⟩
    rw [upd_ne fun z => by
      rw [z, hl] at g2
      have g : HO.lst _ = HO.ext _ := Option.some.inj g2
      cases g]
    exact g2
/-- what is seen -/
def SeenOut (ap : Bool) (H : Hp) (L : Addr) : Prop := ∃ (v : V) (D : Addr), H L = some (.lst [.bl (!ap), v, .ref D]) ∧ H D = some (.lst (heldV ap)) ∧ ((ap = false ∧ v = .non) ∨ (ap = true ∧ ∃ p, v = .ref p ∧ H p = some (.tup [.str "sign"])))
theorem seen_vals {K : PySem.W.Frag} {H : Hp} {t1 l2 t3 t4 t5 t6 t7 : Addr} {x : Int} (h1 : H t1 = some (.tup [.str "sign"])) (h2 : H l2 = some (.lst [.str "sign"])) (h3 : H t3 = some (.tup [.str "still"])) (h4 : H t4 = some (.tup [.str "sign", .int 0]))
    (h5 : H t5 = some (.tup [.str "next", .int x])) (h6 : H t6 = some (.tup [.int 0, .int 1, .int 2, .int 3])) (h7 : H t7 = some (.tup [.str "ratio", .ref t6])) :
    ∀ (j : Nat) (v : V), ([.ref t1, .ref l2, .ref t3, .ref t4, .ref t5, .ref t7, .str "sign", .non] : List V)[j]? = some v → SeenV K H v (decide (j = 0)) := fun j v e => by
  have hj : j < 8 := by
    have := (List.getElem?_eq_some_iff.mp e).1
    exact this
  have : j = 0 ∨ j = 1 ∨ j = 2 ∨ j = 3 ∨ j = 4 ∨ j = 5 ∨ j = 6 ∨ j = 7 := by omega
  rcases this with rfl | rfl | rfl | rfl | rfl | rfl | rfl | rfl
  · obtain rfl := Option.some.inj e
    exact ⟨_, dpx_sign h1, shaped_sign, by decide +kernel⟩
  · obtain rfl := Option.some.inj e
    exact ⟨.list [.str "sign"], dpx_lst h2 (fun _ _ => .cons (.str _) .nil), by decide +kernel, by decide +kernel⟩
  · obtain rfl := Option.some.inj e
    exact ⟨.tuple [.str "still"], dpx_tup h3 (fun _ _ => .cons (.str _) .nil), by decide +kernel, by decide +kernel⟩
  · obtain rfl := Option.some.inj e
    exact ⟨.tuple [.str "sign", .int 0], dpx_tup h4 (fun _ _ => .cons (.str _) (.cons (.int _) .nil)), by decide +kernel, by decide +kernel⟩
  · obtain rfl := Option.some.inj e
    exact ⟨.tuple [.str "next", .int x], dpx_tup h5 (fun _ _ => .cons (.str _) (.cons (.int _) .nil)), by simp [SeqAt.shaped, PyData.canLay0, PyData.canLayAll0, PyData.depth, PyData.depthAll]; decide +kernel, by simp [PyData.eqv, PyData.eqvAll]⟩
  · obtain rfl := Option.some.inj e
    exact ⟨.tuple [.str "ratio", .tuple [.int 0, .int 1, .int 2, .int 3]], dpx_tup h7 (fun _ x => .cons (.str _) (.cons (dpx_tup h6 (fun _ _ => .cons (.int _) (.cons (.int _) (.cons (.int _) (.cons (.int _) .nil)))) _ x) .nil)), by decide +kernel, by decide +kernel⟩
  · obtain rfl := Option.some.inj e
    exact ⟨.str "sign", (fun _ _ => .str _), by decide +kernel, by decide +kernel⟩
  · obtain rfl := Option.some.inj e
    exact ⟨.none, (fun _ _ => .non), by decide +kernel, by decide +kernel⟩
section
variable {P : Program} {w : World} {K : PySem.W.Frag} {mg : Str → Option Value} {base : Heap}
abbrev sSeenH : Stmt := top 61
abbrev nSeenH : List Str := ["web", "here", "there", "is_named", "values", "held", "own"]
theorem scSeenH : FnScope nSeenH ["web", "here", "there", "is_named"] (defScope sSeenH) := ⟨rfl, rfl, rfl, by decide +kernel, rfl, by decide +kernel, by decide +kernel⟩
def spSeenH (tb : Addr) : Sp := fun vs H Q _ => ∃ (n : Int) (a b s1 s2 : Addr) (ts : List V) (ars : List (Int × Int)) (sh : Int → Int) (r1 r2 : List Int) (v1 v2 : Int) (nm : Bool), vs = [.ref a, .ref s1, .ref s2, .bl nm] ∧ TwoH n H a b s1 s2 ts ars sh r1 r2 v1 v2 ∧ Tabs (lamT tb) H ∧
  ∀ (L : Addr) (H' : Hp), ExtN H H' → Tabs (lamT tb) H' → SeenOut (apartI sh r1 r2 v1 v2) H' L → Q (.ref L) H'
theorem ok_seenH {f tb : Addr} {fd : FuncData} (F : Fun K "_law_seen" "_law_seen" sSeenH f fd) (B : NoNames mg) (OC : OwnXK P w K mg base 12 "comes" ["net", "one", "other"] ["other", "net", "one"] g312 g312 (spComesH tb)) (OB : OwnXK P w K mg base 11 "bar" ["net", "one", "other"] ["other", "net", "one"] g312 g312 (spBarH tb))
    (OH : OwnXK P w K mg base 11 "bar_holds" ["net", "one", "other", "value"] ["value", "other", "one", "net"] g4321 g4321 (spBarHoldsH K tb)) : FnOk P w K mg base CX0 13 f fd ["web", "here", "there", "is_named"] (spSeenH tb) := by
  obtain ⟨fC, fdC, GC, mC, kC, bC, wC⟩ := OC.ex
  obtain ⟨fB, fdB, GB, mB, kB, bB, wB⟩ := OB.ex
  obtain ⟨fH, fdH, GH, mH, kH, bH, wH⟩ := OH.ex
  refine F.ok scSeenH (fun vs H Q E h => ?_) (fun cdv A outer s H vs Q E hr h => ?_)
  · obtain ⟨n, a, b, s1, s2, ts, ars, sh, r1, r2, v1, v2, nm, rfl, _⟩ := h
    rfl
  · obtain ⟨n, a, b, s1, s2, ts, ars, sh, r1, r2, v1, v2, nm, rfl, T0, hT, q⟩ := h
    have hr11 := hr.mono (by decide : 11 ≤ 12)
    refine ⟨_, pss_cons (ps_set (i := 4) scSeenH.nd rfl (.inl rfl) (pe_lst (pa_cons (pe_tup (pa_cons pe_str pa_nil)) (pa_cons (pe_lst (pa_cons pe_str pa_nil)) (pa_cons (pe_tup (pa_cons pe_str pa_nil)) (pa_cons (pe_tup (pa_cons pe_str (pa_cons pe_int pa_nil)))
          (pa_cons (pe_tup (pa_cons pe_str (pa_cons (pe_ix (r := rIxT K) ix_tup (pe_ix (r := rIxT K) ix_tup (pv 1) pe_int (fun _ _ => rfl)) pe_int (fun _ _ => rfl)) pa_nil)))
          (pa_cons (pe_tup (pa_cons pe_str (pa_cons (pe_tup (pa_cons pe_int (pa_cons pe_int (pa_cons pe_int (pa_cons pe_int pa_nil))))) pa_nil))) (pa_cons pe_str (pa_cons pe_non pa_nil)))))))))) <|
      pss_cons (ps_if (pt_val (pv 3))
        (pss_cons (ps_setLc (i := 5) (own := [("own", 6)]) (g := gName 6) (tt := tYes) rfl scSeenH.nd rfl rfl (sw_true rfl rfl rfl (by decide +kernel)) (pi_list (pv 4)) (blkOk_by (own := [("own", 6)]) (N := nSeenH) (sc := defScope sSeenH) (by decide +kernel))
            (fun _ _ _ _ _ => pg_name (i := 6) scSeenH.nd rfl (Or.inl rfl)) (fun _ _ _ _ _ => pts_nil)
            (fun _ _ _ _ _ => pe_callWS (E := fun _ _ _ _ => False) GH hr11 (by rfl) mH kH wH passF (pk_cons (pv 6) (pk_cons (pv 2) (pk_cons (pv 1) (pk_cons (pv 0) pk_nil)))))) <|
         pss_one (ps_ret (pe_lst (pa_cons (pe_callWS (E := fun _ _ _ _ => False) GC hr (by rfl) mC kC wC passF (pk_cons (pv 2) (pk_cons (pv 0) (pk_cons (pv 1) pk_nil)))) (pa_cons (pe_callWS (E := fun _ _ _ _ => False) GB hr11 (by rfl) mB kB wB passF (pk_cons (pv 2) (pk_cons (pv 0) (pk_cons (pv 1) pk_nil)))) (pa_cons (pv 5) pa_nil))))))
        pss_nil) <|
      pss_one (ps_ret (pe_lst (pa_cons (pe_callS (E := fun _ _ _ _ => False) GC hr (by rfl) mC kC bC passF (pa_cons (pv 0) (pa_cons (pv 1) (pa_cons (pv 2) pa_nil)))) (pa_cons (pe_callS (E := fun _ _ _ _ => False) GB hr11 (by rfl) mB kB bB passF (pa_cons (pv 0) (pa_cons (pv 1) (pa_cons (pv 2) pa_nil))))
        (pa_cons (pe_lc (own := [("own", 6)]) (g := gName 6) (tt := tYes) rfl scSeenH.nd (pi_list (pv 4)) (blkOk_by (own := [("own", 6)]) (N := nSeenH) (sc := defScope sSeenH) (by decide +kernel))
            (fun _ _ _ _ _ => pg_name (i := 6) scSeenH.nd rfl (Or.inl rfl)) (fun _ _ _ _ _ => pts_nil)
            (fun _ _ _ _ _ => pe_callS (E := fun _ _ _ _ => False) GH hr11 (by rfl) mH kH bH passF (pa_cons (pv 0) (pa_cons (pv 1) (pa_cons (pv 2) (pa_cons (pv 6) pa_nil)))))) pa_nil))))), ?_⟩
    obtain ⟨w1, g1, g2⟩ := T0.S1.ex
    have lr1 := T0.S1.R.len
    have n2 := T0.W.n2
    refine ⟨by show 1 ≤ sizeLine; decide, fun t1 n1 => ⟨by show 1 ≤ sizeLine; decide, fun l2 n2' => ⟨by show 1 ≤ sizeLine; decide, fun t3 n3 => ⟨by show 2 ≤ sizeLine; decide, fun t4 n4 => ?_⟩⟩⟩⟩
    have z1 := same_new (o := .tup [.str "sign"]) n1
    have z2 := same_new (o := .lst [.str "sign"]) n2'
    have z3 := same_new (o := .tup [.str "still"]) n3
    have z4 := same_new (o := .tup [.str "sign", .int 0]) n4
    have h1 := (z2.trans (z3.trans z4)) _ _ (upd_same (H := H) (a := t1) (o := .tup [.str "sign"]))
    have h2 := (z3.trans z4) _ _ (upd_same (a := l2) (o := .lst [.str "sign"]))
    have h3 := z4 _ _ (upd_same (a := t3) (o := .tup [.str "still"]))
    have h4 := upd_same (a := t4) (o := .tup [.str "sign", .int 0]) (H := upd (upd (upd H t1 (.tup [.str "sign"])) l2 (.lst [.str "sign"])) t3 (.tup [.str "still"]))
    have z : Same H (upd (upd (upd (upd H t1 (.tup [.str "sign"])) l2 (.lst [.str "sign"])) t3 (.tup [.str "still"])) t4 (.tup [.str "sign", .int 0])) := z1.trans (z2.trans (z3.trans z4))
    generalize (upd (upd (upd (upd H t1 (.tup [.str "sign"])) l2 (.lst [.str "sign"])) t3 (.tup [.str "still"])) t4 (.tup [.str "sign", .int 0])) = H4 at h1 h2 h3 h4 z ⊢
    clear z1 z2 z3 z4 n1 n2' n3 n4
    refine ⟨_, rfl, s1, _, 0, .ref w1, rfl, rfl, SqT.of (z _ _ g1), at_of (j := 0) rfl rfl, w1, _, 0, .int (r1.getD 0 0), rfl, rfl, .inl ((TupS.of z).rd g2), atI_int (by decide) (by omega), by show 2 ≤ sizeLine; decide, fun t5 n5 => ⟨by show 4 ≤ sizeLine; decide, fun t6 n6 => ⟨by show 2 ≤ sizeLine; decide, fun t7 n7 => ⟨by show 8 ≤ sizeLine; decide, fun V0 nV => ?_⟩⟩⟩⟩
    generalize r1.getD 0 0 = x0 at n5 n6 n7 nV ⊢
    have z5 := same_new (o := .tup [.str "next", .int x0]) n5
    have z6 := same_new (o := .tup [.int 0, .int 1, .int 2, .int 3]) n6
    have z7 := same_new (o := .tup [.str "ratio", .ref t6]) n7
    have z8 := same_new (o := .lst [.ref t1, .ref l2, .ref t3, .ref t4, .ref t5, .ref t7, .str "sign", .non]) nV
    have h5 := (z6.trans (z7.trans z8)) _ _ (upd_same (H := H4) (a := t5) (o := .tup [.str "next", .int x0]))
    have h6 := (z7.trans z8) _ _ (upd_same (a := t6) (o := .tup [.int 0, .int 1, .int 2, .int 3]))
    have h7 := z8 _ _ (upd_same (a := t7) (o := .tup [.str "ratio", .ref t6]))
    have zz := z5.trans (z6.trans (z7.trans z8))
    have hV8 := upd_same (a := V0) (o := .lst [.ref t1, .ref l2, .ref t3, .ref t4, .ref t5, .ref t7, .str "sign", .non]) (H := upd (upd (upd H4 t5 (.tup [.str "next", .int x0])) t6 (.tup [.int 0, .int 1, .int 2, .int 3])) t7 (.tup [.str "ratio", .ref t6]))
    generalize (upd (upd (upd (upd H4 t5 (.tup [.str "next", .int x0])) t6 (.tup [.int 0, .int 1, .int 2, .int 3])) t7 (.tup [.str "ratio", .ref t6])) V0 (.lst [.ref t1, .ref l2, .ref t3, .ref t4, .ref t5, .ref t7, .str "sign", .non])) = H8 at h5 h6 h7 zz hV8 ⊢
    have al := seen_vals (K := K) (zz _ _ h1) (zz _ _ h2) (zz _ _ h3) (zz _ _ h4) h5 h6 h7
    have x8 : ExtN H H8 := .of (z.trans zz)
    have T8 := hT.ext (z.trans zz)
    generalize hvs : ([.ref t1, .ref l2, .ref t3, .ref t4, .ref t5, .ref t7, .str "sign", .non] : List V) = vals at al hV8
    have lv : vals.length = 8 := by rw [← hvs]; rfl
    have lv8 : 8 = vals.length := lv.symm
    clear hvs h1 h2 h3 h4 h5 h6 h7 z5 z6 z7 z8 n5 n6 n7 nV z zz
    generalize hap : apartI sh r1 r2 v1 v2 = ap at q
    cases nm with
    | true =>
      refine ⟨_, rfl, true, rfl, iteT ⟨_, rfl, V0, rfl, ⟨_, SqL.of hV8⟩, fun D nD => ?_⟩⟩
      have sD := same_new (o := .lst []) nD
      refine lc_it (te := fun σ H Q => tCons (tVar 6) (tCons (tVar 2) (tCons (tVar 1) (tCons (tVar 0) tNil))) σ H fun zs H2 => spBarHoldsH K tb (g4321 [] zs) H2 Q fun _ _ _ => False) (walk_list (xs := vals)) (fun j Z => Z D = some (.lst ((heldV ap).take j)) ∧ ExtN H8 Z ∧ Tabs (lamT tb) Z) ⟨upd_same, .of sD, T8.ext sD⟩ (fun j Z _ h => SqL.of (h.2.1 _ _ hV8 fun ps z => nomatch z)) ?_ ?_
      · rintro j x Hb Ha hj ⟨g1, g2, g3⟩ ⟨rfl, ex⟩
        have hj : j < 8 := by rw [← lv]; exact hj
        refine ⟨rfl, ?_⟩
        dsimp only [tYes]
        rw [if_pos rfl]
        obtain ⟨dd, dp, sd, ed⟩ := (al j x ex).ext g2
        have TT := (T0.keep (TupS.extG (x8.trans g2)))
        refine ⟨_, rfl, _, rfl, _, rfl, _, rfl, n, a, b, s1, s2, ts, ars, sh, r1, r2, v1, v2, x, dd, rfl, TT, g3, dp, sd, fun H9 x9 T9 => ?_⟩
        rw [ed, hap]
        have g1' := x9 _ _ g1 (fun ps z => nomatch z)
        refine ⟨_, g1', ?_, ?_, fun c o ec nt => ?_, tabs_lstG T9 g1'⟩
        · rw [List.length_take, heldV_len, sizeLine_eq]
          omega
        · rw [upd_same, List.take_add_one, heldV_at hj]
          rfl
        · rw [upd_ne (ne_of_none ec nD)]
          exact (g2.trans x9) _ _ ec nt
      · rintro Ha ⟨g1, g2, g3⟩
        rw [List.take_of_length_le (by rw [heldV_len, lv]; exact Nat.le_refl _)] at g1
        have TT := T0.keep (TupS.extG (x8.trans g2))
        refine ⟨_, rfl, _, rfl, _, rfl, n, a, b, s1, s2, ts, ars, sh, r1, r2, v1, v2, rfl, TT, g3, fun H9 x9 T9 => ?_⟩
        rw [hap]
        have TT9 := TT.keep (TupS.extG x9)
        have g9 := x9 _ _ g1 (fun ps z => nomatch z)
        refine ⟨_, rfl, _, rfl, _, rfl, n, a, b, s1, s2, ts, ars, sh, r1, r2, v1, v2, rfl, TT9, T9, fun e Ht xt Tt => ⟨_, rfl, by show 3 ≤ sizeLine; decide, fun L nL => ?_⟩, fun e p Ht xt Tt hp => ⟨_, rfl, by show 3 ≤ sizeLine; decide, fun L nL => ?_⟩⟩
        · rw [hap] at e
          have sL := same_new (o := .lst [.bl (!ap), .non, .ref D]) nL
          exact q L _ ((((x8.trans g2).trans x9).trans xt).trans (.of sL)) (Tt.ext sL) ⟨.non, D, upd_same, sL _ _ (xt _ _ g9 fun ps z => nomatch z), .inl ⟨e, rfl⟩⟩
        · rw [hap] at e
          have sL := same_new (o := .lst [.bl (!ap), .ref p, .ref D]) nL
          exact q L _ ((((x8.trans g2).trans x9).trans xt).trans (.of sL)) (Tt.ext sL) ⟨.ref p, D, upd_same, sL _ _ (xt _ _ g9 fun ps z => nomatch z), .inr ⟨e, p, rfl, sL _ _ hp⟩⟩
    | false =>
      refine ⟨_, rfl, false, rfl, iteF ?_⟩
      have TT := T0.keep (TupS.extG x8)
      refine ⟨_, rfl, _, rfl, _, rfl, n, a, b, s1, s2, ts, ars, sh, r1, r2, v1, v2, rfl, TT, T8, fun H9 x9 T9 => ?_⟩
      rw [hap]
      have TT9 := TT.keep (TupS.extG x9)
      refine ⟨_, rfl, _, rfl, _, rfl, n, a, b, s1, s2, ts, ars, sh, r1, r2, v1, v2, rfl, TT9, T9, fun e Ht xt Tt => ?_, fun e p Ht xt Tt hp => ?_⟩
      · rw [hap] at e
        have xB : ExtN H Ht := (x8.trans x9).trans xt
        have hVB := (x9.trans xt) _ _ hV8 (fun ps z => nomatch z)
        have alB : ∀ (j : Nat) (v : V), vals[j]? = some v → SeenV K Ht v (decide (j = 0)) := fun j v e => (al j v e).ext (x9.trans xt)
        refine ⟨_, rfl, V0, rfl, ⟨_, SqL.of hVB⟩, fun D nD => ?_⟩
        have sD := same_new (o := .lst []) nD
        refine lc_it (walk_list (xs := vals)) (fun j Z => Z D = some (.lst ((heldV ap).take j)) ∧ ExtN Ht Z ∧ Tabs (lamT tb) Z) ⟨upd_same, .of sD, Tt.ext sD⟩ (fun j Z _ h => SqL.of (h.2.1 _ _ hVB fun ps z => nomatch z)) ?_ ?_
        · rintro j x Hb Ha hj ⟨g1, g2, g3⟩ ⟨rfl, ex⟩
          have hj : j < 8 := by rw [← lv]; exact hj
          refine ⟨rfl, ?_⟩
          dsimp only [tYes]
          rw [if_pos rfl]
          obtain ⟨dd, dp, sd, ed⟩ := (alB j x ex).ext g2
          have TT := (T0.keep (TupS.extG (xB.trans g2)))
          refine ⟨_, rfl, _, rfl, _, rfl, _, rfl, n, a, b, s1, s2, ts, ars, sh, r1, r2, v1, v2, x, dd, rfl, TT, g3, dp, sd, fun HX xX TX => ?_⟩
          rw [ed, hap]
          have g1' := xX _ _ g1 (fun ps z => nomatch z)
          refine ⟨_, g1', ?_, ?_, fun c o ec nt => ?_, tabs_lstG TX g1'⟩
          · rw [List.length_take, heldV_len, sizeLine_eq]
            omega
          · rw [upd_same, List.take_add_one, heldV_at hj]
            rfl
          · rw [upd_ne (ne_of_none ec nD)]
            exact (g2.trans xX) _ _ ec nt
        · rintro Ha ⟨g1, g2, g3⟩
          rw [List.take_of_length_le (by rw [heldV_len, lv]; exact Nat.le_refl _)] at g1
          refine ⟨by show 3 ≤ sizeLine; decide, fun L nL => ?_⟩
          have sL := same_new (o := .lst [.bl (!ap), .non, .ref D]) nL
          exact q L _ ((xB.trans g2).trans (.of sL)) (g3.ext sL) ⟨.non, D, upd_same, sL _ _ g1, .inl ⟨e, rfl⟩⟩
      · rw [hap] at e
        have xB : ExtN H Ht := (x8.trans x9).trans xt
        have hVB := (x9.trans xt) _ _ hV8 (fun ps z => nomatch z)
        have alB : ∀ (j : Nat) (v : V), vals[j]? = some v → SeenV K Ht v (decide (j = 0)) := fun j v e => (al j v e).ext (x9.trans xt)
        refine ⟨_, rfl, V0, rfl, ⟨_, SqL.of hVB⟩, fun D nD => ?_⟩
        have sD := same_new (o := .lst []) nD
        refine lc_it (walk_list (xs := vals)) (fun j Z => Z D = some (.lst ((heldV ap).take j)) ∧ ExtN Ht Z ∧ Tabs (lamT tb) Z) ⟨upd_same, .of sD, Tt.ext sD⟩ (fun j Z _ h => SqL.of (h.2.1 _ _ hVB fun ps z => nomatch z)) ?_ ?_
        · rintro j x Hb Ha hj ⟨g1, g2, g3⟩ ⟨rfl, ex⟩
          have hj : j < 8 := by rw [← lv]; exact hj
          refine ⟨rfl, ?_⟩
          dsimp only [tYes]
          rw [if_pos rfl]
          obtain ⟨dd, dp, sd, ed⟩ := (alB j x ex).ext g2
          have TT := (T0.keep (TupS.extG (xB.trans g2)))
          refine ⟨_, rfl, _, rfl, _, rfl, _, rfl, n, a, b, s1, s2, ts, ars, sh, r1, r2, v1, v2, x, dd, rfl, TT, g3, dp, sd, fun HX xX TX => ?_⟩
          rw [ed, hap]
          have g1' := xX _ _ g1 (fun ps z => nomatch z)
          refine ⟨_, g1', ?_, ?_, fun c o ec nt => ?_, tabs_lstG TX g1'⟩
          · rw [List.length_take, heldV_len, sizeLine_eq]
            omega
          · rw [upd_same, List.take_add_one, heldV_at hj]
            rfl
          · rw [upd_ne (ne_of_none ec nD)]
            exact (g2.trans xX) _ _ ec nt
        · rintro Ha ⟨g1, g2, g3⟩
          rw [List.take_of_length_le (by rw [heldV_len, lv]; exact Nat.le_refl _)] at g1
          refine ⟨by show 3 ≤ sizeLine; decide, fun L nL => ?_⟩
          have sL := same_new (o := .lst [.bl (!ap), .ref p, .ref D]) nL
          exact q L _ ((xB.trans g2).trans (.of sL)) (g3.ext sL) ⟨.ref p, D, upd_same, sL _ _ g1, .inr ⟨e, p, rfl, sL _ _ (g2 _ _ hp fun ps z => nomatch z)⟩⟩
end
end Sw
namespace Sw
open PySem PySem.Spec PyProof.Rows L2
/-! ### the law's own sign -/
theorem filter_lt {α : Type} {p q : α → Bool} : ∀ {l : List α}, (∀ y, q y = true → p y = true) → (∃ x ∈ l, p x = true ∧ q x = false) → (l.filter q).length < (l.filter p).length
  | [], _, ⟨x, h, _⟩ => nomatch h
  | y :: r, hs, ⟨x, h, px, qx⟩ => by
    have le : (r.filter q).length ≤ (r.filter p).length := by
      rw [← List.countP_eq_length_filter, ← List.countP_eq_length_filter]
      exact List.countP_mono_left fun z _ hz => hs z hz
    rw [List.filter_cons, List.filter_cons]
    rcases List.mem_cons.mp h with rfl | h
    · rw [if_pos px, if_neg (by rw [qx]; decide), List.length_cons]
      omega
    · have := filter_lt (l := r) hs ⟨x, h, px, qx⟩
      by_cases c : q y = true
      · rw [if_pos c, if_pos (hs y c), List.length_cons, List.length_cons]
        omega
      · rw [if_neg c]
        split
        · rw [List.length_cons]
          omega
        · exact this
/-- how many things stand elsewhere -/
def unf (xs : List Int) : Nat := ((List.range xs.length).filter fun i => decide (xs.getD i 0 ≠ (i : Int))).length
theorem ord_get {m : Int} {xs : List Int} (O : Ord m xs) {i : Nat} (h : i < xs.length) : Inn m (xs.getD i 0) := by
  rw [gd h]
  exact (O.is _).mp (List.getElem_mem h)
theorem ord_inj {m : Int} {xs : List Int} (O : Ord m xs) {i j : Nat} (hi : i < xs.length) (hj : j < xs.length) (e : xs.getD i 0 = xs.getD j 0) : i = j := by
  rw [gd hi, gd hj] at e
  exact (List.getElem_inj O.nd).mp e
theorem sw2_at {xs : List Int} {i j : Nat} (hi : i < xs.length) (hj : j < xs.length) (k : Nat) : (sw2 xs i j).getD k 0 = if k = j then xs.getD i 0 else if k = i then xs.getD j 0 else xs.getD k 0 := by
  rw [List.getD_eq_getElem?_getD, sw2_get hi hj k]
  split
  · rw [List.getD_eq_getElem?_getD]
  · split <;> rw [List.getD_eq_getElem?_getD]
/-- one exchange brings one thing home -/
theorem unf_less {m : Int} {xs : List Int} (O : Ord m xs) {j g : Nat} (hj : j < xs.length) (hg : g < xs.length) (e : xs.getD j 0 = (g : Int)) (ne : g ≠ j) : unf (sw2 xs j g) < unf xs := by
  unfold unf
  rw [sw2_len]
  refine filter_lt (fun i h => ?_) ⟨g, List.mem_range.mpr hg, decide_eq_true fun z => ne (ord_inj O hg hj (by rw [z, e])), decide_eq_false fun z => z ?_⟩
  · have h := of_decide_eq_true h
    refine decide_eq_true fun z => ?_
    rw [sw2_at hj hg] at h
    by_cases c1 : i = g
    · rw [if_pos c1, e, c1] at h
      exact h rfl
    · rw [if_neg c1] at h
      by_cases c2 : i = j
      · rw [c2, e] at z
        omega
      · rw [if_neg c2] at h
        exact h z
  · rw [sw2_at hj hg, if_pos rfl, e]
theorem ord_sw2 {m : Int} {xs : List Int} (O : Ord m xs) {i j : Nat} (hi : i < xs.length) (hj : j < xs.length) : Ord m (sw2 xs i j) := by
  have p := sw2_perm hi hj
  exact ⟨by rw [p.length_eq]; exact O.len, p.nodup_iff.mpr O.nd, fun v => p.mem_iff.trans (O.is v)⟩
/-- all at home -/
theorem home_even {xs : List Int} (h : ∀ i, i < xs.length → xs.getD i 0 = (i : Int)) : oddI xs = false := by
  have : inv xs = 0 := inv_asc (List.pairwise_iff_getElem.mpr fun i j hi hj ij => by
    have a := h i hi
    have b := h j hj
    rw [gd hi] at a
    rw [gd hj] at b
    omega)
  unfold oddI
  rw [this]
  rfl
section
variable {P : Program} {w : World} {K : PySem.W.Frag} {mg : Str → Option Value} {base : Heap}
abbrev sSignW : Stmt := top 57
abbrev nSignW : List Str := ["row", "left", "is_odd_v", "place", "goal"]
theorem scSignW : FnScope nSignW ["row"] (defScope sSignW) := ⟨rfl, rfl, rfl, by decide +kernel, rfl, by decide +kernel, by decide +kernel⟩
def spSignW (K : PySem.W.Frag) : Sp := fun vs H Q _ => ∃ (a : Addr) (r : List Int) (m : Int), vs = [.ref a] ∧ SqT K H a (r.map V.int) ∧ Ord m r ∧ m ≤ 13 ∧ ∀ H', Same H H' → Q (.bl (oddI r)) H'
theorem ok_signW {f : Addr} {fd : FuncData} (F : Fun K "_law_sign" "_law_sign" sSignW f fd) (B : NoNames mg) : FnOk P w K mg base CX0 1 f fd ["row"] (spSignW K) := by
  refine F.ok scSignW (fun vs H Q E h => ?_) (fun cdv A outer s H vs Q E hr h => ?_)
  · obtain ⟨a, r, m, rfl, _⟩ := h
    rfl
  · obtain ⟨a, r, m, rfl, ha, O, m13, k⟩ := h
    refine ⟨_, pss_cons (ps_par (i := 1) (j := 2) rfl scSignW.nd rfl rfl (by decide) rfl rfl (pa_cons (pe_callTy call_list_of (by rfl) B.list (by decide +kernel) (pa_cons (pv 0) pa_nil)) (pa_cons pe_bl pa_nil)) (by rfl)) <|
      pss_cons (ps_for PassesOwn.never rfl (pi_range1 (by rfl) B.range (pa_cons (pe_callB call_len_seq (by rfl) B.len PySem.boot_len (pa_cons (pv 1) pa_nil)) pa_nil)) (pg_name (i := 3) scSignW.nd rfl (.inl rfl))
        (pss_one (ps_while PassesOwn.never (pt_cmpR op_ne (pe_ix (r := rIxL K) ix_list (pv 1) (pv 3) (fun _ _ => rfl)) (pv 3) (nomark _))
          (pss_cons (ps_set (i := 4) scSignW.nd rfl (.inl rfl) (pe_ix (r := rIxL K) ix_list (pv 1) (pv 3) (fun _ _ => rfl))) <|
           pss_one (ps_asg (pe_tup (pa_cons (pe_ix (r := rIxL K) ix_list (pv 1) (pv 4) (fun _ _ => rfl)) (pa_cons (pv 4) (pa_cons (pe_not (pv 2)) pa_nil)))) (pg_tup (by rfl) (pgs_cons (pg_sub (pv 1) (pv 3) set_list) (pgs_cons (pg_sub (pv 1) (pv 4) set_list) (pgs_cons (pg_name (i := 2) scSignW.nd rfl (.inl rfl)) pgs_nil))))))))) <|
      pss_one (ps_ret (pv 2)), ?_⟩
    have lr := O.len
    refine ⟨_, rfl, a, _, rfl, .inr ha, fun l nl => ⟨_, _, rfl, ?_⟩⟩
    have s1 := same_new (o := .lst (r.map V.int)) nl
    refine ⟨_, rfl, l, _, rfl, .inl (SqL.of upd_same), _, rfl, by rw [List.length_map]; omega, by rw [List.length_map]; omega, ?_⟩
    refine for_it walk_range (fun j σ Z => ∃ (xs : List Int) (s3 s4 : Option V), σ = [some (.ref a), some (.ref l), some (.bl (oddI r != oddI xs)), s3, s4] ∧ Same H Z ∧ Z l = some (.lst (xs.map V.int)) ∧ Ord m xs ∧ ∀ i, i < j → xs.getD i 0 = (i : Int))
      ⟨r, none, none, by rw [show (oddI r != oddI r) = false from bne_self_eq_false _]; rfl, s1, upd_same, O, fun i h => absurd h (Nat.not_lt_zero _)⟩ (fun _ _ _ _ _ => trivial) ?_ ?_
    · rintro j x σ Hb Ha hj ⟨xs, s3, s4, rfl, sa, hl, Ox, hx⟩ ⟨rfl, rfl⟩
      have hj : j < ((r.map V.int).length : Int).toNat := hj
      rw [Int.toNat_natCast, List.length_map] at hj
      have f0 : (0 : Int) + (j : Int) = (j : Int) := Int.zero_add _
      have lx := Ox.len
      refine ⟨fun mm σ Z => ∃ (xs : List Int) (s4 : Option V), σ = [some (.ref a), some (.ref l), some (.bl (oddI r != oddI xs)), some (.int (j : Nat)), s4] ∧ Same H Z ∧ Z l = some (.lst (xs.map V.int)) ∧ Ord m xs ∧ (∀ i, i < j → xs.getD i 0 = (i : Int)) ∧ unf xs = mm,
        ⟨unf xs, xs, s4, by show _ = [_, _, _, some (V.int (j : Int)), s4]; rw [← f0]; rfl, sa, hl, Ox, hx, rfl⟩, ?_⟩
      clear hl hx sa lx Ox
      rintro mm σ Hc ⟨xs, s4, rfl, sa, hl, Ox, hx, rfl⟩
      have lx := Ox.len
      have hjx : j < xs.length := by omega
      have g0 : atI (xs.map V.int) ((j : Nat) : Int) = some (.int (xs.getD j 0)) := by
        have := atI_int (xs := xs) (v := ((j : Nat) : Int)) (by omega) (by omega)
        rwa [Int.toNat_natCast] at this
      refine ⟨_, rfl, _, rfl, l, _, (j : Nat), _, rfl, rfl, SqL.of hl, g0, _, rfl, rfl, _, rfl, ite2 (fun y => ?_) (fun y => ?_)⟩
      · have ne : xs.getD j 0 ≠ (j : Int) := fun z => by
          rw [z, decide_eq_true rfl] at y
          cases y
        refine ⟨fun σ Z => ∃ m', m' < unf xs ∧ ∃ (xs : List Int) (s4 : Option V), σ = [some (.ref a), some (.ref l), some (.bl (oddI r != oddI xs)), some (.int (j : Nat)), s4] ∧ Same H Z ∧ Z l = some (.lst (xs.map V.int)) ∧ Ord m xs ∧ (∀ i, i < j → xs.getD i 0 = (i : Int)) ∧ unf xs = m', fun _ _ h => h, ?_⟩
        have iv := ord_get Ox hjx
        have iv0 := iv.1
        have iv1 := iv.2
        obtain ⟨g, eg⟩ := Int.eq_ofNat_of_zero_le iv0
        rw [eg] at iv1 ne g0
        have hg : g < xs.length := by omega
        have gj : g ≠ j := fun z => ne (by rw [z])
        refine ⟨_, rfl, _, rfl, l, _, (j : Nat), _, rfl, rfl, SqL.of hl, g0, ?_⟩
        have g1 : atI (xs.map V.int) ((g : Nat) : Int) = some (.int (xs.getD g 0)) := by
          have := atI_int (xs := xs) (v := ((g : Nat) : Int)) (by omega) (by omega)
          rwa [Int.toNat_natCast] at this
        refine ⟨_, rfl, _, rfl, l, _, (g : Nat), _, rfl, rfl, SqL.of hl, g1, _, rfl, _, rfl, _, rfl, by show 3 ≤ sizeLine; decide, fun T nT => ?_⟩
        have sT := same_new (o := .tup [.int (xs.getD g 0), .int (g : Nat), .bl (!(oddI r != oddI xs))]) nT
        have hl1 := sT _ _ hl
        have nl1 : ∀ (b : Addr) (o : HO), H b = some o → b ≠ l := fun b o e => ne_of_none e nl
        refine ⟨T, _, rfl, SqT.of upd_same, rfl, _, _, rfl, _, rfl, _, rfl, l, _, (j : Nat), j, rfl, rfl, hl1, ixN_pos (by omega) (by rw [List.length_map]; omega), _, _, rfl, _, rfl, _, rfl, l, _, (g : Nat), g, rfl, rfl, upd_same, ?_, _, _, rfl, rfl, ?_⟩
        · have := ixN_pos (n := (xs.map V.int).length) (s := (g : Int)) (by omega) (by rw [List.length_map]; omega)
          rw [Int.toNat_natCast] at this
          rw [List.length_set]
          exact this
        · refine ⟨unf (sw2 xs j g), unf_less Ox hjx hg eg gj, sw2 xs j g, some (.int (g : Nat)), ?_, fun b o e => ?_, ?_, ord_sw2 Ox hjx hg, fun i hi => ?_, rfl⟩
          · have eo : (!(oddI r != oddI xs)) = (oddI r != oddI (sw2 xs j g)) := by
              rw [oddI_sw2 Ox.nd hjx hg fun z => gj z.symm]
              cases oddI r <;> cases oddI xs <;> rfl
            rw [← eo]
            rfl
          · rw [upd_ne (nl1 b o e), upd_ne (nl1 b o e)]
            exact sT _ _ (sa _ _ e)
          · rw [upd_same]
            unfold sw2
            rw [List.map_set, List.map_set, eg]
          · have ig : i ≠ g := fun z => by
              have q := hx i hi
              have := ord_inj Ox (i := i) (j := j) (by omega) hjx (by rw [q, eg, z])
              omega
            rw [sw2_at hjx hg, if_neg ig, if_neg (by omega)]
            exact hx i hi
      · have e : xs.getD j 0 = (j : Int) := by
          have y : ¬ (!decide (V.int (xs.getD j 0) = V.int ((j : Nat) : Int))) = true := y
          rw [Bool.not_eq_true, Bool.not_eq_false', decide_eq_true_iff] at y
          exact V.int.inj y
        refine ⟨xs, some (.int (j : Nat)), s4, rfl, sa, hl, Ox, fun i hi => ?_⟩
        by_cases z : i = j
        · rw [z]
          exact e
        · exact hx i (by omega)
    · rintro σ Hb ⟨xs, s3, s4, rfl, sa, hl, Ox, hx⟩
      have lx := Ox.len
      rw [show (((r.map V.int).length : Int)).toNat = r.length by rw [Int.toNat_natCast, List.length_map]] at hx
      refine ⟨_, rfl, ?_⟩
      rw [home_even (xs := xs) fun i hi => hx i (by omega), Bool.bne_false]
      exact k Hb sa
end
end Sw
namespace Sw
open PySem PySem.Spec PyProof.Rows L2
/-- no error -/
def noX : D → Bool
  | .exc _ _ _ => false
  | _ => true
/-- repr(x), x of any plain kind -/
def rReprD (K : PySem.W.Frag) : List V → Hp → VK → Prop := fun xs H Q => ∃ x dd as, xs = [x] ∧ Rep K H dd x as ∧ noX dd = true ∧ small dd ∧ wt dd ≤ 10000000 ∧ dep dd ≤ 30 ∧ Q (.str (shown dd)) H
theorem call_reprD {X : Cx} {k : Nat} (hr : Room k X.A) (hg : X.A.guards = some []) : CallR X (.builtin "repr") (rReprD X.K) := by
  intro pins s σ H xs us Q I r h
  obtain ⟨x, dd, as, rfl, hd, nx, sm, z, dp, q⟩ := h
  have un := hr.units
  have dict : ∀ (a : Addr) (kvs : List (Key × V)) (ks : List Key) (ds : List D) (bs : List Addr), x = .ref a → H a = some (.dK kvs) → kvs.map Prod.fst = ks → RepAll X.K H ds (kvs.map Prod.snd) bs → a ∉ bs → (∀ k ∈ ks, keyOk k) → smallAll ds → keysWt ks + wtAll ds + 2 ≤ 10000000 → depAll ds ≤ 30 →
      Q (.str (dictText (entTxt ks (shownAll ds)))) H → wpAny (model X.prog X.w) X.A (call (.builtin "repr") us) (EP X pins σ Q) X.xe s := by
    intro a kvs ks ds bs ex ha ek ra na ok sm z dp q
    subst ex
    obtain ⟨u, rfl, hu⟩ := vals1 r
    cases (show u = Value.ref a from hu)
    obtain ⟨_, hs, vs, kv, o, es, ep, h1, h2, h3, h4⟩ := (show ObjOk X.prog X.w H s.heap a (.dK kvs) from I.hok a _ ha)
    have pr : Pairs (mixKind X.prog X.w) es.toList vs := h4.2.1
    obtain ⟨us2, rv, eu, ky⟩ := kv_vals kv pr
    have kr := RepAll.shows I.hok I.kIn ra rv sm (by rw [sizeLine_eq]; omega) (depAll ds) (Nat.le_refl _)
    rw [ek] at ky
    rw [eu] at kr
    have hsh : (dictText (entTxt ks (shownAll ds))).length ≤ sizeLine := by
      have h1 := dictText_len (entTxt ks (shownAll ds))
      obtain ⟨h2, h3⟩ := entTxt_len ks (shownAll ds)
      have h4 := shownAll_wt ds
      rw [sizeLine_eq]
      omega
    refine call_repr_slot (by omega) ⟨o, h1, h2.1⟩ PySem.F.slot_dict_repr ?_
    exact call_dict_reprK (h₀ := s.heap) (d := depAll ds) h1 h2.1 h3 hs na (ents_of ky ok kr) (g := []) hg (fun b _ => Clear.nil b) (by show X.A.units + 1 + _ < cLine; omega) (fun _ _ e => e) (fun h' u tk hk => ⟨_, _, rfl, .str _, H, I.kept (t' := tk) hk, ⟨_, rfl⟩, q⟩) hsh
  cases dd with
  | non =>
    simp only [Rep] at hd
    obtain ⟨rfl, rfl⟩ := hd
    obtain ⟨u, rfl, hu⟩ := vals1 r
    cases (show u = Value.none from hu)
    exact PySem.P.repr_of_none ⟨.str _, H, I.tok _, ⟨_, rfl⟩, q⟩
  | bl b =>
    simp only [Rep] at hd
    obtain ⟨rfl, rfl⟩ := hd
    obtain ⟨u, rfl, hu⟩ := vals1 r
    cases (show u = Value.bool b from hu)
    exact PySem.P.repr_of_bool ⟨.str _, H, I.tok _, ⟨_, rfl⟩, q⟩
  | int i =>
    simp only [Rep] at hd
    obtain ⟨rfl, rfl⟩ := hd
    obtain ⟨u, rfl, t, rfl⟩ := vals1 r
    exact PySem.P.repr_of_int (by simpa only [small] using sm) ⟨.str _, H, I.tok _, ⟨_, rfl⟩, q⟩
  | str y =>
    simp only [Rep] at hd
    obtain ⟨rfl, rfl⟩ := hd
    obtain ⟨u, rfl, hu⟩ := vals1 r
    obtain ⟨t, rfl⟩ := (show ∃ t, u = Value.str y t from hu)
    simp only [wt] at z
    exact PySem.P.repr_of_str ⟨.str _, H, I.tok _, ⟨_, rfl⟩, q⟩ (by rw [sizeLine_eq]; omega)
  | tup ds => exact call_reprT hr hg pins s σ H _ us Q I r ⟨x, ds, as, rfl, hd, by simpa only [small] using sm, by simp only [wt] at z; omega, by simp only [dep] at dp; omega, q⟩
  | lst ds => exact call_repr hr hg pins s σ H _ us Q I r ⟨x, ds, as, rfl, hd, by simpa only [small] using sm, by simp only [wt] at z; omega, by simp only [dep] at dp; omega, q⟩
  | dct =>
    simp only [Rep] at hd
    obtain ⟨a, ex, ha, ea⟩ := hd
    have e0 : dictText (entTxt [] (shownAll [])) = ("{}" : Str) := by decide +kernel
    exact dict a [] [] [] [] ex ha rfl (by simp [RepAll]) (by simp) (fun _ h => absurd h (by simp)) (by simp [smallAll]) (by simp [keysWt, wtAll]) (by simp [depAll]) (by rw [e0]; exact q)
  | dx ks ds =>
    simp only [Rep] at hd
    obtain ⟨a, kvs, bs, ex, ha, ek, ra, na, ea⟩ := hd
    simp only [small] at sm
    simp only [wt] at z
    simp only [dep] at dp
    exact dict a kvs ks ds bs ex ha ek ra na sm.1 sm.2 z (by omega) q
  | exc C n m => cases nx
end Sw
namespace Sw
open PySem PySem.Spec PyProof.Rows L2 LamX
/-! ### _law_is_half -/
def PapH (ap : Bool) (H : Hp) (v : V) : Prop := (ap = false ∧ v = .non) ∨ (ap = true ∧ ∃ p, v = .ref p ∧ H p = some (.tup [.str "sign"]))
theorem PapH.keep {ap : Bool} {H H' : Hp} {v : V} (h : PapH ap H v) (s : Same H H') : PapH ap H' v := by
  rcases h with h | ⟨e, p, e2, hp⟩
  · exact .inl h
  · exact .inr ⟨e, p, e2, s _ _ hp⟩
def papD : Bool → D
  | true => .tup [.str "sign"]
  | false => .non
theorem rep_blH {K : PySem.W.Frag} {H : Hp} (b : Bool) : Rep K H (.bl b) (.bl b) [] := by
  simp [Rep]
theorem rep_nonH {K : PySem.W.Frag} {H : Hp} : Rep K H .non .non [] := by
  simp [Rep]
theorem repA_nil {K : PySem.W.Frag} {H : Hp} : RepAll K H [] [] [] := by
  simp [RepAll]
theorem repA_cons {K : PySem.W.Frag} {H : Hp} {d : D} {ds : List D} {v : V} {vs : List V} {as bs : List Addr} (h : Rep K H d v as) (g : RepAll K H ds vs bs) : RepAll K H (d :: ds) (v :: vs) (as ++ bs) := by
  simp only [RepAll]
  exact ⟨_, _, _, _, rfl, h, g, rfl⟩
theorem rep_lstH {K : PySem.W.Frag} {H : Hp} {l : Addr} {ds : List D} {vs : List V} {bs : List Addr} (hl : H l = some (.lst vs)) (g : RepAll K H ds vs bs) (n : l ∉ bs) : Rep K H (.lst ds) (.ref l) (l :: bs) := by
  simp only [Rep]
  exact ⟨_, _, _, rfl, hl, g, n, rfl⟩
theorem rep_signH {K : PySem.W.Frag} {H : Hp} {p : Addr} (h : H p = some (.tup [.str "sign"])) : Rep K H (.tup [.str "sign"]) (.ref p) [p] := by
  simp only [Rep, RepAll]
  exact ⟨p, _, [], rfl, h, ⟨_, _, [], [], rfl, ⟨rfl, rfl⟩, ⟨rfl, rfl⟩, rfl⟩, by simp, rfl⟩
theorem rep_papH {K : PySem.W.Frag} {H : Hp} {ap : Bool} {v : V} (h : PapH ap H v) : ∃ as, Rep K H (papD ap) v as ∧ ∀ a ∈ as, H a = some (.tup [.str "sign"]) := by
  rcases h with ⟨rfl, rfl⟩ | ⟨rfl, p, rfl, hp⟩
  · exact ⟨[], rep_nonH, fun a z => nomatch z⟩
  · refine ⟨[p], rep_signH hp, fun a z => ?_⟩
    rw [List.mem_singleton.mp z]
    exact hp
theorem repA_bls {K : PySem.W.Frag} {H : Hp} : ∀ bs : List Bool, RepAll K H (bs.map D.bl) (bs.map V.bl) []
  | [] => repA_nil
  | b :: r => repA_cons (as := []) (rep_blH b) (repA_bls r)
def heldB (ap : Bool) : List Bool := [ap, false, false, false, false, false, false, false]
theorem heldB_eq (ap : Bool) : (heldB ap).map V.bl = heldV ap := rfl
def twoD (ap : Bool) : List D := [.bl (!ap), papD ap]
def threeD (ap : Bool) : List D := [.bl (!ap), papD ap, .lst ((heldB ap).map D.bl)]
theorem rep_twoH {K : PySem.W.Frag} {H : Hp} {ap : Bool} {L : Addr} {v : V} (hL : H L = some (.lst [.bl (!ap), v])) (h : PapH ap H v) : ∃ as, Rep K H (.lst (twoD ap)) (.ref L) as := by
  obtain ⟨as, r, al⟩ := rep_papH (K := K) h
  refine ⟨_, rep_lstH hL (repA_cons (rep_blH _) (repA_cons r repA_nil)) fun z => ?_⟩
  rw [List.nil_append, List.append_nil] at z
  have := al _ z
  rw [hL] at this
  cases this
theorem rep_threeH {K : PySem.W.Frag} {H : Hp} {ap : Bool} {L D1 : Addr} {v : V} (hL : H L = some (.lst [.bl (!ap), v, .ref D1])) (hD : H D1 = some (.lst (heldV ap))) (h : PapH ap H v) : ∃ as, Rep K H (.lst (threeD ap)) (.ref L) as := by
  obtain ⟨as, r, al⟩ := rep_papH (K := K) h
  refine ⟨_, rep_lstH hL (repA_cons (rep_blH _) (repA_cons r (repA_cons (rep_lstH (ds := (heldB ap).map D.bl) (by rw [heldB_eq]; exact hD) (repA_bls _) (fun z => nomatch z)) repA_nil))) fun z => ?_⟩
  rw [List.nil_append, List.append_nil] at z
  rcases List.mem_append.mp z with z | z
  · have := al _ z
    rw [hL] at this
    cases this
  · rw [List.mem_singleton.mp z, hD] at hL
    have := congrArg List.length (HO.lst.inj (Option.some.inj hL))
    exact absurd (show 8 = 3 from this) (by decide)
theorem few_two (ap : Bool) : smallAll (twoD ap) ∧ wtAll (twoD ap) ≤ 10000000 ∧ depAll (twoD ap) ≤ 30 := by
  have : (reprText "sign").length ≤ 10 := by decide +kernel
  cases ap
  · refine ⟨by simp [twoD, papD, smallAll, small], by simp only [twoD, papD, wtAll, wt]; omega, by simp only [twoD, papD, depAll, dep]; omega⟩
  · refine ⟨by simp [twoD, papD, smallAll, small], by simp only [twoD, papD, wtAll, wt]; omega, by simp only [twoD, papD, depAll, dep]; omega⟩
theorem few_three (ap : Bool) : smallAll (threeD ap) ∧ wtAll (threeD ap) ≤ 10000000 ∧ depAll (threeD ap) ≤ 30 := by
  have : (reprText "sign").length ≤ 10 := by decide +kernel
  cases ap
  · refine ⟨by simp [threeD, heldB, papD, smallAll, small], by simp only [threeD, heldB, List.map_cons, List.map_nil, papD, wtAll, wt]; omega, by simp only [threeD, heldB, List.map_cons, List.map_nil, papD, depAll, dep]; omega⟩
  · refine ⟨by simp [threeD, heldB, papD, smallAll, small], by simp only [threeD, heldB, List.map_cons, List.map_nil, papD, wtAll, wt]; omega, by simp only [threeD, heldB, List.map_cons, List.map_nil, papD, depAll, dep]; omega⟩
theorem TwoH.swap {n : Int} {H : Hp} {a b s1 s2 : Addr} {ts : List V} {ars : List (Int × Int)} {sh : Int → Int} {r1 r2 : List Int} {v1 v2 : Int} (T : TwoH n H a b s1 s2 ts ars sh r1 r2 v1 v2) : TwoH n H a b s2 s1 ts ars sh r2 r1 v2 v1 := ⟨T.W, T.S2, T.S1⟩
theorem apart_swap {sh : Int → Int} {r1 r2 : List Int} {v1 v2 : Int} : apartI sh r2 r1 v2 v1 = apartI sh r1 r2 v1 v2 := by
  unfold apartI
  have e1 : decide (sh v2 ≠ sh v1) = decide (sh v1 ≠ sh v2) := by
    rw [Bool.eq_iff_iff, decide_eq_true_iff, decide_eq_true_iff]
    exact ⟨fun c z => c z.symm, fun c z => c z.symm⟩
  rw [e1]
  cases oddI r1 <;> cases oddI r2 <;> cases decide (sh v1 ≠ sh v2) <;> rfl
section
variable {P : Program} {w : World} {K : PySem.W.Frag} {mg : Str → Option Value} {base : Heap}
abbrev sIsHalf : Stmt := top 62
abbrev nIsHalf : List Str := ["web", "shade", "here", "there", "is_named", "is_full", "due", "wanted"]
theorem scIsHalf : FnScope nIsHalf ["web", "shade", "here", "there", "is_named", "is_full"] (defScope sIsHalf) := ⟨rfl, rfl, rfl, by decide +kernel, rfl, by decide +kernel, by decide +kernel⟩
def spIsHalf (tb : Addr) : Sp := fun vs H Q _ => ∃ (n : Int) (a b s1 s2 dd : Addr) (kvs : List (Key × V)) (ts : List V) (ars : List (Int × Int)) (sh : Int → Int) (r1 r2 : List Int) (v1 v2 : Int) (nm fu : Bool), vs = [.ref a, .ref dd, .ref s1, .ref s2, .bl nm, .bl fu] ∧ TwoH n H a b s1 s2 ts ars sh r1 r2 v1 v2 ∧ n ≤ 12 ∧ H dd = some (.dK kvs) ∧
  (∀ v, Inn n v → valV kvs (.inl v : Key) = some (.int ((sh v + sh 0) % 2))) ∧ Tabs (lamT tb) H ∧ ∀ (H' : Hp), ExtN H H' → Tabs (lamT tb) H' → Q (.bl true) H'
theorem ok_isHalf {f tb : Addr} {fd : FuncData} (F : Fun K "_law_is_half" "_law_is_half" sIsHalf f fd) (B : NoNames mg) (OS : Own P w K mg base 1 "_law_sign" ["row"] (spSignW K)) (OC : OwnXK P w K mg base 12 "comes" ["net", "one", "other"] ["other", "net", "one"] g312 g312 (spComesH tb)) (OB : OwnXK P w K mg base 11 "bar" ["net", "one", "other"] ["other", "net", "one"] g312 g312 (spBarH tb))
    (OE : Own P w K mg base 13 "_law_seen" ["web", "here", "there", "is_named"] (spSeenH tb)) : FnG P w K mg base 14 f fd ["web", "shade", "here", "there", "is_named", "is_full"] (spIsHalf tb) := by
  obtain ⟨fS, fdS, GS, mS, kS, bS⟩ := OS.ex
  obtain ⟨fC, fdC, GC, mC, kC, bC, wC⟩ := OC.ex
  obtain ⟨fB, fdB, GB, mB, kB, bB, wB⟩ := OB.ex
  obtain ⟨fE, fdE, GE, mE, kE, bE⟩ := OE.ex
  refine Fun.okG F scIsHalf (fun vs H Q E h => ?_) (fun cdv A outer s H vs Q E hr hgd h => ?_)
  · obtain ⟨n, a, b, s1, s2, dd, kvs, ts, ars, sh, r1, r2, v1, v2, nm, fu, rfl, _⟩ := h
    rfl
  · obtain ⟨n, a, b, s1, s2, dd, kvs, ts, ars, sh, r1, r2, v1, v2, nm, fu, rfl, T0, n12, hdd, val, hT, q⟩ := h
    have hr1 := hr.mono (by decide : 1 ≤ 13)
    have hr11 := hr.mono (by decide : 11 ≤ 13)
    have hr12 := hr.mono (by decide : 12 ≤ 13)
    have hu := hu_ofW hr
    refine ⟨_, pss_cons (ps_set (i := 6) scIsHalf.nd rfl (.inl rfl) (pe_cmpR op_eq (pe_cmpR op_eq (pe_call GS hr1 rfl mS kS bS .nil pass0 (pa_cons (pe_ix (r := rIxT K) ix_tup (pv 2) pe_int (fun _ _ => rfl)) pa_nil)) (pe_call GS hr1 rfl mS kS bS .nil pass0 (pa_cons (pe_ix (r := rIxT K) ix_tup (pv 3) pe_int (fun _ _ => rfl)) pa_nil)) (nomark _))
          (pe_cmpR op_eq (pe_dget hu (pv 1) (pe_ix (r := rIxT K) ix_tup (pv 2) pe_int (fun _ _ => rfl)) (fun _ _ => rfl)) (pe_dget hu (pv 1) (pe_ix (r := rIxT K) ix_tup (pv 3) pe_int (fun _ _ => rfl)) (fun _ _ => rfl)) (nomark _)) (nomark _))) <|
      pss_cons (ps_if (pt_not (pt_val (pv 5))) (pss_one (ps_ret (pe_cmpR op_eq
          (pe_callB (call_repr hr hgd) (by rfl) B.repr (by decide +kernel) (pa_cons (pe_lst (pa_cons (pe_callS (E := fun _ _ _ _ => False) GC hr12 (by rfl) mC kC bC passF (pa_cons (pv 0) (pa_cons (pv 2) (pa_cons (pv 3) pa_nil)))) (pa_cons (pe_callS (E := fun _ _ _ _ => False) GB hr11 (by rfl) mB kB bB passF (pa_cons (pv 0) (pa_cons (pv 3) (pa_cons (pv 2) pa_nil)))) pa_nil))) pa_nil))
          (pe_callB (call_repr hr hgd) (by rfl) B.repr (by decide +kernel) (pa_cons (pe_lst (pa_cons (pv 6) (pa_cons (pe_ifExp (pt_val (pv 6)) pe_non (pe_tup (pa_cons pe_str pa_nil))) pa_nil))) pa_nil)) (nomark _)))) pss_nil) <|
      pss_cons (ps_set (i := 7) scIsHalf.nd rfl (.inl rfl) (pe_callB (call_repr hr hgd) (by rfl) B.repr (by decide +kernel) (pa_cons (pe_lst (pa_cons (pv 6) (pa_cons (pe_ifExp (pt_val (pv 6)) pe_non (pe_tup (pa_cons pe_str pa_nil))) (pa_cons (pe_op op_cat (pe_lst (pa_cons (pe_not (pv 6)) pa_nil)) (pe_op op_rep (pe_lst (pa_cons pe_bl pa_nil)) pe_int)) pa_nil)))) pa_nil))) <|
      pss_one (ps_ret (pe_cmpR op_eq (pe_callB (call_repr hr hgd) (by rfl) B.repr (by decide +kernel) (pa_cons (pe_call GE hr rfl mE kE bE .nil pass0 (pa_cons (pv 0) (pa_cons (pv 2) (pa_cons (pv 3) (pa_cons (pv 4) pa_nil))))) pa_nil)) (pv 7) (nomark _))), ?_⟩
    obtain ⟨w1, g1, g2⟩ := T0.S1.ex
    obtain ⟨w2, g3, g4⟩ := T0.S2.ex
    refine ⟨_, rfl, s1, _, 0, .ref w1, rfl, rfl, SqT.of g1, at_of (j := 0) rfl rfl, w1, r1, n + 1, rfl, .inl g2, T0.S1.R, by omega, fun H1 z1 => ?_⟩
    refine ⟨_, rfl, s2, _, 0, .ref w2, rfl, rfl, SqT.of (z1 _ _ g3), at_of (j := 0) rfl rfl, w2, r2, n + 1, rfl, .inl ((TupS.of z1).rd g4), T0.S2.R, by omega, fun H2 z2 => ?_⟩
    have zz := z1.trans z2
    have T2 := T0.keep (.of zz)
    have hT2 := hT.ext zz
    have hd2 := zz _ _ hdd
    have x2 : ExtN H H2 := .of zz
    refine ⟨rfl, _, rfl, _, rfl, s1, _, 1, .int v1, rfl, rfl, SqT.of (zz _ _ g1), at_of (j := 1) rfl rfl, dd, _, rfl, by rw [← val v1 T0.S1.v]; exact DGet.k (k := .inl v1) hd2, ?_⟩
    refine ⟨_, rfl, _, rfl, s2, _, 1, .int v2, rfl, rfl, SqT.of (zz _ _ g3), at_of (j := 1) rfl rfl, dd, _, rfl, by rw [← val v2 T0.S2.v]; exact DGet.k (k := .inl v2) hd2, rfl, rfl, ?_⟩
    have e : decide (V.bl (decide (V.bl (oddI r1) = V.bl (oddI r2))) = V.bl (decide (V.int ((sh v1 + sh 0) % 2) = V.int ((sh v2 + sh 0) % 2)))) = !apartI sh r1 r2 v1 v2 := by
      have a1 := T0.W.C.two v1
      have a2 := T0.W.C.two v2
      have a0 := T0.W.C.two 0
      unfold apartI
      have e1 : decide (V.int ((sh v1 + sh 0) % 2) = V.int ((sh v2 + sh 0) % 2)) = decide (sh v1 = sh v2) := by
        by_cases z : sh v1 = sh v2
        · rw [z, decide_eq_true rfl, decide_eq_true rfl]
        · rw [decide_eq_false z, decide_eq_false (by rw [V.int.injEq]; omega)]
      rw [e1]
      have e2 : decide (sh v1 ≠ sh v2) = !decide (sh v1 = sh v2) := by simp
      rw [e2]
      cases oddI r1 <;> cases oddI r2 <;> cases decide (sh v1 = sh v2) <;> decide
    rw [e]
    clear e val hd2 hdd g1 g2 g3 g4 z1 z2 zz
    generalize hap : apartI sh r1 r2 v1 v2 = ap
    have hap2 : apartI sh r2 r1 v2 v1 = ap := by rw [apart_swap]; exact hap
    have so : ∀ x : Str, decide (V.str x = V.str x) = true := fun x => decide_eq_true rfl
    cases fu with
    | false =>
      refine ⟨_, rfl, false, rfl, iteT ?_⟩
      refine ⟨_, rfl, _, rfl, _, rfl, n, a, b, s1, s2, ts, ars, sh, r1, r2, v1, v2, rfl, T2, hT2, fun H3 x3 T3 => ?_⟩
      rw [hap]
      have TT3 := T2.keep (TupS.extG x3)
      have f2 := few_two ap
      refine ⟨_, rfl, _, rfl, _, rfl, n, a, b, s2, s1, ts, ars, sh, r2, r1, v2, v1, rfl, TT3.swap, T3, fun e Z xz Tz => ?_, fun e p Z xz Tz hp => ?_⟩
      · rw [hap2] at e
        subst e
        refine ⟨by show 2 ≤ sizeLine; decide, fun L nL => ?_⟩
        have sL := same_new (o := .lst [.bl (!false), .non]) nL
        obtain ⟨as, rp⟩ := rep_twoH (K := K) (ap := false) (v := .non) (upd_same (H := Z) (a := L) (o := .lst [.bl (!false), .non])) (.inl ⟨rfl, rfl⟩)
        refine ⟨_, _, as, rfl, rp, f2.1, f2.2.1, f2.2.2, ?_⟩
        generalize (upd Z L (.lst [.bl (!false), .non])) = Z1 at sL ⊢
        clear rp
        refine ⟨_, rfl, _, rfl, !false, rfl, iteT ⟨by show 2 ≤ sizeLine; decide, fun M nM => ?_⟩⟩
        have sM := same_new (o := .lst [.bl (!false), .non]) nM
        obtain ⟨as2, rp2⟩ := rep_twoH (K := K) (ap := false) (v := .non) (upd_same (H := Z1) (a := M) (o := .lst [.bl (!false), .non])) (.inl ⟨rfl, rfl⟩)
        refine ⟨_, _, as2, rfl, rp2, f2.1, f2.2.1, f2.2.2, rfl, ?_⟩
        rw [so]
        exact q _ ((((x2.trans x3).trans xz).trans (.of sL)).trans (.of sM)) ((Tz.ext sL).ext sM)
      · rw [hap2] at e
        subst e
        refine ⟨by show 2 ≤ sizeLine; decide, fun L nL => ?_⟩
        have sL := same_new (o := .lst [.bl (!true), .ref p]) nL
        obtain ⟨as, rp⟩ := rep_twoH (K := K) (ap := true) (v := .ref p) (upd_same (H := Z) (a := L) (o := .lst [.bl (!true), .ref p])) (.inr ⟨rfl, p, rfl, sL _ _ hp⟩)
        refine ⟨_, _, as, rfl, rp, f2.1, f2.2.1, f2.2.2, ?_⟩
        generalize (upd Z L (.lst [.bl (!true), .ref p])) = Z1 at sL ⊢
        clear rp
        refine ⟨_, rfl, _, rfl, !true, rfl, iteF ⟨by show 1 ≤ sizeLine; decide, fun pp np => ⟨by show 2 ≤ sizeLine; decide, fun M nM => ?_⟩⟩⟩
        have sP := same_new (o := .tup [.str "sign"]) np
        have sM := same_new (o := .lst [.bl (!true), .ref pp]) nM
        obtain ⟨as2, rp2⟩ := rep_twoH (K := K) (ap := true) (v := .ref pp) (upd_same (H := upd Z1 pp (.tup [.str "sign"])) (a := M) (o := .lst [.bl (!true), .ref pp])) (.inr ⟨rfl, pp, rfl, sM _ _ upd_same⟩)
        refine ⟨_, _, as2, rfl, rp2, f2.1, f2.2.1, f2.2.2, rfl, ?_⟩
        rw [so]
        exact q _ ((((x2.trans x3).trans xz).trans (.of sL)).trans (.of (sP.trans sM))) ((Tz.ext sL).ext (sP.trans sM))
    | true =>
      refine ⟨_, rfl, true, rfl, iteF ?_⟩
      have f3 := few_three ap
      refine ⟨_, rfl, _, rfl, !ap, rfl, ?_⟩
      cases hc : ap with
      | false =>
        subst hc
        refine iteT ?_
        refine ⟨_, rfl, !false, rfl, by show 1 ≤ sizeLine; decide, fun l1 n1 => ⟨by show 1 ≤ sizeLine; decide, fun l2 n2 => ⟨l2, 7, [.bl false], rfl, rfl, upd_same, by decide, by decide, by show 1 * 7 ≤ sizeLine; decide, fun l3 n3 => ?_⟩⟩⟩
        have q1 := same_new (o := .lst [.bl (!!false)]) n1
        have q2 := same_new (o := .lst [.bl false]) n2
        have q3 := same_new (o := .lst (List.replicate (7 : Int).toNat [.bl false]).flatten) n3
        have h1 := (q2.trans q3) _ _ (upd_same (H := H2) (a := l1) (o := .lst [.bl (!!false)]))
        refine ⟨l1, l3, _, _, rfl, rfl, h1, upd_same, by show 1 + 7 ≤ sizeLine; decide, fun D nD => ⟨by show 3 ≤ sizeLine; decide, fun L nL => ?_⟩⟩
        have q4 := same_new (o := .lst ([.bl (!!false)] ++ (List.replicate (7 : Int).toNat [.bl false]).flatten)) nD
        have q5 := same_new (o := .lst [.bl (!false), .non, .ref D]) nL
        have qq := (q1.trans (q2.trans q3)).trans (q4.trans q5)
        obtain ⟨as, rp⟩ := rep_threeH (K := K) (ap := false) (v := .non) (D1 := D) (upd_same (a := L) (o := .lst [.bl (!false), .non, .ref D])) (q5 _ _ (upd_same (a := D) (o := .lst (heldV false)))) (.inl ⟨rfl, rfl⟩)
        refine ⟨_, _, as, rfl, rp, f3.1, f3.2.1, f3.2.2, ?_⟩
        have xA : ExtN H2 _ := .of qq
        have TA := hT2.ext qq
        refine ⟨_, rfl, _, rfl, _, rfl, _, rfl, n, a, b, s1, s2, ts, ars, sh, r1, r2, v1, v2, nm, rfl, T2.keep (TupS.extG xA), TA, fun M Z xz Tz so_ => ?_⟩
        rw [hap] at so_
        obtain ⟨v, D2, hM, hD2, hv⟩ := so_
        obtain ⟨as2, rp2⟩ := rep_threeH (K := K) hM hD2 hv
        refine ⟨_, _, as2, rfl, rp2, f3.1, f3.2.1, f3.2.2, _, rfl, rfl, ?_⟩
        rw [so]
        exact q _ ((x2.trans xA).trans xz) Tz
      | true =>
        subst hc
        refine iteF ⟨by show 1 ≤ sizeLine; decide, fun pp np => ?_⟩
        have qp := same_new (o := .tup [.str "sign"]) np
        refine ⟨_, rfl, !true, rfl, by show 1 ≤ sizeLine; decide, fun l1 n1 => ⟨by show 1 ≤ sizeLine; decide, fun l2 n2 => ⟨l2, 7, [.bl false], rfl, rfl, upd_same, by decide, by decide, by show 1 * 7 ≤ sizeLine; decide, fun l3 n3 => ?_⟩⟩⟩
        have q1 := same_new (o := .lst [.bl (!!true)]) n1
        have q2 := same_new (o := .lst [.bl false]) n2
        have q3 := same_new (o := .lst (List.replicate (7 : Int).toNat [.bl false]).flatten) n3
        have h1 := (q2.trans q3) _ _ (upd_same (H := upd H2 pp (.tup [.str "sign"])) (a := l1) (o := .lst [.bl (!!true)]))
        refine ⟨l1, l3, _, _, rfl, rfl, h1, upd_same, by show 1 + 7 ≤ sizeLine; decide, fun D nD => ⟨by show 3 ≤ sizeLine; decide, fun L nL => ?_⟩⟩
        have q4 := same_new (o := .lst ([.bl (!!true)] ++ (List.replicate (7 : Int).toNat [.bl false]).flatten)) nD
        have q5 := same_new (o := .lst [.bl (!true), .ref pp, .ref D]) nL
        have qq := (q1.trans (q2.trans q3)).trans (q4.trans q5)
        obtain ⟨as, rp⟩ := rep_threeH (K := K) (ap := true) (v := .ref pp) (D1 := D) (upd_same (a := L) (o := .lst [.bl (!true), .ref pp, .ref D])) (q5 _ _ (upd_same (a := D) (o := .lst (heldV true)))) (.inr ⟨rfl, pp, rfl, qq _ _ upd_same⟩)
        refine ⟨_, _, as, rfl, rp, f3.1, f3.2.1, f3.2.2, ?_⟩
        have xA : ExtN H2 _ := .of (qp.trans qq)
        have TA := hT2.ext (qp.trans qq)
        refine ⟨_, rfl, _, rfl, _, rfl, _, rfl, n, a, b, s1, s2, ts, ars, sh, r1, r2, v1, v2, nm, rfl, T2.keep (TupS.extG xA), TA, fun M Z xz Tz so_ => ?_⟩
        rw [hap] at so_
        obtain ⟨v, D2, hM, hD2, hv⟩ := so_
        obtain ⟨as2, rp2⟩ := rep_threeH (K := K) hM hD2 hv
        refine ⟨_, _, as2, rfl, rp2, f3.1, f3.2.1, f3.2.2, _, rfl, rfl, ?_⟩
        rw [so]
        exact q _ ((x2.trans xA).trans xz) Tz
end
end Sw
namespace Sw
open PySem L2
/-! ### nets by ears: the numbers alone -/
def Rea (es : List (Int × Int)) (u v : Int) : Prop := ∃ k, Rch es k u v
theorem Rea.refl {es : List (Int × Int)} (u : Int) : Rea es u u := ⟨0, .nil u⟩
theorem Rea.trans {es : List (Int × Int)} {u v w : Int} (a : Rea es u v) (b : Rea es v w) : Rea es u w := by
  obtain ⟨k, a⟩ := a
  obtain ⟨j, b⟩ := b
  exact ⟨_, a.app b⟩
theorem Rea.one {es : List (Int × Int)} {u v : Int} (h : (u, v) ∈ es) : Rea es u v := ⟨1, .cons h (.nil v)⟩
theorem Rea.mono {es gs : List (Int × Int)} {u v : Int} (a : Rea es u v) (h : ∀ e ∈ es, e ∈ gs) : Rea gs u v := by
  obtain ⟨k, a⟩ := a
  exact ⟨k, a.mono h⟩
/-- arrows from each to the next -/
def chA (c : List Int) : List (Int × Int) := c.zip c.tail
theorem chA_get {c : List Int} {i : Nat} (h : i + 1 < c.length) : (chA c)[i]? = some (c.getD i 0, c.getD (i + 1) 0) := by
  unfold chA
  rw [List.getElem?_zip_eq_some]
  exact ⟨by rw [List.getElem?_eq_getElem (by omega), gd (by omega)], by rw [List.getElem?_tail, List.getElem?_eq_getElem h, gd h]⟩
theorem chA_len (c : List Int) : (chA c).length = c.length - 1 := by
  unfold chA
  rw [List.length_zip, List.length_tail]
  omega
theorem chA_in {c : List Int} {i : Nat} (h : i + 1 < c.length) : (c.getD i 0, c.getD (i + 1) 0) ∈ chA c := List.mem_of_getElem? (chA_get h)
theorem chA_of {c : List Int} {e : Int × Int} (h : e ∈ chA c) : ∃ i, i + 1 < c.length ∧ e = (c.getD i 0, c.getD (i + 1) 0) := by
  obtain ⟨i, hi, e1⟩ := List.getElem_of_mem h
  have l := chA_len c
  have q := chA_get (c := c) (i := i) (by omega)
  rw [List.getElem?_eq_getElem hi, e1] at q
  exact ⟨i, by omega, Option.some.inj q⟩
theorem ch_way {c : List Int} {i : Nat} : ∀ j, i ≤ j → j < c.length → Rea (chA c) (c.getD i 0) (c.getD j 0)
  | 0, h, _ => by
    obtain rfl : i = 0 := by omega
    exact .refl _
  | j + 1, h, l => by
    by_cases z : i = j + 1
    · rw [z]
      exact .refl _
    · exact (ch_way j (by omega) (by omega)).trans (.one (chA_in l))
/-- joined among themselves -/
structure Ears (os : List Int) (es : List (Int × Int)) : Prop where
  nd : os.Nodup
  inn : ∀ e ∈ es, e.1 ∈ os ∧ e.2 ∈ os ∧ e.1 ≠ e.2
  con : ∀ u ∈ os, ∀ v ∈ os, Rea es u v
def ringE (os : List Int) : List (Int × Int) := (List.range os.length).map fun i => (os.getD i 0, os.getD ((i + 1) % os.length) 0)
theorem ringE_of {os : List Int} {e : Int × Int} (h : e ∈ ringE os) : ∃ i, i < os.length ∧ e = (os.getD i 0, os.getD ((i + 1) % os.length) 0) := by
  obtain ⟨i, hi, rfl⟩ := List.mem_map.mp h
  exact ⟨i, List.mem_range.mp hi, rfl⟩
theorem ringE_in {os : List Int} {i : Nat} (h : i < os.length) : (os.getD i 0, os.getD ((i + 1) % os.length) 0) ∈ ringE os := List.mem_map.mpr ⟨i, List.mem_range.mpr h, rfl⟩
theorem gd_mem {os : List Int} {i : Nat} (h : i < os.length) : os.getD i 0 ∈ os := by
  rw [gd h]
  exact List.getElem_mem h
theorem gd_inj {os : List Int} (nd : os.Nodup) {i j : Nat} (hi : i < os.length) (hj : j < os.length) (e : os.getD i 0 = os.getD j 0) : i = j := by
  rw [gd hi, gd hj] at e
  exact (List.getElem_inj nd).mp e
theorem mem_gd {os : List Int} {v : Int} (h : v ∈ os) : ∃ i, i < os.length ∧ os.getD i 0 = v := by
  obtain ⟨i, hi, e⟩ := List.getElem_of_mem h
  exact ⟨i, hi, by rw [gd hi, e]⟩
theorem Ears.ring {os : List Int} (nd : os.Nodup) (l : 2 ≤ os.length) : Ears os (ringE os) := by
  have up : ∀ i, i < os.length → Rea (ringE os) (os.getD 0 0) (os.getD i 0) := by
    intro i
    induction i with
    | zero => intro _; exact .refl _
    | succ i ih =>
      intro h
      have q := ringE_in (os := os) (i := i) (by omega)
      rw [Nat.mod_eq_of_lt h] at q
      exact (ih (by omega)).trans (.one q)
  have dn : ∀ j i, i + j + 1 = os.length → Rea (ringE os) (os.getD i 0) (os.getD 0 0) := by
    intro j
    induction j with
    | zero =>
      intro i h
      have q := ringE_in (os := os) (i := i) (by omega)
      rw [show (i + 1) % os.length = 0 by rw [show i + 1 = os.length by omega, Nat.mod_self]] at q
      exact .one q
    | succ j ih =>
      intro i h
      have q := ringE_in (os := os) (i := i) (by omega)
      rw [Nat.mod_eq_of_lt (by omega)] at q
      exact (Rea.one q).trans (ih (i + 1) (by omega))
  refine ⟨nd, fun e he => ?_, fun u hu v hv => ?_⟩
  · obtain ⟨i, hi, rfl⟩ := ringE_of he
    have hm := Nat.mod_lt (i + 1) (show 0 < os.length by omega)
    refine ⟨gd_mem hi, gd_mem hm, fun z => ?_⟩
    have := gd_inj nd hi hm z
    by_cases c : i + 1 = os.length
    · rw [c, Nat.mod_self] at this
      omega
    · rw [Nat.mod_eq_of_lt (by omega)] at this
      omega
  · obtain ⟨i, hi, rfl⟩ := mem_gd hu
    obtain ⟨j, hj, rfl⟩ := mem_gd hv
    exact (dn (os.length - 1 - i) i (by omega)).trans (up j hj)
/-- the chain's places -/
theorem ch_mid {b f : Int} {way : List Int} {i : Nat} (h : i < way.length) : (b :: way ++ [f]).getD (i + 1) 0 = way.getD i 0 := by
  rw [List.getD_eq_getElem?_getD, List.getD_eq_getElem?_getD]
  show ((way ++ [f])[i]?).getD 0 = _
  rw [List.getElem?_append_left h]
theorem ch_end {b f : Int} {way : List Int} : (b :: way ++ [f]).getD (way.length + 1) 0 = f := by
  rw [List.getD_eq_getElem?_getD]
  show ((way ++ [f])[way.length]?).getD 0 = _
  rw [List.getElem?_append_right (Nat.le_refl _), Nat.sub_self]
  rfl
theorem ch_len {b f : Int} {way : List Int} : (b :: way ++ [f]).length = way.length + 2 := by
  rw [List.length_append, List.length_cons]
  rfl
theorem Ears.ear {os way : List Int} {es : List (Int × Int)} (E : Ears os es) {b f : Int} (hb : b ∈ os) (hf : f ∈ os) (hw : way ≠ []) (nd : (os ++ way).Nodup) : Ears (os ++ way) (es ++ chA (b :: way ++ [f])) := by
  have pw : 0 < way.length := List.length_pos_iff.mpr hw
  have dis : ∀ x ∈ os, x ∉ way := fun x h1 h2 => (List.nodup_append.mp nd).2.2 x h1 x h2 rfl
  have ndw := (List.nodup_append.mp nd).2.1
  have o1 : ∀ {u v : Int}, Rea es u v → Rea (es ++ chA (b :: way ++ [f])) u v := fun h => h.mono fun e he => List.mem_append_left _ he
  have o2 : ∀ {u v : Int}, Rea (chA (b :: way ++ [f])) u v → Rea (es ++ chA (b :: way ++ [f])) u v := fun h => h.mono fun e he => List.mem_append_right _ he
  have hub : ∀ x ∈ os ++ way, Rea (es ++ chA (b :: way ++ [f])) x f ∧ Rea (es ++ chA (b :: way ++ [f])) f x := fun x hx => by
    rcases List.mem_append.mp hx with h | h
    · exact ⟨o1 (E.con x h f hf), o1 (E.con f hf x h)⟩
    · obtain ⟨i, hi, rfl⟩ := mem_gd h
      rw [← ch_mid (b := b) (f := f) hi]
      constructor
      · have q := ch_way (c := b :: way ++ [f]) (i := i + 1) (way.length + 1) (by omega) (by rw [ch_len]; omega)
        rw [ch_end] at q
        exact o2 q
      · have q := ch_way (c := b :: way ++ [f]) (i := 0) (i + 1) (by omega) (by rw [ch_len]; omega)
        exact (o1 (E.con f hf b hb)).trans (o2 q)
  refine ⟨nd, fun e he => ?_, fun u hu v hv => (hub u hu).1.trans (hub v hv).2⟩
  rcases List.mem_append.mp he with h | h
  · obtain ⟨h1, h2, h3⟩ := E.inn e h
    exact ⟨List.mem_append_left _ h1, List.mem_append_left _ h2, h3⟩
  · obtain ⟨i, hi, rfl⟩ := chA_of h
    rw [ch_len] at hi
    cases i with
    | zero =>
      show b ∈ _ ∧ (b :: way ++ [f]).getD (0 + 1) 0 ∈ _ ∧ b ≠ (b :: way ++ [f]).getD (0 + 1) 0
      rw [ch_mid pw]
      exact ⟨List.mem_append_left _ hb, List.mem_append_right _ (gd_mem pw), fun z => dis b hb (by rw [z]; exact gd_mem pw)⟩
    | succ i =>
      have hi' : i < way.length := by omega
      show (b :: way ++ [f]).getD (i + 1) 0 ∈ _ ∧ (b :: way ++ [f]).getD (i + 1 + 1) 0 ∈ _ ∧ (b :: way ++ [f]).getD (i + 1) 0 ≠ (b :: way ++ [f]).getD (i + 1 + 1) 0
      rw [ch_mid hi']
      by_cases c : i + 1 < way.length
      · rw [ch_mid c]
        refine ⟨List.mem_append_right _ (gd_mem hi'), List.mem_append_right _ (gd_mem c), fun z => ?_⟩
        have := gd_inj ndw hi' c z
        omega
      · rw [show i + 1 + 1 = way.length + 1 by omega, ch_end]
        exact ⟨List.mem_append_right _ (gd_mem hi'), List.mem_append_left _ hf, fun z => dis f hf (by rw [← z]; exact gd_mem hi')⟩
/-- shaded by turns -/
structure Shd (os : List Int) (es : List (Int × Int)) (sh : Int → Int) : Prop where
  alt : ∀ e ∈ es, sh e.1 ≠ sh e.2
  b0 : ∃ u ∈ os, sh u = 0
  b1 : ∃ u ∈ os, sh u = 1
theorem Shd.ring {os : List Int} {sh : Int → Int} (l : 2 ≤ os.length) (ev : os.length % 2 = 0) (h : ∀ i, i < os.length → sh (os.getD i 0) = ((i % 2 : Nat) : Int)) : Shd os (ringE os) sh := by
  refine ⟨fun e he => ?_, ⟨_, gd_mem (i := 0) (by omega), h 0 (by omega)⟩, ⟨_, gd_mem (i := 1) (by omega), h 1 (by omega)⟩⟩
  obtain ⟨i, hi, rfl⟩ := ringE_of he
  have hm := Nat.mod_lt (i + 1) (show 0 < os.length by omega)
  have e1 := h i hi
  have e2 := h _ hm
  show sh (os.getD i 0) ≠ sh (os.getD ((i + 1) % os.length) 0)
  rw [e1, e2]
  by_cases c : i + 1 = os.length
  · rw [c, Nat.mod_self]
    omega
  · rw [Nat.mod_eq_of_lt (show i + 1 < os.length by omega)]
    omega
theorem Shd.ear {os way : List Int} {es : List (Int × Int)} {sh sh' : Int → Int} (S : Shd os es sh) {b f : Int} (inn : ∀ e ∈ es, e.1 ∈ os ∧ e.2 ∈ os) (hb : b ∈ os) (hf : f ∈ os) (hw : way ≠ []) (old : ∀ v ∈ os, sh' v = sh v)
    (two : sh b = 0 ∨ sh b = 1) (new : ∀ i, i < way.length → sh' (way.getD i 0) = (sh b + (i : Int) + 1) % 2) (fin : sh f ≠ (sh b + (way.length : Int)) % 2) : Shd (os ++ way) (es ++ chA (b :: way ++ [f])) sh' := by
  have pw : 0 < way.length := List.length_pos_iff.mpr hw
  obtain ⟨u0, m0, z0⟩ := S.b0
  obtain ⟨u1, m1, z1⟩ := S.b1
  refine ⟨fun e he => ?_, ⟨u0, List.mem_append_left _ m0, by rw [old u0 m0, z0]⟩, ⟨u1, List.mem_append_left _ m1, by rw [old u1 m1, z1]⟩⟩
  rcases List.mem_append.mp he with h | h
  · obtain ⟨h1, h2⟩ := inn e h
    rw [old _ h1, old _ h2]
    exact S.alt e h
  · obtain ⟨i, hi, rfl⟩ := chA_of h
    rw [ch_len] at hi
    cases i with
    | zero =>
      show sh' b ≠ sh' ((b :: way ++ [f]).getD (0 + 1) 0)
      rw [ch_mid pw, old b hb, new 0 pw]
      omega
    | succ i =>
      have hi' : i < way.length := by omega
      show sh' ((b :: way ++ [f]).getD (i + 1) 0) ≠ sh' ((b :: way ++ [f]).getD (i + 1 + 1) 0)
      rw [ch_mid hi', new i hi']
      by_cases c : i + 1 < way.length
      · rw [ch_mid c, new _ c]
        omega
      · rw [show i + 1 + 1 = way.length + 1 by omega, ch_end, old f hf]
        have : (way.length : Int) = (i : Int) + 1 := by omega
        rw [this] at fin
        omega
/-- all stops within: joined -/
theorem Ears.joined {n : Int} {os : List Int} {es gs : List (Int × Int)} (E : Ears os es) (all : ∀ v, Inn n v → v ∈ os) (n1 : 1 ≤ n) (sub : ∀ e ∈ es, e ∈ gs) (inn : ∀ e ∈ gs, Inn n e.1 ∧ Inn n e.2) : Joined n gs := fun v hv => by
  have i0 : Inn n 0 := ⟨by decide, by omega⟩
  obtain ⟨k, a⟩ := (E.con 0 (all 0 i0) v (all v hv)).mono sub
  obtain ⟨j, b⟩ := (E.con v (all v hv) 0 (all 0 i0)).mono sub
  have nx : ∀ b c, c ∈ nextOf gs b ↔ (b, c) ∈ gs := fun b c => next_mem.trans ⟨fun h => h.2, fun h => ⟨(inn _ h).1.1, h⟩⟩
  exact ⟨⟨k, (rch_path nx).mp a⟩, j, (rch_path nx).mp b⟩
end Sw
namespace Sw
open PySem RZ
section
variable {prog : Program} {w : World} {A : Around} {E : Value → Shared → Prop} {s : Shared}
abbrev IsZ (h : Heap) (z TI TO : Addr) (f0 f1 : Value) : Prop :=
  h.get? z = some { cls := .type "zip", dict := none, data := .fields #[f0, f1, .bool false, .ref TI, .ref TO], slots := #[] }
theorem wpAny_loadIfAlive {M : Model} {a : Addr} {Q : Option Obj → Shared → Prop} (h : Q (s.heap.get? a) s) : wpAny M A (loadIfAlive a) Q E s :=
  fun Γ p hΓ => by
    unfold loadIfAlive
    rw [Sem.wp_loadIfAlive, Sem.wp_pure]
    exact h
theorem owned_free {z TI TO : Addr} {f0 : Value} {b1 : Bool} {Q : Bool → Shared → Prop} (hz : IsZ s.heap z TI TO f0 (.bool b1)) (hf : f0 = .none ∨ ∃ T : Nat, f0 = rawInt T)
    (hQ : ∀ (r b' : Bool) (h' : Heap), IsZ h' z TI TO f0 (.bool b') → h'.objs.size = s.heap.objs.size → (∀ c o, c ≠ z → s.heap.get? c = some o → h'.get? c = some o) → Q r { s with heap := h' }) :
    wpAny (model prog w) A (Builtin.SmallTypes.ownedTupleIsFree (.ref z)) Q E s := by
  unfold Builtin.SmallTypes.ownedTupleIsFree
  refine wpAny_bind (wpAny_field hz rfl (x := f0) rfl ?_)
  have same := fun r => hQ r b1 s.heap hz rfl fun _ _ _ e => e
  rcases hf with rfl | ⟨T, rfl⟩
  · exact wpAny_pure (same true)
  · refine wpAny_bind (wpAny_loadIfAlive ?_)
    cases s.heap.get? ((T : Int).toNat) with
    | none => exact wpAny_pure (same true)
    | some o =>
      refine wpAny_bind (wpAny_field hz rfl (x := .bool b1) rfl ?_)
      cases b1 with
      | true => exact wpAny_pure (same false)
      | false =>
        refine wpAny_bind (wpAny_setField_rec hz (by simp) fun h1 hz1 hs1 => wpAny_pure ?_)
        exact hQ false true h1 hz1 hs1.1 fun c o c1 e => hs1.extBut _ _ c1 e
theorem zipN_item {z TI TO i1 i2 l1 l2 : Addr} {k1 k2 : Nat} {xs ys : Array Value} {x y a b f0 : Value} {b1 : Bool} {Q : Value → Shared → Prop} (D : ZipApart z TI TO i1 i2 l1 l2)
    (hz : IsZ s.heap z TI TO f0 (.bool b1)) (hf : f0 = .none ∨ ∃ T : Nat, f0 = rawInt T) (hTI : IsPair s.heap TI (.ref i1) (.ref i2)) (hTO : IsPair s.heap TO a b)
    (h1 : s.heap.IsTupleIter i1 l1 k1) (h2 : s.heap.IsTupleIter i2 l2 k2) (hl1 : s.heap.IsTuple l1 xs) (hl2 : s.heap.IsTuple l2 ys) (hx : xs[k1]? = some x) (hy : ys[k2]? = some y)
    (hQ : ∀ h' f0' b1' a' b', IsZ h' z TI TO f0' (.bool b1') → (f0' = .none ∨ ∃ T : Nat, f0' = rawInt T) → IsPair h' TO a' b' → h'.IsTupleIter i1 l1 (k1 + 1) → h'.IsTupleIter i2 l2 (k2 + 1) → IsPair h' s.heap.objs.size x y →
      (∀ c o, c ≠ z → c ≠ TO → c ≠ i1 → c ≠ i2 → s.heap.get? c = some o → h'.get? c = some o) → Q (.ref s.heap.objs.size) { s with heap := h' }) :
    wpAny (model prog w) A (Builtin.«zip.__next__» ⟨[.ref z], []⟩) (fun fin s' => ∃ v, fin = .done (.ret v) ∧ Q v s') E s := by
  show wpAny _ _ (field (.ref z) 2 >>= _) _ _ _
  refine wpAny_bind (wpAny_field hz rfl (x := .bool false) rfl ?_)
  show wpAny _ _ (field (.ref z) 3 >>= _) _ _ _
  refine wpAny_bind (wpAny_field hz rfl (x := .ref TI) rfl ?_)
  refine wpAny_bind (wpAny_seqItems hTI rfl ?_)
  show wpAny _ _ (Builtin.SmallTypes.ownedTupleIsFree (.ref z) >>= _) _ _ _
  refine wpAny_bind (owned_free hz hf fun r b0 h₀ hz₀ sz₀ hk₀ => ?_)
  have hTI₀ : IsPair h₀ TI (.ref i1) (.ref i2) := hk₀ _ _ D.TIz hTI
  have hTO₀ : IsPair h₀ TO a b := hk₀ _ _ D.TOz hTO
  have h1₀ : h₀.IsTupleIter i1 l1 k1 := h1.at fun o e => hk₀ _ o D.i1z e
  have h2₀ : h₀.IsTupleIter i2 l2 k2 := h2.at fun o e => hk₀ _ o D.i2z e
  have hl1₀ : h₀.IsTuple l1 xs := by
    obtain ⟨o, e, r⟩ := hl1
    exact ⟨o, hk₀ _ _ D.l1z e, r⟩
  have hl2₀ : h₀.IsTuple l2 ys := by
    obtain ⟨o, e, r⟩ := hl2
    exact ⟨o, hk₀ _ _ D.l2z e, r⟩
  cases r with
  | false =>
    simp only [if_false, Bool.false_eq_true]
    refine wpAny_bind ?_
    rw [← Array.forIn_toList]
    simp only [List.forIn_cons, List.forIn_nil]
    refine wpAny_bind (wpAny_bind (wpAny_holding ?_))
    show wpAny _ _ (Builtin.SmallTypes.nextOf (.ref i1) >>= _) _ _ _
    refine wpAny_bind (nextOf_tuple_item h1₀ hl1₀ hx fun h₂ h1₂ hs₂ => wpAny_pure (wpAny_pure ?_))
    refine wpAny_bind (wpAny_bind (wpAny_holding ?_))
    show wpAny _ _ (Builtin.SmallTypes.nextOf (.ref i2) >>= _) _ _ _
    refine wpAny_bind (nextOf_tuple_item (h2₀.extBut hs₂.extBut D.i12.symm) (hl2₀.extBut hs₂.extBut D.l2i1) hy fun h₃ h2₃ hs₃ => wpAny_pure (wpAny_pure (wpAny_pure ?_)))
    show wpAny _ _ (newTuple [x, y] >>= _) _ _ _
    refine wpAny_bind (wpAny_newTuple ?_)
    have hsz : h₃.objs.size = s.heap.objs.size := by rw [hs₃.1, hs₂.1]; exact sz₀
    have hk₃ : ∀ c o, c ≠ z → c ≠ i1 → c ≠ i2 → s.heap.get? c = some o → h₃.get? c = some o := fun c o c1 c3 c4 e => hs₃.extBut _ _ c4 (hs₂.extBut _ _ c3 (hk₀ _ _ c1 e))
    have hz₃ : IsZ h₃ z TI TO f0 (.bool b0) := hs₃.extBut _ _ D.i2z.symm (hs₂.extBut _ _ D.i1z.symm hz₀)
    have h1₃ : h₃.IsTupleIter i1 l1 (k1 + 1) := h1₂.extBut hs₃.extBut D.i12
    refine wpAny_pure ⟨_, rfl, ?_⟩
    show Q (.ref h₃.objs.size) _
    have hT : IsPair (h₃.push { cls := .type "tuple", data := .seq #[x, y] }) h₃.objs.size x y := Heap.get?_push_size _ rfl
    rw [hsz] at hT ⊢
    exact hQ _ f0 b0 a b (Heap.get?_push_of_some _ hz₃) hf (Heap.get?_push_of_some _ (hk₃ _ _ D.TOz D.TOi1 D.TOi2 hTO)) (h1₃.at fun o e => Heap.get?_push_of_some _ e) (h2₃.at fun o e => Heap.get?_push_of_some _ e) hT fun c o c1 c2 c3 c4 e => Heap.get?_push_of_some _ (hk₃ c o c1 c3 c4 e)
  | true =>
    simp only [if_true]
    refine wpAny_bind (wpAny_rule ?_)
    refine wpAny_bind (wpAny_field (s := { s with heap := h₀ }) hz₀ rfl (x := .ref TO) rfl ?_)
    refine wpAny_bind (wpAny_setField_rec (s := { s with heap := h₀ }) hz₀ (by simp) fun h₁ hz₁ hs₁ => ?_)
    replace hz₁ : IsZ h₁ z TI TO .ellipsis (.bool b0) := hz₁
    refine wpAny_bind ?_
    simp only [List.zipIdx_cons, List.zipIdx_nil, List.forIn_cons, List.forIn_nil]
    refine wpAny_bind (wpAny_bind (wpAny_onRaise ?_))
    show wpAny _ _ (Builtin.SmallTypes.nextOf (.ref i1) >>= _) _ _ _
    refine wpAny_bind (nextOf_tuple_item (h1₀.extBut hs₁.extBut D.i1z) (hl1₀.extBut hs₁.extBut D.l1z) hx fun h₂ h1₂ hs₂ => wpAny_pure ?_)
    have hTO₂ : IsPair h₂ TO a b := hs₂.extBut _ _ D.TOi1 (hs₁.extBut _ _ D.TOz hTO₀)
    refine wpAny_bind (wpAny_seqItems hTO₂ rfl ?_)
    refine wpAny_bind (wpAny_updateSeq_pair hTO₂ fun h₃ hTO₃ hs₃ => ?_)
    replace hTO₃ : IsPair h₃ TO x b := hTO₃
    refine wpAny_bind (wpAny_letGo (wpAny_pure ?_))
    refine wpAny_bind (wpAny_bind (wpAny_onRaise ?_))
    show wpAny _ _ (Builtin.SmallTypes.nextOf (.ref i2) >>= _) _ _ _
    refine wpAny_bind (nextOf_tuple_item (((h2₀.extBut hs₁.extBut D.i2z).extBut hs₂.extBut D.i12.symm).extBut hs₃.extBut D.TOi2.symm)
      (((hl2₀.extBut hs₁.extBut D.l2z).extBut hs₂.extBut D.l2i1).extBut hs₃.extBut D.l2TO) hy fun h₄ h2₄ hs₄ => wpAny_pure ?_)
    have hTO₄ : IsPair h₄ TO x b := hs₄.extBut _ _ D.TOi2 hTO₃
    refine wpAny_bind (wpAny_seqItems hTO₄ rfl ?_)
    refine wpAny_bind (wpAny_updateSeq_pair hTO₄ fun h₅ hTO₅ hs₅ => ?_)
    replace hTO₅ : IsPair h₅ TO x y := hTO₅
    refine wpAny_bind (wpAny_letGo (wpAny_pure (wpAny_pure ?_)))
    refine wpAny_bind (wpAny_seqItems hTO₅ rfl ?_)
    refine wpAny_bind (wpAny_newTuple ?_)
    have hsz : h₅.objs.size = s.heap.objs.size := by rw [hs₅.1, hs₄.1, hs₃.1, hs₂.1, hs₁.1]; exact sz₀
    have hz₅ : IsZ h₅ z TI TO .ellipsis (.bool b0) := hs₅.extBut _ _ D.TOz.symm (hs₄.extBut _ _ D.i2z.symm (hs₃.extBut _ _ D.TOz.symm (hs₂.extBut _ _ D.i1z.symm hz₁)))
    have hk₅ : ∀ c o, c ≠ z → c ≠ TO → c ≠ i1 → c ≠ i2 → s.heap.get? c = some o → h₅.get? c = some o := fun c o c1 c2 c3 c4 e =>
      hs₅.extBut _ _ c2 (hs₄.extBut _ _ c4 (hs₃.extBut _ _ c2 (hs₂.extBut _ _ c3 (hs₁.extBut _ _ c1 (hk₀ _ _ c1 e)))))
    have h1₅ : h₅.IsTupleIter i1 l1 (k1 + 1) := ((h1₂.extBut hs₃.extBut D.TOi1.symm).extBut hs₄.extBut D.i12).extBut hs₅.extBut D.TOi1.symm
    have h2₅ : h₅.IsTupleIter i2 l2 (k2 + 1) := h2₄.extBut hs₅.extBut D.TOi2.symm
    have hzlt : z < h₅.objs.size := Heap.lt_size hz₅
    show wpAny _ _ (Builtin.SmallTypes.ownedTupleHandOut (.ref z) (.ref h₅.objs.size) >>= _) _ _ _
    refine wpAny_bind ?_
    unfold Builtin.SmallTypes.ownedTupleHandOut
    have hz₆ : IsZ (h₅.push { cls := .type "tuple", data := .seq #[x, y] }) z TI TO .ellipsis (.bool b0) := Heap.get?_push_of_some _ hz₅
    refine wpAny_bind (wpAny_setField_rec hz₆ (by simp) fun h₇ hz₇ hs₇ => ?_)
    replace hz₇ : IsZ h₇ z TI TO (rawInt h₅.objs.size) (.bool b0) := hz₇
    refine wpAny_setField_rec hz₇ (by simp) fun h₈ hz₈ hs₈ => ?_
    replace hz₈ : IsZ h₈ z TI TO (rawInt h₅.objs.size) (.bool false) := hz₈
    have up : ∀ c o, c ≠ z → h₅.get? c = some o → h₈.get? c = some o := fun c o c1 e => hs₈.extBut _ _ c1 (hs₇.extBut _ _ c1 (Heap.get?_push_of_some _ e))
    have hT₈ : IsPair h₈ h₅.objs.size x y := hs₈.extBut _ _ (Nat.ne_of_gt hzlt) (hs₇.extBut _ _ (Nat.ne_of_gt hzlt) (Heap.get?_push_size _ rfl))
    rw [hsz] at hz₈ hT₈
    refine wpAny_pure ⟨_, rfl, ?_⟩
    show Q (.ref h₅.objs.size) _
    rw [hsz]
    exact hQ h₈ _ _ _ _ hz₈ (.inr ⟨_, rfl⟩) (up _ _ D.TOz hTO₅) (h1₅.at fun o e => up _ o D.i1z e) (h2₅.at fun o e => up _ o D.i2z e) hT₈ fun c o c1 c2 c3 c4 e => up c o c1 (hk₅ c o c1 c2 c3 c4 e)
theorem zipN_end {z TI TO i1 i2 l1 l2 : Addr} {k1 k2 : Nat} {xs ys : Array Value} {a b f0 : Value} {b1 : Bool} {Q : Fin → Shared → Prop} (hh : A.handled = none) (D : ZipApart z TI TO i1 i2 l1 l2)
    (hz : IsZ s.heap z TI TO f0 (.bool b1)) (hf : f0 = .none ∨ ∃ T : Nat, f0 = rawInt T) (hTI : IsPair s.heap TI (.ref i1) (.ref i2)) (hTO : IsPair s.heap TO a b)
    (h1 : s.heap.IsTupleIter i1 l1 k1) (h2 : s.heap.IsTupleIter i2 l2 k2) (hl1 : s.heap.IsTuple l1 xs) (hl2 : s.heap.IsTuple l2 ys) (hend : xs[k1]? = none ∨ ys[k2]? = none)
    (hE : ∀ h' e, (∀ c o, c ≠ z → c ≠ TO → c ≠ i1 → c ≠ i2 → s.heap.get? c = some o → h'.get? c = some o) → (∃ o, h'.get? e = some o ∧ o.cls = .type "StopIteration") → E (.ref e) { s with heap := h' }) :
    wpAny (model prog w) A (Builtin.«zip.__next__» ⟨[.ref z], []⟩) Q E s := by
  show wpAny _ _ (field (.ref z) 2 >>= _) _ _ _
  refine wpAny_bind (wpAny_field hz rfl (x := .bool false) rfl ?_)
  show wpAny _ _ (field (.ref z) 3 >>= _) _ _ _
  refine wpAny_bind (wpAny_field hz rfl (x := .ref TI) rfl ?_)
  refine wpAny_bind (wpAny_seqItems hTI rfl ?_)
  show wpAny _ _ (Builtin.SmallTypes.ownedTupleIsFree (.ref z) >>= _) _ _ _
  refine wpAny_bind (owned_free hz hf fun r b0 h₀ hz₀ sz₀ hk₀ => ?_)
  have hTO₀ : IsPair h₀ TO a b := hk₀ _ _ D.TOz hTO
  have h1₀ : h₀.IsTupleIter i1 l1 k1 := h1.at fun o e => hk₀ _ o D.i1z e
  have h2₀ : h₀.IsTupleIter i2 l2 k2 := h2.at fun o e => hk₀ _ o D.i2z e
  have hl1₀ : h₀.IsTuple l1 xs := by
    obtain ⟨o, e, r⟩ := hl1
    exact ⟨o, hk₀ _ _ D.l1z e, r⟩
  have hl2₀ : h₀.IsTuple l2 ys := by
    obtain ⟨o, e, r⟩ := hl2
    exact ⟨o, hk₀ _ _ D.l2z e, r⟩
  cases r with
  | false =>
    simp only [if_false, Bool.false_eq_true]
    refine wpAny_bind ?_
    rw [← Array.forIn_toList]
    simp only [List.forIn_cons, List.forIn_nil]
    refine wpAny_bind (wpAny_bind (wpAny_holding ?_))
    show wpAny _ _ (Builtin.SmallTypes.nextOf (.ref i1) >>= _) _ _ _
    cases hx : xs[k1]? with
    | none => exact wpAny_bind (nextOf_tuple_end hh h1₀ hl1₀ hx fun h₂ e hs₂ he => hE h₂ e (fun c o c1 _ c3 _ x => hs₂ _ _ c3 (hk₀ _ _ c1 x)) he)
    | some x =>
      have hy : ys[k2]? = none := by rcases hend with h | h; rw [hx] at h; cases h; exact h
      refine wpAny_bind (nextOf_tuple_item h1₀ hl1₀ hx fun h₂ h1₂ hs₂ => wpAny_pure (wpAny_pure ?_))
      refine wpAny_bind (wpAny_bind (wpAny_holding ?_))
      show wpAny _ _ (Builtin.SmallTypes.nextOf (.ref i2) >>= _) _ _ _
      exact wpAny_bind (nextOf_tuple_end hh (h2₀.extBut hs₂.extBut D.i12.symm) (hl2₀.extBut hs₂.extBut D.l2i1) hy fun h₃ e hs₃ he => hE h₃ e (fun c o c1 _ c3 c4 x => hs₃ _ _ c4 (hs₂.extBut _ _ c3 (hk₀ _ _ c1 x))) he)
  | true =>
    simp only [if_true]
    refine wpAny_bind (wpAny_rule ?_)
    refine wpAny_bind (wpAny_field (s := { s with heap := h₀ }) hz₀ rfl (x := .ref TO) rfl ?_)
    refine wpAny_bind (wpAny_setField_rec (s := { s with heap := h₀ }) hz₀ (by simp) fun h₁ hz₁ hs₁ => ?_)
    replace hz₁ : IsZ h₁ z TI TO .ellipsis (.bool b0) := hz₁
    refine wpAny_bind ?_
    simp only [List.zipIdx_cons, List.zipIdx_nil, List.forIn_cons, List.forIn_nil]
    refine wpAny_bind (wpAny_bind (wpAny_onRaise ?_))
    show wpAny _ _ (Builtin.SmallTypes.nextOf (.ref i1) >>= _) _ _ _
    cases hx : xs[k1]? with
    | none =>
      refine wpAny_bind (nextOf_tuple_end hh (h1₀.extBut hs₁.extBut D.i1z) (hl1₀.extBut hs₁.extBut D.l1z) hx fun h₂ e hs₂ he => ?_)
      obtain ⟨oe, hoe, hce⟩ := he
      have hz₂ : IsZ h₂ z TI TO .ellipsis (.bool b0) := hs₂ _ _ D.i1z.symm hz₁
      have hez : e ≠ z := fun x => by subst x; rw [hz₂] at hoe; cases hoe; simp at hce
      refine wpAny_setField_rec hz₂ (by simp) fun h₃ _ hs₃ => hE h₃ e (fun c o c1 _ c3 _ x => hs₃.extBut _ _ c1 (hs₂ _ _ c3 (hs₁.extBut _ _ c1 (hk₀ _ _ c1 x)))) ⟨oe, hs₃.extBut _ _ hez hoe, hce⟩
    | some x =>
      have hy : ys[k2]? = none := by rcases hend with h | h; rw [hx] at h; cases h; exact h
      refine wpAny_bind (nextOf_tuple_item (h1₀.extBut hs₁.extBut D.i1z) (hl1₀.extBut hs₁.extBut D.l1z) hx fun h₂ h1₂ hs₂ => wpAny_pure ?_)
      have hTO₂ : IsPair h₂ TO a b := hs₂.extBut _ _ D.TOi1 (hs₁.extBut _ _ D.TOz hTO₀)
      refine wpAny_bind (wpAny_seqItems hTO₂ rfl ?_)
      refine wpAny_bind (wpAny_updateSeq_pair hTO₂ fun h₃ hTO₃ hs₃ => ?_)
      refine wpAny_bind (wpAny_letGo (wpAny_pure ?_))
      refine wpAny_bind (wpAny_bind (wpAny_onRaise ?_))
      show wpAny _ _ (Builtin.SmallTypes.nextOf (.ref i2) >>= _) _ _ _
      refine wpAny_bind (nextOf_tuple_end hh (((h2₀.extBut hs₁.extBut D.i2z).extBut hs₂.extBut D.i12.symm).extBut hs₃.extBut D.TOi2.symm)
        (((hl2₀.extBut hs₁.extBut D.l2z).extBut hs₂.extBut D.l2i1).extBut hs₃.extBut D.l2TO) hy fun h₄ e hs₄ he => ?_)
      obtain ⟨oe, hoe, hce⟩ := he
      have hz₄ : IsZ h₄ z TI TO .ellipsis (.bool b0) := hs₄ _ _ D.i2z.symm (hs₃.extBut _ _ D.TOz.symm (hs₂.extBut _ _ D.i1z.symm hz₁))
      have hez : e ≠ z := fun x => by subst x; rw [hz₄] at hoe; cases hoe; simp at hce
      refine wpAny_setField_rec hz₄ (by simp) fun h₅ _ hs₅ => hE h₅ e (fun c o c1 c2 c3 c4 x => hs₅.extBut _ _ c1 (hs₄ _ _ c4 (hs₃.extBut _ _ c2 (hs₂.extBut _ _ c3 (hs₁.extBut _ _ c1 (hk₀ _ _ c1 x)))))) ⟨oe, hs₅.extBut _ _ hez hoe, hce⟩
theorem next_zipN {z TI TO i1 i2 l1 l2 : Addr} {k1 k2 : Nat} {xs ys : Array Value} {x y a b f0 : Value} {b1 : Bool} {Q : Option Value → Shared → Prop} (D : ZipApart z TI TO i1 i2 l1 l2)
    (hz : IsZ s.heap z TI TO f0 (.bool b1)) (hf : f0 = .none ∨ ∃ T : Nat, f0 = rawInt T) (hTI : IsPair s.heap TI (.ref i1) (.ref i2)) (hTO : IsPair s.heap TO a b)
    (h1 : s.heap.IsTupleIter i1 l1 k1) (h2 : s.heap.IsTupleIter i2 l2 k2) (hl1 : s.heap.IsTuple l1 xs) (hl2 : s.heap.IsTuple l2 ys) (hx : xs[k1]? = some x) (hy : ys[k2]? = some y)
    (hQ : ∀ h' f0' b1' a' b', IsZ h' z TI TO f0' (.bool b1') → (f0' = .none ∨ ∃ T : Nat, f0' = rawInt T) → IsPair h' TO a' b' → h'.IsTupleIter i1 l1 (k1 + 1) → h'.IsTupleIter i2 l2 (k2 + 1) → IsPair h' s.heap.objs.size x y →
      (∀ c o, c ≠ z → c ≠ TO → c ≠ i1 → c ≠ i2 → s.heap.get? c = some o → h'.get? c = some o) → Q (some (.ref s.heap.objs.size)) { s with heap := h' }) :
    wpAny (model prog w) A (pyNext (.ref z)) Q E s := by
  have hT : s.TypeIs (.ref z) "zip" := ⟨_, hz, rfl⟩
  unfold pyNext
  exact wpAny_bind (wpAny_attempt (wpAny_callSpecial?_slot (name := Str.ofString "__next__") hT F.slot_zip_next
    (wpAny_call_entry F.slot_zip_next hT F.entry_zip_next
      (zipN_item D hz hf hTI hTO h1 h2 hl1 hl2 hx hy fun h' c1 c2 c3 c4 a1 a2 a3 a4 a5 a6 a7 => wpAny_pure (hQ h' c1 c2 c3 c4 a1 a2 a3 a4 a5 a6 a7)) (F.args_zip_next_1 _))))
theorem end_zipN {z TI TO i1 i2 l1 l2 : Addr} {k1 k2 : Nat} {xs ys : Array Value} {a b f0 : Value} {b1 : Bool} {Q : Option Value → Shared → Prop} (hh : A.handled = none) (D : ZipApart z TI TO i1 i2 l1 l2)
    (hz : IsZ s.heap z TI TO f0 (.bool b1)) (hf : f0 = .none ∨ ∃ T : Nat, f0 = rawInt T) (hTI : IsPair s.heap TI (.ref i1) (.ref i2)) (hTO : IsPair s.heap TO a b)
    (h1 : s.heap.IsTupleIter i1 l1 k1) (h2 : s.heap.IsTupleIter i2 l2 k2) (hl1 : s.heap.IsTuple l1 xs) (hl2 : s.heap.IsTuple l2 ys) (hend : xs[k1]? = none ∨ ys[k2]? = none)
    (hQ : ∀ h', (∀ c o, c ≠ z → c ≠ TO → c ≠ i1 → c ≠ i2 → s.heap.get? c = some o → h'.get? c = some o) → Q none { s with heap := h' }) : wpAny (model prog w) A (pyNext (.ref z)) Q E s := by
  have hT : s.TypeIs (.ref z) "zip" := ⟨_, hz, rfl⟩
  unfold pyNext
  refine wpAny_bind (wpAny_attempt (wpAny_callSpecial?_slot (name := Str.ofString "__next__") hT F.slot_zip_next
    (wpAny_call_entry F.slot_zip_next hT F.entry_zip_next (zipN_end hh D hz hf hTI hTO h1 h2 hl1 hl2 hend fun h' e hk he => ?_) (F.args_zip_next_1 _))))
  obtain ⟨o, ho, hc⟩ := he
  refine wpAny_bind (wpAny_isInstance (T := "StopIteration") (b := true) ⟨o, ho, hc⟩ isSubtype_stop ?_)
  exact wpAny_pure (hQ _ hk)
end
end Sw
namespace Sw
open PySem PySem.Spec PyProof.Rows L2 RZ
theorem self_zipN {prog : Program} {w : World} {A : Around} {E : Value → Shared → Prop} {s : Shared} {z TI TO : Addr} {f0 : Value} {b1 : Bool} {Q : Value → Shared → Prop} (hz : IsZ s.heap z TI TO f0 (.bool b1)) (h : Q (.ref z) s) : wpAny (model prog w) A (pyIter (.ref z)) Q E s := by
  have hT : s.TypeIs (.ref z) "zip" := ⟨_, hz, rfl⟩
  refine wpAny_pyIter_slot hT F.slot_zip_iter (wpAny_call_entry F.slot_zip_iter hT F.entry_zip_iter ?_ (F.args_zip_iter_1 _))
  show wpAny _ _ (ret (.ref z)) _ _ s
  exact wpAny_pure ⟨_, rfl, "zip", _, hT, F.slot_zip_next.lookup, h⟩
/-- for p in zip(a, b), a and b tuples, p a plain name -/
theorem turn_zipN {P : Program} {w : World} {K : PySem.W.Frag} {x : Str} {tpos : Pos} {a b z TI TO i1 i2 : Addr} (D : ZipApart z TI TO i1 i2 a b) :
    Turn P w K (.Name x tpos) (ItzT K a b) [z, TI, TO, i1, i2] z (fun i h => (∃ (f0 : Value) (b1 : Bool), IsZ h z TI TO f0 (.bool b1) ∧ (f0 = .none ∨ ∃ T : Nat, f0 = rawInt T)) ∧ IsPair h TI (.ref i1) (.ref i2) ∧ (∃ x y, IsPair h TO x y) ∧ h.IsTupleIter i1 a i ∧ h.IsTupleIter i2 b i) where
  mem := by simp
  obj := fun i h st c hc => by
    obtain ⟨⟨f0, b1, hz, _⟩, hTI, ⟨x, y, hTO⟩, ⟨o1, e1, _, d1⟩, ⟨o2, e2, _, d2⟩⟩ := st
    have e' : c = z ∨ c = TI ∨ c = TO ∨ c = i1 ∨ c = i2 := by simpa using hc
    rcases e' with q | q | q | q | q
    · rw [q]; exact ⟨_, hz, fun v q => nomatch q⟩
    · rw [q]; exact ⟨_, hTI, fun v q => nomatch q⟩
    · rw [q]; exact ⟨_, hTO, fun v q => nomatch q⟩
    · rw [q]; exact ⟨o1, e1, fun v q => by rw [d1] at q; cases q⟩
    · rw [q]; exact ⟨o2, e2, fun v q => by rw [d2] at q; cases q⟩
  keep := fun i h h' st k => by
    obtain ⟨⟨f0, b1, hz, hf⟩, hTI, ⟨x, y, hTO⟩, h1, h2⟩ := st
    exact ⟨⟨f0, b1, k z (by simp) _ hz, hf⟩, k TI (by simp) _ hTI, ⟨x, y, k TO (by simp) _ hTO⟩, h1.at fun o q => k i1 (by simp) o q, h2.at fun o q => k i2 (by simp) o q⟩
  item := by
    intro X hP hw hK hc i pins s σ H E I hf st hg
    subst hP hw hK
    obtain ⟨⟨f0, b1, hz, hf0⟩, hTI, ⟨x0, y0, hTO⟩, h1, h2⟩ := st
    obtain ⟨xs, ys, x, y, hqx, hqy, hx, hy⟩ := hg
    obtain ⟨its, rv, p, _⟩ := I.tuple hqx
    obtain ⟨its2, rv2, p2, _⟩ := I.tuple hqy
    obtain ⟨u, hu, ru⟩ := rv.get hx
    obtain ⟨u2, hu2, ru2⟩ := rv2.get hy
    have hzl : z < s.heap.objs.size := Heap.lt_size hz
    refine next_zipN D hz hf0 hTI hTO h1 h2 p p2 (x := u) (y := u2) (by simpa using hu) (by simpa using hu2) fun h' f0' b1' a' b' z' hf' TO' h1' h2' hT hk => ?_
    refine ⟨_, rfl, ?_⟩
    unfold letOwnedTupleGo
    refine wpAny_pure ?_
    have new : ObjOk X.prog X.w (upd H s.heap.objs.size (.tup [x, y])) h' s.heap.objs.size (.tup [x, y]) :=
      ⟨by show 2 ≤ sizeLine; decide, [u, u2], .cons ru (.cons ru2 .nil), ⟨_, hT, rfl, _, rfl⟩⟩
    have I1 : Inv X pins σ (upd H s.heap.objs.size (.tup [x, y])) { s with heap := h' } :=
      I.turnedNew (t' := s.toks) (ch := [z, TI, TO, i1, i2]) (fun c o hb q => hk c o (fun q' => hb (by simp [q'])) (fun q' => hb (by simp [q'])) (fun q' => hb (by simp [q'])) (fun q' => hb (by simp [q'])) q) hf (Nat.le_refl _) new
    refine ⟨.ref s.heap.objs.size, _, I1, rfl, ⟨_, x, y, rfl, I.hok.fresh (Nat.le_refl _), rfl, fun l hl => by rw [I.tuple_inj hl hqx]; exact hx, fun l hl => by rw [I.tuple_inj hl hqy]; exact hy⟩, ⟨⟨f0', b1', z', hf'⟩, ?_, ⟨a', b', TO'⟩, h1', h2'⟩, fun c hcm => ?_⟩
    · exact hk _ _ D.TIz D.TITO D.TIi1 D.TIi2 hTI
    · have hlt : c < s.heap.objs.size := by
        have e' : c = z ∨ c = TI ∨ c = TO ∨ c = i1 ∨ c = i2 := by simpa using hcm
        rcases e' with q | q | q | q | q
        · rw [q]; exact hzl
        · rw [q]; exact Heap.lt_size hTI
        · rw [q]; exact Heap.lt_size hTO
        · rw [q]; obtain ⟨_, e1, _⟩ := h1; exact Heap.lt_size e1
        · rw [q]; obtain ⟨_, e2, _⟩ := h2; exact Heap.lt_size e2
      rw [upd_ne (Nat.ne_of_lt hlt)]
      exact (hf c hcm).1
  done := by
    intro X hP hw hK hc i pins s σ H E I hf st hg
    subst hP hw hK
    obtain ⟨⟨f0, b1, hz, hf0⟩, hTI, ⟨x0, y0, hTO⟩, h1, h2⟩ := st
    obtain ⟨xs, ys, hqx, hqy, hend⟩ := hg
    obtain ⟨its, rv, p, _⟩ := I.tuple hqx
    obtain ⟨its2, rv2, p2, _⟩ := I.tuple hqy
    have l1 := rv.length
    have l2 := rv2.length
    have he : its.toArray[i]? = none ∨ its2.toArray[i]? = none := by
      rcases hend with q | q
      · exact .inl (by simp; omega)
      · exact .inr (by simp; omega)
    exact end_zipN (I.ok.hd hc) D hz hf0 hTI hTO h1 h2 p p2 he fun h' hk => ⟨rfl, I.turnedL (t' := s.toks) (ch := [z, TI, TO, i1, i2]) (fun c o hb q =>
      hk c o (fun q' => hb (by simp [q'])) (fun q' => hb (by simp [q'])) (fun q' => hb (by simp [q'])) (fun q' => hb (by simp [q'])) q) hf⟩
  self := fun A i s Q E st h => by
    obtain ⟨⟨f0, b1, hz, _⟩, _⟩ := st
    exact self_zipN hz h
def iZipN (K : PySem.W.Frag) (ta : TA) : TI := fun σ H R => ta σ H fun vs H1 => ∃ a b xs ys, vs = [.ref a, .ref b] ∧ SqT K H1 a xs ∧ SqT K H1 b ys ∧ R (ItzT K a b) H1
theorem pi_zipN {X : Cx} {e e2 : Expr} {ta : TA} {p pos tpos : Pos} {x : Str} (hg : Gl X "zip") (hm : X.mg "zip" = none) (ha : PA X [e, e2] ta)
    (hs : starEach [e, e2] X.env = (false, eval e X.env) :: starEach [e2] X.env := by rfl) (hpl : (backTo pos (starEach [e2] X.env)).any (·.1) = false := by rfl) :
    PI X (.Name x tpos) (.Call (.Name "zip" p) [e, e2] [] pos) (iZipN X.K ta) := by
  refine ⟨fun pins s σ H R I h => ?_⟩
  refine Call_ (ld_blt I hg hm PyProof.Rows.boot_zip (PyProof.Rows.callWith_type1 (thn (ha.run pos pins s σ H _ I h) fun us s1 ⟨vs, H1, I1, r1, q1⟩ => ?_) hs hpl))
  obtain ⟨a, b, xs, ys, ex, hqx, hqy, q⟩ := q1
  subst ex
  cases r1 with
  | cons r rr =>
    cases rr with
    | cons r' rr =>
      cases rr
      cases r
      cases r'
      have fresh5 : ∀ c, c ∈ [s1.heap.objs.size + 4, s1.heap.objs.size + 2, s1.heap.objs.size + 3, s1.heap.objs.size, s1.heap.objs.size + 1] → FpOk X pins H1 c := fun c hcm => by
        have e' : c = s1.heap.objs.size + 4 ∨ c = s1.heap.objs.size + 2 ∨ c = s1.heap.objs.size + 3 ∨ c = s1.heap.objs.size ∨ c = s1.heap.objs.size + 1 := by simpa using hcm
        have hle : s1.heap.objs.size ≤ c := by
          rcases e' with z | z | z | z | z
          · rw [z]; exact Nat.le_add_right _ _
          · rw [z]; exact Nat.le_add_right _ _
          · rw [z]; exact Nat.le_add_right _ _
          · rw [z]; exact Nat.le_refl _
          · rw [z]; exact Nat.le_add_right _ _
        exact I1.fpOk hle (I1.hok.fresh hle)
      obtain ⟨its, rv, p1, _⟩ := I1.tuple hqx
      obtain ⟨its2, rv2, p2, _⟩ := I1.tuple hqy
      obtain ⟨o1, ho1, _⟩ := id p1
      obtain ⟨o2, ho2, _⟩ := id p2
      refine call_zipT (show s1.heap.IsTuple a its.toArray from p1) (show s1.heap.IsTuple b its2.toArray from p2) fun h' hz hTI hTO h1 h2 hsz hk => wpAny_pyIter_zip hz ?_
      have I2 : Inv X pins σ H1 { s1 with heap := h' } := I1.kept (t' := s1.toks) hk
      exact ⟨s1.heap.objs.size + 4, [s1.heap.objs.size + 4, s1.heap.objs.size + 2, s1.heap.objs.size + 3, s1.heap.objs.size, s1.heap.objs.size + 1], _, _, H1, rfl, I2, turn_zipN (PySem.W.ktu_apart s1.heap.objs.size a b (Heap.lt_size ho1) (Heap.lt_size ho2)), ⟨⟨.none, false, hz, .inl rfl⟩, hTI, ⟨_, _, hTO⟩, h1, h2⟩, fresh5, q⟩
theorem walk_zipT {K : PySem.W.Frag} {a b : Addr} {xs ys : List V} {n : Nat} (hn : n = min xs.length ys.length) : Walk (ItzT K a b) n (fun H => SqT K H a xs ∧ SqT K H b ys) (YPair (fun i => xs[i]?) (fun i => ys[i]?)) := by
  subst hn
  refine ⟨fun i _ hi q => ?_, fun _ q => ⟨xs, ys, q.1, q.2, by omega⟩, fun i H v H' _ q y => ?_⟩
  · have h1 : i < xs.length := by omega
    have h2 : i < ys.length := by omega
    exact ⟨xs, ys, xs[i], ys[i], q.1, q.2, by simp [h1], by simp [h2]⟩
  · obtain ⟨T, x, z, h1, h2, h3, h4, h5⟩ := y
    exact ⟨T, x, z, h1, h2, h3, h4 xs q.1, h5 ys q.2⟩
end Sw
namespace Sw
open PySem RZ
/-! ### list(zip(a, b)), a and b lists -/
section
variable {prog : Program} {w : World} {A : Around} {E : Value → Shared → Prop} {s : Shared}
theorem zipM_item {z TI TO i1 i2 l1 l2 : Addr} {k1 k2 : Nat} {xs ys : Array Value} {x y a b f0 : Value} {b1 : Bool} {Q : Value → Shared → Prop} (D : ZipApart z TI TO i1 i2 l1 l2)
    (hz : IsZ s.heap z TI TO f0 (.bool b1)) (hf : f0 = .none ∨ ∃ T : Nat, f0 = rawInt T) (hTI : IsPair s.heap TI (.ref i1) (.ref i2)) (hTO : IsPair s.heap TO a b)
    (h1 : s.heap.IsListIter i1 l1 k1) (h2 : s.heap.IsListIter i2 l2 k2) (hl1 : s.heap.IsList l1 xs) (hl2 : s.heap.IsList l2 ys) (hx : xs[k1]? = some x) (hy : ys[k2]? = some y)
    (hQ : ∀ h' f0' b1' a' b', IsZ h' z TI TO f0' (.bool b1') → (f0' = .none ∨ ∃ T : Nat, f0' = rawInt T) → IsPair h' TO a' b' → h'.IsListIter i1 l1 (k1 + 1) → h'.IsListIter i2 l2 (k2 + 1) → IsPair h' s.heap.objs.size x y →
      (∀ c o, c ≠ z → c ≠ TO → c ≠ i1 → c ≠ i2 → s.heap.get? c = some o → h'.get? c = some o) → Q (.ref s.heap.objs.size) { s with heap := h' }) :
    wpAny (model prog w) A (Builtin.«zip.__next__» ⟨[.ref z], []⟩) (fun fin s' => ∃ v, fin = .done (.ret v) ∧ Q v s') E s := by
  show wpAny _ _ (field (.ref z) 2 >>= _) _ _ _
  refine wpAny_bind (wpAny_field hz rfl (x := .bool false) rfl ?_)
  show wpAny _ _ (field (.ref z) 3 >>= _) _ _ _
  refine wpAny_bind (wpAny_field hz rfl (x := .ref TI) rfl ?_)
  refine wpAny_bind (wpAny_seqItems hTI rfl ?_)
  show wpAny _ _ (Builtin.SmallTypes.ownedTupleIsFree (.ref z) >>= _) _ _ _
  refine wpAny_bind (owned_free hz hf fun r b0 h₀ hz₀ sz₀ hk₀ => ?_)
  have hTI₀ : IsPair h₀ TI (.ref i1) (.ref i2) := hk₀ _ _ D.TIz hTI
  have hTO₀ : IsPair h₀ TO a b := hk₀ _ _ D.TOz hTO
  have h1₀ : h₀.IsListIter i1 l1 k1 := h1.at fun o e => hk₀ _ o D.i1z e
  have h2₀ : h₀.IsListIter i2 l2 k2 := h2.at fun o e => hk₀ _ o D.i2z e
  have hl1₀ : h₀.IsList l1 xs := by
    obtain ⟨o, e, r⟩ := hl1
    exact ⟨o, hk₀ _ _ D.l1z e, r⟩
  have hl2₀ : h₀.IsList l2 ys := by
    obtain ⟨o, e, r⟩ := hl2
    exact ⟨o, hk₀ _ _ D.l2z e, r⟩
  cases r with
  | false =>
    simp only [if_false, Bool.false_eq_true]
    refine wpAny_bind ?_
    rw [← Array.forIn_toList]
    simp only [List.forIn_cons, List.forIn_nil]
    refine wpAny_bind (wpAny_bind (wpAny_holding ?_))
    show wpAny _ _ (Builtin.SmallTypes.nextOf (.ref i1) >>= _) _ _ _
    refine wpAny_bind (wpAny_nextOf_list_item h1₀ hl1₀ hx fun h₂ h1₂ hs₂ => wpAny_pure (wpAny_pure ?_))
    refine wpAny_bind (wpAny_bind (wpAny_holding ?_))
    show wpAny _ _ (Builtin.SmallTypes.nextOf (.ref i2) >>= _) _ _ _
    refine wpAny_bind (wpAny_nextOf_list_item (h2₀.extBut hs₂.extBut D.i12.symm) (hl2₀.extBut hs₂.extBut D.l2i1) hy fun h₃ h2₃ hs₃ => wpAny_pure (wpAny_pure (wpAny_pure ?_)))
    show wpAny _ _ (newTuple [x, y] >>= _) _ _ _
    refine wpAny_bind (wpAny_newTuple ?_)
    have hsz : h₃.objs.size = s.heap.objs.size := by rw [hs₃.1, hs₂.1]; exact sz₀
    have hk₃ : ∀ c o, c ≠ z → c ≠ i1 → c ≠ i2 → s.heap.get? c = some o → h₃.get? c = some o := fun c o c1 c3 c4 e => hs₃.extBut _ _ c4 (hs₂.extBut _ _ c3 (hk₀ _ _ c1 e))
    have hz₃ : IsZ h₃ z TI TO f0 (.bool b0) := hs₃.extBut _ _ D.i2z.symm (hs₂.extBut _ _ D.i1z.symm hz₀)
    have h1₃ : h₃.IsListIter i1 l1 (k1 + 1) := h1₂.extBut hs₃.extBut D.i12
    refine wpAny_pure ⟨_, rfl, ?_⟩
    show Q (.ref h₃.objs.size) _
    have hT : IsPair (h₃.push { cls := .type "tuple", data := .seq #[x, y] }) h₃.objs.size x y := Heap.get?_push_size _ rfl
    rw [hsz] at hT ⊢
    exact hQ _ f0 b0 a b (Heap.get?_push_of_some _ hz₃) hf (Heap.get?_push_of_some _ (hk₃ _ _ D.TOz D.TOi1 D.TOi2 hTO)) (h1₃.at fun o e => Heap.get?_push_of_some _ e) (h2₃.at fun o e => Heap.get?_push_of_some _ e) hT fun c o c1 c2 c3 c4 e => Heap.get?_push_of_some _ (hk₃ c o c1 c3 c4 e)
  | true =>
    simp only [if_true]
    refine wpAny_bind (wpAny_rule ?_)
    refine wpAny_bind (wpAny_field (s := { s with heap := h₀ }) hz₀ rfl (x := .ref TO) rfl ?_)
    refine wpAny_bind (wpAny_setField_rec (s := { s with heap := h₀ }) hz₀ (by simp) fun h₁ hz₁ hs₁ => ?_)
    replace hz₁ : IsZ h₁ z TI TO .ellipsis (.bool b0) := hz₁
    refine wpAny_bind ?_
    simp only [List.zipIdx_cons, List.zipIdx_nil, List.forIn_cons, List.forIn_nil]
    refine wpAny_bind (wpAny_bind (wpAny_onRaise ?_))
    show wpAny _ _ (Builtin.SmallTypes.nextOf (.ref i1) >>= _) _ _ _
    refine wpAny_bind (wpAny_nextOf_list_item (h1₀.extBut hs₁.extBut D.i1z) (hl1₀.extBut hs₁.extBut D.l1z) hx fun h₂ h1₂ hs₂ => wpAny_pure ?_)
    have hTO₂ : IsPair h₂ TO a b := hs₂.extBut _ _ D.TOi1 (hs₁.extBut _ _ D.TOz hTO₀)
    refine wpAny_bind (wpAny_seqItems hTO₂ rfl ?_)
    refine wpAny_bind (wpAny_updateSeq_pair hTO₂ fun h₃ hTO₃ hs₃ => ?_)
    replace hTO₃ : IsPair h₃ TO x b := hTO₃
    refine wpAny_bind (wpAny_letGo (wpAny_pure ?_))
    refine wpAny_bind (wpAny_bind (wpAny_onRaise ?_))
    show wpAny _ _ (Builtin.SmallTypes.nextOf (.ref i2) >>= _) _ _ _
    refine wpAny_bind (wpAny_nextOf_list_item (((h2₀.extBut hs₁.extBut D.i2z).extBut hs₂.extBut D.i12.symm).extBut hs₃.extBut D.TOi2.symm)
      (((hl2₀.extBut hs₁.extBut D.l2z).extBut hs₂.extBut D.l2i1).extBut hs₃.extBut D.l2TO) hy fun h₄ h2₄ hs₄ => wpAny_pure ?_)
    have hTO₄ : IsPair h₄ TO x b := hs₄.extBut _ _ D.TOi2 hTO₃
    refine wpAny_bind (wpAny_seqItems hTO₄ rfl ?_)
    refine wpAny_bind (wpAny_updateSeq_pair hTO₄ fun h₅ hTO₅ hs₅ => ?_)
    replace hTO₅ : IsPair h₅ TO x y := hTO₅
    refine wpAny_bind (wpAny_letGo (wpAny_pure (wpAny_pure ?_)))
    refine wpAny_bind (wpAny_seqItems hTO₅ rfl ?_)
    refine wpAny_bind (wpAny_newTuple ?_)
    have hsz : h₅.objs.size = s.heap.objs.size := by rw [hs₅.1, hs₄.1, hs₃.1, hs₂.1, hs₁.1]; exact sz₀
    have hz₅ : IsZ h₅ z TI TO .ellipsis (.bool b0) := hs₅.extBut _ _ D.TOz.symm (hs₄.extBut _ _ D.i2z.symm (hs₃.extBut _ _ D.TOz.symm (hs₂.extBut _ _ D.i1z.symm hz₁)))
    have hk₅ : ∀ c o, c ≠ z → c ≠ TO → c ≠ i1 → c ≠ i2 → s.heap.get? c = some o → h₅.get? c = some o := fun c o c1 c2 c3 c4 e =>
      hs₅.extBut _ _ c2 (hs₄.extBut _ _ c4 (hs₃.extBut _ _ c2 (hs₂.extBut _ _ c3 (hs₁.extBut _ _ c1 (hk₀ _ _ c1 e)))))
    have h1₅ : h₅.IsListIter i1 l1 (k1 + 1) := ((h1₂.extBut hs₃.extBut D.TOi1.symm).extBut hs₄.extBut D.i12).extBut hs₅.extBut D.TOi1.symm
    have h2₅ : h₅.IsListIter i2 l2 (k2 + 1) := h2₄.extBut hs₅.extBut D.TOi2.symm
    have hzlt : z < h₅.objs.size := Heap.lt_size hz₅
    show wpAny _ _ (Builtin.SmallTypes.ownedTupleHandOut (.ref z) (.ref h₅.objs.size) >>= _) _ _ _
    refine wpAny_bind ?_
    unfold Builtin.SmallTypes.ownedTupleHandOut
    have hz₆ : IsZ (h₅.push { cls := .type "tuple", data := .seq #[x, y] }) z TI TO .ellipsis (.bool b0) := Heap.get?_push_of_some _ hz₅
    refine wpAny_bind (wpAny_setField_rec hz₆ (by simp) fun h₇ hz₇ hs₇ => ?_)
    replace hz₇ : IsZ h₇ z TI TO (rawInt h₅.objs.size) (.bool b0) := hz₇
    refine wpAny_setField_rec hz₇ (by simp) fun h₈ hz₈ hs₈ => ?_
    replace hz₈ : IsZ h₈ z TI TO (rawInt h₅.objs.size) (.bool false) := hz₈
    have up : ∀ c o, c ≠ z → h₅.get? c = some o → h₈.get? c = some o := fun c o c1 e => hs₈.extBut _ _ c1 (hs₇.extBut _ _ c1 (Heap.get?_push_of_some _ e))
    have hT₈ : IsPair h₈ h₅.objs.size x y := hs₈.extBut _ _ (Nat.ne_of_gt hzlt) (hs₇.extBut _ _ (Nat.ne_of_gt hzlt) (Heap.get?_push_size _ rfl))
    rw [hsz] at hz₈ hT₈
    refine wpAny_pure ⟨_, rfl, ?_⟩
    show Q (.ref h₅.objs.size) _
    rw [hsz]
    exact hQ h₈ _ _ _ _ hz₈ (.inr ⟨_, rfl⟩) (up _ _ D.TOz hTO₅) (h1₅.at fun o e => up _ o D.i1z e) (h2₅.at fun o e => up _ o D.i2z e) hT₈ fun c o c1 c2 c3 c4 e => up c o c1 (hk₅ c o c1 c2 c3 c4 e)
theorem zipM_end {z TI TO i1 i2 l1 l2 : Addr} {k1 k2 : Nat} {xs ys : Array Value} {a b f0 : Value} {b1 : Bool} {Q : Fin → Shared → Prop} (hh : A.handled = none) (D : ZipApart z TI TO i1 i2 l1 l2)
    (hz : IsZ s.heap z TI TO f0 (.bool b1)) (hf : f0 = .none ∨ ∃ T : Nat, f0 = rawInt T) (hTI : IsPair s.heap TI (.ref i1) (.ref i2)) (hTO : IsPair s.heap TO a b)
    (h1 : s.heap.IsListIter i1 l1 k1) (h2 : s.heap.IsListIter i2 l2 k2) (hl1 : s.heap.IsList l1 xs) (hl2 : s.heap.IsList l2 ys) (hend : xs[k1]? = none ∨ ys[k2]? = none)
    (hE : ∀ h' e, (∀ c o, c ≠ z → c ≠ TO → c ≠ i1 → c ≠ i2 → s.heap.get? c = some o → h'.get? c = some o) → (∃ o, h'.get? e = some o ∧ o.cls = .type "StopIteration") → E (.ref e) { s with heap := h' }) :
    wpAny (model prog w) A (Builtin.«zip.__next__» ⟨[.ref z], []⟩) Q E s := by
  show wpAny _ _ (field (.ref z) 2 >>= _) _ _ _
  refine wpAny_bind (wpAny_field hz rfl (x := .bool false) rfl ?_)
  show wpAny _ _ (field (.ref z) 3 >>= _) _ _ _
  refine wpAny_bind (wpAny_field hz rfl (x := .ref TI) rfl ?_)
  refine wpAny_bind (wpAny_seqItems hTI rfl ?_)
  show wpAny _ _ (Builtin.SmallTypes.ownedTupleIsFree (.ref z) >>= _) _ _ _
  refine wpAny_bind (owned_free hz hf fun r b0 h₀ hz₀ sz₀ hk₀ => ?_)
  have hTO₀ : IsPair h₀ TO a b := hk₀ _ _ D.TOz hTO
  have h1₀ : h₀.IsListIter i1 l1 k1 := h1.at fun o e => hk₀ _ o D.i1z e
  have h2₀ : h₀.IsListIter i2 l2 k2 := h2.at fun o e => hk₀ _ o D.i2z e
  have hl1₀ : h₀.IsList l1 xs := by
    obtain ⟨o, e, r⟩ := hl1
    exact ⟨o, hk₀ _ _ D.l1z e, r⟩
  have hl2₀ : h₀.IsList l2 ys := by
    obtain ⟨o, e, r⟩ := hl2
    exact ⟨o, hk₀ _ _ D.l2z e, r⟩
  cases r with
  | false =>
    simp only [if_false, Bool.false_eq_true]
    refine wpAny_bind ?_
    rw [← Array.forIn_toList]
    simp only [List.forIn_cons, List.forIn_nil]
    refine wpAny_bind (wpAny_bind (wpAny_holding ?_))
    show wpAny _ _ (Builtin.SmallTypes.nextOf (.ref i1) >>= _) _ _ _
    cases hx : xs[k1]? with
    | none => exact wpAny_bind (wpAny_nextOf_list_end hh h1₀ hl1₀ hx fun h₂ e hs₂ he => hE h₂ e (fun c o c1 _ c3 _ x => hs₂ _ _ c3 (hk₀ _ _ c1 x)) he)
    | some x =>
      have hy : ys[k2]? = none := by rcases hend with h | h; rw [hx] at h; cases h; exact h
      refine wpAny_bind (wpAny_nextOf_list_item h1₀ hl1₀ hx fun h₂ h1₂ hs₂ => wpAny_pure (wpAny_pure ?_))
      refine wpAny_bind (wpAny_bind (wpAny_holding ?_))
      show wpAny _ _ (Builtin.SmallTypes.nextOf (.ref i2) >>= _) _ _ _
      exact wpAny_bind (wpAny_nextOf_list_end hh (h2₀.extBut hs₂.extBut D.i12.symm) (hl2₀.extBut hs₂.extBut D.l2i1) hy fun h₃ e hs₃ he => hE h₃ e (fun c o c1 _ c3 c4 x => hs₃ _ _ c4 (hs₂.extBut _ _ c3 (hk₀ _ _ c1 x))) he)
  | true =>
    simp only [if_true]
    refine wpAny_bind (wpAny_rule ?_)
    refine wpAny_bind (wpAny_field (s := { s with heap := h₀ }) hz₀ rfl (x := .ref TO) rfl ?_)
    refine wpAny_bind (wpAny_setField_rec (s := { s with heap := h₀ }) hz₀ (by simp) fun h₁ hz₁ hs₁ => ?_)
    replace hz₁ : IsZ h₁ z TI TO .ellipsis (.bool b0) := hz₁
    refine wpAny_bind ?_
    simp only [List.zipIdx_cons, List.zipIdx_nil, List.forIn_cons, List.forIn_nil]
    refine wpAny_bind (wpAny_bind (wpAny_onRaise ?_))
    show wpAny _ _ (Builtin.SmallTypes.nextOf (.ref i1) >>= _) _ _ _
    cases hx : xs[k1]? with
    | none =>
      refine wpAny_bind (wpAny_nextOf_list_end hh (h1₀.extBut hs₁.extBut D.i1z) (hl1₀.extBut hs₁.extBut D.l1z) hx fun h₂ e hs₂ he => ?_)
      obtain ⟨oe, hoe, hce⟩ := he
      have hz₂ : IsZ h₂ z TI TO .ellipsis (.bool b0) := hs₂ _ _ D.i1z.symm hz₁
      have hez : e ≠ z := fun x => by subst x; rw [hz₂] at hoe; cases hoe; simp at hce
      refine wpAny_setField_rec hz₂ (by simp) fun h₃ _ hs₃ => hE h₃ e (fun c o c1 _ c3 _ x => hs₃.extBut _ _ c1 (hs₂ _ _ c3 (hs₁.extBut _ _ c1 (hk₀ _ _ c1 x)))) ⟨oe, hs₃.extBut _ _ hez hoe, hce⟩
    | some x =>
      have hy : ys[k2]? = none := by rcases hend with h | h; rw [hx] at h; cases h; exact h
      refine wpAny_bind (wpAny_nextOf_list_item (h1₀.extBut hs₁.extBut D.i1z) (hl1₀.extBut hs₁.extBut D.l1z) hx fun h₂ h1₂ hs₂ => wpAny_pure ?_)
      have hTO₂ : IsPair h₂ TO a b := hs₂.extBut _ _ D.TOi1 (hs₁.extBut _ _ D.TOz hTO₀)
      refine wpAny_bind (wpAny_seqItems hTO₂ rfl ?_)
      refine wpAny_bind (wpAny_updateSeq_pair hTO₂ fun h₃ hTO₃ hs₃ => ?_)
      refine wpAny_bind (wpAny_letGo (wpAny_pure ?_))
      refine wpAny_bind (wpAny_bind (wpAny_onRaise ?_))
      show wpAny _ _ (Builtin.SmallTypes.nextOf (.ref i2) >>= _) _ _ _
      refine wpAny_bind (wpAny_nextOf_list_end hh (((h2₀.extBut hs₁.extBut D.i2z).extBut hs₂.extBut D.i12.symm).extBut hs₃.extBut D.TOi2.symm)
        (((hl2₀.extBut hs₁.extBut D.l2z).extBut hs₂.extBut D.l2i1).extBut hs₃.extBut D.l2TO) hy fun h₄ e hs₄ he => ?_)
      obtain ⟨oe, hoe, hce⟩ := he
      have hz₄ : IsZ h₄ z TI TO .ellipsis (.bool b0) := hs₄ _ _ D.i2z.symm (hs₃.extBut _ _ D.TOz.symm (hs₂.extBut _ _ D.i1z.symm hz₁))
      have hez : e ≠ z := fun x => by subst x; rw [hz₄] at hoe; cases hoe; simp at hce
      refine wpAny_setField_rec hz₄ (by simp) fun h₅ _ hs₅ => hE h₅ e (fun c o c1 c2 c3 c4 x => hs₅.extBut _ _ c1 (hs₄ _ _ c4 (hs₃.extBut _ _ c2 (hs₂.extBut _ _ c3 (hs₁.extBut _ _ c1 (hk₀ _ _ c1 x)))))) ⟨oe, hs₅.extBut _ _ hez hoe, hce⟩
theorem next_zipM {z TI TO i1 i2 l1 l2 : Addr} {k1 k2 : Nat} {xs ys : Array Value} {x y a b f0 : Value} {b1 : Bool} {Q : Option Value → Shared → Prop} (D : ZipApart z TI TO i1 i2 l1 l2)
    (hz : IsZ s.heap z TI TO f0 (.bool b1)) (hf : f0 = .none ∨ ∃ T : Nat, f0 = rawInt T) (hTI : IsPair s.heap TI (.ref i1) (.ref i2)) (hTO : IsPair s.heap TO a b)
    (h1 : s.heap.IsListIter i1 l1 k1) (h2 : s.heap.IsListIter i2 l2 k2) (hl1 : s.heap.IsList l1 xs) (hl2 : s.heap.IsList l2 ys) (hx : xs[k1]? = some x) (hy : ys[k2]? = some y)
    (hQ : ∀ h' f0' b1' a' b', IsZ h' z TI TO f0' (.bool b1') → (f0' = .none ∨ ∃ T : Nat, f0' = rawInt T) → IsPair h' TO a' b' → h'.IsListIter i1 l1 (k1 + 1) → h'.IsListIter i2 l2 (k2 + 1) → IsPair h' s.heap.objs.size x y →
      (∀ c o, c ≠ z → c ≠ TO → c ≠ i1 → c ≠ i2 → s.heap.get? c = some o → h'.get? c = some o) → Q (some (.ref s.heap.objs.size)) { s with heap := h' }) :
    wpAny (model prog w) A (pyNext (.ref z)) Q E s := by
  have hT : s.TypeIs (.ref z) "zip" := ⟨_, hz, rfl⟩
  unfold pyNext
  exact wpAny_bind (wpAny_attempt (wpAny_callSpecial?_slot (name := Str.ofString "__next__") hT F.slot_zip_next
    (wpAny_call_entry F.slot_zip_next hT F.entry_zip_next
      (zipM_item D hz hf hTI hTO h1 h2 hl1 hl2 hx hy fun h' c1 c2 c3 c4 a1 a2 a3 a4 a5 a6 a7 => wpAny_pure (hQ h' c1 c2 c3 c4 a1 a2 a3 a4 a5 a6 a7)) (F.args_zip_next_1 _))))
theorem end_zipM {z TI TO i1 i2 l1 l2 : Addr} {k1 k2 : Nat} {xs ys : Array Value} {a b f0 : Value} {b1 : Bool} {Q : Option Value → Shared → Prop} (hh : A.handled = none) (D : ZipApart z TI TO i1 i2 l1 l2)
    (hz : IsZ s.heap z TI TO f0 (.bool b1)) (hf : f0 = .none ∨ ∃ T : Nat, f0 = rawInt T) (hTI : IsPair s.heap TI (.ref i1) (.ref i2)) (hTO : IsPair s.heap TO a b)
    (h1 : s.heap.IsListIter i1 l1 k1) (h2 : s.heap.IsListIter i2 l2 k2) (hl1 : s.heap.IsList l1 xs) (hl2 : s.heap.IsList l2 ys) (hend : xs[k1]? = none ∨ ys[k2]? = none)
    (hQ : ∀ h', (∀ c o, c ≠ z → c ≠ TO → c ≠ i1 → c ≠ i2 → s.heap.get? c = some o → h'.get? c = some o) → Q none { s with heap := h' }) : wpAny (model prog w) A (pyNext (.ref z)) Q E s := by
  have hT : s.TypeIs (.ref z) "zip" := ⟨_, hz, rfl⟩
  unfold pyNext
  refine wpAny_bind (wpAny_attempt (wpAny_callSpecial?_slot (name := Str.ofString "__next__") hT F.slot_zip_next
    (wpAny_call_entry F.slot_zip_next hT F.entry_zip_next (zipM_end hh D hz hf hTI hTO h1 h2 hl1 hl2 hend fun h' e hk he => ?_) (F.args_zip_next_1 _))))
  obtain ⟨o, ho, hc⟩ := he
  refine wpAny_bind (wpAny_isInstance (T := "StopIteration") (b := true) ⟨o, ho, hc⟩ isSubtype_stop ?_)
  exact wpAny_pure (hQ _ hk)
end
theorem nolen_zip : typeLookup (.type "zip") "__len__" = pure none := by rw [typeLookup_type, builtinLookup_eq_fast]; kernel_rfl
theorem nohint_zip : typeLookup (.type "zip") "__length_hint__" = pure none := by rw [typeLookup_type, builtinLookup_eq_fast]; kernel_rfl
end Sw
namespace Sw
open PySem PySem.Spec PyProof.Rows L2 RZ
/-- zip's own objects, i pairs handed out -/
structure ZS (h : Heap) (z TI TO i1 i2 l1 l2 : Addr) (xs ys : Array Value) (i : Nat) : Prop where
  z : ∃ (f0 : Value) (b1 : Bool), IsZ h z TI TO f0 (.bool b1) ∧ (f0 = .none ∨ ∃ T : Nat, f0 = rawInt T)
  ti : IsPair h TI (.ref i1) (.ref i2)
  to : ∃ x y, IsPair h TO x y
  h1 : h.IsListIter i1 l1 i
  h2 : h.IsListIter i2 l2 i
  a : h.IsList l1 xs
  b : h.IsList l2 ys
/-- the pairs that were handed out -/
structure ZG (xs ys : Array Value) (lo : Addr) (h : Heap) (ts : List Addr) : Prop where
  rise : ts.Pairwise (· < ·)
  above : ∀ t ∈ ts, lo < t
  pairs : ∀ (j : Nat) (t : Addr), ts[j]? = some t → ∃ x y, xs[j]? = some x ∧ ys[j]? = some y ∧ IsPair h t x y
theorem ZS.keep {h h' : Heap} {z TI TO i1 i2 l1 l2 S : Addr} {xs ys : Array Value} {i : Nat} (q : ZS h z TI TO i1 i2 l1 l2 xs ys i) (k : ∀ c o, c ≠ S → h.get? c = some o → h'.get? c = some o) (off : ∀ c ∈ [z, TI, TO, i1, i2, l1, l2], c ≠ S) : ZS h' z TI TO i1 i2 l1 l2 xs ys i := by
  obtain ⟨f0, b1, q1, q2⟩ := q.z
  obtain ⟨x, y, q3⟩ := q.to
  obtain ⟨oa, ea, ra⟩ := q.a
  obtain ⟨ob, eb, rb⟩ := q.b
  exact ⟨⟨f0, b1, k _ _ (off z (by simp)) q1, q2⟩, k _ _ (off TI (by simp)) q.ti, ⟨x, y, k _ _ (off TO (by simp)) q3⟩, q.h1.at fun o e => k _ o (off i1 (by simp)) e, q.h2.at fun o e => k _ o (off i2 (by simp)) e, ⟨oa, k _ _ (off l1 (by simp)) ea, ra⟩, ⟨ob, k _ _ (off l2 (by simp)) eb, rb⟩⟩
section
variable {prog : Program} {w : World} {A : Around} {E : Value → Shared → Prop} {s : Shared} {R : Result → Shared → Prop} {z TI TO i1 i2 l1 l2 : Addr} {xs ys : Array Value}
abbrev listO (acc : Array Value) (c : Nat) : Obj := { cls := .type "list", dict := none, data := .seq acc c, slots := #[] }
theorem zip_takes (D : ZipApart z TI TO i1 i2 l1 l2) {S : Addr} (calm : A.handled = none) (off : ∀ c ∈ [z, TI, TO, i1, i2, l1, l2], c ≠ S) {n : Nat} (en : n = min xs.size ys.size) (few : n ≤ sizeLine) (res : Value) {g : Heap}
    (out : ∀ h' acc c ts, (∀ d o, d ≠ S → d ≠ z → d ≠ TO → d ≠ i1 → d ≠ i2 → g.get? d = some o → h'.get? d = some o) → h'.get? S = some (listO acc c) → ts.length = n → ZG xs ys S h' ts → acc.toList = ts.map Value.ref → R (.ok (.ret res)) { s with heap := h' }) :
    ∀ (k i : Nat) (h : Heap) (acc : Array Value) (c : Nat) (ts : List Addr), i + k = n → ZS h z TI TO i1 i2 l1 l2 xs ys i → (∀ d o, d ≠ S → d ≠ z → d ≠ TO → d ≠ i1 → d ≠ i2 → g.get? d = some o → h.get? d = some o) →
      h.get? S = some (listO acc c) → acc.toList = ts.map Value.ref → ts.length = i → ZG xs ys S h ts → (∀ t ∈ ts, t ≠ z ∧ t ≠ TO ∧ t ≠ i1 ∧ t ≠ i2) → codeAny (model prog w) A (.builtin "list.extend.loop" ⟨[.ref S, .ref z, res], []⟩) R { s with heap := h } := by
  have oz := (off z (by simp)).symm
  have oTO := (off TO (by simp)).symm
  have o1 := (off i1 (by simp)).symm
  have o2 := (off i2 (by simp)).symm
  intro k
  induction k with
  | zero =>
    intro i h acc c ts ei Z keep hS ha lt G away
    obtain ⟨⟨f0, b1, q1, q2⟩, q3, ⟨x, y, q4⟩, q5, q6, q7, q8⟩ := Z
    refine codeAny_builtin PySem.F.entry_extend_loop ?_
    rw [Around.under_plainId PySem.F.plain_extend_loop _]
    show wpAny _ A.in1 (pyNext (.ref z) >>= _) _ _ _
    have e0 : xs[i]? = none ∨ ys[i]? = none := by
      rcases Nat.le_total xs.size ys.size with q | q
      · exact .inl (Array.getElem?_eq_none (by omega))
      · exact .inr (Array.getElem?_eq_none (by omega))
    refine wpAny_bind (end_zipM (s := { s with heap := h }) (A := A.in1) calm D q1 q2 q3 q4 q5 q6 q7 q8 e0 fun h' kp => ?_)
    refine wpAny_pure (out h' acc c ts (fun d o n1 n2 n3 n4 n5 e => kp d o n2 n3 n4 n5 (keep d o n1 n2 n3 n4 n5 e)) (kp S _ oz oTO o1 o2 hS) (by omega) ⟨G.rise, G.above, fun j t hj => ?_⟩ ha)
    obtain ⟨u, v, g1, g2, g3⟩ := G.pairs j t hj
    obtain ⟨a1, a2, a3, a4⟩ := away t (List.mem_of_getElem? hj)
    exact ⟨u, v, g1, g2, kp _ _ a1 a2 a3 a4 g3⟩
  | succ k ih =>
    intro i h acc c ts ei Z keep hS ha lt G away
    have Z0 := Z
    obtain ⟨⟨f0, b1, q1, q2⟩, q3, ⟨x0, y0, q4⟩, q5, q6, q7, q8⟩ := Z
    have ix : i < xs.size := by omega
    have iy : i < ys.size := by omega
    have sz : acc.size = i := by rw [← Array.length_toList, ha, List.length_map, lt]
    have hSl : S < h.objs.size := Heap.lt_size hS
    refine codeAny_builtin PySem.F.entry_extend_loop ?_
    rw [Around.under_plainId PySem.F.plain_extend_loop _]
    show wpAny _ A.in1 (pyNext (.ref z) >>= _) _ _ _
    refine wpAny_bind (next_zipM (s := { s with heap := h }) (A := A.in1) D q1 q2 q3 q4 q5 q6 q7 q8 (Array.getElem?_eq_getElem ix) (Array.getElem?_eq_getElem iy) fun h' f0' b1' a' b' r1 r2 r3 r4 r5 r6 kp => ?_)
    dsimp only at r6 kp ⊢
    have hS' := kp S _ oz oTO o1 o2 hS
    have up : ∀ d o, d ≠ S → h'.get? d = some o → (h'.update S (Obj.mapSeq (·.push (Value.ref h.objs.size)))).get? d = some o := fun d o nd e => (Heap.get?_update_other _ _ (Ne.symm nd)).trans e
    show wpAny _ A.in1 (updateSeq S (·.push (Value.ref h.objs.size)) >>= _) _ _ _
    refine wpAny_bind (wpAny_updateSeq hS' rfl ?_ (by rw [sz]; omega) (by show (acc.push (Value.ref h.objs.size)).size ≤ sizeLine + 1; rw [Array.size_push, sz]; omega))
    have Z' : ZS h' z TI TO i1 i2 l1 l2 xs ys (i + 1) := by
      obtain ⟨oa, ea, ra⟩ := q7
      obtain ⟨ob, eb, rb⟩ := q8
      exact ⟨⟨f0', b1', r1, r2⟩, kp _ _ D.TIz D.TITO D.TIi1 D.TIi2 q3, ⟨a', b', r3⟩, r4, r5, ⟨oa, kp _ _ D.l1z D.l1TO D.l1i1 D.l1i2 ea, ra⟩, ⟨ob, kp _ _ D.l2z D.l2TO D.l2i1 D.l2i2 eb, rb⟩⟩
    refine wpAny_pure ⟨plainId_quiet PySem.F.plain_extend_loop _, ih (i + 1) _ (acc.push (Value.ref h.objs.size)) _ (ts ++ [h.objs.size]) (by omega) (Z'.keep up off) (fun d o n1 n2 n3 n4 n5 e => up d o n1 (kp d o n2 n3 n4 n5 (keep d o n1 n2 n3 n4 n5 e)))
      (Heap.get?_update_self _ hS' rfl) (by rw [Array.toList_push, ha, List.map_append]; rfl) (by rw [List.length_append, lt]; rfl) ⟨?_, fun t ht => ?_, fun j t hj => ?_⟩ fun t ht => ?_⟩
    · refine List.pairwise_append.mpr ⟨G.rise, List.pairwise_singleton _ _, fun a hm b hb => ?_⟩
      rw [List.mem_singleton.mp hb]
      obtain ⟨j, hj⟩ := List.getElem?_of_mem hm
      obtain ⟨_, _, _, _, e⟩ := G.pairs j a hj
      exact Heap.lt_size e
    · rcases List.mem_append.mp ht with q | q
      · exact G.above t q
      · rw [List.mem_singleton.mp q]
        exact hSl
    · rcases Nat.lt_trichotomy j ts.length with q | q | q
      · rw [List.getElem?_append_left q] at hj
        obtain ⟨u, v, g1, g2, g3⟩ := G.pairs j t hj
        have mt := List.mem_of_getElem? hj
        obtain ⟨a1, a2, a3, a4⟩ := away t mt
        exact ⟨u, v, g1, g2, up _ _ (Nat.ne_of_gt (G.above t mt)) (kp _ _ a1 a2 a3 a4 g3)⟩
      · subst q
        have et : h.objs.size = t := by simpa using hj
        subst et
        exact ⟨_, _, by rw [lt]; exact Array.getElem?_eq_getElem ix, by rw [lt]; exact Array.getElem?_eq_getElem iy, up _ _ (Nat.ne_of_gt hSl) r6⟩
      · rw [List.getElem?_eq_none (by rw [List.length_append, List.length_singleton]; omega)] at hj
        cases hj
    · rcases List.mem_append.mp ht with q | q
      · exact away t q
      · rw [List.mem_singleton.mp q]
        obtain ⟨_, e5, _⟩ := q5
        obtain ⟨_, e6, _⟩ := q6
        exact ⟨Nat.ne_of_gt (Heap.lt_size q1), Nat.ne_of_gt (Heap.lt_size q4), Nat.ne_of_gt (Heap.lt_size e5), Nat.ne_of_gt (Heap.lt_size e6)⟩
/-- list(a zip that stands) -/
theorem list_of_zip {Q : Value → Shared → Prop} (D : ZipApart z TI TO i1 i2 l1 l2) (calm : A.handled = none) (Z : ZS s.heap z TI TO i1 i2 l1 l2 xs ys 0) {n : Nat} (en : n = min xs.size ys.size) (few : n ≤ sizeLine)
    (then_ : ∀ h' acc c ts, (∀ d o, d ≠ z → d ≠ TO → d ≠ i1 → d ≠ i2 → s.heap.get? d = some o → h'.get? d = some o) → h'.get? s.heap.objs.size = some (listO acc c) → ts.length = n → ZG xs ys s.heap.objs.size h' ts → acc.toList = ts.map Value.ref → Q (.ref s.heap.objs.size) { s with heap := h' }) :
    wpAny (model prog w) A (call (.type "list") [.ref z]) Q E s := by
  refine callType_codes (Q₁ := fun obj s₁ => obj = .ref s.heap.objs.size ∧ s₁ = { s with heap := s.heap.push { cls := .type "list", data := .seq #[] } }) PySem.F.called_list (PySem.F.typeCall_list_1 _) PySem.F.entry_list_init (code_list_new _ ⟨rfl, rfl⟩) fun obj s₁ e₁ => ?_
  obtain ⟨rfl, rfl⟩ := e₁
  generalize eS : s.heap.objs.size = S at then_ ⊢
  have low : ∀ {c : Addr} {o : Obj}, s.heap.get? c = some o → c ≠ S := fun e => eS ▸ Nat.ne_of_lt (Heap.lt_size e)
  have off : ∀ c ∈ [z, TI, TO, i1, i2, l1, l2], c ≠ S := by
    obtain ⟨⟨f0, b1, q1, _⟩, q3, ⟨x0, y0, q4⟩, ⟨_, q5, _⟩, ⟨_, q6, _⟩, ⟨_, q7, _⟩, _, q8, _⟩ := Z
    intro c hc
    have hc : c = z ∨ c = TI ∨ c = TO ∨ c = i1 ∨ c = i2 ∨ c = l1 ∨ c = l2 := by simpa using hc
    rcases hc with rfl | rfl | rfl | rfl | rfl | rfl | rfl
    · exact low q1
    · exact low q3
    · exact low q4
    · exact low q5
    · exact low q6
    · exact low q7
    · exact low q8
  have new : (s.heap.push { cls := .type "list", data := .seq #[] }).get? S = some { cls := .type "list", data := .seq #[] } := eS ▸ Heap.get?_push_size _ rfl
  refine ⟨⟨_, new, rfl⟩, PySem.F.args_list_init_2 _ _, ?_⟩
  show wpAny _ _ (do let old ← Builtin.List.listItems (.ref S); Builtin.List.listUpdate (.ref S) (fun _ => #[]); letGo old.toList.reverse; Builtin.List.listExtendWith (.ref S) (.ref z) .none) _ _ _
  refine wpAny_bind ?_
  unfold Builtin.List.listItems
  refine wpAny_bind (wpAny_seqItems new rfl (wpAny_pure ?_))
  show wpAny _ _ (updateSeq S (fun _ => #[]) >>= fun _ => letGo (#[] : Array Value).toList.reverse >>= fun _ => Builtin.List.listExtendWith (.ref S) (.ref z) .none) _ _ _
  refine wpAny_bind (wpAny_updateSeq new rfl ?_)
  have at1 := Heap.get?_update_self (Obj.mapSeq (fun _ => (#[] : Array Value))) new rfl
  refine wpAny_bind (wpAny_letGo ?_)
  have k1 : ∀ c o, c ≠ S → s.heap.get? c = some o → ((s.heap.push { cls := .type "list", data := .seq #[] }).update S (Obj.mapSeq (fun _ => (#[] : Array Value)))).get? c = some o := fun c o nc e => (Heap.get?_update_other _ _ (Ne.symm nc)).trans (Heap.get?_push_of_some _ e)
  generalize (s.heap.push { cls := .type "list", data := .seq #[] }).update S (Obj.mapSeq (fun _ => (#[] : Array Value))) = h1 at at1 k1 ⊢
  obtain ⟨ca, at1⟩ : ∃ c, h1.get? S = some (listO #[] c) := ⟨_, at1⟩
  have Z1 := Z.keep k1 off
  obtain ⟨f0, b1, zz, _⟩ := Z1.z
  have ty : ∀ {h : Heap}, (∃ f0 b1, IsZ h z TI TO f0 (.bool b1)) → Shared.TypeIs { s with heap := h } (.ref z) "zip" := fun ⟨_, _, q⟩ => ⟨_, q, rfl⟩
  unfold Builtin.List.listExtendWith
  refine wpAny_bind (wpAny_typeOf (T := "zip") (ty ⟨_, _, zz⟩) ?_)
  have c1 : Builtin.List.listSameRef (.ref S) (.ref z) = false := by simp [Builtin.List.listSameRef, (off z (by simp)).symm]
  have c2 : (Value.type "zip" == Value.type "list") = false := by decide
  have c3 : (Value.type "zip" == Value.type "tuple") = false := by decide
  simp only [c1, c2, c3, Bool.or_false, Bool.false_eq_true, if_false]
  refine wpAny_bind (self_zipN zz ?_)
  refine wpAny_bind (wpAny_holding ?_)
  unfold Builtin.List.listLengthHint
  refine wpAny_bind (wpAny_specialOf (ty ⟨_, _, zz⟩) nolen_zip ?_)
  show wpAny _ _ (specialOf (Value.ref z) (Str.ofString "__length_hint__") >>= _) _ _ _
  refine wpAny_bind (wpAny_specialOf (ty ⟨_, _, zz⟩) nohint_zip ?_)
  refine wpAny_pure ?_
  show wpAny _ _ (rule "list.extend.makes-room" >>= fun _ => Builtin.List.listTouch (.ref S) >>= fun _ => again (.builtin "list.extend.loop" ⟨[.ref S, .ref z, .none], []⟩)) _ _ _
  refine wpAny_bind (wpAny_rule ?_)
  refine wpAny_bind ?_
  show wpAny _ _ (updateSeq S (·.push .none) >>= fun _ => updateSeq S (·.pop)) _ _ _
  refine wpAny_bind (wpAny_updateSeq at1 rfl ?_)
  have at2 := Heap.get?_update_self (Obj.mapSeq (·.push Value.none)) at1 rfl
  refine wpAny_updateSeq (hz := by seq_fits) at2 rfl ?_
  have at3 := Heap.get?_update_self (Obj.mapSeq (·.pop)) at2 rfl
  have k3 : ∀ c o, c ≠ S → h1.get? c = some o → ((h1.update S (Obj.mapSeq (·.push Value.none))).update S (Obj.mapSeq (·.pop))).get? c = some o := fun c o nc e => (Heap.get?_update_other _ _ (Ne.symm nc)).trans ((Heap.get?_update_other _ _ (Ne.symm nc)).trans e)
  generalize (h1.update S (Obj.mapSeq (·.push Value.none))).update S (Obj.mapSeq (·.pop)) = h3 at at3 k3 ⊢
  obtain ⟨cb, at3⟩ : ∃ c, h3.get? S = some (listO #[] c) := ⟨_, at3⟩
  refine wpAny_pure ⟨plainId_quiet PySem.F.plain_extend_loop _, zip_takes (A := A.in1) (s := s) (g := h3) D calm off en few .none (fun h' acc c ts kp hS' len G ha => ?_) n 0 h3 #[] cb [] (by omega) (Z1.keep k3 off) (fun _ _ _ _ _ _ _ e => e) at3 rfl rfl ⟨.nil, fun _ h => (List.not_mem_nil h).elim, fun j t hj => by simp at hj⟩ fun _ h => (List.not_mem_nil h).elim⟩
  exact ⟨rfl, then_ h' acc c ts (fun d o n2 n3 n4 n5 e => kp d o (low e) n2 n3 n4 n5 (k3 d o (low e) (k1 d o (low e) e))) hS' len G ha⟩
end
end Sw
namespace Sw
open PySem PySem.Spec PyProof.Rows L2 RZ
/-! ### list(zip(a, b)) as an expression -/
/-- pairs laid at their addresses -/
def putP : Hp → List Addr → List (V × V) → Hp
  | H, t :: ts, p :: ps => putP (upd H t (.tup [p.1, p.2])) ts ps
  | H, _, _ => H
theorem putP_else {b : Addr} : ∀ (ts : List Addr) (ps : List (V × V)) (H : Hp), b ∉ ts → putP H ts ps b = H b
  | [], _, _, _ => rfl
  | _ :: _, [], _, _ => rfl
  | t :: ts, p :: ps, H, n => by
    have n1 : b ≠ t := fun z => n (z ▸ List.mem_cons_self)
    have n2 : b ∉ ts := fun z => n (List.mem_cons_of_mem _ z)
    show putP (upd H t (.tup [p.1, p.2])) ts ps b = H b
    rw [putP_else ts ps _ n2, upd_ne n1]
theorem putP_at : ∀ (ts : List Addr) (ps : List (V × V)) (H : Hp), ts.length = ps.length → ts.Nodup → Paired (fun (t : Addr) (p : V × V) => putP H ts ps t = some (.tup [p.1, p.2])) ts ps
  | [], [], _, _, _ => .nil
  | [], _ :: _, _, h, _ => nomatch h
  | _ :: _, [], _, h, _ => nomatch h
  | t :: ts, p :: ps, H, h, nd => by
    obtain ⟨n1, n2⟩ := List.nodup_cons.mp nd
    refine .cons ?_ (putP_at ts ps (upd H t (.tup [p.1, p.2])) (Nat.succ.inj h) n2)
    show putP (upd H t (.tup [p.1, p.2])) ts ps t = _
    rw [putP_else ts ps _ n1, upd_same]
theorem paired_at {α β : Type} {F : α → β → Prop} : ∀ {xs : List α} {ys : List β}, Paired F xs ys → ∀ {x : α}, x ∈ xs → ∃ (j : Nat) (y : β), xs[j]? = some x ∧ ys[j]? = some y ∧ F x y
  | _, _, .cons h t, x, m => by
    rcases List.mem_cons.mp m with z | z
    · subst z
      exact ⟨0, _, rfl, rfl, h⟩
    · obtain ⟨j, y, a, b, c⟩ := paired_at t z
      exact ⟨j + 1, y, a, b, c⟩
theorem refs_vals : ∀ ts : List Addr, Vals (ts.map V.ref) (ts.map Value.ref)
  | [] => .nil
  | _ :: r => .cons rfl (refs_vals r)
def rListZip (K : PySem.W.Frag) : List V → Hp → VK → Prop := fun vs H Q => ∃ (a b : Addr) (xs ys : List V), vs = [.ref a, .ref b] ∧ SqL K H a xs ∧ SqL K H b ys ∧
  ∀ (H' : Hp) (p : Addr) (ts : List Addr), Same H H' → H p = none → H' p = some (.lst (ts.map V.ref)) → Paired (fun (t : Addr) (q : V × V) => H' t = some (.tup [q.1, q.2])) ts (xs.zip ys) → Q (.ref p) H'
section
variable {X : Cx}
theorem zip_laid {pins : List (Addr × Obj)} {σ : L2.St} {H : Hp} {s : Shared} {h' : Heap} {xs ys : List V} {us vs : List Value} {acc : Array Value} {c : Nat} {ts : List Addr} {S : Addr} (I : Inv X pins σ H s) (rx : Vals xs us) (ry : Vals ys vs) (few : xs.length ≤ sizeLine)
    (k : ∀ b o, s.heap.get? b = some o → h'.get? b = some o) (hS : s.heap.objs.size ≤ S) (atS : h'.get? S = some (listO acc c)) (len : ts.length = (xs.zip ys).length) (G : ZG us.toArray vs.toArray S h' ts) (ea : acc.toList = ts.map Value.ref) :
    ∃ H' : Hp, Same H H' ∧ H S = none ∧ H' S = some (.lst (ts.map V.ref)) ∧ Paired (fun (t : Addr) (q : V × V) => H' t = some (.tup [q.1, q.2])) ts (xs.zip ys) ∧ Inv X pins σ H' { s with heap := h' } := by
  have nS : S ∉ ts := fun z => Nat.lt_irrefl _ (G.above _ z)
  have nd : ts.Nodup := G.rise.imp fun q => Nat.ne_of_lt q
  have fr : ∀ t ∈ ts, H t = none := fun t m => I.hok.fresh (Nat.le_trans hS (Nat.le_of_lt (G.above t m)))
  have frS : H S = none := I.hok.fresh hS
  generalize e0 : upd H S (.lst (ts.map V.ref)) = H0
  have prs := putP_at ts (xs.zip ys) H0 len nd
  have els : ∀ b, b ∉ ts → b ≠ S → putP H0 ts (xs.zip ys) b = H b := fun b h1 h2 => by rw [putP_else ts _ _ h1, ← e0, upd_ne h2]
  have lst : putP H0 ts (xs.zip ys) S = some (.lst (ts.map V.ref)) := by rw [putP_else ts _ _ nS, ← e0, upd_same]
  have up : ∀ b u, H b = some u → putP H0 ts (xs.zip ys) b = some u := fun b u e => by
    rw [els b (fun z => by rw [fr b z] at e; cases e) (fun z => by rw [z, frS] at e; cases e)]
    exact e
  refine ⟨putP H0 ts (xs.zip ys), up, frS, lst, prs, ?_⟩
  have un : Un (frs X.stack) [] H (putP H0 ts (xs.zip ys)) s.heap h' := by
    refine ⟨fun b o q _ _ _ => k b o q, fun b o q _ _ _ => ⟨o.slots, k b o q⟩, fun b o q n _ => ?_, fun b o q _ => ⟨o, k b o q⟩, fun b l q => up b _ q, fun b o u q => up b _ q, fun b l q => ⟨#[], by rw [up b _ q]; simp⟩⟩
    have lt := Heap.lt_size q
    have lS : b < S := Nat.lt_of_lt_of_le lt hS
    rw [els b (fun z => Nat.lt_irrefl _ (Nat.lt_trans lS (G.above b z))) (Nat.ne_of_lt lS)]
    exact n
  refine I.call' (ch := []) rfl un (fun b u q => ?_) I.bare fun b z => (List.not_mem_nil z).elim
  by_cases hb : b ∈ ts
  · obtain ⟨j, p, a1, a2, a3⟩ := paired_at prs hb
    rw [a3] at q
    cases q
    obtain ⟨x, y, g1, g2, g3⟩ := G.pairs j b a1
    obtain ⟨z1, z2⟩ := List.getElem?_zip_eq_some.mp (show (xs.zip ys)[j]? = some (p.1, p.2) from a2)
    obtain ⟨x', hx', rx'⟩ := rx.get z1
    obtain ⟨y', hy', ry'⟩ := ry.get z2
    have g1 : us[j]? = some x := by simpa using g1
    have g2 : vs[j]? = some y := by simpa using g2
    rw [hx'] at g1
    rw [hy'] at g2
    cases g1
    cases g2
    exact ⟨by show 2 ≤ sizeLine; decide, [_, _], .cons rx' (.cons ry' .nil), ⟨_, g3, rfl, _, rfl⟩⟩
  · by_cases hb2 : b = S
    · subst hb2
      rw [lst] at q
      cases q
      refine ⟨?_, acc.toList, c, by rw [ea]; exact refs_vals ts, ?_⟩
      · rw [List.length_map, len, List.length_zip]
        omega
      · rw [Array.toArray_toList]
        exact atS
    · rw [els b hb hb2] at q
      exact (I.hok b u q).stay (fun d v _ y => k d v y) (fun d y => up d _ y) fun d l y => up d _ y
theorem pe_listZip {e e2 : Expr} {ta : TA} {p p2 zpos pos : Pos} (calm : X.calm = true) (hg : Gl X "zip") (hm : X.mg "zip" = none) (hg2 : Gl X "list") (hm2 : X.mg "list" = none) (hv : bootBuiltins "list" = some (.type "list")) (ha : PA X [e, e2] ta)
    (hs : starEach [e, e2] X.env = (false, eval e X.env) :: starEach [e2] X.env := by rfl) (hpl : (backTo zpos (starEach [e2] X.env)).any (·.1) = false := by rfl)
    (hs2 : starEach [.Call (.Name "zip" p2) [e, e2] [] zpos] X.env = (false, eval (.Call (.Name "zip" p2) [e, e2] [] zpos) X.env) :: starEach [] X.env := by rfl) :
    PE X (.Call (.Name "list" p) [.Call (.Name "zip" p2) [e, e2] [] zpos] [] pos) (fun σ H Q => ta σ H fun vs H1 => rListZip X.K vs H1 Q) := by
  refine ⟨fun pins s σ H Q I h => ?_⟩
  refine wpAny_Call_Name_kw (ld_blt I hg2 hm2 hv (PyProof.Rows.callWith_type1 ?_ hs2 rfl))
  rw [hs2]
  show wpAny _ _ (spliced ((false, eval (.Call (.Name "zip" p2) [e, e2] [] zpos) X.env) :: backTo pos (starEach [] X.env))) _ _ s
  refine Calls.spliced_cons ?_
  refine Call_ (ld_blt I hg hm PyProof.Rows.boot_zip (PyProof.Rows.callWith_type1 (thn (ha.run zpos pins s σ H _ I h) fun us s1 ⟨vs, H1, I1, r1, q1⟩ => ?_) hs hpl))
  obtain ⟨a, b, xs, ys, rfl, qx, qy, q⟩ := q1
  obtain ⟨u1, u2, rfl, ra, rb⟩ := vals2 r1
  obtain rfl : u1 = Value.ref a := ra
  obtain rfl : u2 = Value.ref b := rb
  obtain ⟨its, rv, pl, few⟩ := I1.list qx
  obtain ⟨its2, rv2, pl2, _⟩ := I1.list qy
  refine call_zip_2 pl.isList pl2.isList fun h' hz hTI hTO h1 h2 hsz kp => ?_
  refine Calls.spliced_nil ?_
  have lx := rv.length
  have ly := rv2.length
  have keepL : ∀ {l : Addr} {i : Array Value}, s1.heap.IsList l i → h'.IsList l i := fun ⟨o, e, r⟩ => ⟨o, kp _ _ e, r⟩
  refine list_of_zip (s := { s1 with heap := h' }) (xs := its.toArray) (ys := its2.toArray) (n := (xs.zip ys).length) (PySem.W.ktu_apart s1.heap.objs.size a b pl.lt pl2.lt) (I1.ok.hd calm) ⟨⟨_, _, hz, .inl rfl⟩, hTI, ⟨_, _, hTO⟩, h1, h2, keepL pl.isList, keepL pl2.isList⟩
    (by rw [List.length_zip, List.size_toArray, List.size_toArray, lx, ly]) (by rw [List.length_zip]; omega) fun h3 acc c ts k3 atS len G ea => ?_
  obtain ⟨H', m1, m2, m3, m4, J⟩ := zip_laid (S := h'.objs.size) I1 rv rv2 few (fun d o e => by
    have lt := Heap.lt_size e
    exact k3 d o (Nat.ne_of_lt (Nat.lt_of_lt_of_le lt (Nat.le_add_right _ _))) (Nat.ne_of_lt (Nat.lt_of_lt_of_le lt (Nat.le_add_right _ _))) (Nat.ne_of_lt lt) (Nat.ne_of_lt (Nat.lt_of_lt_of_le lt (Nat.le_add_right _ _))) (kp d o e)) (by rw [hsz]; exact Nat.le_add_right _ _) atS len G ea
  exact ⟨.ref _, H', J, rfl, q H' _ ts m1 m2 m3 m4⟩
end
end Sw
namespace Sw
open PySem PySem.Spec PyProof.Rows L2
/-! ### pairs of a zip as arrows -/
theorem refs_of : ∀ {ys : List V}, (∀ y ∈ ys, ∃ t, y = V.ref t) → ∃ ps : List Addr, ys = ps.map V.ref
  | [], _ => ⟨[], rfl⟩
  | y :: r, h => by
    obtain ⟨t, rfl⟩ := h y List.mem_cons_self
    obtain ⟨ps, rfl⟩ := refs_of (ys := r) fun z hz => h z (List.mem_cons_of_mem _ hz)
    exact ⟨t :: ps, rfl⟩
theorem zip_arsW {H : Hp} : ∀ {ts : List Addr} {xs ys : List Int}, Paired (fun (t : Addr) (q : V × V) => H t = some (.tup [q.1, q.2])) ts ((xs.map V.int).zip (ys.map V.int)) → ArsAt H (ts.map V.ref) (xs.zip ys)
  | [], [], _, _ => by
    rw [List.zip_nil_left]
    exact .nil
  | [], _ :: _, [], _ => .nil
  | t :: ts, x :: xs, y :: ys, .cons h r => .cons ⟨t, rfl, h⟩ (zip_arsW r)
end Sw
namespace Sw
open PySem PySem.Spec PyProof.Rows L2
/-! ### nets by ears, as they are made -/
theorem kpw_upd {p d l : Addr} {H0 H : Hp} {o : HO} (k : KpW p d H0 H) (n : H0 l = none) : KpW p d H0 (upd H l o) := fun b u e n1 n2 => by
  rw [upd_ne (ne_of_none e n)]
  exact k b u e n1 n2
/-- what lies while a net by ears is made: the stops left, the arrows, the colours, the stops there -/
structure EH (p d l fl dd hl : Addr) (H0 Z : Hp) (ls os : List Int) (es : List (Int × Int)) (kvs : List (Key × V)) : Prop where
  D0 : Loom H0 p d
  D : Loom Z p d
  K : KpW p d H0 Z
  la : Z l = some (.lst (ls.map V.int))
  fa : PairsAt Z fl es
  ca : Z dd = some (.dK kvs)
  ha : Z hl = some (.lst (os.map V.int))
  nl : H0 l = none
  nf : H0 fl = none
  nc : H0 dd = none
  nh : H0 hl = none
  lf : l ≠ fl
  lh : l ≠ hl
  fh : fl ≠ hl
section
variable {p d l fl dd hl : Addr} {H0 Z Z' : Hp} {ls os : List Int} {es : List (Int × Int)} {kvs : List (Key × V)}
theorem EH.cl (E : EH p d l fl dd hl H0 Z ls os es kvs) : dd ≠ l := fun z => by
  have := E.ca
  rw [z, E.la] at this
  cases this
theorem EH.ch (E : EH p d l fl dd hl H0 Z ls os es kvs) : dd ≠ hl := fun z => by
  have := E.ca
  rw [z, E.ha] at this
  cases this
theorem EH.cf (E : EH p d l fl dd hl H0 Z ls os es kvs) : dd ≠ fl := fun z => by
  obtain ⟨ts, h, _⟩ := E.fa
  have := E.ca
  rw [z, h] at this
  cases this
theorem EH.ol (E : EH p d l fl dd hl H0 Z ls os es kvs) : l ≠ p ∧ l ≠ d := E.D0.off E.nl
theorem EH.of_ (E : EH p d l fl dd hl H0 Z ls os es kvs) : fl ≠ p ∧ fl ≠ d := E.D0.off E.nf
theorem EH.oc (E : EH p d l fl dd hl H0 Z ls os es kvs) : dd ≠ p ∧ dd ≠ d := E.D0.off E.nc
theorem EH.oh (E : EH p d l fl dd hl H0 Z ls os es kvs) : hl ≠ p ∧ hl ≠ d := E.D0.off E.nh
theorem EH.kpw (E : EH p d l fl dd hl H0 Z ls os es kvs) (D : Loom Z' p d) (k : KpW p d Z Z') : EH p d l fl dd hl H0 Z' ls os es kvs := by
  obtain ⟨ts, h, A⟩ := E.fa
  exact { E with D := D, K := E.K.trans k, la := k _ _ E.la E.ol.1 E.ol.2, fa := ⟨ts, k _ _ h E.of_.1 E.of_.2, A.keep (TupS.kpw E.D k)⟩, ca := k _ _ E.ca E.oc.1 E.oc.2, ha := k _ _ E.ha E.oh.1 E.oh.2 }
theorem EH.same (E : EH p d l fl dd hl H0 Z ls os es kvs) (s : Same Z Z') : EH p d l fl dd hl H0 Z' ls os es kvs := E.kpw (E.D.same s) (.of s)
/-- a new list -/
theorem EH.fresh (E : EH p d l fl dd hl H0 Z ls os es kvs) {a : Addr} (n : Z a = none) : H0 a = none := kpw_free E.D E.K n
/-- the stops left, changed -/
theorem EH.setL (E : EH p d l fl dd hl H0 Z ls os es kvs) (ls' : List Int) : EH p d l fl dd hl H0 (upd Z l (.lst (ls'.map V.int))) ls' os es kvs := by
  obtain ⟨ts, h, A⟩ := E.fa
  exact { E with D := E.D.lst E.ol, K := kpw_upd E.K E.nl, la := upd_same, fa := ⟨ts, by rw [upd_ne E.lf.symm]; exact h, A.keep (TupS.lst E.la)⟩, ca := by rw [upd_ne E.cl]; exact E.ca, ha := by rw [upd_ne E.lh.symm]; exact E.ha }
/-- one arrow more -/
theorem EH.addF (E : EH p d l fl dd hl H0 Z ls os es kvs) {ts : List V} {xs : List V} {gs : List (Int × Int)} (h : Z fl = some (.lst ts)) (A : ArsAt Z ts es) (B : ArsAt Z xs gs) : EH p d l fl dd hl H0 (upd Z fl (.lst (ts ++ xs))) ls os (es ++ gs) kvs :=
  { E with D := E.D.lst E.of_, K := kpw_upd E.K E.nf, la := by rw [upd_ne E.lf]; exact E.la, fa := ⟨ts ++ xs, upd_same, ars_app (A.keep (TupS.lst h)) (B.keep (TupS.lst h))⟩, ca := by rw [upd_ne E.cf]; exact E.ca, ha := by rw [upd_ne E.fh.symm]; exact E.ha }
/-- one colour more -/
theorem EH.setC (E : EH p d l fl dd hl H0 Z ls os es kvs) (kvs' : List (Key × V)) : EH p d l fl dd hl H0 (upd Z dd (.dK kvs')) ls os es kvs' := by
  obtain ⟨ts, h, A⟩ := E.fa
  have tu : TupS Z (upd Z dd (.dK kvs')) := TupS.upd fun u t z => by
    rw [E.ca] at z
    cases z
    exact t.ns E.ca E.ca (fun _ z => nomatch z) fun _ _ z => nomatch z
  exact { E with D := E.D.lst E.oc, K := kpw_upd E.K E.nc, la := by rw [upd_ne E.cl.symm]; exact E.la, fa := ⟨ts, by rw [upd_ne E.cf.symm]; exact h, A.keep tu⟩, ca := upd_same, ha := by rw [upd_ne E.ch.symm]; exact E.ha }
/-- other stops there -/
theorem EH.setH (E : EH p d l fl dd hl H0 Z ls os es kvs) {hl' : Addr} {os' : List Int} (h : Z hl' = some (.lst (os'.map V.int))) (n : H0 hl' = none) (lh : l ≠ hl') (fh : fl ≠ hl') : EH p d l fl dd hl' H0 Z ls os' es kvs := { E with ha := h, nh := n, lh := lh, fh := fh }
end
section
variable {p d l fl dd hl : Addr} {H0 Z Z' : Hp} {ls os : List Int} {es : List (Int × Int)} {kvs : List (Key × V)}
/-- the stops there, changed -/
theorem EH.addH (E : EH p d l fl dd hl H0 Z ls os es kvs) (os' : List Int) : EH p d l fl dd hl H0 (upd Z hl (.lst (os'.map V.int))) ls os' es kvs := by
  obtain ⟨ts, h, A⟩ := E.fa
  exact { E with D := E.D.lst E.oh, K := kpw_upd E.K E.nh, la := by rw [upd_ne E.lh]; exact E.la, fa := ⟨ts, by rw [upd_ne E.fh]; exact h, A.keep (TupS.lst E.ha)⟩, ca := by rw [upd_ne E.ch]; exact E.ca, ha := upd_same }
/-- another list, changed -/
theorem EH.oth (E : EH p d l fl dd hl H0 Z ls os es kvs) {a : Addr} {xs : List V} (h : Z a = some (.lst xs)) (n : H0 a = none) (al : a ≠ l) (af : a ≠ fl) (ah : a ≠ hl) (xs' : List V) : EH p d l fl dd hl H0 (upd Z a (.lst xs')) ls os es kvs := by
  obtain ⟨ts, hf, A⟩ := E.fa
  have ac : a ≠ dd := fun z => by
    rw [z, E.ca] at h
    cases h
  exact { E with D := E.D.lst (E.D0.off n), K := kpw_upd E.K n, la := by rw [upd_ne al.symm]; exact E.la, fa := ⟨ts, by rw [upd_ne af.symm]; exact hf, A.keep (TupS.lst h)⟩, ca := by rw [upd_ne ac.symm]; exact E.ca, ha := by rw [upd_ne ah.symm]; exact E.ha }
end
theorem cutV_one {b : Int} {ws : List Int} : cutV ((b :: ws).map V.int) (some 1) none = ws.map V.int := by
  unfold cutV
  rw [show (some (1 : Int)) = some ((1 : Nat) : Int) from rfl, HT.sIx_nat, HT.sIx_none, List.length_map, List.length_cons, show min 1 (ws.length + 1) = 1 by omega, List.take_of_length_le (by rw [List.length_drop, List.length_map, List.length_cons]; exact Nat.le_refl _)]
  rfl
/-- popped from the end -/
theorem pop_last {rest : List Int} (h : rest ≠ []) : ∃ r x, rest = r ++ [x] ∧ (rest.map V.int)[(rest.map V.int).length - 1]? = some (.int x) ∧ (rest.map V.int).dropLast = r.map V.int := by
  obtain ⟨x, r, e, h1, h2⟩ := last_intW h
  exact ⟨r, x, e, h1, h2⟩
/-- the colours told of the stops there -/
structure ShA (kvs : List (Key × V)) (os : List Int) (sh : Int → Int) : Prop where
  at_ : ∀ v ∈ os, valV kvs (.inl v : Key) = some (.int (sh v))
  two : ∀ v ∈ os, sh v = 0 ∨ sh v = 1
  len : kvs.length ≤ os.length
theorem put_len (kvs : List (Key × V)) (k : Key) (y : V) : (putK kvs k y).length ≤ kvs.length + 1 := by
  unfold putK
  split
  · rw [List.length_map]
    omega
  · rw [List.length_append]
    exact Nat.le_refl _
/-- ahead of the first ring -/
structure EH0 (p d l fl dd : Addr) (H0 Z : Hp) (ls : List Int) : Prop where
  D0 : Loom H0 p d
  D : Loom Z p d
  K : KpW p d H0 Z
  la : Z l = some (.lst (ls.map V.int))
  fa : Z fl = some (.lst [])
  ca : Z dd = some (.dK [])
  nl : H0 l = none
  nf : H0 fl = none
  nc : H0 dd = none
  lf : l ≠ fl
theorem EH0.same {p d l fl dd : Addr} {H0 Z Z' : Hp} {ls : List Int} (E : EH0 p d l fl dd H0 Z ls) (s : Same Z Z') : EH0 p d l fl dd H0 Z' ls := { E with D := E.D.same s, K := E.K.trans (.of s), la := s _ _ E.la, fa := s _ _ E.fa, ca := s _ _ E.ca }
theorem EH0.eh {p d l fl dd L : Addr} {H0 Z : Hp} {ls : List Int} (E : EH0 p d l fl dd H0 Z ls) (n : Z L = none) : EH p d l fl dd L H0 (upd Z L (.lst [])) ls [] [] [] := by
  have s := same_new (o := .lst []) n
  refine ⟨E.D0, E.D.same s, E.K.trans (.of s), s _ _ E.la, ⟨[], s _ _ E.fa, .nil⟩, s _ _ E.ca, upd_same, E.nl, E.nf, E.nc, kpw_free E.D E.K n, E.lf, fun z => ?_, fun z => ?_⟩
  · rw [← z, E.la] at n
    cases n
  · rw [← z, E.fa] at n
    cases n
/-- the stops there, their arrows, the stops left -/
structure EN (n : Int) (ev : Bool) (ls os : List Int) (es : List (Int × Int)) (kvs : List (Key × V)) (sh : Int → Int) : Prop where
  nd : (os ++ ls).Nodup
  all : ∀ v, v ∈ os ++ ls ↔ Inn n v
  len : os.length + ls.length = n.toNat
  E : Ears os es
  few : es.length ≤ 2 * os.length
  S : ShA kvs os sh
  two : 2 ≤ os.length
  ev : ev = true → Shd os es sh
section
variable {P : Program} {w : World} {K : PySem.W.Frag} {mg : Str → Option Value} {base : Heap}
abbrev sEaredW : Stmt := top 53
abbrev nEaredW : List Str := ["loom", "size", "is_even", "left", "found", "shade", "many", "here", "at", "stop", "way", "begin", "ends", "chain", "turn", "own"]
theorem scEaredW : FnScope nEaredW ["loom", "size", "is_even"] (defScope sEaredW) := ⟨rfl, rfl, rfl, by decide +kernel, rfl, by decide +kernel, by decide +kernel⟩
def spEaredW : Sp := fun vs H Q _ => ∃ (p d : Addr) (n : Int) (ev : Bool), vs = [.ref p, .int n, .bl ev] ∧ Loom H p d ∧ 2 ≤ n ∧ n ≤ 12 ∧
  ∀ (t l fl dd hl : Addr) (os : List Int) (es : List (Int × Int)) (kvs : List (Key × V)) (sh : Int → Int) (H' : Hp), EH p d l fl dd hl H H' [] os es kvs → EN n ev [] os es kvs sh → H' t = some (.tup [.ref fl, .ref dd]) → Q (.ref t) H'
def EA0 (p d : Addr) (n : Int) (ev : Bool) (H : Hp) : L2.St → Hp → Prop := fun σ Z => ∃ (l fl dd : Addr) (ls : List Int) (m : Nat),
  σ = [some (.ref p), some (.int n), some (.bl ev), some (.ref l), some (.ref fl), some (.ref dd), some (.int (m : Nat)), none, none, none, none, none, none, none, none, none] ∧ EH0 p d l fl dd H Z ls ∧ ls.Nodup ∧ (∀ v, v ∈ ls ↔ Inn n v) ∧ ls.length = n.toNat ∧ 2 ≤ m ∧ (m : Int) ≤ n
def EA (p d : Addr) (n : Int) (ev : Bool) (H : Hp) : L2.St → Hp → Prop := fun σ Z => ∃ (l fl dd : Addr) (ls : List Int) (m : Nat),
  σ = [some (.ref p), some (.int n), some (.bl ev), some (.ref l), some (.ref fl), some (.ref dd), some (.int (m : Nat)), none, none, none, none, none, none, none, none, none] ∧ EH0 p d l fl dd H Z ls ∧ ls.Nodup ∧ (∀ v, v ∈ ls ↔ Inn n v) ∧ ls.length = n.toNat ∧ 2 ≤ m ∧ (m : Int) ≤ n ∧ (ev = true → m % 2 = 0)
/-- while -/
def EW (p d : Addr) (n : Int) (ev : Bool) (H : Hp) : L2.St → Hp → Prop := fun σ Z => ∃ (l fl dd hl : Addr) (ls os : List Int) (es : List (Int × Int)) (kvs : List (Key × V)) (sh : Int → Int) (s6 s8 s9 s10 s11 s12 s13 : Option V),
  σ = [some (.ref p), some (.int n), some (.bl ev), some (.ref l), some (.ref fl), some (.ref dd), s6, some (.ref hl), s8, s9, s10, s11, s12, s13, none, none] ∧ EH p d l fl dd hl H Z ls os es kvs ∧ EN n ev ls os es kvs sh
/-- before it -/
def EB (p d : Addr) (n : Int) (ev : Bool) (H : Hp) : L2.St → Hp → Prop := fun σ Z => ∃ (l fl dd hl : Addr) (ls os : List Int) (s6 s8 s9 s10 s11 s12 s13 : Option V),
  σ = [some (.ref p), some (.int n), some (.bl ev), some (.ref l), some (.ref fl), some (.ref dd), some (.int (os.length : Nat)), some (.ref hl), s8, s9, s10, s11, s12, s13, none, none] ∧ EH p d l fl dd hl H Z ls os [] [] ∧ (os ++ ls).Nodup ∧ (∀ v, v ∈ os ++ ls ↔ Inn n v) ∧ os.length + ls.length = n.toNat ∧ 2 ≤ os.length ∧ (ev = true → os.length % 2 = 0)
theorem ok_earedW {f : Addr} {fd : FuncData} (F : Fun K "_law_eared" "_law_eared" sEaredW f fd) (B : NoNames mg) (OD : Own P w K mg base 1 "_law_draw" ["loom", "many"] spDrawW) (OP : Own P w K mg base 2 "_law_pick" ["loom", "things"] spPickW) (OM : Own P w K mg base 2 "_law_mixed" ["loom", "things"] spMixedW) : FnOk P w K mg base CX0 3 f fd ["loom", "size", "is_even"] spEaredW := by
  obtain ⟨fD, fdD, GD, mD, kD, bD⟩ := OD.ex
  obtain ⟨fP, fdP, GP, mP, kP, bP⟩ := OP.ex
  obtain ⟨fM, fdM, GM, mM, kM, bM⟩ := OM.ex
  refine F.ok scEaredW (fun vs H Q E h => ?_) (fun cdv A outer s H vs Q E hr h => ?_)
  · obtain ⟨p, d, n, ev, rfl, _⟩ := h
    rfl
  · obtain ⟨p, d, n, ev, rfl, D, n2, n12, q⟩ := h
    have hr1 := hr.mono (by decide : 1 ≤ 2)
    have hu := hu_ofW hr
    refine ⟨_, pss_cons (ps_asg (pe_tup (pa_cons (pe_call GM hr rfl mM kM bM .nil pass0 (pa_cons (pv 0) (pa_cons (pe_listRg rfl (by rfl) B.list (prg_1 (by rfl) B.range (pv 1))) pa_nil))) (pa_cons (pe_lst pa_nil) (pa_cons pe_dnewK (pa_cons (pe_op (r := rI0 fun i j => .int (i + j)) op_add pe_int (pe_call GD hr1 rfl mD kD bD .nil pass0 (pa_cons (pv 0) (pa_cons (pe_op (r := rI0 fun i j => .int (i - j)) op_sub (pv 1) pe_int) pa_nil)))) pa_nil)))))
        (pg_tup (by rfl) (pgs_cons (pg_name (i := 3) scEaredW.nd rfl (.inr rfl)) (pgs_cons (pg_name (i := 4) scEaredW.nd rfl (.inl rfl)) (pgs_cons (pg_name (i := 5) scEaredW.nd rfl (.inr rfl)) (pgs_cons (pg_name (i := 6) scEaredW.nd rfl (.inl rfl)) pgs_nil)))))) <|
      pss_cons (ps_cut (J := EA0 p d n ev H) (J' := EA p d n ev H) (ps_set (i := 6) scEaredW.nd rfl (.inl rfl) (pe_op (r := rI0 fun i j => .int (i - j)) op_sub (pv 6) (pe_callTy call_int1 (by rfl) B.int (by decide +kernel) (pa_cons (pe_and (pv 2) (pe_one (pe_cmpR op_eq (pe_op (r := rI (fun _ j => 0 < j) fun i j => .int (i % j)) op_mod (pe_callTy call_int1 (by rfl) B.int (by decide +kernel) (pa_cons (pv 6) pa_nil)) pe_int) pe_int (nomark _)))) pa_nil)))) ?c0) <|
      pss_cons (ps_setLc (i := 7) (own := [("turn", 14)]) (g := gName 14) (tt := tYes) (te := tBM0 K "list" rPop (tVar 3)) rfl scEaredW.nd rfl rfl (sw_true rfl rfl rfl (by decide +kernel)) (pi_range1 (by rfl) B.range (pa_cons (pv 6) pa_nil)) (blkOk_by (own := [("turn", 14)]) (N := nEaredW) (sc := defScope sEaredW) (by decide +kernel))
          (fun _ _ _ _ _ => pg_name (i := 14) scEaredW.nd rfl (Or.inl rfl)) (fun _ _ _ _ _ => pts_nil) (fun _ _ _ _ _ => pe_bm0 PySem.F.plainAttrs_list PySem.F.slot_list_pop PySem.F.type_list_pop mt_pop (pv 3))) <|
      pss_cons (ps_cut (J := EB p d n ev H) (J' := EW p d n ev H) (ps_for PassesOwn.never rfl (pi_enum (by rfl) B.enumerate (pa_cons (pv 7) pa_nil)) (pg_tup rfl (pgs_cons (pg_name (i := 8) scEaredW.nd rfl (.inl rfl)) (pgs_cons (pg_name (i := 9) scEaredW.nd rfl (.inl rfl)) pgs_nil)))
        (pss_cons (ps_dput hu (pv 5) (pv 9) (pe_op (r := rI (fun _ j => 0 < j) fun i j => .int (i % j)) op_mod (pe_callTy call_int1 (by rfl) B.int (by decide +kernel) (pa_cons (pv 8) pa_nil)) pe_int) (by rfl)) <|
         pss_one (ps_expr (pe_bm PySem.F.plainAttrs_list PySem.F.slot_list_append PySem.F.type_list_append mt_append (pv 4) (pa_cons (pe_tup (pa_cons (pv 9) (pa_cons (pe_ix (r := rIxL K) ix_list (pv 7) (pe_op (r := rI (fun _ j => 0 < j) fun i j => .int (i % j)) op_mod (pe_callTy call_int1 (by rfl) B.int (by decide +kernel) (pa_cons (pe_op (r := rI0 fun i j => .int (i + j)) op_add (pv 8) pe_int) pa_nil)) (pv 6)) (fun _ _ => rfl)) pa_nil))) pa_nil))))) ?ca) <|
      pss_cons (ps_while PassesOwn.never (pt_cmpR (op_neNil hr.units0) (pv 3) (pe_lst pa_nil) (nomark _))
        (pss_cons (ps_asg (pe_tup (pa_cons
            (pe_lc (own := [("turn", 14)]) (g := gName 14) (tt := tYes) (te := tBM0 K "list" rPop (tVar 3)) rfl scEaredW.nd (pi_range1 (by rfl) B.range (pa_cons (pe_op (r := rI0 fun i j => .int (i + j)) op_add pe_int (pe_call GD hr1 rfl mD kD bD .nil pass0 (pa_cons (pv 0) (pa_cons (pe_callB call_len_seq (by rfl) B.len PySem.boot_len (pa_cons (pv 3) pa_nil)) pa_nil)))) pa_nil)) (blkOk_by (own := [("turn", 14)]) (N := nEaredW) (sc := defScope sEaredW) (by decide +kernel))
              (fun _ _ _ _ _ => pg_name (i := 14) scEaredW.nd rfl (Or.inl rfl)) (fun _ _ _ _ _ => pts_nil) (fun _ _ _ _ _ => pe_bm0 PySem.F.plainAttrs_list PySem.F.slot_list_pop PySem.F.type_list_pop mt_pop (pv 3)))
            (pa_cons (pe_call GP hr rfl mP kP bP .nil pass0 (pa_cons (pv 0) (pa_cons (pv 7) pa_nil))) pa_nil))) (pg_tup (by rfl) (pgs_cons (pg_name (i := 10) scEaredW.nd rfl (.inr rfl)) (pgs_cons (pg_name (i := 11) scEaredW.nd rfl (.inr rfl)) pgs_nil)))) <|
         pss_cons (ps_setLc (i := 12) (own := [("own", 15)]) (g := gName 15) (te := tVar 15) rfl scEaredW.nd rfl rfl (sw_true rfl rfl rfl (by decide +kernel)) (pi_list (pv 7)) (blkOk_by (own := [("own", 15)]) (N := nEaredW) (sc := defScope sEaredW) (by decide +kernel))
            (fun _ _ _ _ _ => pg_name (i := 15) scEaredW.nd rfl (Or.inl rfl))
            (fun _ _ _ _ _ => pts_one (PW.pt (pw_or (pt_not (pt_val (pv 2))) (pw_or1 (pt_cmpR op_ne (pe_dget hu (pv 5) (pv 15) (fun _ _ => rfl)) (pe_op (r := rI (fun _ j => 0 < j) fun i j => .int (i % j)) op_mod (pe_callTy call_int1 (by rfl) B.int (by decide +kernel) (pa_cons (pe_op (r := rI0 fun i j => .int (i + j)) op_add (pe_dget hu (pv 5) (pv 11) (fun _ _ => rfl)) (pe_callB (r := fun xs H Q => ∃ p ys, xs = [V.ref p] ∧ (SqL K H p ys ∨ SqT K H p ys) ∧ Q (V.int (ys.length : Nat)) H) call_len_seq (by rfl) B.len PySem.boot_len (pa_cons (pv 10) pa_nil))) pa_nil)) pe_int) (nomark _))))))
            (fun _ _ _ _ _ => pv 15)) <|
         pss_cons (ps_set (i := 13) scEaredW.nd rfl (.inl rfl) (pe_op op_cat (pe_op op_cat (pe_lst (pa_cons (pv 11) pa_nil)) (pv 10)) (pe_lst (pa_cons (pe_call GP hr rfl mP kP bP .nil pass0 (pa_cons (pv 0) (pa_cons (pv 12) pa_nil))) pa_nil)))) <|
         pss_cons (ps_expr (pe_bm PySem.F.plainAttrs_list PySem.F.slot_list_extend PySem.F.type_list_extend mt_extend (pv 4) (pa_cons (pe_listZip rfl (by rfl) B.zip (by rfl) B.list (by decide +kernel) (pa_cons (pv 13) (pa_cons (pe_slice sl_list (pv 13) (po_some pe_int) po_none) pa_nil))) pa_nil))) <|
         pss_cons (ps_for PassesOwn.never rfl (pi_enum (by rfl) B.enumerate (pa_cons (pv 10) pa_nil)) (pg_tup rfl (pgs_cons (pg_name (i := 8) scEaredW.nd rfl (.inl rfl)) (pgs_cons (pg_name (i := 9) scEaredW.nd rfl (.inl rfl)) pgs_nil)))
           (pss_one (ps_dput hu (pv 5) (pv 9) (pe_op (r := rI (fun _ j => 0 < j) fun i j => .int (i % j)) op_mod (pe_callTy call_int1 (by rfl) B.int (by decide +kernel) (pa_cons (pe_op (r := rI0 fun i j => .int (i + j)) op_add (pe_op (r := rI0 fun i j => .int (i + j)) op_add (pe_dget hu (pv 5) (pv 11) (fun _ _ => rfl)) (pv 8)) pe_int) pa_nil)) pe_int) (by rfl)))) <|
         pss_one (ps_set (i := 7) scEaredW.nd rfl (.inl rfl) (pe_op op_cat (pv 7) (pv 10))))) <|
      pss_one (ps_ret (pe_tup (pa_cons (pv 4) (pa_cons (pv 5) pa_nil)))), ?_⟩
    case c0 =>
      rintro D0 σ H1 ⟨l, fl, dd, ls, m, rfl, M, nd, al, ll, m2, mn⟩ nx
      cases ev with
      | false =>
        refine ⟨_, rfl, _, rfl, _, rfl, iteF (.inr ⟨false, rfl, _, _, rfl, rfl, ?_⟩)⟩
        refine nx _ _ ⟨l, fl, dd, ls, m, ?_, M, nd, al, ll, m2, mn, fun z => nomatch z⟩
        show _ = [_, _, _, _, _, _, some (V.int (m : Int)), _, _, _, _, _, _, _, _, _]
        rw [show (m : Int) = (m : Int) - 0 by omega]
        rfl
      | true =>
        refine ⟨_, rfl, _, rfl, _, rfl, iteT ⟨_, rfl, .inl ⟨_, rfl, _, _, rfl, rfl, by show (0 : Int) < 2; decide, rfl, .inr ⟨_, rfl, _, _, rfl, rfl, ?_⟩⟩⟩⟩
        by_cases c : (m : Int) % 2 = 1
        · rw [show decide (V.int ((m : Int) % 2) = V.int 1) = true from decide_eq_true (by rw [c])]
          refine nx _ _ ⟨l, fl, dd, ls, m - 1, ?_, M, nd, al, ll, by omega, by omega, fun _ => by omega⟩
          show _ = [_, _, _, _, _, _, some (V.int ((m - 1 : Nat) : Int)), _, _, _, _, _, _, _, _, _]
          rw [show ((m - 1 : Nat) : Int) = (m : Int) - 1 by omega]
          rfl
        · rw [show decide (V.int ((m : Int) % 2) = V.int 1) = false from decide_eq_false fun z => c (V.int.inj z)]
          refine nx _ _ ⟨l, fl, dd, ls, m, ?_, M, nd, al, ll, m2, mn, fun _ => by omega⟩
          show _ = [_, _, _, _, _, _, some (V.int (m : Int)), _, _, _, _, _, _, _, _, _]
          rw [show (m : Int) = (m : Int) - 0 by omega]
          rfl
    case ca =>
      rintro D0 σ H1 ⟨l, fl, dd, hl, ls, os, s6, s8, s9, s10, s11, s12, s13, rfl, M, nd, al, ll, l2, ev2⟩ nx
      refine ⟨_, rfl, hl, _, rfl, SqL.of M.ha, for_it walk_enum (fun j σ Z => ∃ (kvs : List (Key × V)) (s8 s9 s10 s11 s12 s13 : Option V), σ = [some (.ref p), some (.int n), some (.bl ev), some (.ref l), some (.ref fl), some (.ref dd), some (.int (os.length : Nat)), some (.ref hl), s8, s9, s10, s11, s12, s13, none, none] ∧ EH p d l fl dd hl H Z ls os ((ringE os).take j) kvs ∧ (∀ i, i < j → valV kvs (.inl (os.getD i 0) : Key) = some (.int ((i % 2 : Nat) : Int))) ∧ kvs.length ≤ j)
        ⟨_, _, _, _, _, _, _, rfl, M, fun i h => absurd h (Nat.not_lt_zero _), Nat.le_refl _⟩ (fun j σ Z _ h => by obtain ⟨_, _, _, _, _, _, _, _, h, _⟩ := h; exact SqL.of h.ha) ?_ ?_⟩
      · clear M
        rintro j x σ Hb Hc hj ⟨kvs, s8, s9, s10, s11, s12, s13, rfl, M, hk, lk⟩ ⟨Tt, x1, x2, rfl, nT, rfl, e1, e2⟩
        obtain rfl : V.int (j : Nat) = x1 := Option.some.inj e1
        obtain ⟨z, ez, rfl⟩ := int_at e2
        refine ⟨Tt, _, rfl, SqT.of upd_same, rfl, _, _, rfl, _, _, rfl, rfl, ?_⟩
        have sT := same_new (o := .tup [.int (j : Nat), .int z]) nT
        have M1 := M.same sT
        generalize (upd Hb Tt (.tup [.int (j : Nat), .int z])) = H2 at M1 ⊢
        rw [List.length_map] at hj
        have ez' : os.getD j 0 = z := by
          rw [List.getD_eq_getElem?_getD, ez]
          rfl
        have n0 := M1.D
        have lo : os.length ≤ 12 := by omega
        refine ⟨_, rfl, .inl ⟨_, rfl, _, _, rfl, rfl, by show (0 : Int) < 2; decide, _, rfl, _, rfl, dd, _, rfl, DPut.k (k := .inl z) M1.ca (by rw [sizeLine_eq]; omega), ?_⟩⟩
        have M2 := M1.setC (putK kvs (.inl z) (.int ((j : Int) % 2)))
        generalize (upd H2 dd (.dK (putK kvs (.inl z) (.int ((j : Int) % 2))))) = H3 at M2 ⊢
        obtain ⟨ts, hf, A⟩ := M2.fa
        have lt : ts.length = ((ringE os).take j).length := A.len
        have lt2 : ((ringE os).take j).length ≤ j := List.length_take_le j _
        have hm := Nat.mod_lt (j + 1) (show 0 < os.length by omega)
        have em : ((j : Nat) : Int) + 1 = ((j + 1 : Nat) : Int) := by omega
        have ei : (((j : Nat) : Int) + 1) % (os.length : Nat) = (((j + 1) % os.length : Nat) : Int) := by rw [em, Int.natCast_emod]
        have ga : atI (os.map V.int) ((((j : Nat) : Int) + 1) % (os.length : Nat)) = some (.int (os.getD ((j + 1) % os.length) 0)) := by
          rw [ei]
          refine at_of (j := (j + 1) % os.length) rfl ?_
          rw [List.getElem?_map, List.getElem?_eq_getElem hm, gd hm]
          rfl
        refine ⟨_, rfl, .inl ⟨rfl, _, SqL.of hf⟩, _, rfl, _, rfl, _, rfl, _, _, rfl, rfl, .inl ⟨_, rfl, _, rfl, _, _, rfl, rfl, by show (0 : Int) < (os.length : Nat); omega, hl, _, _, _, rfl, rfl, SqL.of M2.ha, ga, by show 2 ≤ sizeLine; decide, fun T nT => ?_⟩⟩
        have sT := same_new (o := .tup [.int z, .int (os.getD ((j + 1) % os.length) 0)]) nT
        have M3 := M2.same sT
        have hf3 := sT _ _ hf
        have A3 := A.keep (.of sT)
        have hT := upd_same (H := H3) (a := T) (o := .tup [.int z, .int (os.getD ((j + 1) % os.length) 0)])
        generalize (upd H3 T (.tup [.int z, .int (os.getD ((j + 1) % os.length) 0)])) = H4 at M3 hf3 A3 hT ⊢
        refine ⟨fl, ts, .ref T, rfl, rfl, hf3, by rw [sizeLine_eq]; omega, ?_⟩
        have M4 := M3.addF hf3 A3 (xs := [.ref T]) (gs := [(z, os.getD ((j + 1) % os.length) 0)]) (.cons ⟨T, rfl, hT⟩ .nil)
        have er : (ringE os).take j ++ [(z, os.getD ((j + 1) % os.length) 0)] = (ringE os).take (j + 1) := by
          rw [List.take_add_one]
          congr 1
          unfold ringE
          rw [List.getElem?_map, List.getElem?_range hj, ← ez']
          rfl
        rw [er] at M4
        refine ⟨_, _, _, _, _, _, _, rfl, M4, fun i hi => ?_, Nat.le_trans (put_len _ _ _) (by omega)⟩
        rw [valV_put]
        by_cases c : i = j
        · rw [c, ez', if_pos rfl]
          rfl
        · rw [if_neg, hk i (by omega)]
          intro e
          have e := Sum.inl.inj e
          rw [← ez'] at e
          exact c (gd_inj (List.nodup_append.mp nd).1 (by omega) hj e)
      · rintro σ Hb ⟨kvs, s8, s9, s10, s11, s12, s13, rfl, M, hk, lk⟩
        rw [List.length_map] at hk M lk
        rw [List.take_of_length_le (by unfold ringE; rw [List.length_map, List.length_range]; exact Nat.le_refl _)] at M
        have ndo := (List.nodup_append.mp nd).1
        have sh : ∀ i, i < os.length → (fun v : Int => ((os.idxOf v % 2 : Nat) : Int)) (os.getD i 0) = ((i % 2 : Nat) : Int) := fun i hi => by
          show ((os.idxOf (os.getD i 0) % 2 : Nat) : Int) = _
          rw [idx_at ndo (i := i) (by rw [List.getElem?_eq_getElem hi, gd hi])]
        refine nx _ _ ⟨l, fl, dd, hl, ls, os, _, kvs, fun v => ((os.idxOf v % 2 : Nat) : Int), _, _, _, _, _, _, _, rfl, M, nd, al, ll, .ring ndo l2, by unfold ringE; rw [List.length_map, List.length_range]; omega, ⟨fun v hv => ?_, fun v _ => by show ((os.idxOf v % 2 : Nat) : Int) = 0 ∨ ((os.idxOf v % 2 : Nat) : Int) = 1; omega, lk⟩, l2, fun z => .ring l2 (ev2 z) sh⟩
        obtain ⟨i, hi, rfl⟩ := mem_gd hv
        rw [hk i hi]
        exact congrArg (fun x => some (V.int x)) (sh i hi).symm
    refine ⟨_, rfl, _, rfl, n, rfl, RgOk.of_le (by decide) (by omega) (by decide) (by omega), fun q0 nq => ?_⟩
    have sq := same_new (o := .lst (rgV 0 n)) nq
    refine ⟨p, d, q0, _, rfl, D.same sq, upd_same, by rw [rgV_length]; omega, fun l ms H1 D1 k1 nr h1 pm => ?_⟩
    obtain ⟨ls, rfl, lo, nd, io⟩ := mixed_ints pm
    have nl0 := sq.free nr
    have kA := (KpW.of sq).trans k1
    refine ⟨Nat.zero_le _, fun fl nf => ?_⟩
    have sf := same_new (o := .lst []) nf
    have nf0 := kpw_free D1 kA nf
    have hf := upd_same (H := H1) (a := fl) (o := .lst [])
    have lf : l ≠ fl := fun z => by
      rw [← z, h1] at nf
      cases nf
    have D2 := D1.same sf
    have h2 := sf _ _ h1
    have k2 := kA.trans (.of sf)
    generalize (upd H1 fl (.lst [])) = H2 at D2 h2 k2 hf ⊢
    intro dd nd'
    have sd := same_new (o := .dK []) nd'
    have nd0 := kpw_free D2 k2 nd'
    have hd := upd_same (H := H2) (a := dd) (o := .dK [])
    have D3 := D2.same sd
    have h3 := sd _ _ h2
    have f3 := sd _ _ hf
    have k3 := k2.trans (.of sd)
    generalize (upd H2 dd (.dK [])) = H3 at D3 h3 k3 f3 hd ⊢
    refine ⟨_, rfl, _, rfl, _, _, rfl, rfl, p, d, n - 1, rfl, D3, by omega, fun r H4 r0 r1 D4 k4 => ⟨_, _, rfl, rfl, by show 4 ≤ sizeLine; decide, fun T nT => ?_⟩⟩
    have r1 := r1 (by omega)
    obtain ⟨r, rfl⟩ := Int.eq_ofNat_of_zero_le r0
    have ol := D.off nl0
    have oF := D.off nf0
    have oC := D.off nd0
    have M0 : EH0 p d l fl dd H H4 ls := ⟨D, D4, k3.trans k4, k4 _ _ h3 ol.1 ol.2, k4 _ _ f3 oF.1 oF.2, k4 _ _ hd oC.1 oC.2, nl0, nf0, nd0, lf⟩
    have sT := same_new (o := .tup [.ref l, .ref fl, .ref dd, .int (2 + (r : Int))]) nT
    refine ⟨T, _, rfl, SqT.of upd_same, rfl, _, _, rfl, _, _, rfl, _, _, rfl, _, _, rfl, rfl, ?_⟩
    have M1 := M0.same sT
    generalize (upd H4 T (.tup [.ref l, .ref fl, .ref dd, .int (2 + (r : Int))])) = H5 at M1 ⊢
    have e2 : (2 : Int) + (r : Int) = ((2 + r : Nat) : Int) := by omega
    refine ⟨⟨l, fl, dd, ls, 2 + r, by show _ = [_, _, _, _, _, _, some (V.int ((2 + r : Nat) : Int)), _, _, _, _, _, _, _, _, _]; rw [← e2]; rfl, M1, nd, io, lo, by omega, by omega⟩, ?_⟩
    clear M1 M0 sT h1 h2 h3 f3 hf hd k1 k2 k3 k4 kA D1 D2 D3 D4 nd io lo e2 r0 r1 ol oF oC nl0 nf0 nd0 sq sf sd lf pm
    rintro σ H6 ⟨l, fl, dd, ls, m, rfl, M, nd, al, ll, m2, mn, ev2⟩
    refine ⟨_, rfl, m, rfl, by omega, by omega, fun L nL => ?_⟩
    refine lc_it walk_range (fun j Z => ∃ rest ps : List Int, EH p d l fl dd L H Z rest ps [] [] ∧ rest ++ ps.reverse = ls ∧ ps.length = j) ⟨ls, [], M.eh nL, List.append_nil _, rfl⟩ (fun _ _ _ _ => trivial) ?_ ?_
    · rintro j x Hb Hc hj ⟨rest, ps, M1, e1, e2⟩ ⟨rfl, rfl⟩
      have hj : j < ((m : Nat) : Int).toNat := hj
      rw [Int.toNat_natCast] at hj
      have lr : rest.length + ps.length = ls.length := by
        rw [← e1, List.length_append, List.length_reverse]
      have nr : rest ≠ [] := fun z => by
        rw [z] at lr
        rw [List.length_nil] at lr
        omega
      obtain ⟨r, x, rfl, h1, h2⟩ := pop_last nr
      refine ⟨rfl, ?_⟩
      dsimp only [tYes]
      rw [if_pos rfl]
      refine ⟨_, rfl, .inl ⟨rfl, _, SqL.of M1.la⟩, l, _, _, rfl, rfl, M1.la, h1, ?_⟩
      rw [h2]
      have M2 := M1.setL r
      refine ⟨_, M2.ha, by rw [List.length_map, sizeLine_eq]; omega, r, ps ++ [x], ?_, by rw [List.reverse_append, ← e1]; simp, by rw [List.length_append, e2]; rfl⟩
      have := M2.addH (ps ++ [x])
      rw [List.map_append] at this
      exact this
    · rintro Z ⟨rest, ps, M1, e1, e2⟩
      have e2 : ps.length = ((m : Nat) : Int).toNat := e2
      rw [Int.toNat_natCast] at e2
      have pm : (ps ++ rest).Perm ls := by
        rw [← e1]
        exact List.perm_append_comm.trans ((List.reverse_perm ps).symm.append_left rest)
      have ln := pm.length_eq
      rw [List.length_append] at ln
      refine ⟨⟨l, fl, dd, L, rest, ps, some (.int 0), _, _, _, _, _, _, by rw [e2]; rfl, M1, pm.nodup_iff.mpr nd, fun v => pm.mem_iff.trans (al v), by omega, by omega, fun z => by rw [e2]; exact ev2 z⟩, ?_⟩
      clear M1 pm ln nd al e1 e2 M
      rintro σ H7 ⟨l, fl, dd, hl, ls, os, es, kvs, sh, s6, s8, s9, s10, s11, s12, s13, rfl, M, N⟩
      refine ⟨fun mm σ Z => ∃ (l fl dd hl : Addr) (ls os : List Int) (es : List (Int × Int)) (kvs : List (Key × V)) (sh : Int → Int) (s6 s8 s9 s10 s11 s12 s13 : Option V),
          σ = [some (.ref p), some (.int n), some (.bl ev), some (.ref l), some (.ref fl), some (.ref dd), s6, some (.ref hl), s8, s9, s10, s11, s12, s13, none, none] ∧ EH p d l fl dd hl H Z ls os es kvs ∧ EN n ev ls os es kvs sh ∧ ls.length = mm,
        ⟨_, l, fl, dd, hl, ls, os, es, kvs, sh, s6, s8, s9, s10, s11, s12, s13, rfl, M, N, rfl⟩, ?_⟩
      clear M N
      rintro mm σ H8 ⟨l, fl, dd, hl, ls, os, es, kvs, sh, s6, s8, s9, s10, s11, s12, s13, rfl, M, N, rfl⟩
      refine ⟨_, rfl, Nat.zero_le _, fun e ne => ?_⟩
      have se := same_new (o := .lst []) ne
      have M1 := M.same se
      have he := upd_same (H := H8) (a := e) (o := .lst [])
      generalize (upd H8 e (.lst [])) = H9 at M1 he ⊢
      refine ⟨l, e, _, rfl, rfl, SqL.of M1.la, SqL.of he, _, rfl, ite2 (fun y => ?_) (fun y => ?_)⟩
      · have nls : ls ≠ [] := fun z => by
          rw [z] at y
          cases y
        have pls : 0 < ls.length := List.length_pos_iff.mpr nls
        have lsum := N.len
        have l12 : os.length + ls.length ≤ 12 := by omega
        refine ⟨fun σ Z => ∃ m', m' < ls.length ∧ ∃ (l fl dd hl : Addr) (ls os : List Int) (es : List (Int × Int)) (kvs : List (Key × V)) (sh : Int → Int) (s6 s8 s9 s10 s11 s12 s13 : Option V),
          σ = [some (.ref p), some (.int n), some (.bl ev), some (.ref l), some (.ref fl), some (.ref dd), s6, some (.ref hl), s8, s9, s10, s11, s12, s13, none, none] ∧ EH p d l fl dd hl H Z ls os es kvs ∧ EN n ev ls os es kvs sh ∧ ls.length = m', fun _ _ h => h, ?_⟩
        refine ⟨_, rfl, _, rfl, l, _, rfl, .inl (SqL.of M1.la), p, d, ((ls.map V.int).length : Int), rfl, M1.D, by rw [List.length_map]; omega, fun r H10 r0 r1 D10 k10 => ?_⟩
        rw [List.length_map] at r1
        have r1 := r1 (by omega)
        obtain ⟨r, rfl⟩ := Int.eq_ofNat_of_zero_le r0
        refine ⟨_, _, rfl, rfl, 1 + (r : Int), rfl, by omega, by omega, fun W nW => ?_⟩
        have M2 := M1.kpw D10 k10
        have nW0 := M2.fresh nW
        have Wl : W ≠ l := fun z => by rw [z, M2.la] at nW; cases nW
        have Wh : W ≠ hl := fun z => by rw [z, M2.ha] at nW; cases nW
        have Wf : W ≠ fl := fun z => by
          obtain ⟨ts, hf, _⟩ := M2.fa
          rw [z, hf] at nW
          cases nW
        refine lc_it walk_range (fun j Z => ∃ rest ws : List Int, EH p d l fl dd hl H Z rest os es kvs ∧ Z W = some (.lst (ws.map V.int)) ∧ rest ++ ws.reverse = ls ∧ ws.length = j) ⟨ls, [], M2.same (same_new nW), upd_same, List.append_nil _, rfl⟩ (fun _ _ _ _ => trivial) ?_ ?_
        · rintro j x Hb Hc hj ⟨rest, ws, M3, hW, e1, e2⟩ ⟨rfl, rfl⟩
          have hj : j < (1 + ((r : Nat) : Int)).toNat := hj
          have lr : rest.length + ws.length = ls.length := by
            rw [← e1, List.length_append, List.length_reverse]
          have nr : rest ≠ [] := fun z => by
            rw [z] at lr
            rw [List.length_nil] at lr
            omega
          obtain ⟨r', x, rfl, h1, h2⟩ := pop_last nr
          refine ⟨rfl, ?_⟩
          dsimp only [tYes]
          rw [if_pos rfl]
          refine ⟨_, rfl, .inl ⟨rfl, _, SqL.of M3.la⟩, l, _, _, rfl, rfl, M3.la, h1, ?_⟩
          rw [h2]
          have M4 := M3.setL r'
          have hW4 : (upd Hc l (.lst (r'.map V.int))) W = some (.lst (ws.map V.int)) := by
            rw [upd_ne Wl]
            exact hW
          have M5 := M4.oth hW4 nW0 Wl Wf Wh ((ws ++ [x]).map V.int)
          rw [List.map_append] at M5
          exact ⟨_, hW4, by rw [List.length_map, sizeLine_eq]; omega, r', ws ++ [x], M5, by rw [upd_same, List.map_append]; rfl, by rw [List.reverse_append, ← e1]; simp, by rw [List.length_append, e2]; rfl⟩
        rintro Z ⟨rest, ws, M3, hW, e1, e2⟩
        have e2 : ws.length = (1 + ((r : Nat) : Int)).toNat := e2
        have lr : rest.length + ws.length = ls.length := by
          rw [← e1, List.length_append, List.length_reverse]
        have pm : (ws ++ rest).Perm ls := by
          rw [← e1]
          exact List.perm_append_comm.trans ((List.reverse_perm ws).symm.append_left rest)
        have two := N.two
        have oW := M.D0.off nW0
        clear M2 M1 nW D10 k10 he se
        refine ⟨_, rfl, _, rfl, p, d, hl, _, rfl, M3.D, M3.ha, M3.oh.1, M3.oh.2, (fun z => by rw [List.map_eq_nil_iff] at z; rw [z] at two; cases two), by rw [List.length_map]; omega, fun b H11 mb D11 k11 => ?_⟩
        obtain ⟨b, mbo, rfl⟩ := List.mem_map.mp mb
        clear mb
        have mb := mbo
        clear mbo
        have M4 := M3.kpw D11 k11
        have hW4 := k11 _ _ hW oW.1 oW.2
        refine ⟨by show 2 ≤ sizeLine; decide, fun T nT => ?_⟩
        have sT := same_new (o := .tup [.ref W, .int b]) nT
        refine ⟨T, _, rfl, SqT.of upd_same, rfl, _, _, rfl, _, _, rfl, rfl, ?_⟩
        have M5 := M4.same sT
        have hW5 := sT _ _ hW4
        generalize (upd H11 T (.tup [.ref W, .int b])) = H12 at M5 hW5 ⊢
        clear M3 M4 sT k11 D11 nT hW hW4
        have hb := N.S.at_ b mb
        have tb := N.S.two b mb
        refine ⟨_, rfl, hl, rfl, ⟨_, SqL.of M5.ha⟩, fun L nL => ?_⟩
        have nL0 := M5.fresh nL
        have Ll : L ≠ l := fun z => by rw [z, M5.la] at nL; cases nL
        have Lh : L ≠ hl := fun z => by rw [z, M5.ha] at nL; cases nL
        have Lf : L ≠ fl := fun z => by
          obtain ⟨ts, hf, _⟩ := M5.fa
          rw [z, hf] at nL
          cases nL
        have LW : L ≠ W := fun z => by rw [z, hW5] at nL; cases nL
        refine lc_it (walk_list (K := K) (a := hl) (xs := os.map V.int)) (fun j Z => EH p d l fl dd hl H Z rest os es kvs ∧ Z W = some (.lst (ws.map V.int)) ∧ Z L = some (.lst (((os.take j).filter fun o => !ev || decide (sh o ≠ (sh b + (ws.length : Int)) % 2)).map V.int)))
          ⟨M5.same (same_new nL), same_new nL _ _ hW5, upd_same⟩ (fun j Z _ h => SqL.of h.1.ha) ?_ ?_
        · rintro j x Hb Hc hj ⟨M6, hW6, hL6⟩ ⟨rfl, ex⟩
          obtain ⟨o, eo, rfl⟩ := int_at ex
          have mo : o ∈ os := List.mem_of_getElem? eo
          have ho := N.S.at_ o mo
          have et : (os.take (j + 1)).filter (fun o => !ev || decide (sh o ≠ (sh b + (ws.length : Int)) % 2)) = (os.take j).filter (fun o => !ev || decide (sh o ≠ (sh b + (ws.length : Int)) % 2)) ++ (if (!ev || decide (sh o ≠ (sh b + (ws.length : Int)) % 2)) = true then [o] else []) := by
            rw [List.take_add_one, eo, List.filter_append]
            congr 1
            show List.filter _ [o] = _
            rw [List.filter_cons]
            rfl
          have put : (!ev || decide (sh o ≠ (sh b + (ws.length : Int)) % 2)) = true → EH p d l fl dd hl H (upd Hc L (.lst (((os.take j).filter fun o => !ev || decide (sh o ≠ (sh b + (ws.length : Int)) % 2)).map V.int ++ [.int o]))) rest os es kvs ∧ (upd Hc L (.lst (((os.take j).filter fun o => !ev || decide (sh o ≠ (sh b + (ws.length : Int)) % 2)).map V.int ++ [.int o]))) W = some (.lst (ws.map V.int)) ∧ (upd Hc L (.lst (((os.take j).filter fun o => !ev || decide (sh o ≠ (sh b + (ws.length : Int)) % 2)).map V.int ++ [.int o]))) L = some (.lst (((os.take (j + 1)).filter fun o => !ev || decide (sh o ≠ (sh b + (ws.length : Int)) % 2)).map V.int)) := fun c => by
            refine ⟨M6.oth hL6 nL0 Ll Lf Lh _, by rw [upd_ne LW.symm]; exact hW6, ?_⟩
            rw [upd_same, et, if_pos c, List.map_append]
            rfl
          have few : (((os.take j).filter fun o => !ev || decide (sh o ≠ (sh b + (ws.length : Int)) % 2)).map V.int).length < sizeLine := by
            have h1 := List.length_filter_le (fun o => !ev || decide (sh o ≠ (sh b + (ws.length : Int)) % 2)) (os.take j)
            have h2 := List.length_take_le j os
            rw [List.length_map, List.length_take] at *
            rw [sizeLine_eq]
            omega
          refine ⟨rfl, ?_⟩
          refine ⟨_, rfl, ev, rfl, ?_⟩
          have go := DGet.k (k := (.inl o : Key)) M6.ca
          rw [ho] at go
          have gb := DGet.k (k := (.inl b : Key)) M6.ca
          rw [hb] at gb
          cases ev with
          | false => exact iteT (iteT ⟨_, rfl, _, hL6, few, put rfl⟩)
          | true =>
            refine iteF ⟨_, rfl, _, rfl, dd, _, rfl, go, _, rfl, _, rfl, dd, _, rfl, gb, _, rfl, W, _, rfl, .inl (SqL.of hW6), _, _, rfl, rfl, .inl ⟨_, rfl, _, _, rfl, rfl, by show (0 : Int) < 2; decide, rfl, _, rfl, ?_⟩⟩
            have e : (!decide (V.int (sh o) = V.int ((sh b + ((ws.map V.int).length : Int)) % 2))) = (!true || decide (sh o ≠ (sh b + (ws.length : Int)) % 2)) := by
              rw [List.length_map]
              by_cases z : sh o = (sh b + (ws.length : Int)) % 2
              · rw [z, decide_eq_true rfl]
                simp
              · rw [decide_eq_false fun c => z (V.int.inj c)]
                simp [z]
            rw [e]
            by_cases c : (!true || decide (sh o ≠ (sh b + (ws.length : Int)) % 2)) = true
            · rw [c]
              exact iteT ⟨_, rfl, _, hL6, few, put c⟩
            · rw [Bool.not_eq_true] at c
              rw [c]
              refine iteF ⟨M6, hW6, ?_⟩
              rw [et, if_neg (by rw [c]; decide), List.append_nil]
              exact hL6
        · rintro Z ⟨M6, hW6, hL6⟩
          rw [List.length_map, List.take_length] at hL6
          generalize hed : (os.filter fun o => !ev || decide (sh o ≠ (sh b + (ws.length : Int)) % 2)) = eds at hL6
          have ened : eds ≠ [] := fun z => by
            have all : ∀ o ∈ os, ¬ (!ev || decide (sh o ≠ (sh b + (ws.length : Int)) % 2)) = true := fun o ho c => by
              have : o ∈ eds := by
                rw [← hed]
                exact List.mem_filter.mpr ⟨ho, c⟩
              rw [z] at this
              cases this
            cases ev with
            | false => exact all b mb rfl
            | true =>
              obtain ⟨u0, m0, z0⟩ := (N.ev rfl).b0
              obtain ⟨u1, m1, z1⟩ := (N.ev rfl).b1
              have a0 := all u0 m0
              have a1 := all u1 m1
              rw [z0] at a0
              rw [z1] at a1
              simp only [Bool.not_true, Bool.false_or, decide_eq_true_eq] at a0 a1
              omega
          have led : eds.length ≤ os.length := by
            rw [← hed]
            exact List.length_filter_le _ _
          have oL := M6.D0.off nL0
          refine ⟨_, rfl, by show 1 ≤ sizeLine; decide, fun A nA => ?_⟩
          have sA := same_new (o := .lst [.int b]) nA
          have hA := upd_same (H := Z) (a := A) (o := .lst [.int b])
          have M7 := M6.same sA
          have hW7 := sA _ _ hW6
          have hL7 := sA _ _ hL6
          generalize (upd Z A (.lst [.int b])) = Z7 at M7 hW7 hL7 hA ⊢
          refine ⟨_, rfl, A, W, _, _, rfl, rfl, hA, hW7, by rw [List.length_map, sizeLine_eq]; show 1 + _ ≤ _; omega, fun B' nB => ?_⟩
          have sB := same_new (o := .lst ([.int b] ++ ws.map V.int)) nB
          have hB := upd_same (H := Z7) (a := B') (o := .lst ([.int b] ++ ws.map V.int))
          have M8 := M7.same sB
          have hW8 := sB _ _ hW7
          have hL8 := sB _ _ hL7
          have nB0 := M7.fresh nB
          generalize (upd Z7 B' (.lst ([.int b] ++ ws.map V.int))) = Z8 at M8 hW8 hL8 hB ⊢
          have oB := M8.D0.off nB0
          refine ⟨_, rfl, _, rfl, p, d, L, _, rfl, M8.D, hL8, oL.1, oL.2, (fun z => ened (List.map_eq_nil_iff.mp z)), by rw [List.length_map]; omega, fun fv H13 mf D13 k13 => ?_⟩
          obtain ⟨g, mg', rfl⟩ := List.mem_map.mp mf
          have M9 := M8.kpw D13 k13
          have hB9 := k13 _ _ hB oB.1 oB.2
          have hW9 := k13 _ _ hW8 oW.1 oW.2
          clear mf M8 M7 M6 sA sB hA hW7 hW8 hL7 hL8 hW6 hL6 hB D13 k13 nB nA
          refine ⟨by show 1 ≤ sizeLine; decide, fun C nC => ?_⟩
          have sC := same_new (o := .lst [.int g]) nC
          have hC := upd_same (H := H13) (a := C) (o := .lst [.int g])
          refine ⟨B', C, _, _, rfl, rfl, sC _ _ hB9, hC, by rw [List.length_append, List.length_map, sizeLine_eq]; show 1 + _ + 1 ≤ _; omega, fun G nG => ?_⟩
          have ec : ([V.int b] ++ ws.map V.int) ++ [.int g] = (b :: ws ++ [g]).map V.int := by
            rw [List.map_append]
            rfl
          rw [ec]
          have sG := same_new (o := .lst ((b :: ws ++ [g]).map V.int)) nG
          have hG := upd_same (H := upd H13 C (.lst [.int g])) (a := G) (o := .lst ((b :: ws ++ [g]).map V.int))
          have M10 := (M9.same sC).same sG
          have hW10 := sG _ _ (sC _ _ hW9)
          generalize (upd (upd H13 C (.lst [.int g])) G (.lst ((b :: ws ++ [g]).map V.int))) = Z10 at M10 hW10 hG ⊢
          clear M9 sC sG hC hB9 hW9 nC nG
          obtain ⟨ts, hf, AA⟩ := M10.fa
          have gm : g ∈ os ∧ (ev = true → sh g ≠ (sh b + (ws.length : Int)) % 2) := by
            rw [← hed] at mg'
            obtain ⟨h1, h2⟩ := List.mem_filter.mp mg'
            refine ⟨h1, fun z => ?_⟩
            rw [z] at h2
            exact of_decide_eq_true h2
          refine ⟨_, rfl, .inl ⟨rfl, _, SqL.of hf⟩, _, rfl, _, rfl, 1, rfl, G, _, rfl, SqL.of hG, fun c1 nc1 => ?_⟩
          have e1' : cutV ((b :: ws ++ [g]).map V.int) (some 1) none = (ws ++ [g]).map V.int := by
            have := cutV_one (b := b) (ws := ws ++ [g])
            exact this
          rw [e1']
          have s1 := same_new (o := .lst ((ws ++ [g]).map V.int)) nc1
          refine ⟨G, c1, _, _, rfl, SqL.of (s1 _ _ hG), SqL.of upd_same, fun Z11 z tz sz nz hz P1 => ?_⟩
          have AZ : ArsAt Z11 (tz.map V.ref) (chA (b :: ws ++ [g])) := zip_arsW P1
          have sx := s1.trans sz
          have M11 := M10.same sx
          have hf11 := sx _ _ hf
          have AA11 := AA.keep (.of sx)
          have hW11 := sx _ _ hW10
          have lt1 : ts.length = es.length := AA.len
          have lt2 : (tz.map V.ref).length = (chA (b :: ws ++ [g])).length := AZ.len
          rw [chA_len, ch_len] at lt2
          have few := N.few
          refine ⟨fl, z, ts, tz.map V.ref, rfl, rfl, hf11, hz, by rw [sizeLine_eq]; omega, ?_⟩
          have M12 := M11.addF hf11 AA11 AZ
          have hW12 : (upd Z11 fl (.lst (ts ++ tz.map V.ref))) W = some (.lst (ws.map V.int)) := by
            rw [upd_ne Wf]
            exact hW11
          generalize (upd Z11 fl (.lst (ts ++ tz.map V.ref))) = Z12 at M12 hW12 ⊢
          clear M11 M10 s1 sz sx hz P1 AZ AA AA11 hf hf11 hW10 hW11 hG nz nc1
          have dsj : ∀ x ∈ os, x ∉ ws := fun x h1 h2 => (List.nodup_append.mp N.nd).2.2 x h1 x (pm.mem_iff.mp (List.mem_append_left _ h2)) rfl
          have ndw : ws.Nodup := (List.nodup_append.mp (pm.nodup_iff.mpr (List.nodup_append.mp N.nd).2.1)).1
          refine ⟨_, rfl, W, _, rfl, SqL.of hW12, for_it walk_enum (fun j σ Z => ∃ (kvs' : List (Key × V)) (s8 s9 : Option V), σ = [some (.ref p), some (.int n), some (.bl ev), some (.ref l), some (.ref fl), some (.ref dd), s6, some (.ref hl), s8, s9, some (.ref W), some (.int b), some (.ref L), some (.ref G), none, none] ∧ EH p d l fl dd hl H Z rest os (es ++ chA (b :: ws ++ [g])) kvs' ∧ Z W = some (.lst (ws.map V.int)) ∧ (∀ v ∈ os, valV kvs' (.inl v : Key) = some (.int (sh v))) ∧ (∀ i, i < j → valV kvs' (.inl (ws.getD i 0) : Key) = some (.int ((sh b + (i : Int) + 1) % 2))) ∧ kvs'.length ≤ os.length + j)
            ⟨kvs, _, _, rfl, M12, hW12, N.S.at_, fun i h => absurd h (Nat.not_lt_zero _), N.S.len⟩ (fun j σ Z _ h => by obtain ⟨_, _, _, _, _, h, _⟩ := h; exact SqL.of h) ?_ ?_⟩
          · clear M12 hW12
            rintro j x σ Hb Hc hj ⟨kvs', s8, s9, rfl, M13, hW13, ko, kw, lk⟩ ⟨Tt, x1, x2, rfl, nT, rfl, e1, e2⟩
            obtain rfl : V.int (j : Nat) = x1 := Option.some.inj e1
            obtain ⟨v, ev', rfl⟩ := int_at e2
            refine ⟨Tt, _, rfl, SqT.of upd_same, rfl, _, _, rfl, _, _, rfl, rfl, ?_⟩
            have sT := same_new (o := .tup [.int (j : Nat), .int v]) nT
            have M14 := M13.same sT
            have hW14 := sT _ _ hW13
            generalize (upd Hb Tt (.tup [.int (j : Nat), .int v])) = H2 at M14 hW14 ⊢
            rw [List.length_map] at hj
            have ev2 : ws.getD j 0 = v := by
              rw [List.getD_eq_getElem?_getD, ev']
              rfl
            have gb := DGet.k (k := (.inl b : Key)) M14.ca
            rw [ko b mb] at gb
            refine ⟨_, rfl, _, rfl, dd, _, rfl, gb, _, rfl, _, _, rfl, rfl, _, _, rfl, rfl, .inl ⟨_, rfl, _, _, rfl, rfl, by show (0 : Int) < 2; decide, _, rfl, _, rfl, dd, _, rfl, DPut.k (k := .inl v) M14.ca (by rw [sizeLine_eq]; omega), ?_⟩⟩
            have M15 := M14.setC (putK kvs' (.inl v) (.int ((sh b + (j : Int) + 1) % 2)))
            have Wc : W ≠ dd := fun z => by
              rw [z, M14.ca] at hW14
              cases hW14
            refine ⟨_, _, _, rfl, M15, by rw [upd_ne Wc]; exact hW14, fun u hu => ?_, fun i hi => ?_, Nat.le_trans (put_len _ _ _) (by omega)⟩
            · rw [valV_put, if_neg, ko u hu]
              intro z
              have z := Sum.inl.inj z
              rw [z, ← ev2] at hu
              exact dsj _ hu (gd_mem hj)
            · rw [valV_put]
              by_cases c : i = j
              · rw [c, ev2, if_pos rfl]
              · rw [if_neg, kw i (by omega)]
                intro z
                have z := Sum.inl.inj z
                rw [← ev2] at z
                exact c (gd_inj ndw (by omega) hj z)
          · rintro σ Hb ⟨kvs', s8, s9, rfl, M13, hW13, ko, kw, lk⟩
            rw [List.length_map] at kw lk
            have pw : 0 < ws.length := by omega
            have nws : ws ≠ [] := fun z => by
              rw [z] at pw
              cases pw
            refine ⟨_, rfl, _, rfl, hl, W, _, _, rfl, rfl, M13.ha, hW13, by rw [List.length_map, List.length_map, sizeLine_eq]; omega, fun hn nh => ?_⟩
            rw [← List.map_append]
            have sn := same_new (o := .lst ((os ++ ws).map V.int)) nh
            have nh0 := M13.fresh nh
            have hnl : l ≠ hn := fun z => by rw [← z, M13.la] at nh; cases nh
            have hnf : fl ≠ hn := fun z => by
              obtain ⟨ts, hf, _⟩ := M13.fa
              rw [← z, hf] at nh
              cases nh
            have M14 := (M13.same sn).setH (hl' := hn) (os' := os ++ ws) upd_same nh0 hnl hnf
            have pmA : ((os ++ ws) ++ rest).Perm (os ++ ls) := by
              rw [List.append_assoc]
              exact pm.append_left os
            have ndA := pmA.nodup_iff.mpr N.nd
            have ndB := (List.nodup_append.mp ndA).1
            obtain ⟨sh', shw, sho⟩ : ∃ sh' : Int → Int, (∀ i, i < ws.length → sh' (ws.getD i 0) = (sh b + (i : Int) + 1) % 2) ∧ ∀ v ∈ os, sh' v = sh v := by
              refine ⟨fun v => if v ∈ ws then (sh b + (ws.idxOf v : Int) + 1) % 2 else sh v, fun i hi => ?_, fun v hv => ?_⟩
              · show (if ws.getD i 0 ∈ ws then _ else _) = _
                rw [if_pos (gd_mem hi), idx_at ndw (i := i) (by rw [List.getElem?_eq_getElem hi, gd hi])]
              · show (if v ∈ ws then _ else _) = _
                rw [if_neg (dsj v hv)]
            refine ⟨rest.length, by omega, l, fl, dd, hn, rest, os ++ ws, _, kvs', sh', _, _, _, _, _, _, _, rfl, M14,
              ⟨ndA, fun v => pmA.mem_iff.trans (N.all v), by rw [List.length_append]; omega, N.E.ear mb gm.1 nws ndB, by rw [List.length_append, List.length_append, chA_len, ch_len]; omega, ⟨fun v hv => ?_, fun v hv => ?_, by rw [List.length_append]; exact lk⟩, by rw [List.length_append]; omega,
                fun z => (N.ev z).ear (fun e he => ⟨(N.E.inn e he).1, (N.E.inn e he).2.1⟩) mb gm.1 nws sho tb shw (gm.2 z)⟩, rfl⟩
            · rcases List.mem_append.mp hv with h | h
              · rw [sho v h]
                exact ko v h
              · obtain ⟨i, hi, rfl⟩ := mem_gd h
                rw [shw i hi]
                exact kw i hi
            · rcases List.mem_append.mp hv with h | h
              · rw [sho v h]
                exact N.S.two v h
              · obtain ⟨i, hi, rfl⟩ := mem_gd h
                rw [shw i hi]
                omega
      · have y : ls = [] := by
          cases ls with
          | nil => rfl
          | cons a r => exact absurd rfl y
        subst y
        refine ⟨_, rfl, _, rfl, by show 2 ≤ sizeLine; decide, fun t nt => ?_⟩
        exact q t l fl dd hl os es kvs sh _ (M1.same (same_new nt)) N upd_same
end
end Sw
namespace Sw
open PySem PySem.Spec PyProof.Rows L2
/-! ### tables of sets, of eight places to 512 -/
def orb (m : Nat) : Nat → Nat → List Nat
  | 0, _ => []
  | f + 1, x => x :: orb m f ((x * 5 + 1) % (m + 1))
theorem orb_mem {m : Nat} : ∀ (f b : Nat) {j : Nat}, j ∈ orb m f (lcgN m b) → ∃ c, c < b + f ∧ lcgN m c = j
  | 0, b, j, h => absurd h (by simp [orb])
  | f + 1, b, j, h => by
    rcases List.mem_cons.mp h with z | z
    · exact ⟨b, by omega, z.symm⟩
    · obtain ⟨c, hc, e⟩ := orb_mem f (b + 1) (j := j) z
      exact ⟨c, by omega, e⟩
theorem orb_511 : ((List.range 512).all fun j => (orb 511 512 0).contains j) = true := by decide +kernel
theorem lcg_511 : lcgN 511 512 = 0 := by decide +kernel
structure GoodM (m : Nat) : Prop where
  one : MaskOk m ∨ m = 511
  odd : m % 2 = 1
  le : m ≤ 511
  all : ∀ j, j ≤ m → ∃ b, b ≤ m ∧ lcgN m b = j
  back : lcgN m (m + 1) = 0
theorem good_of {m : Nat} (h : MaskOk m) : GoodM m := ⟨.inl h, mask_odd h, by rcases h with z | z | z <;> omega, fun _ hj => lcg_all h hj, lcg_round h⟩
theorem good_511 : GoodM 511 := by
  refine ⟨.inr rfl, rfl, Nat.le_refl _, fun j hj => ?_, lcg_511⟩
  have h := List.all_eq_true.mp orb_511 j (List.mem_range.mpr (by omega))
  obtain ⟨c, hc, e⟩ := orb_mem 512 0 (List.contains_iff_mem.mp h)
  exact ⟨c, by omega, e⟩
theorem GoodM.again {m : Nat} (g : GoodM m) : ∀ k, lcgN m (m + 1 + k) = lcgN m k
  | 0 => g.back
  | k + 1 => congrArg (fun z => (z * 5 + 1) % (m + 1)) (g.again k)
/-- each place begins a stretch of the way -/
theorem GoodM.starts {m : Nat} (g : GoodM m) (x : Int) {j : Nat} (hj : j ≤ m) : ∃ n, n ≤ m + 12 ∧ runI m (SetTable.bits x) n = j := by
  obtain ⟨a, la, ea⟩ := g.all _ (runI_le m (SetTable.bits x) 12)
  obtain ⟨b, lb, eb⟩ := g.all j hj
  have to : ∀ k, lcgN m (a + k) = j → runI m (SetTable.bits x) (12 + k) = j := fun k z => by
    rw [runI_tail (bits_lt x) k, ← ea, lcgN_add m a k, z]
  by_cases c : a ≤ b
  · exact ⟨12 + (b - a), by omega, to _ (by rw [Nat.add_sub_cancel' c, eb])⟩
  · exact ⟨12 + (m + 1 + b - a), by omega, to _ (by rw [show a + (m + 1 + b - a) = m + 1 + b by omega, g.again b, eb])⟩
theorem GoodM.meets {m : Nat} (g : GoodM m) (x : Int) {j : Nat} (hj : j ≤ m) : ∃ k, k < 10 * SetTable.turns m ∧ way m x k = j := by
  obtain ⟨n, ln, en⟩ := g.starts x hj
  obtain ⟨k, lk, ek⟩ := run_nth m (SetTable.bits x) n
  have lt : SetTable.turns m = m + 15 := rfl
  exact ⟨k, by omega, by show (nth _ _ k).j = j; rw [ek]; exact en⟩
/-- the first place of the way that none has -/
def FirstFree (m : Nat) (l : List Nat) (x : Int) (K : Nat) : Prop := way m x K ∉ l ∧ ∀ k, k < K → way m x k ∈ l
theorem first_of {m : Nat} {l : List Nat} {x : Int} {k : Nat} (h : way m x k ∉ l) : ∃ K, K ≤ k ∧ FirstFree m l x K := by
  obtain ⟨K, a, b, c⟩ := st_least (p := fun z => way m x z ∉ l) k h
  exact ⟨K, a, b, fun k' lk => Classical.byContradiction (c k' lk)⟩
structure TabG (t : SetTable) (hs : List Int) : Prop where
  asc : Ris t.place.toList
  clean : t.dummies = #[]
  size : t.place.size = hs.length
  good : GoodM t.mask
  within : ∀ p ∈ t.place.toList, p ≤ t.mask
  met : ∀ (i : Nat) (x : Int) (j : Nat), hs[i]? = some x → t.place.toList[i]? = some j → ∃ k, way t.mask x k = j ∧ ∀ c, c < k → way t.mask x c ∈ t.place.toList
theorem TabG.free {t : SetTable} {hs : List Int} (T : TabG t hs) (hl : hs.length ≤ t.mask) (x : Int) : ∃ K, K < 10 * SetTable.turns t.mask ∧ FirstFree t.mask t.place.toList x K := by
  have few : t.place.toList.length < t.mask + 1 := by
    have := T.size
    rw [Array.length_toList]
    omega
  obtain ⟨j, lj, nj⟩ := st_missing _ _ few
  obtain ⟨k, lk, ek⟩ := T.good.meets x (Nat.le_of_lt_succ lj)
  obtain ⟨K, lK, F⟩ := first_of (m := t.mask) (l := t.place.toList) (x := x) (k := k) (by rw [ek]; exact nj)
  exact ⟨K, by omega, F⟩
theorem TabG.ahead {t : SetTable} {hs : List Int} (T : TabG t hs) {x : Int} {K i j : Nat} (F : FirstFree t.mask t.place.toList x K) (hi : hs[i]? = some x) (hj : t.place.toList[i]? = some j) : ∃ k, k < K ∧ way t.mask x k = j := by
  obtain ⟨k, e, h⟩ := T.met i x j hi hj
  refine ⟨k, Nat.lt_of_not_le fun c => ?_, e⟩
  rcases Nat.lt_or_eq_of_le c with z | z
  · exact F.1 (h K z)
  · exact F.1 (by rw [z, e]; exact List.mem_of_getElem? hj)
/-- what a table keeps when a place is taken -/
structure TakenG (t t' : SetTable) (n : Nat) : Prop where
  mask : t'.mask = t.mask
  led : t'.led = t.led
  plain : t'.plain = t.plain
  fill : t'.fill = n + 1
theorem TabG.put {t : SetTable} {hs : List Int} (T : TabG t hs) {x : Int} {K : Nat} (F : FirstFree t.mask t.place.toList x K) :
    ∃ p t', t.put (way t.mask x K) = (t', p) ∧ p ≤ hs.length ∧ TabG t' (hs.take p ++ x :: hs.drop p) ∧ TakenG t t' hs.length := by
  obtain ⟨j, ej⟩ : ∃ j, way t.mask x K = j := ⟨_, rfl⟩
  have jm : j ≤ t.mask := by
    rw [← ej]
    have q := nth_in K (runAt t.mask (SetTable.bits x % (t.mask + 1)) (SetTable.bits x)) (m := t.mask) (by
      have h1 : SetTable.bits x % (t.mask + 1) ≤ t.mask := Nat.le_of_lt_succ (Nat.mod_lt _ (Nat.succ_pos _))
      have h2 := runEnd_bd h1
      show SetTable.bits x % (t.mask + 1) + (SetTable.runEnd t.mask (SetTable.bits x % (t.mask + 1)) - SetTable.bits x % (t.mask + 1)) ≤ t.mask
      omega)
    exact Nat.le_trans (Nat.le_add_right _ _) q
  have nj : j ∉ t.place.toList := ej ▸ F.1
  rw [ej]
  have lp : SetTable.below t.place j ≤ hs.length := by
    rw [← T.size]
    exact (below_cut T.asc j).1
  have lq : SetTable.below t.place j ≤ t.place.toList.length := by
    rw [Array.length_toList, T.size]
    exact lp
  have pl := put_place t j
  have sz : (t.put j).1.place.size = hs.length + 1 := by
    rw [← Array.length_toList, pl, len_ins _ lq, Array.length_toList, T.size]
  have keep : ∀ {z : Nat}, z ∈ t.place.toList → z ∈ (t.put j).1.place.toList := fun h => by
    rw [pl]
    exact mem_ins.mpr (.inr h)
  refine ⟨SetTable.below t.place j, (t.put j).1, rfl, lp, ⟨?asc, put_dm T.clean j, ?size, T.good, fun z hz => ?within, fun i y c hi hc => ?met⟩, rfl, rfl, rfl, ?fill⟩
  case asc => exact ris_insert T.asc fun e => nj (List.mem_of_getElem? ((Array.getElem?_toList ..).trans e))
  case size => rw [len_ins _ lp, sz]
  case within =>
    rw [pl, mem_ins] at hz
    rcases hz with rfl | hz
    · exact jm
    · exact T.within _ hz
  case fill =>
    have d := put_dm T.clean j
    show (t.put j).1.place.size + (t.put j).1.dummies.size = _
    rw [sz, d]
    rfl
  case met =>
    show ∃ k, way t.mask y k = c ∧ ∀ c', c' < k → way t.mask y c' ∈ (t.put j).1.place.toList
    have old : ∀ i', hs[i']? = some y → t.place.toList[i']? = some c → ∃ k, way t.mask y k = c ∧ ∀ c', c' < k → way t.mask y c' ∈ (t.put j).1.place.toList := fun i' a b => by
      obtain ⟨k, e, h⟩ := T.met i' y c a b
      exact ⟨k, e, fun c' l => keep (h c' l)⟩
    rw [tins_get hs lp] at hi
    rw [pl, tins_get _ lq] at hc
    by_cases c1 : i < SetTable.below t.place j
    · rw [if_pos c1] at hi hc
      exact old i hi hc
    · rw [if_neg c1] at hi hc
      by_cases c2 : i = SetTable.below t.place j
      · rw [if_pos c2] at hi hc
        cases hi
        cases hc
        exact ⟨K, ej, fun c' l => keep (F.2 c' l)⟩
      · rw [if_neg c2] at hi hc
        exact old _ hi hc
/-! ### all laid anew -/
theorem seat {m : Nat} (g : GoodM m) (owner : Array (Option Nat)) (x : Int) {j : Nat} (hj : j ≤ m) (hf : oAt owner j = none) :
    ∃ K, SetTable.layClean.free m owner (SetTable.turns m) (SetTable.bits x % (m + 1)) (SetTable.bits x) = some (way m x K) ∧ oAt owner (way m x K) = none ∧ ∀ k, k < K → oAt owner (way m x k) ≠ none := by
  obtain ⟨n, ln, en⟩ := g.starts x hj
  have atN : way m x (off m (SetTable.bits x % (m + 1)) (SetTable.bits x) n) = j := by
    have q := nth_off m n (SetTable.bits x % (m + 1)) (SetTable.bits x)
    rw [itL_run] at q
    exact (congrArg SetTable.Probe.j q).trans en
  obtain ⟨K, lK, fK, bK⟩ := st_least (p := fun z => oAt owner (way m x z) = none) _ (by show oAt owner (way m x _) = none; rw [atN]; exact hf)
  have lt : SetTable.turns m = m + 15 := rfl
  refine ⟨K, free_spec m owner _ n _ _ K (by omega) lK (fun k hk => ?_) (by show (oAt owner (way m x K)).isNone = true; rw [fK]; rfl), fK, bK⟩
  have q := bK k hk
  show (oAt owner (way m x k)).isNone = false
  cases z : oAt owner (way m x k) with
  | none => exact absurd z q
  | some _ => rfl
theorem way_in {m : Nat} {x : Int} (K : Nat) : way m x K ≤ m := by
  have h1 : SetTable.bits x % (m + 1) ≤ m := Nat.le_of_lt_succ (Nat.mod_lt _ (Nat.succ_pos _))
  have h2 := runEnd_bd h1
  refine Nat.le_trans (Nat.le_add_right _ _) (nth_in K (runAt m (SetTable.bits x % (m + 1)) (SetTable.bits x)) ?_)
  show SetTable.bits x % (m + 1) + (SetTable.runEnd m (SetTable.bits x % (m + 1)) - SetTable.bits x % (m + 1)) ≤ m
  omega
theorem seat_one {m : Nat} (g : GoodM m) {done : List Int} {owner : Array (Option Nat)} (W : L2.Own m done owner) (hl : done.length ≤ m) (x : Int) :
    ∃ owner', stepF m (some (owner, done.length)) x = some (owner', done.length + 1) ∧ L2.Own m (done ++ [x]) owner' := by
  obtain ⟨ps, lps, hps⟩ := W.ps
  obtain ⟨j, lj, nj⟩ := st_missing ps (m + 1) (by omega)
  have fj : oAt owner j = none := Classical.byContradiction fun z => nj (hps j (by omega) z)
  obtain ⟨K, e, fK, bK⟩ := seat g owner x (Nat.le_of_lt_succ lj) fj
  generalize ew : way m x K = p at e fK
  have lp : p ≤ m := ew ▸ way_in K
  have sp : p < owner.size := by
    rw [W.sz]
    omega
  have here : oAt (owner.setIfInBounds p (some done.length)) p = some done.length := oAt_set_self _ sp
  have else_ : ∀ i, i ≠ p → oAt (owner.setIfInBounds p (some done.length)) i = oAt owner i := fun i h => oAt_set_ne _ h
  have grow : ∀ i, oAt owner i ≠ none → oAt (owner.setIfInBounds p (some done.length)) i ≠ none := fun i h => by
    by_cases c : i = p
    · subst c; rw [here]; exact nofun
    · rw [else_ i c]; exact h
  refine ⟨_, stepF_some e, ?_⟩
  have sw : (owner.setIfInBounds p (some done.length)).size = m + 1 := by
    rw [Array.size_setIfInBounds, W.sz]
  generalize owner.setIfInBounds p (some done.length) = ow at here else_ grow sw
  refine ⟨sw, fun i k hi hk => ?_, fun k hk => ?_, p :: ps, by simp [lps], fun i hi hn => ?_⟩
  · by_cases c : i = p
    · subst c
      rw [here] at hk
      cases hk
      exact ⟨x, K, List.getElem?_concat_length, ew, fun c hc => grow _ (bK c hc)⟩
    · rw [else_ i c] at hk
      obtain ⟨y, k', h1, h2, h3⟩ := W.at_ i k hi hk
      refine ⟨y, k', ?_, h2, fun c hc => grow _ (h3 c hc)⟩
      rw [List.getElem?_append_left (List.getElem?_eq_some_iff.mp h1).1, h1]
  · by_cases c : k = done.length
    · subst c
      exact ⟨p, lp, here⟩
    · obtain ⟨i, hi, e'⟩ := W.all k (by rw [List.length_append, List.length_singleton] at hk; omega)
      refine ⟨i, hi, ?_⟩
      rw [else_ i fun z => ?_]
      · exact e'
      · rw [z, fK] at e'
        cases e'
  · by_cases c : i = p
    · exact c ▸ List.mem_cons_self ..
    · rw [else_ i c] at hn
      exact List.mem_cons_of_mem _ (hps i hi hn)
theorem seat_all {m : Nat} (g : GoodM m) : ∀ (xs done : List Int) (owner : Array (Option Nat)), L2.Own m done owner → done.length + xs.length ≤ m →
    ∃ ow, xs.foldl (stepF m) (some (owner, done.length)) = some (ow, done.length + xs.length) ∧ L2.Own m (done ++ xs) ow
  | [], done, owner, W, _ => ⟨owner, rfl, by rw [List.append_nil]; exact W⟩
  | x :: xs, done, owner, W, hl => by
    rw [List.length_cons] at hl
    obtain ⟨o1, e1, W1⟩ := seat_one g W (by omega) x
    have l1 : (done ++ [x]).length = done.length + 1 := List.length_append
    obtain ⟨o2, e2, W2⟩ := seat_all g xs (done ++ [x]) o1 W1 (by omega)
    refine ⟨o2, ?_, by simpa using W2⟩
    rw [l1] at e2
    rw [List.foldl_cons, e1, e2, List.length_cons]
    congr 2
    omega
/-- the table laid anew for a mask M -/
theorem lay_anew (t : SetTable) {hs : Array Int} {wanted M : Nat} (hw : SetTable.sizeAbove wanted - 1 = M) (g : GoodM M) (hn : hs.size ≤ M) :
    ∃ t' order, t.relaid hs wanted = some (t', order) ∧ order.toList.Perm (List.range hs.size) ∧ TabG t' (order.toList.map fun i => hs.getD i 0) ∧ t'.mask = M ∧ t'.led = t.led ∧ t'.plain = t.plain := by
  obtain ⟨ow, e, W⟩ := seat_all g hs.toList [] (Array.replicate (M + 1) none) (.init M) (by rw [Array.length_toList]; simpa using hn)
  have eo : SetTable.layClean M hs = some ow := by
    rw [layClean_eq]
    exact congrArg (Option.map Prod.fst) e
  rw [List.nil_append] at W
  have er : t.relaid hs wanted = some (tabOf t M ow, ((liveOf M ow).map (·.2)).toArray) := by
    rw [relaid_eq, hw, eo]
    rfl
  obtain ⟨up, sub⟩ := ris_live (fun j => ow.getD j none) (List.range (M + 1)) List.pairwise_lt_range
  change Ris ((liveOf M ow).map (·.1)) at up
  change ∀ x ∈ (liveOf M ow).map (·.1), _ at sub
  have live : ∀ {j k : Nat}, (j, k) ∈ liveOf M ow ↔ j ≤ M ∧ oAt ow j = some k := mem_live W.sz
  have every : ∀ k, k < hs.size → k ∈ (liveOf M ow).map (·.2) := fun k hk => by
    obtain ⟨j, a, b⟩ := W.all k (by simpa using hk)
    exact List.mem_map.mpr ⟨_, live.mpr ⟨a, b⟩, rfl⟩
  have many : (liveOf M ow).length = hs.size := by
    obtain ⟨ps, p1, p2⟩ := W.ps
    have a := nat_nodup_len _ ps (up.imp fun {_ _} z => Nat.ne_of_lt z) fun y hy => by
      obtain ⟨⟨j, k⟩, hq, rfl⟩ := List.mem_map.mp hy
      obtain ⟨b1, b2⟩ := live.mp hq
      exact p2 j b1 (by rw [b2]; exact nofun)
    have b := nat_nodup_len (List.range hs.size) _ List.nodup_range fun k hk => every k (List.mem_range.mp hk)
    rw [List.length_map] at a b
    rw [List.length_range] at b
    have q1 : ps.length = hs.size := by simpa using p1
    have q2 : ps.length ≥ (liveOf M ow).length := a
    exact Nat.le_antisymm (q1 ▸ q2) b
  refine ⟨_, _, er, perm_range _ _ (by rw [← many]; exact List.length_map ..) every, ⟨up, rfl, ?_, g, fun y hy => Nat.le_of_lt_succ (List.mem_range.mp (sub y hy)), fun i x j hi hj => ?_⟩, rfl, rfl, rfl⟩
  · show ((liveOf M ow).map (·.1)).toArray.size = (((liveOf M ow).map (·.2)).map _).length
    simp
  · change (((liveOf M ow).map (·.2)).map fun i => hs.getD i 0)[i]? = some x at hi
    change ((liveOf M ow).map (·.1))[i]? = some j at hj
    rw [List.map_map, List.getElem?_map, Option.map_eq_some_iff] at hi
    obtain ⟨⟨j', k⟩, hq, ex⟩ := hi
    rw [List.getElem?_map, hq] at hj
    obtain rfl : j' = j := Option.some.inj hj
    obtain ⟨b1, b2⟩ := live.mp (List.mem_of_getElem? hq)
    obtain ⟨y, K, c1, c2, c3⟩ := W.at_ _ _ b1 b2
    have exy : y = x := by
      rw [← ex]
      show y = hs.getD k 0
      rw [Array.getD_eq_getD_getElem?, ← Array.getElem?_toList, c1]
      rfl
    subst exy
    refine ⟨K, c2, fun c lc => ?_⟩
    show way M y c ∈ (liveOf M ow).map (·.1)
    cases z : oAt ow (way M y c) with
    | none => exact absurd z (c3 c lc)
    | some k' => exact List.mem_map.mpr ⟨_, live.mpr ⟨way_in c, z⟩, rfl⟩
end Sw
namespace Sw
open PySem PySem.Spec PyProof.Rows L2
section
variable {P : Program} {w : World} {A : Around} {E : Value → Shared → Prop} {s : Shared}
/-! ### sets of tuples of ints, up to 306 -/
structure SetG (P : Program) (w : World) (h : Heap) (a : Addr) (L : List (Addr × List Int)) (es : Array (Int × Value)) (ep : Nat) (t : SetTable) : Prop where
  there : ∃ o, h.get? a = some o ∧ o.ExactSet ∧ o.data = .set es ep t
  rows : es.toList = rowsOf P w L
  tab : TabG t (L.map fun p => thash P w p.2)
  nd : (L.map (·.2)).Nodup
  tup : ∀ p ∈ L, IsT P w h p.2 p.1
  plain : t.plain = true
  led : w.params.followText "set-order" = true ∨ t.led = true
  room : L.length * 5 < t.mask * 3
variable {a : Addr} {L : List (Addr × List Int)} {es : Array (Int × Value)} {ep : Nat} {t : SetTable}
theorem rows_len (h : es.toList = rowsOf P w L) : es.size = L.length := by
  rw [← Array.length_toList, h]
  exact List.length_map ..
theorem SetG.few (R : SetG P w s.heap a L es ep t) : L.length ≤ 306 := by
  have := R.room
  have := R.tab.good.le
  omega
theorem SetG.fits (R : SetG P w s.heap a L es ep t) : t.fits es.size = true := by
  have a1 : t.place.size = L.length := R.tab.size.trans (List.length_map ..)
  have a2 := rows_len R.rows
  have a3 := R.room
  simp only [SetTable.fits, SetTable.fill, R.tab.clean, Bool.and_eq_true, beq_iff_eq, decide_eq_true_eq]
  exact ⟨a1.trans a2.symm, by simp; omega⟩
theorem SetG.row (R : SetG P w s.heap a L es ep t) {i : Nat} {p : Addr × List Int} (h : L[i]? = some p) : es[i]? = some (thash P w p.2, Value.ref p.1) := by
  have z : es.toList[i]? = some (thash P w p.2, Value.ref p.1) := by
    rw [R.rows]
    simp only [rowsOf, List.getElem?_map, h, Option.map_some]
  simpa using z
theorem SetG.stays (R : SetG P w s.heap a L es ep t) : (t.gaveWay = true) = False := by
  have h := R.tab.good.odd
  simp [SetTable.gaveWay, h]
/-- the c-th look at a table for a hash -/
def lookAt (m : Nat) (q : Int) (c : Nat) : SetTable.Probe := nth m (runAt m (SetTable.bits q % (m + 1)) (SetTable.bits q)) c
theorem lookAt_add (m : Nat) (q : Int) (c d : Nat) : nth m (lookAt m q c) d = lookAt m q (c + d) := (nth_add m c _ d).symm
theorem lookAt_dummy (m : Nat) (q : Int) (c : Nat) : (lookAt m q c).dummy = none := by
  induction c with
  | zero => rfl
  | succ c ih =>
    rw [← lookAt_add m q c 1]
    show (adv m (lookAt m q c)).dummy = none
    unfold adv
    split <;> exact ih
theorem look_on (R : SetG P w s.heap a L es ep t) {x : Addr} {k : List Int} (hx : IsT P w s.heap k x) (hu : A.units < cLine) {ad : Bool} {K : Nat} (lK : K < 10 * SetTable.turns t.mask) (F : FirstFree t.mask t.place.toList (thash P w k) K)
    {Q : SetFound → Shared → Prop} (yes : k ∈ L.map (·.2) → ∀ r : Option Nat, (ad = false → r.isSome = true) → Q (.there r) s) (no : k ∉ L.map (·.2) → Q (.free (way t.mask (thash P w k) K) false) s) :
    ∀ (f c : Nat) (stand : Option SetTable.Probe), stand.getD (t.probeStart (thash P w k)) = lookAt t.mask (thash P w k) c → c ≤ K → K < f + c →
      (∀ (i : Nat) (p : Addr × List Int), L[i]? = some p → p.2 = k → ∃ d, c ≤ d ∧ d < K ∧ t.place.toList[i]? = some (way t.mask (thash P w k) d)) →
      wpAny (model P w) A (setSearchFrom a (.ref x) (thash P w k) ad f stand) Q E s
  | 0, c, _, _, lc, lf, _ => absurd lf (by omega)
  | f + 1, c, stand, est, lc, lf, still => by
    generalize eq : thash P w k = q at *
    obtain ⟨ob, obAt, obEx, obDat⟩ := R.there
    rw [setSearchFrom_succ]
    refine wpAny_bind (wpAny_setState_of obAt obDat R.fits ?_)
    dsimp only
    refine wp_if_neg (by rw [R.stays]; exact id) ?_
    try refine wpAny_bind (wpAny_pure ?_)
    have place : ∀ d, (nth t.mask (lookAt t.mask q c) d).j = way t.mask q (c + d) := fun d => congrArg SetTable.Probe.j (lookAt_add t.mask q c d)
    have hash : ∀ (i : Nat) (p : Addr × List Int), L[i]? = some p → (es[i]?.map (·.1)).getD 0 = thash P w p.2 := fun i p hp => by
      rw [R.row hp]
      rfl
    have answer := go_spec t R.tab.asc R.tab.clean (fun i => (es[i]?.map (·.1)).getD 0) q (10 * SetTable.turns t.mask) (K - c) _ (lookAt_dummy t.mask q c) (by omega)
      (fun d hd => by rw [place d]; exact F.2 _ (by omega)) (by rw [place, Nat.add_sub_cancel' lc]; exact F.1)
    rw [← est] at answer
    rcases answer with ⟨d, i, ld, hi, hh, before, pr⟩ | ⟨before, pr⟩
    case inr =>
      rw [est, place, Nat.add_sub_cancel' lc, ← est] at pr
      have pr' : t.probe (fun i => (es[i]?.map (·.1)).getD 0) q (stand.getD (t.probeStart q)) = some (.empty (way t.mask q K) none) := pr
      rw [pr']
      dsimp only
      refine wpAny_pure (no fun mem => ?_)
      obtain ⟨p, hp, ek⟩ := List.mem_map.mp mem
      obtain ⟨i, hi⟩ := List.mem_iff_getElem?.mp hp
      obtain ⟨d, cd, dK, hd⟩ := still i p hi ek
      refine before (d - c) i (by omega) ?_ ?_
      · rw [est, place, Nat.add_sub_cancel' cd]
        exact hd
      · show (es[i]?.map (·.1)).getD 0 = q
        rw [hash i p hi, ek, eq]
    case inl =>
      have en : nth t.mask (stand.getD (t.probeStart q)) (d + 1) = lookAt t.mask q (c + (d + 1)) := by rw [est]; exact lookAt_add ..
      have ej : (nth t.mask (stand.getD (t.probeStart q)) d).j = way t.mask q (c + d) := by rw [est]; exact place d
      rw [en, ej] at pr
      rw [ej] at hi
      have pr' : t.probe (fun i => (es[i]?.map (·.1)).getD 0) q (stand.getD (t.probeStart q)) = some (.candidate (way t.mask q (c + d)) i (lookAt t.mask q (c + (d + 1)))) := pr
      rw [pr']
      dsimp only
      have il : i < L.length := by
        have a1 := (List.getElem?_eq_some_iff.mp hi).1
        have a2 : t.place.size = L.length := R.tab.size.trans (List.length_map ..)
        rw [Array.length_toList, a2] at a1
        exact a1
      obtain ⟨p, hp⟩ : ∃ p, L[i]? = some p := ⟨_, List.getElem?_eq_getElem il⟩
      have mp := List.mem_of_getElem? hp
      have live : t.slot (way t.mask q (c + d)) = .live i := slot_live R.tab.asc hi
      have go : wpAny (model P w) A (searchRest a (.ref x) q ad f es t (way t.mask q (c + d)) i (lookAt t.mask q (c + (d + 1)))) Q E s := by
        unfold searchRest
        rw [R.row hp]
        dsimp only
        refine wpAny_bind (wpAny_holding (wpAny_eqBool_tuple hu (R.tup p mp) hx ?_))
        refine wpAny_bind (wpAny_setState_of obAt obDat R.fits ?_)
        dsimp only
        by_cases same : p.2 = k
        · have inL : k ∈ L.map (·.2) := List.mem_map.mpr ⟨p, mp, same⟩
          cases ad with
          | true =>
            refine wp_if_pos (by simp [same]) ?_
            exact wpAny_pure (yes inL none nofun)
          | false =>
            refine wp_if_neg (by simp) ?_
            try refine wpAny_bind (wpAny_pure ?_)
            rw [sameMem]
            dsimp only
            simp only [if_true, live, R.row hp]
            refine wpAny_bind (wpAny_isSame_ref_self (wpAny_bind (wpAny_pure ?_)))
            simp only [if_true]
            refine wp_if_pos (by simp [same]) ?_
            exact wpAny_pure (yes inL _ fun _ => rfl)
        · refine wp_if_neg (by simp [same]) ?_
          try refine wpAny_bind (wpAny_pure ?_)
          rw [sameMem]
          dsimp only
          simp only [if_true, live, R.row hp]
          refine wpAny_bind (wpAny_isSame_ref_self (wpAny_bind (wpAny_pure ?_)))
          simp only [if_true]
          refine wp_if_neg (by simp [same]) ?_
          subst eq
          refine look_on R hx hu lK F yes no f (c + (d + 1)) _ rfl (by omega) (by omega) fun i' p' hi' ek => ?_
          obtain ⟨d', cd, dK, hd⟩ := still i' p' hi' ek
          refine ⟨d', Nat.lt_of_not_le fun z => ?_, dK, hd⟩
          have z : d' ≤ c + d := z
          rcases Nat.lt_or_eq_of_le z with z | z
          · refine before (d' - c) i' (by omega) ?_ ?_
            · rw [est, place, Nat.add_sub_cancel' cd]
              exact hd
            · show (es[i']?.map (·.1)).getD 0 = thash P w k
              rw [hash i' p' hi', ek]
          · rw [z] at hd
            have l2 := slot_live R.tab.asc hd
            rw [live] at l2
            injection l2 with l2
            rw [← l2, hp] at hi'
            cases hi'
            exact same ek
      by_cases led : t.led = true
      · refine wp_if_neg (by simp [led]) ?_
        try refine wpAny_bind (wpAny_pure ?_)
        exact go
      · refine wp_if_pos (by simp [led]) ?_
        refine wpAny_bind (seen_tup hx (fun y hy => ?_) ?_)
        · obtain ⟨e, he, rfl⟩ := List.mem_map.mp hy
          have he2 : e ∈ es.toList := by
            have z : e ∈ es ∧ e.1 = q := by simpa using he
            simpa using z.1
          rw [R.rows] at he2
          obtain ⟨p2, hp2, rfl⟩ := List.mem_map.mp he2
          exact ⟨_, _, rfl, R.tup p2 hp2⟩
        · refine wp_if_neg (by decide) ?_
          try refine wpAny_bind (wpAny_pure ?_)
          exact go
/-- a look for a tuple, to add it or to ask for it -/
theorem look_for (R : SetG P w s.heap a L es ep t) {x : Addr} {k : List Int} (hx : IsT P w s.heap k x) (hu : A.units < cLine) {ad : Bool}
    {Q : SetFound → Shared → Prop} (yes : k ∈ L.map (·.2) → ∀ r : Option Nat, (ad = false → r.isSome = true) → Q (.there r) s)
    (no : ∀ K, k ∉ L.map (·.2) → FirstFree t.mask t.place.toList (thash P w k) K → Q (.free (way t.mask (thash P w k) K) false) s) :
    wpAny (model P w) A (setSearch a (.ref x) (thash P w k) ad) Q E s := by
  have a1 := R.room
  have a2 := R.tab.good.le
  obtain ⟨K, lK, F⟩ := R.tab.free (by rw [List.length_map]; omega) (thash P w k)
  have a3 : SetTable.turns t.mask = t.mask + 15 := rfl
  refine look_on R hx hu lK F yes (fun n => no K n F) 100000 0 none rfl (Nat.zero_le _) (by omega) fun i p hp ek => ?_
  have h1 : (L.map fun p => thash P w p.2)[i]? = some (thash P w k) := by rw [List.getElem?_map, hp, ← ek]; rfl
  have il : i < t.place.toList.length := by
    rw [Array.length_toList, R.tab.size]
    exact (List.getElem?_eq_some_iff.mp h1).1
  obtain ⟨d, ld, ed⟩ := R.tab.ahead F h1 (List.getElem?_eq_getElem il)
  exact ⟨d, Nat.zero_le _, ld, by rw [ed]; exact List.getElem?_eq_getElem il⟩
end
end Sw
namespace Sw
open PySem PySem.Spec PyProof.Rows L2
section
variable {P : Program} {w : World} {A : Around} {E : Value → Shared → Prop} {s : Shared}
variable {a : Addr} {L : List (Addr × List Int)} {es : Array (Int × Value)} {ep : Nat} {t : SetTable}
theorem grow_512 : SetTable.sizeAbove (SetTable.grown 77) = 512 := by decide +kernel
/-- a set is laid anew in a greater table -/
theorem set_greater {o : Obj} (oAt : s.heap.get? a = some o) (oEx : o.ExactSet) (oDat : o.data = .set es ep t) (rows : es.toList = rowsOf P w L) (fit : t.fits es.size = true)
    (nd : (L.map (·.2)).Nodup) (tup : ∀ p ∈ L, IsT P w s.heap p.2 p.1) (pl : t.plain = true) (ld : w.params.followText "set-order" = true ∨ t.led = true) {wanted M : Nat}
    (hw : SetTable.sizeAbove wanted - 1 = M) (g : GoodM M) (room : L.length * 5 < M * 3) {Q : Unit → Shared → Prop}
    (then_ : ∀ h' L' es' ep' t', Heap.SameBut a s.heap h' → SetG P w h' a L' es' ep' t' → L'.Perm L → Q () { s with heap := h' }) : wpAny (model P w) A (setRelay a wanted) Q E s := by
  have size := rows_len rows
  have top := g.le
  obtain ⟨t', order, er, pm, T, eM, eL, eP⟩ := lay_anew t (hs := es.map (·.1)) hw g (by rw [Array.size_map, size]; omega)
  rw [Array.size_map, size] at pm
  obtain ⟨L', r1, r2, r3⟩ := order_rows L es order rows pm
  rw [← r3] at T
  have size' : (order.filterMap (es[·]?)).size = es.size := by rw [rows_len r1, r2.length_eq, size]
  rw [setRelay_eq]
  refine wpAny_bind (wpAny_setState_of oAt oDat fit ?_)
  dsimp only
  refine wp_if_neg (by have := sizeLine_eq; omega) ?_
  try refine wpAny_bind (wpAny_pure ?_)
  rw [er]
  dsimp only
  refine wpAny_bind (wp_if_neg (by simp [size']) ?_)
  try refine wpAny_bind (wpAny_pure ?_)
  refine wpAny_pure ?_
  dsimp only
  have keep : Heap.SameBut a s.heap (s.heap.update a (Obj.putSet (order.filterMap (es[·]?)) t')) := .update ..
  refine wpAny_storeSet_of oAt oDat (then_ _ L' _ (ep + 1) t' keep ⟨⟨_, store_at oAt oDat, ⟨oEx.1, oEx.2.1, oEx.2.2⟩, rfl⟩, r1, T, ?_, fun p hp => ?_, eP.trans pl, eL ▸ ld, ?_⟩ r2) ?_
  · exact (r2.map _).nodup_iff.mpr nd
  · exact isT_same (tup p (r2.mem_iff.mp hp)) oAt oDat keep
  · rw [r2.length_eq, eM]
    exact room
  · have := sizeLine_eq
    omega
/-- a tuple comes to a set -/
theorem set_adds (R : SetG P w s.heap a L es ep t) {x : Addr} {k : List Int} (hx : IsT P w s.heap k x) (hu : A.units < cLine) (few : L.length + 1 ≤ 306) {Q : Bool → Shared → Prop}
    (then_ : ∀ b h' L' es' ep' t', Heap.SameBut a s.heap h' → SetG P w h' a L' es' ep' t' → (k ∈ L.map (·.2) → L' = L) → (k ∉ L.map (·.2) → L'.Perm ((x, k) :: L)) → Q b { s with heap := h' }) :
    wpAny (model P w) A (setAddHashed a (.ref x) (thash P w k)) Q E s := by
  obtain ⟨ob, obAt, obEx, obDat⟩ := R.there
  have size := rows_len R.rows
  have room := R.room
  unfold setAddHashed
  refine wpAny_holding ?_
  show wpAny _ _ (setAddHashedIn a (.ref x) (thash P w k) (99999 + 1)) _ _ _
  rw [setAddHashedIn_succ]
  refine wpAny_bind (wpAny_setState_of obAt obDat R.fits ?_)
  dsimp only
  refine wp_if_neg (by unfold byScan Value.scannable; simp) ?_
  try refine wpAny_bind (wpAny_pure ?_)
  refine wpAny_bind (look_for R hx hu (fun inL r _ => ?_) fun K outL F => ?_)
  · dsimp only
    exact wpAny_pure (then_ false s.heap L es ep t (.refl a s.heap) R (fun _ => rfl) fun z => absurd inL z)
  dsimp only
  refine wpAny_bind (wpAny_setState_of obAt obDat R.fits ?_)
  dsimp only
  obtain ⟨p, t1, ep1, lp, T1, G1⟩ := R.tab.put F
  rw [ep1]
  dsimp only
  have pl1 : t1.plain = true := G1.plain.trans R.plain
  first
    | (refine wpAny_bind ?_; refine wp_if_pos pl1 ?_; refine hashBy_tup hx ?_)
    | refine wp_if_pos pl1 (wpAny_bind (hashBy_tup hx ?_))
  simp only [if_true]
  have rows1 : (SetTable.insertAt es p (thash P w k, Value.ref x)).toList = rowsOf P w (L.take p ++ (x, k) :: L.drop p) := by
    rw [rows_put, SetTable.toList_insertAt, R.rows]
  have pm := put_perm L p (x, k)
  have hs1 : (L.take p ++ (x, k) :: L.drop p).map (fun q => thash P w q.2) = (L.map fun q => thash P w q.2).take p ++ thash P w k :: (L.map fun q => thash P w q.2).drop p := by simp
  rw [← hs1] at T1
  have size1 := rows_len rows1
  rw [pm.length_eq, List.length_cons] at size1
  generalize SetTable.insertAt es p (thash P w k, Value.ref x) = es1 at rows1 size1 ⊢
  generalize L.take p ++ (x, k) :: L.drop p = L1 at pm rows1 T1
  have nd1 : (L1.map (·.2)).Nodup := (pm.map _).nodup_iff.mpr (List.nodup_cons.mpr ⟨outL, R.nd⟩)
  refine wpAny_bind (wpAny_storeSet_of obAt obDat ?_ (by have := sizeLine_eq; omega))
  have keep : Heap.SameBut a s.heap (s.heap.update a (Obj.putSet es1 t1)) := .update ..
  have at1 := store_at (es' := es1) (t' := t1) obAt obDat
  generalize s.heap.update a (Obj.putSet es1 t1) = h1 at keep at1 ⊢
  have tup1 : ∀ q ∈ L1, IsT P w h1 q.2 q.1 := fun q hq => by
    rcases List.mem_cons.mp (pm.mem_iff.mp hq) with rfl | hq
    · exact isT_same hx obAt obDat keep
    · exact isT_same (R.tup q hq) obAt obDat keep
  have ld1 : w.params.followText "set-order" = true ∨ t1.led = true := G1.led ▸ R.led
  have len1 : L1.length = L.length + 1 := pm.length_eq
  have ts : t1.place.size = L1.length := T1.size.trans (List.length_map ..)
  have full : t1.tooFull = decide ((L.length + 1) * 5 ≥ t.mask * 3) := by
    unfold SetTable.tooFull
    rw [G1.fill, G1.mask, List.length_map]
  by_cases hf : t1.tooFull = true
  · first
      | (refine wpAny_bind ?_; refine wp_if_pos (by simp [hf]) ?_)
      | (refine wp_if_pos (by simp [hf]) ?_; refine wpAny_bind ?_)
    have hf' : (L.length + 1) * 5 ≥ t.mask * 3 := by
      rw [full] at hf
      exact of_decide_eq_true hf
    rw [size]
    have fit1 : t1.fits es1.size = true := by
      simp only [SetTable.fits, G1.fill, Bool.and_eq_true, beq_iff_eq, decide_eq_true_eq, List.length_map, G1.mask]
      have := R.tab.good.odd
      exact ⟨by omega, by omega⟩
    have next : ∀ M, SetTable.sizeAbove (SetTable.grown (L.length + 1)) = M + 1 → GoodM M → (L.length + 1) * 5 < M * 3 →
        wpAny (model P w) A (setRelay a (SetTable.grown (L.length + 1))) (fun _ s' => wpAny (model P w) A (pure true) Q E s') E { s with heap := h1 } := fun M e g r => by
      refine set_greater (s := { s with heap := h1 }) at1 ⟨obEx.1, obEx.2.1, obEx.2.2⟩ rfl rows1 fit1 nd1 tup1 pl1 ld1 (M := M) (by omega) g (by omega) fun h2 L2 es2 ep2 t2 k2 R2 pm2 => ?_
      exact wpAny_pure (then_ true h2 L2 es2 ep2 t2 (keep.trans k2) R2 (fun z => absurd z outL) fun _ => pm2.trans pm)
    rcases R.tab.good.one with (e | e | e) | e
    · have l4 : L.length = 4 := by rw [e] at hf' room; omega
      exact next 31 (by rw [l4]; exact size_20) (good_of (.inr (.inl rfl))) (by omega)
    · have l18 : L.length = 18 := by rw [e] at hf' room; omega
      exact next 127 (by rw [l18]; exact size_76) (good_of (.inr (.inr rfl))) (by omega)
    · have l76 : L.length = 76 := by rw [e] at hf' room; omega
      exact next 511 (by rw [l76]; exact grow_512) good_511 (by omega)
    · rw [e] at hf'
      omega
  · first
      | refine wp_if_neg (by simp [hf]) ?_
      | (refine wpAny_bind ?_; refine wp_if_neg (by simp [hf]) ?_; refine wpAny_pure ?_)
    refine wpAny_pure (then_ true h1 L1 es1 (ep + 1) t1 keep ⟨⟨_, at1, ⟨obEx.1, obEx.2.1, obEx.2.2⟩, rfl⟩, rows1, T1, nd1, tup1, pl1, ld1, ?_⟩ (fun z => absurd z outL) fun _ => pm)
    rw [full, decide_eq_true_eq] at hf
    rw [G1.mask]
    omega
theorem SetG.keep {h h' : Heap} (R : SetG P w h a L es ep t) (ha : ∀ o, h.get? a = some o → h'.get? a = some o) (ht : ∀ p ∈ L, IsT P w h' p.2 p.1) : SetG P w h' a L es ep t := by
  obtain ⟨o, h1, h2⟩ := R.there
  exact ⟨⟨o, ha o h1, h2⟩, R.rows, R.tab, R.nd, ht, R.plain, R.led, R.room⟩
/-- the object of a set just made -/
abbrev newSetO (w : World) : Obj := { cls := .type "set", dict := none, data := .set #[] 0 (.fresh 0 0 (!w.params.followText "set-order")) }
theorem setG_new {h : Heap} (ho : h.get? a = some (newSetO w)) : SetG P w h a [] #[] 0 (.fresh 0 0 (!w.params.followText "set-order")) where
  there := ⟨_, ho, ⟨rfl, rfl, rfl⟩, rfl⟩
  rows := rfl
  tab := ⟨.nil, rfl, rfl, good_of (.inl rfl), nofun, fun i x j hi => by simp at hi⟩
  nd := .nil
  tup := nofun
  plain := rfl
  led := by
    cases e : w.params.followText "set-order"
    · exact .inr rfl
    · exact .inl rfl
  room := by
    show 0 * 5 < 7 * 3
    omega
/-- set.update, item by item -/
theorem set_takes {I : Addr} {fp wr : List Addr} {G : Array GenState → Array GenState → Prop} {n : Nat} {Pv : Nat → Value → Prop} {St : Nat → Shared → Prop} {R : Result → Shared → Prop}
    (W : WalksS P w A.in1 I fp wr G n Pv St) (S : Addr) (hSf : S ∉ fp) (ks : List (Addr × List Int)) (hn : n = ks.length) (few : ks.length ≤ 306) (each : ∀ i v, Pv i v → ∃ p, ks[i]? = some p ∧ v = .ref p.1)
    (h0 : Heap) (hk : ∀ p ∈ ks, IsT P w h0 p.2 p.1) (hS0 : h0.get? S = none) (hw0 : ∀ b ∈ wr, h0.get? b = none) (hu : A.in1.units < cLine) :
    ∀ (k i : Nat) (s : Shared), i + k = n → St i s → (∀ b o, h0.get? b = some o → s.heap.get? b = some o) → (∃ L es ep t, SetG P w s.heap S L es ep t ∧ Got ks i L) →
      (∀ s' L es ep t, Moved (S :: wr) G s s' → SetG P w s'.heap S L es ep t → Got ks n L → (∀ b o, h0.get? b = some o → s'.heap.get? b = some o) → R (.ok (.ret .none)) s') →
      codeAny (model P w) A (.builtin "set.update.loop" ⟨[.ref S, .ref I], []⟩) R s := by
  have outW : S ∉ wr := fun z => hSf (W.sub S z)
  have more : ∀ b ∈ wr, b ∈ S :: wr := fun _ z => .tail _ z
  have old : ∀ {s1 s2 : Shared}, Moved wr G s1 s2 → (∀ b o, h0.get? b = some o → s1.heap.get? b = some o) → ∀ b o, h0.get? b = some o → s2.heap.get? b = some o := fun mv k1 b o e =>
    mv.heap b o (fun z => by rw [hw0 b z] at e; cases e) (k1 b o e)
  intro k
  induction k with
  | zero =>
    rintro i s rfl st k0 ⟨L, es, ep, t, R1, g⟩ out
    refine codeAny_builtin F.entry_set_update_loop ?_
    rw [Around.under_plainId F.plain_set_update_loop _]
    show wpAny _ A.in1 (pyNext (.ref I) >>= _) _ _ s
    refine wpAny_bind (W.done s _ _ st fun s' mv => ?_)
    show wpAny _ A.in1 (ret Value.none) _ _ s'
    have k1 := old mv k0
    exact wpAny_pure (out s' L es ep t (mv.mono more) (R1.keep (fun o e => mv.heap S o outW e) fun p hp => isT_keep (hk p (List.mem_of_mem_take (g.sub p hp))) k1) g k1)
  | succ k ih =>
    rintro i s ei st k0 ⟨L, es, ep, t, R1, g⟩ out
    refine codeAny_builtin F.entry_set_update_loop ?_
    rw [Around.under_plainId F.plain_set_update_loop _]
    show wpAny _ A.in1 (pyNext (.ref I) >>= _) _ _ s
    refine wpAny_bind (W.item i s _ _ (by omega) st fun v s1 pv st1 mv => ?_)
    obtain ⟨p, hp, rfl⟩ := each i v pv
    have k1 := old mv k0
    have R2 : SetG P w s1.heap S L es ep t := R1.keep (fun o e => mv.heap S o outW e) fun q hq => isT_keep (hk q (List.mem_of_mem_take (g.sub q hq))) k1
    have hx : IsT P w s1.heap p.2 p.1 := isT_keep (hk p (List.mem_of_getElem? hp)) k1
    show wpAny _ A.in1 (holding [Value.ref p.1] (setAdd S (.ref p.1)) >>= _) _ _ s1
    refine wpAny_bind (wpAny_holding ?_)
    unfold setAdd
    refine wpAny_holding (wpAny_bind (wpAny_pyHash_tuple hu hx ?_))
    refine set_adds (s := { s1 with toks := s1.toks + (p.2.length + 1) }) R2 hx hu (by have := g.len; have := (List.getElem?_eq_some_iff.mp hp).1; omega) fun b h2 L2 es2 ep2 t2 sb R3 c1 c2 => ?_
    have g2 : Got ks (i + 1) L2 := by
      by_cases c : p.2 ∈ L.map (·.2)
      · exact (c1 c) ▸ g.same hp c
      · exact g.more hp (c2 c)
    have k2 : ∀ b o, h0.get? b = some o → h2.get? b = some o := fun b o e => by
      rw [sb.2 b fun z => by rw [z, hS0] at e; cases e]
      exact k1 b o e
    refine wpAny_pure ⟨plainId_quiet F.plain_set_update_loop _, ih (i + 1) _ (by omega) (W.frame _ s1 _ _ st1 (Nat.le_add_right _ _) fun b hb o e => ?_) k2 ⟨L2, es2, ep2, t2, R3, g2⟩ fun s3 L3 es3 ep3 t3 m3 R4 g3 k3 => ?_⟩
    · rw [sb.2 b fun z => hSf (z ▸ hb)]
      exact e
    · refine out s3 L3 es3 ep3 t3 (.trans W.gtrans ((mv.mono more).then_heap (Nat.le_add_right _ _) fun b o hb e => ?_) m3) R4 g3 k3
      rw [sb.2 b fun z => hb (z ▸ .head _)]
      exact e
end
end Sw
namespace Sw
open PySem PySem.Spec PyProof.Rows L2
section
variable {P : Program} {w : World} {A : Around} {E : Value → Shared → Prop} {s : Shared}
set_option maxRecDepth 100000 in
set_option maxHeartbeats 3200000 in
/-- set(xs), xs a list of tuples of ints -/
theorem made_list {l : Addr} {items : Array Value} (ks : List (Addr × List Int)) {Q : Value → Shared → Prop} (calm : A.handled = none) (src : s.heap.IsList l items) (refs : items.toList = ks.map fun p => Value.ref p.1)
    (tups : ∀ p ∈ ks, IsT P w s.heap p.2 p.1) (few : ks.length ≤ 306) (hu : A.units + 3 < cLine)
    (then_ : ∀ (h' : Heap) (tk : Nat) L es ep t, SetG P w h' s.heap.objs.size L es ep t → Got ks ks.length L → (∀ b o, s.heap.get? b = some o → h'.get? b = some o) → Q (.ref s.heap.objs.size) { s with heap := h', toks := tk }) :
    wpAny (model P w) A (call (.type "set") [.ref l]) Q E s := by
  have size : items.size = ks.length := by
    rw [← Array.length_toList, refs, List.length_map]
  obtain ⟨mc, mt, mro_⟩ := F.called_set.mro
  have made_ := F.called_set.made
  have sub_ := F.called_set.sub
  refine wpAny_call (codeAny_of_tree ?_)
  show wpAny _ _ (callAny (.type "set") _) _ _ _
  refine wpAny_pure ⟨Code.quiet_builtin _ (by decide +kernel), ?_⟩
  refine codeAny_builtin F.entry_type_call ?_
  rw [Around.under_plain (weight_type_call_type "set" [.ref l] []) rfl]
  have nt := F.called_set.notType
  have cc := F.called_set.canCreate
  have tc := F.typeCall_set_1 (.ref l)
  repeat (any_goals (first | assumption | wp_step))
  refine codeAny_mono (code_set_led1 (.ref l) (E := E) (Q₁ := fun v s1 => v = .ref s.heap.objs.size ∧ s1 = { s with heap := s.heap.push (newSetO w) }) ⟨rfl, rfl⟩) fun r s1 hr => ?_
  rcases r with e | fl
  · exact hr
  rcases fl with _ | _ | _ | v
  all_goals first | exact hr.elim | skip
  obtain ⟨rfl, rfl⟩ := hr
  have here : (s.heap.push (newSetO w)).get? s.heap.objs.size = some (newSetO w) := Heap.get?_push_size _ rfl
  have ty : Shared.TypeIs { s with heap := s.heap.push (newSetO w) } (.ref s.heap.objs.size) "set" := ⟨_, here, rfl⟩
  have il := F.called_set.init.lookup
  have ib := F.called_set.init.bind (.ref s.heap.objs.size)
  repeat (any_goals (first | assumption | wp_step))
  refine codeAny_mono (codeAny_call_builtin (R := wants (fun v s2 => v = .none ∧ ∃ h' tk L es ep t, s2 = { s with heap := h', toks := tk } ∧ SetG P w h' s.heap.objs.size L es ep t ∧ Got ks ks.length L ∧
      (∀ b o, s.heap.get? b = some o → h'.get? b = some o)) E) F.called_set.init.plain F.entry_set_init (check_set_init_1 ty ?_)) fun r2 s2 hr2 => ?_
  · obtain ⟨⟨oc, od, odt, osl⟩, src1, src2, nl, src3⟩ := src
    simp only at src2 src3
    subst src2; subst src3
    have src4 : (s.heap.push (newSetO w)).get? l = some { cls := .type "list", dict := od, data := .seq items nl, slots := osl } := Heap.get?_push_of_some _ src1
    have u1 := F.sub_list_set
    have u2 := F.sub_list_frozenset
    have u3 : (Value.type "list" == Value.type "dict") = false := by decide
    have src5 : (s.heap.push (newSetO w)).IsList l items := ⟨_, src4, rfl, nl, rfl⟩
    unfold Builtin.«set.__init__» noKeywords Builtin.Frozenset.updateFrom
    generalize ePI : pyIter = PI
    wp_walk
    subst ePI
    refine wpAny_pyIter_list src5 ?_
    refine wpAny_bind (wpAny_runValue ?_)
    have ll : l < s.heap.objs.size := Heap.lt_size src1
    have calm3 : A.in1.in1.in1.handled = none := by simp [calm]
    have sz1 : (s.heap.push (newSetO w)).objs.size = s.heap.objs.size + 1 := Heap.size_push ..
    have ne1 : l ≠ (s.heap.push (newSetO w)).objs.size := by
      rw [sz1]
      exact Nat.ne_of_lt (Nat.lt_succ_of_lt ll)
    have ne2 : s.heap.objs.size ∉ [(s.heap.push (newSetO w)).objs.size, l] := by
      rw [sz1]
      simp only [List.mem_cons, List.not_mem_nil, or_false, not_or]
      exact ⟨Nat.ne_of_lt (Nat.lt_succ_self _), Nat.ne_of_gt ll⟩
    have each : ∀ (i : Nat) (v : Value), items[i]? = some v → ∃ p, ks[i]? = some p ∧ v = .ref p.1 := fun i v hv => by
      have q : (ks.map fun p => Value.ref p.1)[i]? = some v := by
        rw [← refs]
        simpa using hv
      rw [List.getElem?_map, Option.map_eq_some_iff] at q
      obtain ⟨p, h1, h2⟩ := q
      exact ⟨p, h1, h2.symm⟩
    have none_of : ∀ b, s.heap.objs.size ≤ b → s.heap.get? b = none := fun b hb => by
      cases q : s.heap.get? b with
      | none => rfl
      | some o => exact absurd (Heap.lt_size q) (Nat.not_lt_of_le hb)
    refine set_takes (Walks.list calm3 _ l ne1 items).toS s.heap.objs.size ne2 ks size few each s.heap tups (none_of _ (Nat.le_refl _)) (fun b hb => none_of b ?_) hu (items.size - 0) 0 _ (by omega)
      ⟨⟨_, Heap.get?_push_size _ rfl, rfl, rfl⟩, src5.push _⟩ (fun b o e => Heap.get?_push_of_some _ (Heap.get?_push_of_some _ e)) ⟨[], #[], 0, _, setG_new (Heap.get?_push_of_some _ here), .zero ks⟩ ?_
    · rw [List.mem_singleton.mp hb, sz1]
      exact Nat.le_succ _
    · rintro ⟨h', g2, d2, tk2, os2⟩ L es ep t mv R g k
      obtain rfl : g2 = s.gens := mv.gens
      obtain rfl : d2 = s.drawn := mv.drawn
      obtain rfl : os2 = s.os := mv.os
      show wpAny _ _ _ _ _ _
      refine wpAny_pure ?_
      show wpAny _ _ (ret Value.none) _ _ _
      rw [size] at g
      exact wpAny_pure ⟨rfl, h', tk2, L, es, ep, t, rfl, R, g, k⟩
  · rcases r2 with e | fl
    · exact hr2
    rcases fl with _ | _ | _ | v
    all_goals first | exact hr2.elim | skip
    obtain ⟨rfl, h', tk, L, es, ep, t, rfl, R, g, k⟩ := hr2
    repeat (any_goals (first | assumption | wp_step))
    exact then_ _ _ _ _ _ _ R g k
set_option maxRecDepth 100000 in
set_option maxHeartbeats 3200000 in
/-- set(xs), xs a tuple of tuples of ints -/
theorem made_tuple {l : Addr} {items : Array Value} (ks : List (Addr × List Int)) {Q : Value → Shared → Prop} (calm : A.handled = none) (src : s.heap.IsTuple l items) (refs : items.toList = ks.map fun p => Value.ref p.1)
    (tups : ∀ p ∈ ks, IsT P w s.heap p.2 p.1) (few : ks.length ≤ 306) (hu : A.units + 3 < cLine)
    (then_ : ∀ (h' : Heap) (tk : Nat) L es ep t, SetG P w h' s.heap.objs.size L es ep t → Got ks ks.length L → (∀ b o, s.heap.get? b = some o → h'.get? b = some o) → Q (.ref s.heap.objs.size) { s with heap := h', toks := tk }) :
    wpAny (model P w) A (call (.type "set") [.ref l]) Q E s := by
  have size : items.size = ks.length := by
    rw [← Array.length_toList, refs, List.length_map]
  obtain ⟨mc, mt, mro_⟩ := F.called_set.mro
  have made_ := F.called_set.made
  have sub_ := F.called_set.sub
  refine wpAny_call (codeAny_of_tree ?_)
  show wpAny _ _ (callAny (.type "set") _) _ _ _
  refine wpAny_pure ⟨Code.quiet_builtin _ (by decide +kernel), ?_⟩
  refine codeAny_builtin F.entry_type_call ?_
  rw [Around.under_plain (weight_type_call_type "set" [.ref l] []) rfl]
  have nt := F.called_set.notType
  have cc := F.called_set.canCreate
  have tc := F.typeCall_set_1 (.ref l)
  repeat (any_goals (first | assumption | wp_step))
  refine codeAny_mono (code_set_led1 (.ref l) (E := E) (Q₁ := fun v s1 => v = .ref s.heap.objs.size ∧ s1 = { s with heap := s.heap.push (newSetO w) }) ⟨rfl, rfl⟩) fun r s1 hr => ?_
  rcases r with e | fl
  · exact hr
  rcases fl with _ | _ | _ | v
  all_goals first | exact hr.elim | skip
  obtain ⟨rfl, rfl⟩ := hr
  have here : (s.heap.push (newSetO w)).get? s.heap.objs.size = some (newSetO w) := Heap.get?_push_size _ rfl
  have ty : Shared.TypeIs { s with heap := s.heap.push (newSetO w) } (.ref s.heap.objs.size) "set" := ⟨_, here, rfl⟩
  have il := F.called_set.init.lookup
  have ib := F.called_set.init.bind (.ref s.heap.objs.size)
  repeat (any_goals (first | assumption | wp_step))
  refine codeAny_mono (codeAny_call_builtin (R := wants (fun v s2 => v = .none ∧ ∃ h' tk L es ep t, s2 = { s with heap := h', toks := tk } ∧ SetG P w h' s.heap.objs.size L es ep t ∧ Got ks ks.length L ∧
      (∀ b o, s.heap.get? b = some o → h'.get? b = some o)) E) F.called_set.init.plain F.entry_set_init (check_set_init_1 ty ?_)) fun r2 s2 hr2 => ?_
  · obtain ⟨⟨oc, od, odt, osl⟩, src1, src2, nl, src3⟩ := src
    simp only at src2 src3
    subst src2; subst src3
    have src4 : (s.heap.push (newSetO w)).get? l = some { cls := .type "tuple", dict := od, data := .seq items nl, slots := osl } := Heap.get?_push_of_some _ src1
    have u1 := F.sub_tuple_set
    have u2 := F.sub_tuple_frozenset
    have u3 : (Value.type "tuple" == Value.type "dict") = false := by decide
    have src5 : (s.heap.push (newSetO w)).IsTuple l items := ⟨_, src4, rfl, nl, rfl⟩
    unfold Builtin.«set.__init__» noKeywords Builtin.Frozenset.updateFrom
    generalize ePI : pyIter = PI
    wp_walk
    subst ePI
    refine wpAny_pyIter_tuple src5 ?_
    refine wpAny_bind (wpAny_runValue ?_)
    have ll : l < s.heap.objs.size := Heap.lt_size src1
    have calm3 : A.in1.in1.in1.handled = none := by simp [calm]
    have sz1 : (s.heap.push (newSetO w)).objs.size = s.heap.objs.size + 1 := Heap.size_push ..
    have ne1 : l ≠ (s.heap.push (newSetO w)).objs.size := by
      rw [sz1]
      exact Nat.ne_of_lt (Nat.lt_succ_of_lt ll)
    have ne2 : s.heap.objs.size ∉ [(s.heap.push (newSetO w)).objs.size, l] := by
      rw [sz1]
      simp only [List.mem_cons, List.not_mem_nil, or_false, not_or]
      exact ⟨Nat.ne_of_lt (Nat.lt_succ_self _), Nat.ne_of_gt ll⟩
    have each : ∀ (i : Nat) (v : Value), items[i]? = some v → ∃ p, ks[i]? = some p ∧ v = .ref p.1 := fun i v hv => by
      have q : (ks.map fun p => Value.ref p.1)[i]? = some v := by
        rw [← refs]
        simpa using hv
      rw [List.getElem?_map, Option.map_eq_some_iff] at q
      obtain ⟨p, h1, h2⟩ := q
      exact ⟨p, h1, h2.symm⟩
    have none_of : ∀ b, s.heap.objs.size ≤ b → s.heap.get? b = none := fun b hb => by
      cases q : s.heap.get? b with
      | none => rfl
      | some o => exact absurd (Heap.lt_size q) (Nat.not_lt_of_le hb)
    refine set_takes (Walks.tuple calm3 _ l ne1 items).toS s.heap.objs.size ne2 ks size few each s.heap tups (none_of _ (Nat.le_refl _)) (fun b hb => none_of b ?_) hu (items.size - 0) 0 _ (by omega)
      ⟨⟨_, Heap.get?_push_size _ rfl, rfl, rfl⟩, src5.push _⟩ (fun b o e => Heap.get?_push_of_some _ (Heap.get?_push_of_some _ e)) ⟨[], #[], 0, _, setG_new (Heap.get?_push_of_some _ here), .zero ks⟩ ?_
    · rw [List.mem_singleton.mp hb, sz1]
      exact Nat.le_succ _
    · rintro ⟨h', g2, d2, tk2, os2⟩ L es ep t mv R g k
      obtain rfl : g2 = s.gens := mv.gens
      obtain rfl : d2 = s.drawn := mv.drawn
      obtain rfl : os2 = s.os := mv.os
      show wpAny _ _ _ _ _ _
      refine wpAny_pure ?_
      show wpAny _ _ (ret Value.none) _ _ _
      rw [size] at g
      exact wpAny_pure ⟨rfl, h', tk2, L, es, ep, t, rfl, R, g, k⟩
  · rcases r2 with e | fl
    · exact hr2
    rcases fl with _ | _ | _ | v
    all_goals first | exact hr2.elim | skip
    obtain ⟨rfl, h', tk, L, es, ep, t, rfl, R, g, k⟩ := hr2
    repeat (any_goals (first | assumption | wp_step))
    exact then_ _ _ _ _ _ _ R g k
end
end Sw
namespace Sw
open PySem PySem.Spec PyProof.Rows L2
section
variable {P : Program} {w : World} {A : Around} {E : Value → Shared → Prop} {s : Shared}
variable {a : Addr} {L : List (Addr × List Int)} {es : Array (Int × Value)} {ep : Nat} {t : SetTable}
/-- is a tuple in a set? -/
theorem asked_in (R : SetG P w s.heap a L es ep t) {x : Addr} {k : List Int} (hx : IsT P w s.heap k x) (hu : A.units + 3 < cLine) {Q : Bool → Shared → Prop}
    (then_ : ∀ tk, Q (decide (k ∈ L.map (·.2))) { s with toks := tk }) : wpAny (model P w) A (contains (.ref a) (.ref x)) Q E s := by
  obtain ⟨ob, obAt, obEx, obDat⟩ := R.there
  have ty : s.TypeIs (.ref a) "set" := ⟨ob, obAt, obEx.1⟩
  unfold contains
  try with_reducible refine wpAny_holding ?_
  refine wpAny_bind (wpAny_specialOf ty F.slot_set_contains.lookup ?_)
  show wpAny _ _ (if (some (Value.builtin "set.__contains__") == some Value.none) = true then _ else _) Q E s
  rw [if_neg (by simp [beq_builtin_none])]
  refine wpAny_bind (wpAny_callSpecialUnlessNone?_slot (name := Str.ofString "__contains__") ty F.slot_set_contains ?_)
  refine wpAny_call_entry F.slot_set_contains ty entry_set_contains ?_ (F.args_set_contains_2 _ _)
  unfold Builtin.«frozenset.__contains__» Builtin.Frozenset.oneOther
  simp only [List.isEmpty_nil, bind_assoc]
  unfold Builtin.Frozenset.addrOf Builtin.Frozenset.withSetAsKey setContains
  refine wpAny_bind (wpAny_pure ?_)
  try dsimp only
  refine wpAny_bind (wpAny_pure ?_)
  try dsimp only
  refine wpAny_bind (wpAny_tryCatch (wpAny_holding ?_))
  refine wpAny_bind (wpAny_pyHash_tuple (by show A.units + 1 < cLine; omega) hx ?_)
  unfold setFind
  show wpAny _ _ (setFindIn a (.ref x) _ (99999 + 1) >>= _) _ _ _
  unfold setFindIn
  have R1 : SetG P w ({ s with toks := s.toks + (k.length + 1) } : Shared).heap a L es ep t := R
  refine wpAny_bind (wpAny_bind (wpAny_setState_of (s := { s with toks := s.toks + (k.length + 1) }) obAt obDat R1.fits ?_))
  dsimp only
  refine wp_if_neg (by unfold byScan Value.scannable; simp) ?_
  try refine wpAny_bind (wpAny_pure ?_)
  refine wpAny_bind (look_for R1 hx (by show A.units + 1 < cLine; omega) (fun inL r hr => ?_) fun K outL F => ?_)
  · have hr := hr rfl
    dsimp only
    refine wpAny_pure (wpAny_pure ?_)
    show wpAny _ _ (ret (Value.bool r.isSome)) _ _ _
    rw [hr]
    refine wpAny_pure ⟨_, rfl, wpAny_truthy_bool ?_⟩
    have := then_ (s.toks + (k.length + 1))
    rw [decide_eq_true inL] at this
    exact this
  · dsimp only
    refine wpAny_pure (wpAny_pure ?_)
    show wpAny _ _ (ret (Value.bool (Option.isSome (none : Option Nat)))) _ _ _
    refine wpAny_pure ⟨_, rfl, wpAny_truthy_bool ?_⟩
    have := then_ (s.toks + (k.length + 1))
    rw [decide_eq_false outL] at this
    exact this
end
/-! ### over the layer -/
/-- the set at a, without the tuples themselves -/
structure SetG0 (P : Program) (w : World) (h : Heap) (a : Addr) (L : List (Addr × List Int)) : Prop where
  ex : ∃ (es : Array (Int × Value)) (ep : Nat) (t : SetTable), (∃ o, h.get? a = some o ∧ o.ExactSet ∧ o.data = .set es ep t) ∧ es.toList = rowsOf P w L ∧ TabG t (L.map fun p => thash P w p.2) ∧ (L.map (·.2)).Nodup ∧ t.plain = true ∧
    (w.params.followText "set-order" = true ∨ t.led = true) ∧ L.length * 5 < t.mask * 3
def SetGO (P : Program) (w : World) (a : Addr) (L : List (Addr × List Int)) : HO := .ext fun h => SetG0 P w h a L
section
variable {P : Program} {w : World} {h : Heap} {a : Addr} {L : List (Addr × List Int)} {es : Array (Int × Value)} {ep : Nat} {t : SetTable}
theorem SetG.bare (R : SetG P w h a L es ep t) : SetG0 P w h a L := ⟨es, ep, t, R.there, R.rows, R.tab, R.nd, R.plain, R.led, R.room⟩
theorem SetG0.full (R : SetG0 P w h a L) (ht : ∀ p ∈ L, IsT P w h p.2 p.1) : ∃ es ep t, SetG P w h a L es ep t := by
  obtain ⟨es, ep, t, h1, h2, h3, h4, h5, h6, h7⟩ := R.ex
  exact ⟨es, ep, t, h1, h2, h3, h4, ht, h5, h6, h7⟩
theorem setGO_new {H : Hp} (R : SetG0 P w h a L) : ObjOk P w H h a (SetGO P w a L) := by
  have ⟨es, ep, t, ⟨o, ho, r⟩, q⟩ := R.ex
  refine ⟨R, ⟨o, ho⟩, fun h1 h2 p k => ?_⟩
  have ⟨es', ep', t', ⟨o', ho', r'⟩, q'⟩ := SetG0.ex p
  exact ⟨es', ep', t', ⟨o', k o' ho', r'⟩, q'⟩
end
section
variable {X : Cx}
/-- set(xs), xs a list or a tuple of tuples of ints -/
def rSetG (K : PySem.W.Frag) (P : Program) (w : World) : List V → Hp → VK → Prop := fun xs H Q => ∃ (l : Addr) (ks : List (Addr × List Int)), xs = [V.ref l] ∧ (SqL K H l (ks.map fun p => V.ref p.1) ∨ SqT K H l (ks.map fun p => V.ref p.1)) ∧
  (∀ p ∈ ks, SqT K H p.1 (p.2.map V.int)) ∧ ks.length ≤ 306 ∧ ∀ a L, H a = none → (∀ p ∈ L, p ∈ ks) → (∀ p ∈ ks, p.2 ∈ L.map (·.2)) → Q (.ref a) (upd H a (SetGO P w a L))
theorem cr_setG (hc : X.calm = true) (hu : X.A.units + 64 < cLine) : CallR X (.type "set") (rSetG X.K X.prog X.w) := by
  intro pins s σ H xs us Q I r h
  obtain ⟨l, ks, rfl, hl, hk, few, q⟩ := h
  rw [Vals.ref1 r]
  have hn : H s.heap.objs.size = none := I.hok.fresh (Nat.le_refl _)
  have fin : ∀ (h' : Heap) (tk : Nat) L es ep t, SetG X.prog X.w h' s.heap.objs.size L es ep t → Got ks ks.length L → (∀ b o, s.heap.get? b = some o → h'.get? b = some o) → EP X pins σ Q (.ref s.heap.objs.size) { s with heap := h', toks := tk } := fun h' tk L es ep t R g k =>
    ⟨.ref s.heap.objs.size, upd H s.heap.objs.size (SetGO X.prog X.w s.heap.objs.size L), I.laid (t' := tk) k (Nat.le_refl _) (setGO_new R.bare), rfl, q _ L hn (fun p hp => List.mem_of_mem_take (g.sub p hp)) fun p hp => g.all p (by rw [List.take_length]; exact hp)⟩
  rcases hl with hl | hl
  · obtain ⟨its, rv, pl, _⟩ := I.list hl
    exact made_list ks (I.ok.hd hc) pl.isList (by simpa using refs_of_vals rv) (fun p hp => I.isT (hk p hp)) few (by omega) fin
  · obtain ⟨its, rv, pl, _⟩ := I.tuple hl
    exact made_tuple ks (I.ok.hd hc) pl (by simpa using refs_of_vals rv) (fun p hp => I.isT (hk p hp)) few (by omega) fin
/-- k in found, k not in found -/
def rInG (K : PySem.W.Frag) (P : Program) (w : World) (neg : Bool) : V → V → Hp → VK → Prop := fun x y H Q => ∃ (b a : Addr) (k : List Int) (L : List (Addr × List Int)), x = V.ref b ∧ y = V.ref a ∧ SqT K H b (k.map V.int) ∧ H a = some (SetGO P w a L) ∧
  (∀ p ∈ L, SqT K H p.1 (p.2.map V.int)) ∧ Q (.bl (if neg then !decide (k ∈ L.map (·.2)) else decide (k ∈ L.map (·.2)))) H
theorem or_inG (hu : X.A.units + 64 < cLine) : OpR X (compareOp .In) (rInG X.K X.prog X.w false) := by
  intro pins s σ H x y v u Q I rx ry h
  obtain ⟨b, a, k, L, rfl, rfl, hb, ha, ht, q⟩ := h
  cases rx
  cases ry
  obtain ⟨es, ep, t, R⟩ := (show SetG0 X.prog X.w s.heap a L from (I.hok a _ ha).1).full fun p hp => I.isT (ht p hp)
  show wpAny _ _ (do return Value.bool (← contains (.ref a) (.ref b)) : Sem Value) _ _ s
  exact wpAny_bind (asked_in R (I.isT hb) (by omega) fun tk => wpAny_pure (show EP X pins σ Q (Value.bool (decide (k ∈ L.map (fun p : Addr × List Int => p.2)))) _ from ⟨.bl (decide (k ∈ L.map (fun p : Addr × List Int => p.2))), H, I.tok tk, rfl, q⟩))
theorem or_notInG (hu : X.A.units + 64 < cLine) : OpR X (compareOp .NotIn) (rInG X.K X.prog X.w true) := by
  intro pins s σ H x y v u Q I rx ry h
  obtain ⟨b, a, k, L, rfl, rfl, hb, ha, ht, q⟩ := h
  cases rx
  cases ry
  obtain ⟨es, ep, t, R⟩ := (show SetG0 X.prog X.w s.heap a L from (I.hok a _ ha).1).full fun p hp => I.isT (ht p hp)
  show wpAny _ _ (do return Value.bool (!(← contains (.ref a) (.ref b))) : Sem Value) _ _ s
  exact wpAny_bind (asked_in R (I.isT hb) (by omega) fun tk => wpAny_pure (show EP X pins σ Q (Value.bool (!decide (k ∈ L.map (fun p : Addr × List Int => p.2)))) _ from ⟨.bl (!decide (k ∈ L.map (fun p : Addr × List Int => p.2))), H, I.tok tk, rfl, q⟩))
end
end Sw
namespace Sw
open PySem PySem.Spec PyProof.Rows L2
/-! ### sorted(a set of pairs) -/
section
variable {P : Program} {w : World} {A : Around} {E : Value → Shared → Prop} {s : Shared} {a : Addr} {L : List (Addr × List Int)} {es : Array (Int × Value)} {ep : Nat} {t : SetTable}
theorem sorted_setG {Q : Value → Shared → Prop} {f : Value → Int × Int} (R : SetG P w s.heap a L es ep t) (calm : A.handled = none) (pairs : ∀ p ∈ L, Srt.IsPair s.heap (.ref p.1) (f (.ref p.1)).1 (f (.ref p.1)).2)
    (q : ∀ (s' : Shared) (d : Addr) (out : List Value), (∀ b o, s.heap.get? b = some o → s'.heap.get? b = some o) → s'.gens = s.gens → s'.os = s.os → s.heap.objs.size ≤ d → (∃ n, s'.heap.get? d = some (seqObj "list" out.toArray n)) →
      out.Perm (L.map fun p => Value.ref p.1) → SrtO.Srtd (fun v u => SrtO.lexB (f v) (f u)) out → Q (.ref d) s') :
    wpAny (model P w) A (call (.builtin "sorted") [.ref a]) Q E s := by
  obtain ⟨o, ho, hex, hd⟩ := R.there
  have few := R.few
  have len := rows_len R.rows
  refine Calls.call_function_entry kind_sorted plain_sorted entry_sorted (args_sorted1 (.ref a)) ?_; unfold Builtin.«sorted»; refine wpAny_bind (m := checkCount "sorted" 1 1 _) (wpAny_pure ?_)
  refine wpAny_bind (collect_set (A := A.in1) calm ⟨o, ho, hex.1, hd⟩ R.fits (by rw [len]; show _ < 4096; omega) R.tab.asc R.led fun s1 vs keep size gens os perm => ?_)
  have perm2 : vs.Perm (L.map fun p => Value.ref p.1) := by
    rw [R.rows] at perm
    unfold rowsOf at perm
    rw [List.map_map] at perm
    exact perm
  have vl : vs.length ≤ 306 := by
    rw [perm2.length_eq, List.length_map]
    exact few
  have vz : vs.length ≤ sizeLine := by rw [sizeLine_eq]; omega
  refine wpAny_bind (wpAny_newList ?_ vz)
  have laid : (s1.heap.push (seqObj "list" vs.toArray 0)).get? s1.heap.objs.size = some (seqObj "list" vs.toArray 0) := Heap.get?_push_size _ rfl
  have stay : ∀ b u, s.heap.get? b = some u → (s1.heap.push (seqObj "list" vs.toArray 0)).get? b = some u := fun b u e => Heap.get?_push_of_some _ (keep b u e)
  refine wpAny_bind (wpAny_holding (wpAny_call_entry slot_list_sort ⟨_, laid, rfl⟩ entry_list_sort (SrtO.list_sort_ord (SrtO.swo_lex f) laid vz (fun h2 => SrtO.pairs_sortableO (by omega) (fun v hv => ?_) fun u e => ?_) fun out hs hb => ⟨_, rfl, ?_⟩) (args_list_sort _)))
  · obtain ⟨p, hp, rfl⟩ := List.mem_map.mp (perm2.mem_iff.mp hv)
    exact (pairs p hp).keeps fun b u e _ => stay b u e
  · have e2 : some u = some (seqObj "list" vs.toArray 0) := e.symm.trans laid
    cases e2
    exact fun c => absurd (Value.type.inj c) (by decide)
  · obtain ⟨c, hc⟩ := sortedHeap_at (vs := vs) (out := out.toArray) laid
    refine wpAny_pure ⟨_, rfl, q _ s1.heap.objs.size out (fun b u e => ?_) gens os size ⟨c, hc⟩ (hb.perm.trans perm2) hs⟩
    have lt := Heap.lt_size (keep b u e)
    show (sortedHeap (s1.heap.push (seqObj "list" vs.toArray 0)) s1.heap.objs.size vs out.toArray).get? b = some u
    rw [sortedHeap_old (Nat.ne_of_lt lt) (by rw [size_push']; exact Nat.lt_succ_of_lt lt)]
    exact stay b u e
end
end Sw
namespace Sw
open PySem PySem.Spec PyProof.Rows L2
/-- which of the set's rows a value is -/
def rowAt (L : List (Addr × List Int)) (u : Value) : Addr × List Int := match u with
  | .ref b => (L.find? fun p => p.1 == b).getD (0, [])
  | _ => (0, [])
def two2 (k : List Int) : Int × Int := (k.getD 0 0, k.getD 1 0)
theorem rowAt_of {L : List (Addr × List Int)} (same : ∀ p ∈ L, ∀ p' ∈ L, p.1 = p'.1 → p = p') {p : Addr × List Int} (hp : p ∈ L) : rowAt L (.ref p.1) = p := by
  show (L.find? fun z => z.1 == p.1).getD (0, []) = p
  cases h : L.find? fun z => z.1 == p.1 with
  | none =>
    have := List.find?_eq_none.mp h p hp
    simp at this
  | some z =>
    have h1 := List.find?_some h
    have h2 := List.mem_of_find?_eq_some h
    exact same z h2 p hp (beq_iff_eq.mp h1)
/-- sorted(s), s a set of pairs of whole numbers -/
def rSortedG (P : Program) (w : World) : List V → Hp → VK → Prop := fun vs H Q => ∃ (a : Addr) (L : List (Addr × List Int)), vs = [.ref a] ∧ H a = some (SetGO P w a L) ∧ (∀ p ∈ L, (∃ x y, p.2 = [x, y]) ∧ H p.1 = some (.tup (p.2.map V.int))) ∧
  ∀ (d : Addr) (out : List (Addr × List Int)), out.Perm L → out.Pairwise (fun p q => SrtO.lexB (two2 q.2) (two2 p.2) = false) → (out.map (·.2)).Nodup → H d = none → Q (.ref d) (upd H d (.lst (out.map fun p => V.ref p.1)))
end Sw
namespace Sw
open PySem PySem.Spec PyProof.Rows L2
theorem cr_sortedG {X : Cx} (hc : X.calm = true) : CallR X (.builtin "sorted") (rSortedG X.prog X.w) := by
  intro pins s σ H xs us Q I r h
  obtain ⟨a, L, rfl, ha, each, q⟩ := h
  obtain ⟨u, rfl, hu⟩ := vals1 r
  cases (show u = Value.ref a from hu)
  obtain ⟨es, ep, t, R⟩ := (show SetG0 X.prog X.w s.heap a L from (I.hok a _ ha).1).full fun p hp => I.isT (SqT.of (each p hp).2)
  have nd := R.nd
  have same : ∀ p ∈ L, ∀ p' ∈ L, p.1 = p'.1 → p = p' := fun p hp p' hp' e => by
    have e1 := (each p hp).2
    rw [e, (each p' hp').2] at e1
    have e2 := Option.some.inj e1
    injection e2 with e2
    have inj : ∀ {l m : List Int}, l.map V.int = m.map V.int → l = m := fun {l m} z => by
      induction l generalizing m with
      | nil =>
        cases m with
        | nil => rfl
        | cons b r => cases z
      | cons b r ih =>
        cases m with
        | nil => cases z
        | cons c r' =>
          rw [List.map_cons, List.map_cons] at z
          injection z with z1 z2
          rw [V.int.inj z1, ih z2]
    have e3 : p.2 = p'.2 := (inj e2).symm
    exact Prod.ext e e3
  have row : ∀ p ∈ L, rowAt L (.ref p.1) = p := fun p hp => rowAt_of same hp
  refine sorted_setG (f := fun u => two2 (rowAt L u).2) R (I.ok.hd hc) (fun p hp => ?_) fun s' d out keep gens os hd hl perm srt => ?_
  · obtain ⟨⟨x, y, e⟩, hp2⟩ := each p hp
    rw [row p hp, e]
    rw [e] at hp2
    obtain ⟨_, its, rv, o, ho, hcl, n, hdat⟩ := (show ObjOk X.prog X.w H s.heap p.1 (.tup ([x, y].map V.int)) from I.hok _ _ hp2)
    obtain ⟨u1, u2, rfl, ri, rj⟩ := vals2 rv
    obtain ⟨t1, rfl⟩ := ri
    obtain ⟨t2, rfl⟩ := rj
    exact ⟨p.1, o, t1, t2, n, rfl, ho, hcl, hdat⟩
  · have op : (out.map (rowAt L)).Perm L := by
      have z := perm.map (rowAt L)
      rw [List.map_map] at z
      refine z.trans (List.Perm.of_eq ?_)
      have idm : ∀ l : List (Addr × List Int), (∀ p ∈ l, p ∈ L) → l.map (rowAt L ∘ fun p => Value.ref p.1) = l := fun l hl => by
        induction l with
        | nil => rfl
        | cons p r ih =>
          rw [List.map_cons, ih fun x hx => hl x (List.mem_cons_of_mem _ hx)]
          show rowAt L (.ref p.1) :: r = p :: r
          rw [row p (hl p List.mem_cons_self)]
      exact idm L fun _ h => h
    have back : ∀ u ∈ out, Value.ref (rowAt L u).1 = u := fun u hu => by
      obtain ⟨p, hp, rfl⟩ := List.mem_map.mp (perm.mem_iff.mp hu)
      rw [row p hp]
    have vals : ∀ l : List Value, (∀ u ∈ l, Value.ref (rowAt L u).1 = u) → Vals ((l.map (rowAt L)).map fun p => V.ref p.1) l := fun l hl => by
      induction l with
      | nil => exact .nil
      | cons u r ih => exact .cons (hl u List.mem_cons_self).symm (ih fun x hx => hl x (List.mem_cons_of_mem _ hx))
    have few := R.few
    obtain ⟨n, hn⟩ := hl
    have len : out.length = L.length := by rw [perm.length_eq, List.length_map]
    obtain ⟨h', g', d', t', os'⟩ := s'
    obtain rfl : g' = s.gens := gens
    obtain rfl : os' = s.os := os
    have hp : (out.map (rowAt L)).Pairwise (fun p q => SrtO.lexB (two2 q.2) (two2 p.2) = false) := List.pairwise_map.mpr srt
    have J : Inv X pins σ (upd H d (.lst ((out.map (rowAt L)).map fun p => V.ref p.1))) { s with heap := h', toks := t' } :=
      I.laid (t' := t') keep hd ⟨by rw [List.length_map, List.length_map, len, sizeLine_eq]; omega, out, n, vals out back, hn⟩
    exact ⟨.ref d, _, ⟨J.ok, J.os, J.bare, J.base, J.loc, J.cell, J.free, J.freeC, J.pin, J.hok, J.len⟩, rfl, q d _ op hp ((op.map (·.2)).nodup_iff.mpr nd) (I.hok.fresh hd)⟩
end Sw
namespace Sw
open PySem PySem.Spec PyProof.Rows L2
/-! ### the numbers of lots, and the pairs of them between which an arrow leads -/
def Num (Ls : List (List Int)) (v : Int) (f : Nat) : Prop := ∃ L, Ls[f]? = some L ∧ v ∈ L
theorem Num.lt {Ls : List (List Int)} {v : Int} {f : Nat} (h : Num Ls v f) : f < Ls.length := by
  obtain ⟨L, e, _⟩ := h
  exact (List.getElem?_eq_some_iff.mp e).1
section
variable {n : Int} {ars : List (Int × Int)} {Ls : List (List Int)}
theorem Num.apart (h : LotsP n ars Ls n) {v : Int} {f g : Nat} (lt : f < g) (a : Num Ls v f) (b : Num Ls v g) : False := by
  obtain ⟨A, ea, va⟩ := a
  obtain ⟨B, eb, vb⟩ := b
  obtain ⟨fl, ea⟩ := List.getElem?_eq_some_iff.mp ea
  obtain ⟨gl, eb⟩ := List.getElem?_eq_some_iff.mp eb
  have r := List.pairwise_iff_getElem.mp h.asc f g fl gl lt
  rw [ea, eb] at r
  obtain ⟨s, _, p⟩ := h.each A (ea ▸ List.getElem_mem fl)
  obtain ⟨t, _, q⟩ := h.each B (eb ▸ List.getElem_mem gl)
  have r := r s t p.hd q.hd
  have b1 := ((p.is v).mp va).2
  have b2 := ((q.is v).mp vb).2
  have := q.least s p.inn (b2.trans b1.symm)
  omega
theorem Num.uniq (h : LotsP n ars Ls n) {v : Int} {f g : Nat} (a : Num Ls v f) (b : Num Ls v g) : f = g := by
  rcases Nat.lt_trichotomy f g with z | z | z
  · exact (Num.apart h z a b).elim
  · exact z
  · exact (Num.apart h z b a).elim
theorem Num.ex (h : LotsP n ars Ls n) {v : Int} (hv : Inn n v) : ∃ f, Num Ls v f := by
  obtain ⟨L, hL, m⟩ := h.all v hv.1 hv.2
  obtain ⟨f, hf⟩ := List.getElem?_of_mem hL
  exact ⟨f, L, hf, m⟩
end
/-- a list in a strict order is told by what is in it -/
theorem srt_same {α : Type} {lt : α → α → Prop} (asym : ∀ a b, lt a b → ¬ lt b a) : ∀ {l m : List α}, l.Pairwise lt → m.Pairwise lt → (∀ x, x ∈ l ↔ x ∈ m) → l = m
  | [], [], _, _, _ => rfl
  | [], b :: r, _, _, h => (List.not_mem_nil ((h b).mpr List.mem_cons_self)).elim
  | a :: r, [], _, _, h => (List.not_mem_nil ((h a).mp List.mem_cons_self)).elim
  | a :: r, b :: r', p, q, h => by
    obtain ⟨pa, pr⟩ := List.pairwise_cons.mp p
    obtain ⟨qb, qr⟩ := List.pairwise_cons.mp q
    have e : a = b := by
      rcases List.mem_cons.mp ((h a).mp List.mem_cons_self) with z | z
      · exact z
      · rcases List.mem_cons.mp ((h b).mpr List.mem_cons_self) with y | y
        · exact y.symm
        · exact (asym _ _ (qb a z) (pa b y)).elim
    subst e
    rw [srt_same asym pr qr fun x => ?_]
    constructor
    · intro hx
      rcases List.mem_cons.mp ((h x).mp (List.mem_cons_of_mem _ hx)) with z | z
      · subst z
        exact (asym _ _ (pa _ hx) (pa _ hx)).elim
      · exact z
    · intro hx
      rcases List.mem_cons.mp ((h x).mpr (List.mem_cons_of_mem _ hx)) with z | z
      · subst z
        exact (asym _ _ (qb _ hx) (qb _ hx)).elim
      · exact z
/-- p comes of an arrow between two lots -/
def Joint (Ls : List (List Int)) (as : List (Int × Int)) (p : Int × Int) : Prop := ∃ e ∈ as, ∃ i j : Nat, Num Ls e.1 i ∧ Num Ls e.2 j ∧ i ≠ j ∧ p = ((i : Int), (j : Int))
/-- these are the pairs, ascending, none twice -/
structure OnP (Ls : List (List Int)) (ars es : List (Int × Int)) : Prop where
  asc : es.Pairwise fun p q => SrtO.lexB p q = true
  is : ∀ p, p ∈ es ↔ Joint Ls ars p
theorem OnP.uniq {Ls : List (List Int)} {ars es es' : List (Int × Int)} (h : OnP Ls ars es) (g : OnP Ls ars es') : es = es' := by
  refine srt_same (lt := fun p q => SrtO.lexB p q = true) (fun a b x y => ?_) h.asc g.asc fun x => (h.is x).trans (g.is x).symm
  have := SrtO.lexB_iff.mp x
  have := SrtO.lexB_iff.mp y
  omega
theorem Joint.mono {Ls : List (List Int)} {as bs : List (Int × Int)} {p : Int × Int} (h : Joint Ls as p) (s : ∀ e ∈ as, e ∈ bs) : Joint Ls bs p := by
  obtain ⟨e, he, r⟩ := h
  exact ⟨e, s e he, r⟩
theorem joint_succ {Ls : List (List Int)} {as : List (Int × Int)} {i : Nat} {e p : Int × Int} (he : as[i]? = some e) : Joint Ls (as.take (i + 1)) p ↔ Joint Ls (as.take i) p ∨ Joint Ls [e] p := by
  rw [List.take_add_one, he]
  constructor
  · rintro ⟨x, hx, r⟩
    rcases List.mem_append.mp hx with z | z
    · exact .inl ⟨x, z, r⟩
    · exact .inr ⟨x, z, r⟩
  · rintro (h | h)
    · exact h.mono fun x hx => List.mem_append_left _ hx
    · exact h.mono fun x hx => List.mem_append_right _ hx
/-! ### from a list of pairs to a set of them, and back -/
theorem ars_ks {K : PySem.W.Frag} {H : Hp} {xs : List V} {es : List (Int × Int)} (h : ArsAt H xs es) : ∃ ks : List (Addr × List Int), xs = ks.map (fun p => V.ref p.1) ∧ (∀ p ∈ ks, (∃ x y, p.2 = [x, y]) ∧ H p.1 = some (.tup (p.2.map V.int))) ∧ ks.map (·.2) = es.map fun e => [e.1, e.2] := by
  unfold ArsAt at h
  induction h with
  | nil => exact ⟨[], rfl, fun _ h => (List.not_mem_nil h).elim, rfl⟩
  | @cons x e xs es q t ih =>
    obtain ⟨ks, rfl, h1, h2⟩ := ih
    obtain ⟨a, rfl, ha⟩ := q
    refine ⟨(a, [e.1, e.2]) :: ks, rfl, fun p hp => ?_, by rw [List.map_cons, List.map_cons, h2]⟩
    rcases List.mem_cons.mp hp with z | z
    · subst z
      exact ⟨⟨_, _, rfl⟩, ha⟩
    · exact h1 p z
theorem two2_of {k : List Int} (h : ∃ x y, k = [x, y]) : [(two2 k).1, (two2 k).2] = k := by
  obtain ⟨x, y, rfl⟩ := h
  rfl
theorem pairs_out {H : Hp} {out : List (Addr × List Int)} (each : ∀ p ∈ out, (∃ x y, p.2 = [x, y]) ∧ H p.1 = some (.tup (p.2.map V.int))) (srt : out.Pairwise (fun p q => SrtO.lexB (two2 q.2) (two2 p.2) = false)) (nd : (out.map (·.2)).Nodup) :
    ArsAt H (out.map fun p => V.ref p.1) (out.map fun p => two2 p.2) ∧ ((out.map fun p => two2 p.2).Pairwise fun p q => SrtO.lexB p q = true) ∧ ∀ e, e ∈ (out.map fun p => two2 p.2) ↔ [e.1, e.2] ∈ out.map (·.2) := by
  refine ⟨?_, ?_, fun e => ?_⟩
  · unfold ArsAt
    clear srt nd
    induction out with
    | nil => exact .nil
    | cons p r ih =>
      refine .cons ⟨p.1, rfl, ?_⟩ (ih fun x hx => each x (List.mem_cons_of_mem _ hx))
      obtain ⟨h1, h2⟩ := each p List.mem_cons_self
      have t := two2_of h1
      rw [← t] at h2
      exact h2
  · rw [List.pairwise_map]
    have nd := List.pairwise_map.mp nd
    refine (srt.and nd).imp_of_mem fun {p q} hp hq ⟨h1, h2⟩ => ?_
    have tp := two2_of (each p hp).1
    have tq := two2_of (each q hq).1
    have ne : two2 p.2 ≠ two2 q.2 := fun z => h2 (by rw [← tp, ← tq, z])
    have h1 := SrtO.lexB_no.mp h1
    refine SrtO.lexB_iff.mpr ?_
    have h3 : ¬ ((two2 p.2).1 = (two2 q.2).1 ∧ (two2 p.2).2 = (two2 q.2).2) := fun z => ne (Prod.ext z.1 z.2)
    omega
  · rw [List.mem_map, List.mem_map]
    constructor
    · rintro ⟨p, hp, rfl⟩
      exact ⟨p, hp, (two2_of (each p hp).1).symm⟩
    · rintro ⟨p, hp, z⟩
      refine ⟨p, hp, ?_⟩
      show two2 p.2 = e
      rw [z]
      rfl
theorem pair_mem {gs : List (Int × Int)} {e : Int × Int} : [e.1, e.2] ∈ gs.map (fun e : Int × Int => [e.1, e.2]) ↔ e ∈ gs := by
  rw [List.mem_map]
  constructor
  · rintro ⟨g, hg, z⟩
    injection z with z1 z2
    injection z2 with z2 _
    have : g = e := Prod.ext z1 z2
    exact this ▸ hg
  · exact fun h => ⟨e, h, rfl⟩
end Sw
namespace Sw
open PySem PySem.Spec PyProof.Rows L2
/-! ### webs that are halves, or any -/
theorem sub_lenA {α : Type} : ∀ {l m : List α}, l.Nodup → (∀ x ∈ l, x ∈ m) → l.length ≤ m.length
  | [], _, _, _ => Nat.zero_le _
  | a :: r, m, nd, h => by
    obtain ⟨n1, n2⟩ := List.nodup_cons.mp nd
    obtain ⟨u, v, rfl⟩ := List.append_of_mem (h a List.mem_cons_self)
    have q := sub_lenA (l := r) (m := u ++ v) n2 fun x hx => by
      rcases List.mem_append.mp (h x (List.mem_cons_of_mem _ hx)) with z | z
      · exact List.mem_append_left _ z
      · rcases List.mem_cons.mp z with z | z
        · subst z
          exact (n1 hx).elim
        · exact List.mem_append_right _ z
    rw [List.length_append] at q
    rw [List.length_cons, List.length_append, List.length_cons]
    omega
theorem EH.base {p d l fl dd hl : Addr} {H0 H1 Z : Hp} {ls os : List Int} {es : List (Int × Int)} {kvs : List (Key × V)} (E : EH p d l fl dd hl H1 Z ls os es kvs) (D : Loom H0 p d) (k : KpW p d H0 H1) : EH p d l fl dd hl H0 Z ls os es kvs :=
  { E with D0 := D, K := k.trans E.K, nl := kpw_free E.D0 k E.nl, nf := kpw_free E.D0 k E.nf, nc := kpw_free E.D0 k E.nc, nh := kpw_free E.D0 k E.nh }
section
variable {P : Program} {w : World} {K : PySem.W.Frag} {mg : Str → Option Value} {base : Heap}
abbrev sWebW : Stmt := top 54
abbrev nWebW : List Str := ["loom", "way", "size", "called", "some", "shade", "turn", "begin", "end"]
theorem scWebW : FnScope nWebW ["loom", "way", "size"] (defScope sWebW) := ⟨rfl, rfl, rfl, by decide +kernel, rfl, by decide +kernel, by decide +kernel⟩
def spWebE : Sp := fun vs H Q _ => ∃ (p d : Addr) (n : Int) (x : Str), vs = [.ref p, .str x, .int n] ∧ Loom H p d ∧ 2 ≤ n ∧ n ≤ 12 ∧ x ≠ "lone" ∧ x ≠ "five" ∧ x ≠ "ring" ∧
  ∀ (a b : Addr) (ts : List V) (ars : List (Int × Int)) (sh : Int → Int) (H' : Hp), Loom H' p d → KpW p d H H' → NetAt n H' a b ts → ArsAt H' ts ars → AscA ars → Joined n ars → (x = "half" → Col ars sh) → (∀ e ∈ ars, e.1 ≠ e.2) → Q (.ref a) H'
/-- while arrows are added -/
def WE (p d : Addr) (n : Int) (x : Str) (H : Hp) (top_ : Nat) : L2.St → Hp → Prop := fun σ Z => ∃ (l fl dd hl : Addr) (os : List Int) (es es0 : List (Int × Int)) (kvs : List (Key × V)) (sh : Int → Int) (s3 s6 s7 s8 : Option V),
  σ = [some (.ref p), some (.str x), some (.int n), s3, some (.ref fl), some (.ref dd), s6, s7, s8] ∧ EH p d l fl dd hl H Z [] os es kvs ∧ EN n (x == "half") [] os es0 kvs sh ∧ (∀ e ∈ es0, e ∈ es) ∧ (∀ e ∈ es, Inn n e.1 ∧ Inn n e.2 ∧ e.1 ≠ e.2) ∧ (x = "half" → ∀ e ∈ es, sh e.1 ≠ sh e.2) ∧ es.length ≤ top_
theorem ok_webE {f : Addr} {fd : FuncData} (F : Fun K "_law_web" "_law_web" sWebW f fd) (B : NoNames mg) (bset : mg "set" = none) (OD : Own P w K mg base 1 "_law_draw" ["loom", "many"] spDrawW) (OP : Own P w K mg base 2 "_law_pick" ["loom", "things"] spPickW)
    (OM : Own P w K mg base 2 "_law_mixed" ["loom", "things"] spMixedW) (OE : Own P w K mg base 3 "_law_eared" ["loom", "size", "is_even"] spEaredW) : FnOk P w K mg base CX0 4 f fd ["loom", "way", "size"] spWebE := by
  obtain ⟨fD, fdD, GD, mD, kD, bD⟩ := OD.ex
  obtain ⟨fP, fdP, GP, mP, kP, bP⟩ := OP.ex
  obtain ⟨fM, fdM, GM, mM, kM, bM⟩ := OM.ex
  obtain ⟨fE, fdE, GE, mE, kE, bE⟩ := OE.ex
  refine F.ok scWebW (fun vs H Q E h => ?_) (fun cdv A outer s H vs Q E hr h => ?_)
  · obtain ⟨p, d, n, x, rfl, _⟩ := h
    rfl
  · obtain ⟨p, d, n, x, rfl, D, n2, n12, x1, x2, x3, q⟩ := h
    have hr1 := hr.mono (by decide : 1 ≤ 3)
    have hr2 := hr.mono (by decide : 2 ≤ 3)
    have hu := hu_ofW hr
    have ex : decide (V.str x = V.str "half") = (x == "half") := by
      by_cases z : x = "half"
      · rw [z]
        exact (decide_eq_true rfl).trans (beq_self_eq_true _).symm
      · rw [no_str z]
        exact (beq_eq_false_iff_ne.mpr z).symm
    refine ⟨_, pss_cons (ps_if (PW.pt (pw_or (pt_cmpR op_eq (pv 1) pe_str (nomark _)) (pw_or1 (pt_cmpR op_eq (pv 2) pe_int (nomark _))))) (pss_one (ps_ret (pe_tup (pa_cons pe_int (pa_cons (pe_tup pa_nil) pa_nil))))) pss_nil) <|
      pss_cons (ps_set (i := 3) scWebW.nd rfl (.inr rfl) (pe_call GM hr2 rfl mM kM bM .nil pass0 (pa_cons (pv 0) (pa_cons (pe_listRg rfl (by rfl) B.list (prg_1 (by rfl) B.range (pe_ifExp (pt_cmpR op_eq (pv 1) pe_str (nomark _)) pe_int (pv 2)))) pa_nil)))) <|
      pss_cons (ps_if (pt_cmpR op_eq (pv 1) pe_str (nomark _))
        (pss_cons (ps_set (i := 4) scWebW.nd rfl (.inl rfl) (pe_lst (pa_cons (pe_tup (pa_cons pe_int (pa_cons pe_int pa_nil))) (pa_cons (pe_tup (pa_cons pe_int (pa_cons pe_int pa_nil))) (pa_cons (pe_tup (pa_cons pe_int (pa_cons pe_int pa_nil))) (pa_cons (pe_tup (pa_cons pe_int (pa_cons pe_int pa_nil))) (pa_cons (pe_tup (pa_cons pe_int (pa_cons pe_int pa_nil)))
            (pa_cons (pe_tup (pa_cons pe_int (pa_cons (pe_call GP hr2 rfl mP kP bP .nil pass0 (pa_cons (pv 0) (pa_cons (pe_lst (pa_cons pe_int (pa_cons pe_int pa_nil))) pa_nil))) pa_nil))) pa_nil)))))))) <|
         pss_one (ps_ret (pe_tup (pa_cons pe_int (pa_cons (pe_callTy call_tuple_of (by rfl) B.tuple (by decide +kernel) (pa_cons (pe_callB cr_sortedP (by rfl) B.sorted (by decide +kernel) (pa_cons
            (pe_lc (own := [("begin", 7), ("end", 8)]) (g := gTup K 2 (gCons (gName 7) (gCons (gName 8) gNil))) (tt := tYes) (te := tTup (tCons (tOp (rIxL K) (tVar 3) (tVar 7)) (tCons (tOp (rIxL K) (tVar 3) (tVar 8)) tNil))) rfl scWebW.nd (pi_list (pv 4)) (blkOk_by (own := [("begin", 7), ("end", 8)]) (N := nWebW) (sc := defScope sWebW) (by decide +kernel))
              (fun _ _ _ _ _ => pg_tup rfl (pgs_cons (pg_name (i := 7) scWebW.nd rfl (Or.inl rfl)) (pgs_cons (pg_name (i := 8) scWebW.nd rfl (Or.inl rfl)) pgs_nil))) (fun _ _ _ _ _ => pts_nil)
              (fun _ _ _ _ _ => pe_tup (pa_cons (pe_ix (r := rIxL K) ix_list (pv 3) (pv 7) (fun _ _ => rfl)) (pa_cons (pe_ix (r := rIxL K) ix_list (pv 3) (pv 8) (fun _ _ => rfl)) pa_nil)))) pa_nil)) pa_nil)) pa_nil))))) pss_nil) <|
      pss_cons (ps_if (pt_cmpR op_eq (pv 1) pe_str (nomark _))
        (pss_one (ps_ret (pe_tup (pa_cons (pv 2) (pa_cons (pe_callTy (call_tuple_of) (by rfl) B.tuple (by decide +kernel) (pa_cons (pe_callB cr_sortedP (by rfl) B.sorted (by decide +kernel) (pa_cons
            (pe_listZip rfl (by rfl) B.zip (by rfl) B.list (by decide +kernel) (pa_cons (pv 3) (pa_cons (pe_op op_cat (pe_slice sl_list (pv 3) (po_some pe_int) po_none) (pe_slice sl_list (pv 3) po_none (po_some pe_int))) pa_nil))) pa_nil)) pa_nil)) pa_nil))))) pss_nil) <|
      pss_cons (ps_asg (pe_call GE hr rfl mE kE bE .nil pass0 (pa_cons (pv 0) (pa_cons (pv 2) (pa_cons (pe_cmpR op_eq (pv 1) pe_str (nomark _)) pa_nil)))) (pg_tup (by rfl) (pgs_cons (pg_name (i := 4) scWebW.nd rfl (.inl rfl)) (pgs_cons (pg_name (i := 5) scWebW.nd rfl (.inl rfl)) pgs_nil)))) <|
      pss_cons (ps_cut (J := WE p d n x H 24) (J' := WE p d n x H 60) (ps_for PassesOwn.never rfl (pi_range1 (by rfl) B.range (pa_cons (pe_ifExp (pt_cmpR (r := rI0 fun i j => .bl (decide (j < i))) op_gt (pe_call GD hr1 rfl mD kD bD .nil pass0 (pa_cons (pv 0) (pa_cons pe_int pa_nil))) pe_int (nomark _)) (pe_call GD hr1 rfl mD kD bD .nil pass0 (pa_cons (pv 0) (pa_cons pe_int pa_nil))) (pe_op (r := rI CMul fun i j => .int (i * j)) op_mul pe_int (pv 2))) pa_nil)) (pg_name (i := 6) scWebW.nd rfl (.inl rfl))
        (pss_cons (ps_par (i := 7) (j := 8) rfl scWebW.nd rfl rfl (by decide) rfl rfl (pa_cons (pe_call GD hr1 rfl mD kD bD .nil pass0 (pa_cons (pv 0) (pa_cons (pv 2) pa_nil))) (pa_cons (pe_call GD hr1 rfl mD kD bD .nil pass0 (pa_cons (pv 0) (pa_cons (pv 2) pa_nil))) pa_nil)) (by rfl)) <|
         pss_one (ps_if (PW.pt (pw_and (pt_cmpR op_ne (pv 7) (pv 8) (nomark _)) (pw_and1 (PW.pt (pw_or (pt_cmpR op_ne (pv 1) pe_str (nomark _)) (pw_or1 (pt_cmpR op_ne (pe_dget hu (pv 5) (pv 7) (fun _ _ => rfl)) (pe_dget hu (pv 5) (pv 8) (fun _ _ => rfl)) (nomark _))))))))
           (pss_one (ps_expr (pe_bm PySem.F.plainAttrs_list PySem.F.slot_list_append PySem.F.type_list_append mt_append (pv 4) (pa_cons (pe_tup (pa_cons (pv 7) (pa_cons (pv 8) pa_nil))) pa_nil)))) pss_nil))) ?ca) <|
      pss_one (ps_ret (pe_tup (pa_cons (pv 2) (pa_cons (pe_callTy call_tuple_of (by rfl) B.tuple (by decide +kernel) (pa_cons (pe_callB (cr_sortedG rfl) (by rfl) B.sorted (by decide +kernel) (pa_cons (pe_callTy (cr_setG rfl hr.units) (by rfl) bset (by decide +kernel) (pa_cons (pv 4) pa_nil)) pa_nil)) pa_nil)) pa_nil)))), ?_⟩
    case ca =>
      rintro D0 σ H1 ⟨l, fl, dd, hl, os, es, es0, kvs, sh, s3, s6, s7, s8, rfl, M, N, sub, inn, alt, few⟩ nx
      refine ⟨_, rfl, p, d, 6, rfl, M.D, by decide, fun r H2 r0 r1 D2 k2 => ⟨_, _, rfl, rfl, _, rfl, ite2 (fun _ => ?_) (fun _ => ?_)⟩⟩
      · have M2 := M.kpw D2 k2
        refine ⟨_, rfl, p, d, 4, rfl, D2, by decide, fun m H3 m0 m1 D3 k3 => ?_⟩
        have M3 := M2.kpw D3 k3
        have m1 := m1 (by decide)
        have mb : m ≤ 36 := by omega
        clear M2 D3 k3 m1 M D2 k2 r0 r1
        refine ⟨m, rfl, by omega, by omega, for_it walk_range (fun j σ Z => ∃ (es : List (Int × Int)) (s6 s7 s8 : Option V), σ = [some (.ref p), some (.str x), some (.int n), s3, some (.ref fl), some (.ref dd), s6, s7, s8] ∧ EH p d l fl dd hl H Z [] os es kvs ∧ (∀ e ∈ es0, e ∈ es) ∧ (∀ e ∈ es, Inn n e.1 ∧ Inn n e.2 ∧ e.1 ≠ e.2) ∧ (x = "half" → ∀ e ∈ es, sh e.1 ≠ sh e.2) ∧ es.length ≤ 24 + j)
          ⟨es, _, _, _, rfl, M3, sub, inn, alt, few⟩ (fun _ _ _ _ _ => trivial) ?_ ?_⟩
        · clear M3 sub inn alt few
          rintro j y σ Hb Hc hj ⟨es, s6, s7, s8, rfl, M4, sub, inn, alt, few⟩ ⟨rfl, rfl⟩
          have hj : j < m.toNat := hj
          refine ⟨_, rfl, _, rfl, p, d, n, rfl, M4.D, by omega, fun u H4 u0 u1 D4 k4 => ?_⟩
          have u1 := u1 (by omega)
          have M5 := M4.kpw D4 k4
          refine ⟨_, rfl, _, rfl, p, d, n, rfl, D4, by omega, fun v H5 v0 v1 D5 k5 => ?_⟩
          have v1 := v1 (by omega)
          have M6 := M5.kpw D5 k5
          clear M4 M5 D4 k4 D5 k5
          refine ⟨_, _, rfl, _, rfl, _, rfl, rfl, _, rfl, ?_⟩
          have iu : Inn n u := ⟨u0, u1⟩
          have iv : Inn n v := ⟨v0, v1⟩
          have all : ∀ w, Inn n w → w ∈ os := fun w hw => (List.mem_append.mp ((N.all w).mpr hw)).resolve_right fun z => nomatch z
          by_cases uv : u = v
          · rw [uv, show (!decide (V.int v = V.int v)) = false by rw [decide_eq_true rfl]; rfl]
            exact iteF (iteF ⟨es, _, _, _, rfl, M6, sub, inn, alt, by omega⟩)
          · rw [show (!decide (V.int u = V.int v)) = true by rw [decide_eq_false fun z => uv (V.int.inj z)]; rfl]
            have gu := DGet.k (k := (.inl u : Key)) M6.ca
            rw [N.S.at_ u (all u iu)] at gu
            have gv := DGet.k (k := (.inl v : Key)) M6.ca
            rw [N.S.at_ v (all v iv)] at gv
            refine iteT ⟨_, rfl, rfl, _, rfl, ?_⟩
            obtain ⟨ts, hf, AA⟩ := M6.fa
            have lt1 : ts.length = es.length := AA.len
            have put : (x = "half" → sh u ≠ sh v) → ∀ T, H5 T = none → upd H5 T (.tup [.int u, .int v]) fl = some (.lst ts) ∧ ts.length + 1 ≤ sizeLine ∧ EH p d l fl dd hl H (upd (upd H5 T (.tup [.int u, .int v])) fl (.lst (ts ++ [.ref T]))) [] os (es ++ [(u, v)]) kvs ∧ (∀ e ∈ es0, e ∈ es ++ [(u, v)]) ∧ (∀ e ∈ es ++ [(u, v)], Inn n e.1 ∧ Inn n e.2 ∧ e.1 ≠ e.2) ∧ (x = "half" → ∀ e ∈ es ++ [(u, v)], sh e.1 ≠ sh e.2) ∧ (es ++ [(u, v)]).length ≤ 24 + (j + 1) := fun hs T nT => by
              have sT := same_new (o := .tup [.int u, .int v]) nT
              refine ⟨sT _ _ hf, by rw [sizeLine_eq]; omega, (M6.same sT).addF (sT _ _ hf) (AA.keep (.of sT)) (.cons ⟨T, rfl, upd_same⟩ .nil), fun e he => List.mem_append_left _ (sub e he), fun e he => ?_, fun z e he => ?_, by rw [List.length_append]; simp only [List.length_cons, List.length_nil]; omega⟩
              · rcases List.mem_append.mp he with h | h
                · exact inn e h
                · rw [List.mem_singleton.mp h]
                  exact ⟨iu, iv, uv⟩
              · rcases List.mem_append.mp he with h | h
                · exact alt z e h
                · rw [List.mem_singleton.mp h]
                  exact hs z
            by_cases xh : x = "half"
            · rw [xh, show (!decide (V.str "half" = V.str "half")) = false by rw [decide_eq_true rfl]; rfl]
              refine iteF ⟨_, rfl, _, rfl, dd, _, rfl, gu, _, rfl, _, rfl, dd, _, rfl, gv, rfl, _, rfl, ?_⟩
              by_cases suv : sh u = sh v
              · rw [suv, show (!decide (V.int (sh v) = V.int (sh v))) = false by rw [decide_eq_true rfl]; rfl]
                rw [xh] at alt
                exact iteF ⟨es, _, _, _, rfl, M6, sub, inn, alt, by omega⟩
              · rw [show (!decide (V.int (sh u) = V.int (sh v))) = true by rw [decide_eq_false fun z => suv (V.int.inj z)]; rfl]
                refine iteT ⟨_, rfl, .inl ⟨rfl, _, SqL.of hf⟩, _, rfl, _, rfl, by show 2 ≤ sizeLine; decide, fun T nT => ?_⟩
                obtain ⟨h1, h2, h3⟩ := put (fun _ => suv) T nT
                rw [xh] at h3
                exact ⟨fl, ts, .ref T, rfl, rfl, h1, h2, _, _, _, _, rfl, h3⟩
            · rw [show (!decide (V.str x = V.str "half")) = true by rw [no_str xh]; rfl]
              refine iteT (iteT ⟨_, rfl, .inl ⟨rfl, _, SqL.of hf⟩, _, rfl, _, rfl, by show 2 ≤ sizeLine; decide, fun T nT => ?_⟩)
              obtain ⟨h1, h2, h3⟩ := put (fun z => (xh z).elim) T nT
              exact ⟨fl, ts, .ref T, rfl, rfl, h1, h2, _, _, _, _, rfl, h3⟩
        · rintro σ Hb ⟨es, s6, s7, s8, rfl, M4, sub, inn, alt, few⟩
          exact nx _ _ ⟨l, fl, dd, hl, os, es, es0, kvs, sh, s3, s6, s7, s8, rfl, M4, N, sub, inn, alt, by omega⟩
      · have M3 := M.kpw D2 k2
        refine ⟨_, rfl, _, _, rfl, rfl, .inl ⟨by decide, by omega⟩, ?_⟩
        obtain ⟨m, em⟩ : ∃ m : Int, m = 3 * n := ⟨_, rfl⟩
        have m0 : 0 ≤ m := by omega
        have mb : m ≤ 36 := by omega
        clear M D2 k2 r0 r1
        refine ⟨m, by rw [em], by omega, by omega, for_it walk_range (fun j σ Z => ∃ (es : List (Int × Int)) (s6 s7 s8 : Option V), σ = [some (.ref p), some (.str x), some (.int n), s3, some (.ref fl), some (.ref dd), s6, s7, s8] ∧ EH p d l fl dd hl H Z [] os es kvs ∧ (∀ e ∈ es0, e ∈ es) ∧ (∀ e ∈ es, Inn n e.1 ∧ Inn n e.2 ∧ e.1 ≠ e.2) ∧ (x = "half" → ∀ e ∈ es, sh e.1 ≠ sh e.2) ∧ es.length ≤ 24 + j)
          ⟨es, _, _, _, rfl, M3, sub, inn, alt, few⟩ (fun _ _ _ _ _ => trivial) ?_ ?_⟩
        · clear M3 sub inn alt few
          rintro j y σ Hb Hc hj ⟨es, s6, s7, s8, rfl, M4, sub, inn, alt, few⟩ ⟨rfl, rfl⟩
          have hj : j < m.toNat := hj
          refine ⟨_, rfl, _, rfl, p, d, n, rfl, M4.D, by omega, fun u H4 u0 u1 D4 k4 => ?_⟩
          have u1 := u1 (by omega)
          have M5 := M4.kpw D4 k4
          refine ⟨_, rfl, _, rfl, p, d, n, rfl, D4, by omega, fun v H5 v0 v1 D5 k5 => ?_⟩
          have v1 := v1 (by omega)
          have M6 := M5.kpw D5 k5
          clear M4 M5 D4 k4 D5 k5
          refine ⟨_, _, rfl, _, rfl, _, rfl, rfl, _, rfl, ?_⟩
          have iu : Inn n u := ⟨u0, u1⟩
          have iv : Inn n v := ⟨v0, v1⟩
          have all : ∀ w, Inn n w → w ∈ os := fun w hw => (List.mem_append.mp ((N.all w).mpr hw)).resolve_right fun z => nomatch z
          by_cases uv : u = v
          · rw [uv, show (!decide (V.int v = V.int v)) = false by rw [decide_eq_true rfl]; rfl]
            exact iteF (iteF ⟨es, _, _, _, rfl, M6, sub, inn, alt, by omega⟩)
          · rw [show (!decide (V.int u = V.int v)) = true by rw [decide_eq_false fun z => uv (V.int.inj z)]; rfl]
            have gu := DGet.k (k := (.inl u : Key)) M6.ca
            rw [N.S.at_ u (all u iu)] at gu
            have gv := DGet.k (k := (.inl v : Key)) M6.ca
            rw [N.S.at_ v (all v iv)] at gv
            refine iteT ⟨_, rfl, rfl, _, rfl, ?_⟩
            obtain ⟨ts, hf, AA⟩ := M6.fa
            have lt1 : ts.length = es.length := AA.len
            have put : (x = "half" → sh u ≠ sh v) → ∀ T, H5 T = none → upd H5 T (.tup [.int u, .int v]) fl = some (.lst ts) ∧ ts.length + 1 ≤ sizeLine ∧ EH p d l fl dd hl H (upd (upd H5 T (.tup [.int u, .int v])) fl (.lst (ts ++ [.ref T]))) [] os (es ++ [(u, v)]) kvs ∧ (∀ e ∈ es0, e ∈ es ++ [(u, v)]) ∧ (∀ e ∈ es ++ [(u, v)], Inn n e.1 ∧ Inn n e.2 ∧ e.1 ≠ e.2) ∧ (x = "half" → ∀ e ∈ es ++ [(u, v)], sh e.1 ≠ sh e.2) ∧ (es ++ [(u, v)]).length ≤ 24 + (j + 1) := fun hs T nT => by
              have sT := same_new (o := .tup [.int u, .int v]) nT
              refine ⟨sT _ _ hf, by rw [sizeLine_eq]; omega, (M6.same sT).addF (sT _ _ hf) (AA.keep (.of sT)) (.cons ⟨T, rfl, upd_same⟩ .nil), fun e he => List.mem_append_left _ (sub e he), fun e he => ?_, fun z e he => ?_, by rw [List.length_append]; simp only [List.length_cons, List.length_nil]; omega⟩
              · rcases List.mem_append.mp he with h | h
                · exact inn e h
                · rw [List.mem_singleton.mp h]
                  exact ⟨iu, iv, uv⟩
              · rcases List.mem_append.mp he with h | h
                · exact alt z e h
                · rw [List.mem_singleton.mp h]
                  exact hs z
            by_cases xh : x = "half"
            · rw [xh, show (!decide (V.str "half" = V.str "half")) = false by rw [decide_eq_true rfl]; rfl]
              refine iteF ⟨_, rfl, _, rfl, dd, _, rfl, gu, _, rfl, _, rfl, dd, _, rfl, gv, rfl, _, rfl, ?_⟩
              by_cases suv : sh u = sh v
              · rw [suv, show (!decide (V.int (sh v) = V.int (sh v))) = false by rw [decide_eq_true rfl]; rfl]
                rw [xh] at alt
                exact iteF ⟨es, _, _, _, rfl, M6, sub, inn, alt, by omega⟩
              · rw [show (!decide (V.int (sh u) = V.int (sh v))) = true by rw [decide_eq_false fun z => suv (V.int.inj z)]; rfl]
                refine iteT ⟨_, rfl, .inl ⟨rfl, _, SqL.of hf⟩, _, rfl, _, rfl, by show 2 ≤ sizeLine; decide, fun T nT => ?_⟩
                obtain ⟨h1, h2, h3⟩ := put (fun _ => suv) T nT
                rw [xh] at h3
                exact ⟨fl, ts, .ref T, rfl, rfl, h1, h2, _, _, _, _, rfl, h3⟩
            · rw [show (!decide (V.str x = V.str "half")) = true by rw [no_str xh]; rfl]
              refine iteT (iteT ⟨_, rfl, .inl ⟨rfl, _, SqL.of hf⟩, _, rfl, _, rfl, by show 2 ≤ sizeLine; decide, fun T nT => ?_⟩)
              obtain ⟨h1, h2, h3⟩ := put (fun z => (xh z).elim) T nT
              exact ⟨fl, ts, .ref T, rfl, rfl, h1, h2, _, _, _, _, rfl, h3⟩
        · rintro σ Hb ⟨es, s6, s7, s8, rfl, M4, sub, inn, alt, few⟩
          exact nx _ _ ⟨l, fl, dd, hl, os, es, es0, kvs, sh, s3, s6, s7, s8, rfl, M4, N, sub, inn, alt, by omega⟩
    refine ⟨_, rfl, rfl, _, rfl, ?_⟩
    rw [no_str x1]
    refine iteF ⟨_, rfl, rfl, _, rfl, ?_⟩
    rw [show decide (V.int n = V.int 1) = false from decide_eq_false fun z => by have := V.int.inj z; omega]
    refine iteF ⟨_, rfl, _, rfl, rfl, _, rfl, ?_⟩
    rw [no_str x2]
    refine iteF ⟨_, rfl, n, rfl, RgOk.of_le (by decide) (by omega) (by decide) (by omega), fun q0 nq => ?_⟩
    have sq := same_new (o := .lst (rgV 0 n)) nq
    refine ⟨p, d, q0, _, rfl, D.same sq, upd_same, by rw [rgV_length]; omega, fun so ms H1 D1 k1 nr h1 pm => ?_⟩
    have kA := (KpW.of sq).trans k1
    refine ⟨_, rfl, rfl, _, rfl, ?_⟩
    rw [no_str x2]
    refine iteF ⟨_, rfl, rfl, _, rfl, ?_⟩
    rw [no_str x3]
    refine iteF ⟨_, rfl, _, rfl, _, rfl, rfl, ?_⟩
    refine ⟨p, d, n, (x == "half"), by rw [← ex]; rfl, D1, n2, n12, fun t l fl dd hl os es kvs sh H2 M N ht => ?_⟩
    have M1 := M.base D kA
    refine ⟨t, _, rfl, SqT.of ht, rfl, _, _, rfl, _, _, rfl, rfl, ?_⟩
    refine ⟨⟨l, fl, dd, hl, os, es, es, kvs, sh, _, _, _, _, rfl, M1, N, fun e he => he, fun e he => ?_, fun z => ?_, ?_⟩, ?_⟩
    · obtain ⟨h1, h2, h3⟩ := N.E.inn e he
      exact ⟨(N.all _).mp (List.mem_append_left _ h1), (N.all _).mp (List.mem_append_left _ h2), h3⟩
    · exact (N.ev (by rw [z]; exact beq_self_eq_true _)).alt
    · have h1 := N.few
      have h2 := N.len
      have h3 : ([] : List Int).length = 0 := rfl
      omega
    clear M1 M N ht k1 kA D1 pm h1 sq
    rintro σ H7 ⟨l, fl, dd, hl, os, es, es0, kvs, sh, s3, s6, s7, s8, rfl, M, N, sub, inn, alt, few⟩
    obtain ⟨ts, hf, AA⟩ := M.fa
    obtain ⟨ks, rfl, k1, k2⟩ := ars_ks (K := K) AA
    have lk : ks.length = es.length := by
      have := congrArg List.length k2
      rwa [List.length_map, List.length_map] at this
    refine ⟨_, rfl, _, rfl, fl, ks, rfl, .inl (SqL.of hf), fun p hp => SqT.of (k1 p hp).2, by omega, fun sa L nsa hs1 hs2 => ?_⟩
    have ss := same_new (o := SetGO P w sa L) nsa
    refine ⟨sa, L, rfl, upd_same, fun p hp => ⟨(k1 p (hs1 p hp)).1, ss _ _ (k1 p (hs1 p hp)).2⟩, fun l' out op srt nd2 nl => ?_⟩
    have sl := ss.trans (same_new (o := .lst (out.map fun p => V.ref p.1)) nl)
    refine ⟨l', _, rfl, .inl ⟨SqL.of upd_same, fun T1 nT1 => ⟨by show 2 ≤ sizeLine; decide, fun T2 nT2 => ?_⟩⟩⟩
    have s1 := sl.trans (same_new (o := .tup (out.map fun p => V.ref p.1)) nT1)
    have s2 := same_new (o := .tup [.int n, .ref T1]) nT2
    have sT := s1.trans s2
    obtain ⟨o1, o2, o3⟩ := pairs_out (H := _) (out := out) (fun p hp => ⟨(k1 p (hs1 p (op.mem_iff.mp hp))).1, sT _ _ (k1 p (hs1 p (op.mem_iff.mp hp))).2⟩) srt nd2
    have sub2 : ∀ e ∈ out.map (fun p => two2 p.2), e ∈ es := fun e he => by
      have h1 := (o3 e).mp he
      obtain ⟨z, hz, ez⟩ := List.mem_map.mp h1
      refine pair_mem.mp ?_
      rw [← k2, ← ez]
      exact List.mem_map.mpr ⟨z, hs1 z (op.mem_iff.mp hz), rfl⟩
    have sup : ∀ e ∈ es, e ∈ out.map (fun p => two2 p.2) := fun e he => by
      refine (o3 e).mpr ?_
      have h1 : [e.1, e.2] ∈ ks.map (·.2) := by
        rw [k2]
        exact pair_mem.mpr he
      obtain ⟨z, hz, ez⟩ := List.mem_map.mp h1
      obtain ⟨y, hy, ey⟩ := List.mem_map.mp (hs2 z hz)
      exact List.mem_map.mpr ⟨y, op.mem_iff.mpr hy, by rw [ey, ez]⟩
    have lo : out.length ≤ 200 := by
      have q := sub_lenA (l := out.map (·.2)) (m := ks.map (·.2)) nd2 fun x hx => by
        obtain ⟨z, hz, rfl⟩ := List.mem_map.mp hx
        exact List.mem_map.mpr ⟨z, hs1 z (op.mem_iff.mp hz), rfl⟩
      rw [List.length_map, List.length_map] at q
      omega
    have all : ∀ w, Inn n w → w ∈ os := fun w hw => (List.mem_append.mp ((N.all w).mpr hw)).resolve_right fun z => nomatch z
    have M7 := M.same sT
    have inn2 : ∀ e ∈ out.map (fun p => two2 p.2), Inn n e.1 ∧ Inn n e.2 := fun e he => ⟨(inn e (sub2 e he)).1, (inn e (sub2 e he)).2.1⟩
    have shs : ∀ v, Inn n v → (fun v : Int => if sh v = 1 then (1 : Int) else 0) v = sh v := fun v hv => by
      show (if sh v = 1 then (1 : Int) else 0) = sh v
      rcases N.S.two v (all v hv) with z | z
      · rw [z]
        rfl
      · rw [z]
        rfl
    refine q T2 T1 _ _ (fun v => if sh v = 1 then (1 : Int) else 0) _ M7.D M7.K ⟨upd_same, .inl (s2 _ _ upd_same), arrs_of o1 inn2, by rw [List.length_map]; exact lo, by omega, n12⟩ o1 o2 (N.E.joined all (by omega) (fun e he => sup e (sub e he)) inn2) (fun z => ⟨fun v => ?_, fun e he => ?_⟩) fun e he => (inn e (sub2 e he)).2.2
    · show (if sh v = 1 then (1 : Int) else 0) = 0 ∨ (if sh v = 1 then (1 : Int) else 0) = 1
      by_cases c : sh v = 1
      · rw [if_pos c]
        exact .inr rfl
      · rw [if_neg c]
        exact .inl rfl
    · have h1 := shs _ (inn2 e he).1
      have h2 := shs _ (inn2 e he).2
      intro c
      exact alt z e (sub2 e he) (h1.symm.trans (c.trans h2))
end
end Sw
namespace Sw
open PySem L2
/-! ### few arrows; all between two colours -/
theorem rea_of {n : Int} {ars : List (Int × Int)} (J : Joined n ars) (inn : ∀ e ∈ ars, Inn n e.1 ∧ Inn n e.2) {u v : Int} (hu : Inn n u) (hv : Inn n v) : Rea ars u v := by
  have nx : ∀ b c, c ∈ nextOf ars b ↔ (b, c) ∈ ars := fun b c => next_mem.trans ⟨fun h => h.2, fun h => ⟨(inn _ h).1.1, h⟩⟩
  obtain ⟨k, a⟩ := (J u hu).2
  obtain ⟨j, b⟩ := (J v hv).1
  exact Rea.trans ⟨k, (rch_path nx).mpr a⟩ ⟨j, (rch_path nx).mpr b⟩
theorem out_some {n : Int} {ars : List (Int × Int)} (J : Joined n ars) (inn : ∀ e ∈ ars, Inn n e.1 ∧ Inn n e.2) (n2 : 2 ≤ n) {u : Int} (hu : Inn n u) : ∃ w, (u, w) ∈ ars := by
  obtain ⟨v, hv, ne⟩ : ∃ v, Inn n v ∧ v ≠ u := by
    by_cases z : u = 0
    · exact ⟨1, ⟨by decide, by omega⟩, by omega⟩
    · exact ⟨0, ⟨by decide, by omega⟩, fun c => z c.symm⟩
  obtain ⟨k, h⟩ := rea_of J inn hu hv
  cases h with
  | nil => exact absurd rfl ne
  | cons m _ => exact ⟨_, m⟩
theorem range_nd (n : Nat) : ((List.range n).map fun k : Nat => (k : Int)).Nodup := rgn_nd n
/-- as many arrows as stops: one from each -/
theorem out_one {n : Int} {ars : List (Int × Int)} (J : Joined n ars) (inn : ∀ e ∈ ars, Inn n e.1 ∧ Inn n e.2) (n2 : 2 ≤ n) (few : (ars.length : Int) ≤ n) {u v w : Int} (h1 : (u, v) ∈ ars) (h2 : (u, w) ∈ ars) : v = w := by
  refine Classical.byContradiction fun ne => ?_
  have hl := List.length_erase_of_mem h2
  have cov : ∀ x ∈ (List.range n.toNat).map fun k : Nat => (k : Int), x ∈ (ars.erase (u, w)).map Prod.fst := fun x hx => by
    obtain ⟨k, hk, rfl⟩ := List.mem_map.mp hx
    have hk := List.mem_range.mp hk
    by_cases z : (k : Int) = u
    · rw [z]
      exact List.mem_map.mpr ⟨(u, v), (List.mem_erase_of_ne (fun c => ne (congrArg Prod.snd c))).mpr h1, rfl⟩
    · obtain ⟨y, hy⟩ := out_some J inn n2 (u := (k : Int)) ⟨by omega, by omega⟩
      exact List.mem_map.mpr ⟨((k : Int), y), (List.mem_erase_of_ne (fun c => z (congrArg Prod.fst c))).mpr hy, rfl⟩
  have q := sub_lenA (range_nd n.toNat) cov
  rw [List.length_map, List.length_map, List.length_range, hl] at q
  have := List.length_pos_of_mem h2
  omega
theorem len_ge {n : Int} {ars : List (Int × Int)} (J : Joined n ars) (inn : ∀ e ∈ ars, Inn n e.1 ∧ Inn n e.2) (n2 : 2 ≤ n) : n ≤ (ars.length : Int) := by
  have cov : ∀ x ∈ (List.range n.toNat).map fun k : Nat => (k : Int), x ∈ ars.map Prod.fst := fun x hx => by
    obtain ⟨k, hk, rfl⟩ := List.mem_map.mp hx
    have hk := List.mem_range.mp hk
    obtain ⟨y, hy⟩ := out_some J inn n2 (u := (k : Int)) ⟨by omega, by omega⟩
    exact List.mem_map.mpr ⟨((k : Int), y), hy, rfl⟩
  have q := sub_lenA (range_nd n.toNat) cov
  rw [List.length_map, List.length_map, List.length_range] at q
  omega
/-- in such a net no arrow leads both ways -/
theorem no_back {n : Int} {ars : List (Int × Int)} (J : Joined n ars) (inn : ∀ e ∈ ars, Inn n e.1 ∧ Inn n e.2) (n3 : 3 ≤ n) (few : (ars.length : Int) ≤ n) {u v : Int} (h1 : (u, v) ∈ ars) : (v, u) ∉ ars := fun h2 => by
  have close : ∀ (k : Nat) (a c : Int), Rch ars k a c → (a = u ∨ a = v) → (c = u ∨ c = v) := by
    intro k a c h
    induction h with
    | nil => exact id
    | @cons k a b c m _ ih =>
      intro ha
      refine ih ?_
      rcases ha with rfl | rfl
      · exact .inr (out_one J inn (by omega) few m h1)
      · exact .inl (out_one J inn (by omega) few m h2)
  obtain ⟨x, hx, xu, xv⟩ : ∃ x, Inn n x ∧ x ≠ u ∧ x ≠ v := by
    by_cases a : u ≠ 0 ∧ v ≠ 0
    · exact ⟨0, ⟨by decide, by omega⟩, fun z => a.1 z.symm, fun z => a.2 z.symm⟩
    · by_cases b : u ≠ 1 ∧ v ≠ 1
      · exact ⟨1, ⟨by decide, by omega⟩, fun z => b.1 z.symm, fun z => b.2 z.symm⟩
      · exact ⟨2, ⟨by decide, by omega⟩, by omega, by omega⟩
  obtain ⟨k, r⟩ := rea_of J inn (inn _ h1).1 hx
  rcases close k u x r (.inl rfl) with z | z
  · exact xu z
  · exact xv z
/-- all arrows between two colours -/
def bipE (m : Nat) (sh : Int → Int) : List (Int × Int) := (List.range m).flatMap fun u : Nat => ((List.range m).filter fun v : Nat => decide (sh (u : Int) ≠ sh (v : Int))).map fun v : Nat => ((u : Int), (v : Int))
theorem bip_mem {m : Nat} {sh : Int → Int} {e : Int × Int} : e ∈ bipE m sh ↔ Inn (m : Int) e.1 ∧ Inn (m : Int) e.2 ∧ sh e.1 ≠ sh e.2 := by
  unfold bipE
  rw [List.mem_flatMap]
  constructor
  · rintro ⟨u, hu, h⟩
    obtain ⟨v, hv, rfl⟩ := List.mem_map.mp h
    obtain ⟨hv, c⟩ := List.mem_filter.mp hv
    have hu := List.mem_range.mp hu
    have hv := List.mem_range.mp hv
    exact ⟨⟨by omega, by omega⟩, ⟨by omega, by omega⟩, of_decide_eq_true c⟩
  · rintro ⟨⟨a0, a1⟩, ⟨b0, b1⟩, c⟩
    refine ⟨e.1.toNat, List.mem_range.mpr (by omega), List.mem_map.mpr ⟨e.2.toNat, List.mem_filter.mpr ⟨List.mem_range.mpr (by omega), decide_eq_true ?_⟩, ?_⟩⟩
    · rw [Int.toNat_of_nonneg a0, Int.toNat_of_nonneg b0]
      exact c
    · rw [Int.toNat_of_nonneg a0, Int.toNat_of_nonneg b0]
theorem lex_snd {u a b : Int} (h : a < b) : SrtO.lexB (u, a) (u, b) = true := SrtO.lexB_iff.mpr (.inr ⟨rfl, h⟩)
theorem lex_fst {a b : Int} {x y : Int} (h : a < b) : SrtO.lexB (a, x) (b, y) = true := SrtO.lexB_iff.mpr (.inl h)
theorem bip_asc (m : Nat) (sh : Int → Int) : AscA (bipE m sh) := by
  unfold bipE AscA
  have key : ∀ k, (((List.range k).flatMap fun u : Nat => ((List.range m).filter fun v : Nat => decide (sh (u : Int) ≠ sh (v : Int))).map fun v : Nat => ((u : Int), (v : Int)))).Pairwise fun p q => SrtO.lexB p q = true := by
    intro k
    induction k with
    | zero => exact List.Pairwise.nil
    | succ k ih =>
      rw [List.range_succ, List.flatMap_append, List.flatMap_cons, List.flatMap_nil, List.append_nil]
      refine List.pairwise_append.mpr ⟨ih, ?_, fun p hp q hq => ?_⟩
      · refine List.pairwise_map.mpr ((List.pairwise_lt_range.filter _).imp fun h => ?_)
        exact lex_snd (by omega)
      · obtain ⟨u, hu, h⟩ := List.mem_flatMap.mp hp
        obtain ⟨v, _, rfl⟩ := List.mem_map.mp h
        obtain ⟨w, _, rfl⟩ := List.mem_map.mp hq
        have := List.mem_range.mp hu
        exact lex_fst (by omega)
  exact key m
theorem bip_joined {m : Nat} {sh : Int → Int} (m2 : 2 ≤ m) (two : ∀ v, sh v = 0 ∨ sh v = 1) (s0 : sh 0 = 0) (s1 : sh 1 = 1) : Joined (m : Int) (bipE m sh) := fun v hv => by
  have inn : ∀ e ∈ bipE m sh, Inn (m : Int) e.1 ∧ Inn (m : Int) e.2 := fun e he => ⟨(bip_mem.mp he).1, (bip_mem.mp he).2.1⟩
  have nx : ∀ b c, c ∈ nextOf (bipE m sh) b ↔ (b, c) ∈ bipE m sh := fun b c => next_mem.trans ⟨fun h => h.2, fun h => ⟨(inn _ h).1.1, h⟩⟩
  have i0 : Inn (m : Int) 0 := ⟨by decide, by omega⟩
  have i1 : Inn (m : Int) 1 := ⟨by decide, by omega⟩
  have ar : ∀ {a b : Int}, Inn (m : Int) a → Inn (m : Int) b → sh a ≠ sh b → Rea (bipE m sh) a b := fun ha hb c => .one (bip_mem.mpr ⟨ha, hb, c⟩)
  have both : Rea (bipE m sh) 0 v ∧ Rea (bipE m sh) v 0 := by
    rcases two v with z | z
    · exact ⟨(ar i0 i1 (by omega)).trans (ar i1 hv (by omega)), (ar hv i1 (by omega)).trans (ar i1 i0 (by omega))⟩
    · exact ⟨ar i0 hv (by omega), ar hv i0 (by omega)⟩
  obtain ⟨⟨k, a⟩, j, b⟩ := both
  exact ⟨⟨k, (rch_path nx).mp a⟩, j, (rch_path nx).mp b⟩
theorem bip_many {m : Nat} {sh : Int → Int} (m3 : 3 ≤ m) (two : ∀ v, sh v = 0 ∨ sh v = 1) (s0 : sh 0 = 0) (s1 : sh 1 = 1) : ((bipE m sh).length : Int) ≠ (m : Int) := fun e => by
  have J := bip_joined (by omega) two s0 s1 (m := m)
  have inn : ∀ e ∈ bipE m sh, Inn (m : Int) e.1 ∧ Inn (m : Int) e.2 := fun e he => ⟨(bip_mem.mp he).1, (bip_mem.mp he).2.1⟩
  have i0 : Inn (m : Int) 0 := ⟨by decide, by omega⟩
  have i1 : Inn (m : Int) 1 := ⟨by decide, by omega⟩
  have i2 : Inn (m : Int) 2 := ⟨by decide, by omega⟩
  rcases two 2 with z | z
  · have := out_one J inn (by omega) (by omega) (u := 1) (v := 0) (w := 2) (bip_mem.mpr ⟨i1, i0, by show sh 1 ≠ sh 0; omega⟩) (bip_mem.mpr ⟨i1, i2, by show sh 1 ≠ sh 2; omega⟩)
    omega
  · have := out_one J inn (by omega) (by omega) (u := 0) (v := 1) (w := 2) (bip_mem.mpr ⟨i0, i1, by show sh 0 ≠ sh 1; omega⟩) (bip_mem.mpr ⟨i0, i2, by show sh 0 ≠ sh 2; omega⟩)
    omega
end Sw
namespace Sw
open PySem PySem.Spec PyProof.Rows L2 LamX
/-! ### broad webs: halves that are no rings -/
section
variable {P : Program} {w : World} {K : PySem.W.Frag} {mg : Str → Option Value} {base : Heap}
abbrev sBroad : Stmt := top 63
abbrev nBroad : List Str := ["loom", "size", "web", "begin", "end", "shade", "found", "turn"]
theorem scBroad : FnScope nBroad ["loom", "size"] (defScope sBroad) := ⟨rfl, rfl, rfl, by decide +kernel, rfl, by decide +kernel, by decide +kernel⟩
def spBroad : Sp := fun vs H Q _ => ∃ (p d : Addr) (n : Int), vs = [.ref p, .int n] ∧ Loom H p d ∧ 2 ≤ n ∧ n ≤ 12 ∧
  ∀ (a b : Addr) (ts : List V) (ars : List (Int × Int)) (sh : Int → Int) (H' : Hp), Loom H' p d → KpW p d H H' → HalfW n H' a b ts ars sh → Q (.ref a) H'
theorem ok_broad {f : Addr} {fd : FuncData} (F : Fun K "_law_broad" "_law_broad" sBroad f fd) (B : NoNames mg) (OD : Own P w K mg base 1 "_law_draw" ["loom", "many"] spDrawW) (OP : Own P w K mg base 2 "_law_pick" ["loom", "things"] spPickW)
    (OW : Own P w K mg base 4 "_law_web" ["loom", "way", "size"] spWebE) : FnOk P w K mg base CX0 5 f fd ["loom", "size"] spBroad := by
  obtain ⟨fD, fdD, GD, mD, kD, bD⟩ := OD.ex
  obtain ⟨fP, fdP, GP, mP, kP, bP⟩ := OP.ex
  obtain ⟨fW, fdW, GW, mW, kW, bW⟩ := OW.ex
  refine F.ok scBroad (fun vs H Q E h => ?_) (fun cdv A outer s H vs Q E hr h => ?_)
  · obtain ⟨p, d, n, rfl, _⟩ := h
    rfl
  · obtain ⟨p, d, n, rfl, D, n2, n12, q⟩ := h
    have hr1 := hr.mono (by decide : 1 ≤ 4)
    have hr2 := hr.mono (by decide : 2 ≤ 4)
    have hu := hu_ofW hr
    refine ⟨_, pss_cons (ps_if (PW.pt (pw_or (pt_cmpR (r := rI0 fun i j => .bl (decide (j < i))) op_gt (pe_call GD hr1 rfl mD kD bD .nil pass0 (pa_cons (pv 0) (pa_cons pe_int pa_nil))) pe_int (nomark _)) (pw_or1 (pt_cmpR op_lt (pv 1) pe_int (nomark _)))))
        (pss_cons (ps_set (i := 2) scBroad.nd rfl (.inl rfl) (pe_call GW hr rfl mW kW bW .nil pass0 (pa_cons (pv 0) (pa_cons pe_str (pa_cons (pv 1) pa_nil))))) <|
         pss_cons (ps_if (PW.pt (pw_or (pt_cmpR op_eq (pv 1) pe_int (nomark _)) (pw_or1 (pt_cmpR (r := rI0 fun i j => .bl (decide (j < i))) op_gt (pe_callB call_len_seq (by rfl) B.len PySem.boot_len (pa_cons (pe_ix (r := rIxT K) ix_tup (pv 2) pe_int (fun _ _ => rfl)) pa_nil)) (pv 1) (nomark _))))) (pss_one (ps_ret (pv 2))) pss_nil) <|
         pss_cons (ps_asg (pe_call GP hr2 rfl mP kP bP .nil pass0 (pa_cons (pv 0) (pa_cons (pe_callTy call_list_of (by rfl) B.list (by decide +kernel) (pa_cons (pe_ix (r := rIxT K) ix_tup (pv 2) pe_int (fun _ _ => rfl)) pa_nil)) pa_nil))) (pg_tup (by rfl) (pgs_cons (pg_name (i := 3) scBroad.nd rfl (.inr rfl)) (pgs_cons (pg_name (i := 4) scBroad.nd rfl (.inl rfl)) pgs_nil)))) <|
         pss_one (ps_ret (pe_tup (pa_cons (pv 1) (pa_cons (pe_callTy call_tuple_of (by rfl) B.tuple (by decide +kernel) (pa_cons (pe_callB cr_sortedPO (by rfl) B.sorted (by decide +kernel) (pa_cons (pe_op op_cat (pe_callTy call_list_of (by rfl) B.list (by decide +kernel) (pa_cons (pe_ix (r := rIxT K) ix_tup (pv 2) pe_int (fun _ _ => rfl)) pa_nil))
           (pe_lst (pa_cons (pe_tup (pa_cons (pv 4) (pa_cons (pv 3) pa_nil))) pa_nil))) pa_nil)) pa_nil)) pa_nil))))) pss_nil) <|
      pss_cons (ps_set (i := 5) scBroad.nd rfl (.inr rfl) (pe_op op_cat (pe_lst (pa_cons pe_int (pa_cons pe_int pa_nil))) (pe_lc (own := [("turn", 7)]) (g := gName 7) (tt := tYes) rfl scBroad.nd (pi_range1 (by rfl) B.range (pa_cons (pe_op (r := rI0 fun i j => .int (i - j)) op_sub (pv 1) pe_int) pa_nil)) (blkOk_by (own := [("turn", 7)]) (N := nBroad) (sc := defScope sBroad) (by decide +kernel))
          (fun _ _ _ _ _ => pg_name (i := 7) scBroad.nd rfl (Or.inl rfl)) (fun _ _ _ _ _ => pts_nil) (fun _ _ _ _ _ => pe_call GD hr1 rfl mD kD bD .nil pass0 (pa_cons (pv 0) (pa_cons pe_int pa_nil)))))) <|
      pss_cons (ps_set (i := 6) scBroad.nd rfl (.inl rfl) (pe_lst pa_nil)) <|
      pss_cons (ps_for PassesOwn.never rfl (pi_range1 (by rfl) B.range (pa_cons (pv 1) pa_nil)) (pg_name (i := 3) scBroad.nd rfl (.inr rfl))
        (pss_one (ps_expr (pe_bm PySem.F.plainAttrs_list PySem.F.slot_list_extend PySem.F.type_list_extend mt_extend (pv 6) (pa_cons
          (pe_lc (own := [("end", 4)]) (g := gName 4) (te := tTup (tCons (tVar 3) (tCons (tVar 4) tNil))) rfl scBroad.nd (pi_range1 (by rfl) B.range (pa_cons (pv 1) pa_nil)) (blkOk_by (own := [("end", 4)]) (N := nBroad) (sc := defScope sBroad) (by decide +kernel))
            (fun _ _ _ _ _ => pg_name (i := 4) scBroad.nd rfl (Or.inl rfl)) (fun _ _ _ _ _ => pts_one (pt_cmpR op_ne (pe_ix (r := rIxL K) ix_list (pv 5) (pv 3) (fun _ _ => rfl)) (pe_ix (r := rIxL K) ix_list (pv 5) (pv 4) (fun _ _ => rfl)) (nomark _))) (fun _ _ _ _ _ => pe_tup (pa_cons (pv 3) (pa_cons (pv 4) pa_nil)))) pa_nil))))) <|
      pss_one (ps_ret (pe_tup (pa_cons (pv 1) (pa_cons (pe_callTy call_tuple_of (by rfl) B.tuple (by decide +kernel) (pa_cons (pv 6) pa_nil)) pa_nil)))), ?_⟩
    refine ⟨_, rfl, p, d, 3, rfl, D, by decide, fun r H1 r0 r1 D1 k1 => ⟨_, _, rfl, rfl, _, rfl, ?_⟩⟩
    by_cases z0 : 0 < r
    · rw [decide_eq_true z0]
      refine iteT (iteT ?_)
      refine ⟨_, rfl, _, rfl, p, d, n, "half", rfl, D1, n2, n12, by decide +kernel, by decide +kernel, by decide +kernel, fun a b ts ars sh H2 D2 k2 N A as J C ne => ?_⟩
      have C := C rfl
      have kA := k1.trans k2
      have inn := ars_inn N.arr A
      refine ⟨_, rfl, rfl, _, rfl, ?_⟩
      by_cases z2 : n = 2
      · rw [z2] at N J inn q ⊢
        rw [decide_eq_true rfl]
        exact iteT (iteT ⟨_, rfl, q a b ts ars sh H2 D2 kA ⟨N, A, J, C, by decide, fun z => absurd z.1 (by decide)⟩⟩)
      rw [decide_eq_false fun z => z2 (V.int.inj z)]
      have lts : ts.length = ars.length := A.len
      refine iteF ⟨_, rfl, a, _, 1, .ref b, rfl, rfl, SqT.of N.a, at_of (j := 1) rfl rfl, b, _, rfl, .inr N.sq, _, rfl, _, _, rfl, rfl, _, rfl, ite2 (fun y => ?_) (fun y => ?_)⟩
      · have y : n < (ts.length : Int) := of_decide_eq_true y
        exact ⟨_, rfl, q a b ts ars sh H2 D2 kA ⟨N, A, J, C, n2, fun z => by have := z.2; omega⟩⟩
      have y : ¬ n < (ts.length : Int) := fun z => y (decide_eq_true z)
      have few : (ars.length : Int) ≤ n := by omega
      have ge := len_ge J inn n2
      refine ⟨_, rfl, _, rfl, a, _, 1, .ref b, rfl, rfl, SqT.of N.a, at_of (j := 1) rfl rfl, b, _, rfl, .inr N.sq, fun l nl => ?_⟩
      have sl := same_new (o := .lst ts) nl
      have ol := D2.off nl
      refine ⟨p, d, l, ts, rfl, D2.same sl, upd_same, ol.1, ol.2, (fun z => by rw [z] at lts; have : ([] : List V).length = 0 := rfl; omega), by omega, fun x H3 mx D3 k3 => ?_⟩
      have k3' := (KpW.of sl).trans k3
      have t3 := TupS.kpw D2 k3'
      have N3 := N.keep t3
      have A3 := A.keep t3
      have kB := kA.trans k3'
      obtain ⟨jx, hjx⟩ := List.getElem?_of_mem mx
      obtain ⟨e, t, he, rfl, ht⟩ := A3.at hjx
      have me : (e.1, e.2) ∈ ars := List.mem_of_getElem? he
      clear mx
      refine ⟨t, _, rfl, SqT.of ht, rfl, _, _, rfl, _, _, rfl, rfl, ?_⟩
      refine ⟨_, rfl, _, rfl, a, _, 1, .ref b, rfl, rfl, SqT.of N3.a, at_of (j := 1) rfl rfl, b, _, rfl, .inr N3.sq, fun l2 nl2 => ?_⟩
      have s2 := same_new (o := .lst ts) nl2
      refine ⟨_, rfl, _, rfl, by show 2 ≤ sizeLine; decide, fun T nT => ⟨by show 1 ≤ sizeLine; decide, fun L1 nL1 => ?_⟩⟩
      have sT := same_new (o := .tup [.int e.2, .int e.1]) nT
      have sL := same_new (o := .lst [.ref T]) nL1
      have h2' := sL _ _ (sT _ _ (upd_same (H := H3) (a := l2) (o := .lst ts)))
      have hT := sL _ _ (upd_same (H := upd H3 l2 (.lst ts)) (a := T) (o := .tup [.int e.2, .int e.1]))
      have hL := upd_same (H := upd (upd H3 l2 (.lst ts)) T (.tup [.int e.2, .int e.1])) (a := L1) (o := .lst [V.ref T])
      have s5 := s2.trans (sT.trans sL)
      generalize (upd (upd (upd H3 l2 (.lst ts)) T (.tup [.int e.2, .int e.1])) L1 (.lst [.ref T])) = H4 at h2' hT hL s5 ⊢
      refine ⟨l2, L1, _, _, rfl, rfl, h2', hL, by rw [sizeLine_eq]; show _ + 1 ≤ _; omega, fun G nG => ?_⟩
      have sG := same_new (o := .lst (ts ++ [.ref T])) nG
      have hG := upd_same (H := H4) (a := G) (o := .lst (ts ++ [.ref T]))
      have s6 := s5.trans sG
      have A4 : ArsAt (upd H4 G (.lst (ts ++ [.ref T]))) (ts ++ [.ref T]) (ars ++ [(e.2, e.1)]) := ars_app (A3.keep (.of s6)) (.cons ⟨T, rfl, sG _ _ hT⟩ .nil)
      generalize (upd H4 G (.lst (ts ++ [.ref T]))) = H5 at hG s6 A4 ⊢
      refine ⟨G, _, kAt H5, rfl, SqL.of hG, ars_each A4, fun ys y' sy st ny => ?_⟩
      have pmy := st.perm
      have ea := ars_each A4
      have AY := ars_back (ys := ys) fun x hx => ea x (pmy.mem_iff.mp hx)
      have pk : (ys.map (kAt H5)).Perm (ars ++ [(e.2, e.1)]) := by
        rw [← ars_kAt A4]
        exact pmy.map _
      have sk : SrtA (ys.map (kAt H5)) := List.pairwise_map.mpr sy
      refine ⟨y', _, rfl, .inl ⟨SqL.of upd_same, fun T1 nT1 => ⟨by show 2 ≤ sizeLine; decide, fun T2 nT2 => ?_⟩⟩⟩
      have s7 := same_new (o := .lst ys) ny
      have s8 := same_new (o := .tup ys) nT1
      have s9 := same_new (o := .tup [.int n, .ref T1]) nT2
      have sN := s7.trans (s8.trans s9)
      have sZ := s6.trans sN
      have inn2 : ∀ g ∈ ys.map (kAt H5), Inn n g.1 ∧ Inn n g.2 := fun g hg => by
        rcases List.mem_append.mp (pk.mem_iff.mp hg) with h | h
        · exact inn g h
        · rw [List.mem_singleton.mp h]
          exact ⟨(inn _ me).2, (inn _ me).1⟩
      have n3 : 3 ≤ n := by omega
      have ndp : (ys.map (kAt H5)).Nodup := pk.nodup_iff.mpr (List.nodup_append.mpr ⟨as.nodup, by simp, fun u hu v hv c => by
        rw [List.mem_singleton.mp hv] at c
        rw [c] at hu
        exact no_back J inn n3 few me hu⟩)
      have ly : ys.length = ars.length + 1 := by
        have := pk.length_eq
        rwa [List.length_map, List.length_append] at this
      refine q T2 T1 ys (ys.map (kAt H5)) sh _ (D3.same sZ) (kB.trans (.of sZ)) ⟨⟨upd_same, .inl (s9 _ _ upd_same), arrs_of (AY.keep (.of sN)) inn2, by omega, N.n1, n12⟩, AY.keep (.of sN), fun v hv => ?_, ⟨C.two, fun g hg => ?_⟩, n2, fun z => by have := z.2; rw [List.length_map] at this; omega⟩
      · have := J v hv
        have nx1 : ∀ b c, c ∈ nextOf ars b ↔ (b, c) ∈ ars := fun b c => next_mem.trans ⟨fun h => h.2, fun h => ⟨(inn _ h).1.1, h⟩⟩
        have nx2 : ∀ b c, c ∈ nextOf (ys.map (kAt H5)) b ↔ (b, c) ∈ ys.map (kAt H5) := fun b c => next_mem.trans ⟨fun h => h.2, fun h => ⟨(inn2 _ h).1.1, h⟩⟩
        obtain ⟨⟨k, a'⟩, j, b'⟩ := this
        have up : ∀ g ∈ ars, g ∈ ys.map (kAt H5) := fun g hg => pk.mem_iff.mpr (List.mem_append_left _ hg)
        exact ⟨⟨k, (rch_path nx2).mp (((rch_path nx1).mpr a').mono up)⟩, j, (rch_path nx2).mp (((rch_path nx1).mpr b').mono up)⟩
      · rcases List.mem_append.mp (pk.mem_iff.mp hg) with h | h
        · exact C.alt g h
        · rw [List.mem_singleton.mp h]
          exact (C.alt _ me).symm
    rw [decide_eq_false z0]
    refine iteF ⟨_, rfl, _, _, rfl, rfl, _, rfl, ite2 (fun z1 => ?_) (fun z1 => ?_)⟩
    · clear z1
      refine ⟨_, rfl, _, rfl, p, d, n, "half", rfl, D1, n2, n12, by decide +kernel, by decide +kernel, by decide +kernel, fun a b ts ars sh H2 D2 k2 N A as J C ne => ?_⟩
      have C := C rfl
      have kA := k1.trans k2
      have inn := ars_inn N.arr A
      refine ⟨_, rfl, rfl, _, rfl, ?_⟩
      by_cases z2 : n = 2
      · rw [z2] at N J inn q ⊢
        rw [decide_eq_true rfl]
        exact iteT (iteT ⟨_, rfl, q a b ts ars sh H2 D2 kA ⟨N, A, J, C, by decide, fun z => absurd z.1 (by decide)⟩⟩)
      rw [decide_eq_false fun z => z2 (V.int.inj z)]
      have lts : ts.length = ars.length := A.len
      refine iteF ⟨_, rfl, a, _, 1, .ref b, rfl, rfl, SqT.of N.a, at_of (j := 1) rfl rfl, b, _, rfl, .inr N.sq, _, rfl, _, _, rfl, rfl, _, rfl, ite2 (fun y => ?_) (fun y => ?_)⟩
      · have y : n < (ts.length : Int) := of_decide_eq_true y
        exact ⟨_, rfl, q a b ts ars sh H2 D2 kA ⟨N, A, J, C, n2, fun z => by have := z.2; omega⟩⟩
      have y : ¬ n < (ts.length : Int) := fun z => y (decide_eq_true z)
      have few : (ars.length : Int) ≤ n := by omega
      have ge := len_ge J inn n2
      refine ⟨_, rfl, _, rfl, a, _, 1, .ref b, rfl, rfl, SqT.of N.a, at_of (j := 1) rfl rfl, b, _, rfl, .inr N.sq, fun l nl => ?_⟩
      have sl := same_new (o := .lst ts) nl
      have ol := D2.off nl
      refine ⟨p, d, l, ts, rfl, D2.same sl, upd_same, ol.1, ol.2, (fun z => by rw [z] at lts; have : ([] : List V).length = 0 := rfl; omega), by omega, fun x H3 mx D3 k3 => ?_⟩
      have k3' := (KpW.of sl).trans k3
      have t3 := TupS.kpw D2 k3'
      have N3 := N.keep t3
      have A3 := A.keep t3
      have kB := kA.trans k3'
      obtain ⟨jx, hjx⟩ := List.getElem?_of_mem mx
      obtain ⟨e, t, he, rfl, ht⟩ := A3.at hjx
      have me : (e.1, e.2) ∈ ars := List.mem_of_getElem? he
      clear mx
      refine ⟨t, _, rfl, SqT.of ht, rfl, _, _, rfl, _, _, rfl, rfl, ?_⟩
      refine ⟨_, rfl, _, rfl, a, _, 1, .ref b, rfl, rfl, SqT.of N3.a, at_of (j := 1) rfl rfl, b, _, rfl, .inr N3.sq, fun l2 nl2 => ?_⟩
      have s2 := same_new (o := .lst ts) nl2
      refine ⟨_, rfl, _, rfl, by show 2 ≤ sizeLine; decide, fun T nT => ⟨by show 1 ≤ sizeLine; decide, fun L1 nL1 => ?_⟩⟩
      have sT := same_new (o := .tup [.int e.2, .int e.1]) nT
      have sL := same_new (o := .lst [.ref T]) nL1
      have h2' := sL _ _ (sT _ _ (upd_same (H := H3) (a := l2) (o := .lst ts)))
      have hT := sL _ _ (upd_same (H := upd H3 l2 (.lst ts)) (a := T) (o := .tup [.int e.2, .int e.1]))
      have hL := upd_same (H := upd (upd H3 l2 (.lst ts)) T (.tup [.int e.2, .int e.1])) (a := L1) (o := .lst [V.ref T])
      have s5 := s2.trans (sT.trans sL)
      generalize (upd (upd (upd H3 l2 (.lst ts)) T (.tup [.int e.2, .int e.1])) L1 (.lst [.ref T])) = H4 at h2' hT hL s5 ⊢
      refine ⟨l2, L1, _, _, rfl, rfl, h2', hL, by rw [sizeLine_eq]; show _ + 1 ≤ _; omega, fun G nG => ?_⟩
      have sG := same_new (o := .lst (ts ++ [.ref T])) nG
      have hG := upd_same (H := H4) (a := G) (o := .lst (ts ++ [.ref T]))
      have s6 := s5.trans sG
      have A4 : ArsAt (upd H4 G (.lst (ts ++ [.ref T]))) (ts ++ [.ref T]) (ars ++ [(e.2, e.1)]) := ars_app (A3.keep (.of s6)) (.cons ⟨T, rfl, sG _ _ hT⟩ .nil)
      generalize (upd H4 G (.lst (ts ++ [.ref T]))) = H5 at hG s6 A4 ⊢
      refine ⟨G, _, kAt H5, rfl, SqL.of hG, ars_each A4, fun ys y' sy st ny => ?_⟩
      have pmy := st.perm
      have ea := ars_each A4
      have AY := ars_back (ys := ys) fun x hx => ea x (pmy.mem_iff.mp hx)
      have pk : (ys.map (kAt H5)).Perm (ars ++ [(e.2, e.1)]) := by
        rw [← ars_kAt A4]
        exact pmy.map _
      have sk : SrtA (ys.map (kAt H5)) := List.pairwise_map.mpr sy
      refine ⟨y', _, rfl, .inl ⟨SqL.of upd_same, fun T1 nT1 => ⟨by show 2 ≤ sizeLine; decide, fun T2 nT2 => ?_⟩⟩⟩
      have s7 := same_new (o := .lst ys) ny
      have s8 := same_new (o := .tup ys) nT1
      have s9 := same_new (o := .tup [.int n, .ref T1]) nT2
      have sN := s7.trans (s8.trans s9)
      have sZ := s6.trans sN
      have inn2 : ∀ g ∈ ys.map (kAt H5), Inn n g.1 ∧ Inn n g.2 := fun g hg => by
        rcases List.mem_append.mp (pk.mem_iff.mp hg) with h | h
        · exact inn g h
        · rw [List.mem_singleton.mp h]
          exact ⟨(inn _ me).2, (inn _ me).1⟩
      have n3 : 3 ≤ n := by omega
      have ndp : (ys.map (kAt H5)).Nodup := pk.nodup_iff.mpr (List.nodup_append.mpr ⟨as.nodup, by simp, fun u hu v hv c => by
        rw [List.mem_singleton.mp hv] at c
        rw [c] at hu
        exact no_back J inn n3 few me hu⟩)
      have ly : ys.length = ars.length + 1 := by
        have := pk.length_eq
        rwa [List.length_map, List.length_append] at this
      refine q T2 T1 ys (ys.map (kAt H5)) sh _ (D3.same sZ) (kB.trans (.of sZ)) ⟨⟨upd_same, .inl (s9 _ _ upd_same), arrs_of (AY.keep (.of sN)) inn2, by omega, N.n1, n12⟩, AY.keep (.of sN), fun v hv => ?_, ⟨C.two, fun g hg => ?_⟩, n2, fun z => by have := z.2; rw [List.length_map] at this; omega⟩
      · have := J v hv
        have nx1 : ∀ b c, c ∈ nextOf ars b ↔ (b, c) ∈ ars := fun b c => next_mem.trans ⟨fun h => h.2, fun h => ⟨(inn _ h).1.1, h⟩⟩
        have nx2 : ∀ b c, c ∈ nextOf (ys.map (kAt H5)) b ↔ (b, c) ∈ ys.map (kAt H5) := fun b c => next_mem.trans ⟨fun h => h.2, fun h => ⟨(inn2 _ h).1.1, h⟩⟩
        obtain ⟨⟨k, a'⟩, j, b'⟩ := this
        have up : ∀ g ∈ ars, g ∈ ys.map (kAt H5) := fun g hg => pk.mem_iff.mpr (List.mem_append_left _ hg)
        exact ⟨⟨k, (rch_path nx2).mp (((rch_path nx1).mpr a').mono up)⟩, j, (rch_path nx2).mp (((rch_path nx1).mpr b').mono up)⟩
      · rcases List.mem_append.mp (pk.mem_iff.mp hg) with h | h
        · exact C.alt g h
        · rw [List.mem_singleton.mp h]
          exact (C.alt _ me).symm
    have n3 : 3 ≤ n := by
      have : ¬ n < 3 := fun c => z1 (decide_eq_true c)
      omega
    clear z1
    obtain ⟨m, rfl⟩ := Int.eq_ofNat_of_zero_le (show 0 ≤ n by omega)
    refine ⟨by show 2 ≤ sizeLine; decide, fun A nA => ?_⟩
    have sA := same_new (o := .lst [.int 0, .int 1]) nA
    have hA := upd_same (H := H1) (a := A) (o := .lst [V.int 0, .int 1])
    have D2 := D1.same sA
    have k2 := k1.trans (.of sA)
    have nA0 := kpw_free D1 k1 nA
    generalize (upd H1 A (.lst [.int 0, .int 1])) = H2 at D2 k2 hA sA ⊢
    refine ⟨_, rfl, _, _, rfl, rfl, (m : Int) - 2, rfl, by omega, by omega, fun L nL => ?_⟩
    have nL0 := kpw_free D2 k2 nL
    have oA := D.off nA0
    have oL := D.off nL0
    have AL : A ≠ L := fun z => by
      rw [← z, hA] at nL
      cases nL
    refine lc_it walk_range (fun j Z => Loom Z p d ∧ KpW p d H Z ∧ Z A = some (.lst [.int 0, .int 1]) ∧ ∃ ds : List Int, Z L = some (.lst (ds.map V.int)) ∧ ds.length = j ∧ ∀ x ∈ ds, x = 0 ∨ x = 1)
      ⟨D2.same (same_new nL), k2.trans (.of (same_new nL)), same_new nL _ _ hA, [], upd_same, rfl, fun x h => nomatch h⟩ (fun _ _ _ _ => trivial) ?_ ?_
    · rintro j x Hb Hc hj ⟨Db, kb, hAb, ds, hLb, ld, ad⟩ ⟨rfl, rfl⟩
      have hj : j < ((m : Int) - 2).toNat := hj
      refine ⟨rfl, ?_⟩
      dsimp only [tYes]
      rw [if_pos rfl]
      refine ⟨_, rfl, p, d, 2, rfl, Db, by decide, fun c H3 c0 c1 D3 k3 => ?_⟩
      have c1 := c1 (by decide)
      have hA3 := k3 _ _ hAb oA.1 oA.2
      have hL3 := k3 _ _ hLb oL.1 oL.2
      refine ⟨_, hL3, by rw [List.length_map, sizeLine_eq]; omega, D3.lst oL, kpw_upd (kb.trans k3) nL0, by rw [upd_ne AL]; exact hA3, ds ++ [c], by rw [upd_same, List.map_append]; rfl, by rw [List.length_append, ld]; rfl, fun x hx => ?_⟩
      rcases List.mem_append.mp hx with h | h
      · exact ad x h
      · rw [List.mem_singleton.mp h]
        omega
    rintro Z ⟨Dz, kz, hAz, ds, hLz, ld, ad⟩
    have ld : ds.length = ((m : Int) - 2).toNat := ld
    refine ⟨A, L, _, _, rfl, rfl, hAz, hLz, by rw [List.length_map, sizeLine_eq]; show 2 + _ ≤ _; omega, fun S nS => ?_⟩
    have ev : ([V.int 0, .int 1] ++ ds.map V.int) = ((0 : Int) :: 1 :: ds).map V.int := rfl
    rw [ev]
    have sS := same_new (o := .lst (((0 : Int) :: 1 :: ds).map V.int)) nS
    have hS := upd_same (H := Z) (a := S) (o := .lst (((0 : Int) :: 1 :: ds).map V.int))
    have D4 := Dz.same sS
    have k4 := kz.trans (.of sS)
    have nS0 := kpw_free Dz kz nS
    generalize hsv : ((0 : Int) :: 1 :: ds) = sv at hS sS D4 k4 ⊢
    have lsv : sv.length = m := by
      rw [← hsv, List.length_cons, List.length_cons]
      omega
    have sv0 : sv.getD 0 0 = 0 := by
      rw [← hsv]
      rfl
    have sv1 : sv.getD 1 0 = 1 := by
      rw [← hsv]
      rfl
    have svt : ∀ k, sv.getD k 0 = 0 ∨ sv.getD k 0 = 1 := fun k => by
      by_cases hk : k < sv.length
      · have := List.getElem_mem hk
        rw [gd hk]
        generalize sv[k] = w at this
        rw [← hsv] at this
        rcases List.mem_cons.mp this with h | h
        · exact .inl h
        rcases List.mem_cons.mp h with h | h
        · exact .inr h
        · exact ad w h
      · left
        rw [List.getD_eq_getElem?_getD, List.getElem?_eq_none (by omega)]
        rfl
    generalize (upd Z S (.lst (sv.map V.int))) = H5 at D4 k4 hS ⊢
    clear sS hAz hLz Dz kz nS ad ld hsv D2 k2 D1 k1 hA sA nL AL oL nL0 oA nA0 nA
    refine ⟨Nat.zero_le _, fun fl nf => ?_⟩
    have nf0 := kpw_free D4 k4 nf
    have oF := D.off nf0
    have oS := D.off nS0
    have FS : fl ≠ S := fun z => by
      rw [z, hS] at nf
      cases nf
    have sf := same_new (o := .lst []) nf
    refine ⟨_, rfl, (m : Int), rfl, by omega, by omega, for_it walk_range (fun j σ Z => ∃ (xs : List V) (s2 s3 : Option V), σ = [some (.ref p), some (.int (m : Nat)), s2, s3, none, some (.ref S), some (.ref fl), none] ∧ Loom Z p d ∧ KpW p d H Z ∧ Z S = some (.lst (sv.map V.int)) ∧ Z fl = some (.lst xs) ∧ ArsAt Z xs ((List.range j).flatMap fun u : Nat => ((List.range m).filter fun v : Nat => decide (sv.getD u 0 ≠ sv.getD v 0)).map fun v : Nat => ((u : Int), (v : Int))) ∧ xs.length ≤ 12 * j)
      ⟨[], _, _, rfl, D4.same sf, k4.trans (.of sf), sf _ _ hS, upd_same, .nil, Nat.le_refl _⟩ (fun _ _ _ _ _ => trivial) ?_ ?_⟩
    · rintro j x σ Hb Hc hj ⟨xs, s2, s3, rfl, Db, kb, hSb, hfb, Ab, lxs⟩ ⟨rfl, rfl⟩
      have hj : j < ((m : Nat) : Int).toNat := hj
      rw [Int.toNat_natCast] at hj
      have f0 : (0 : Int) + (j : Int) = (j : Int) := Int.zero_add _
      refine ⟨_, rfl, .inl ⟨rfl, _, SqL.of hfb⟩, _, rfl, (m : Int), rfl, by omega, by omega, fun L2 nL2 => ?_⟩
      have n0 := kpw_free Db kb nL2
      have o2 := Db.off nL2
      have L2F : L2 ≠ fl := fun z => by rw [z, hfb] at nL2; cases nL2
      have L2S : L2 ≠ S := fun z => by rw [z, hSb] at nL2; cases nL2
      have s2' := same_new (o := .lst []) nL2
      refine lc_it walk_range (fun k Z => Same Hc Z ∧ ∃ ys : List V, Z L2 = some (.lst ys) ∧ ArsAt Z ys (((List.range k).filter fun v : Nat => decide (sv.getD j 0 ≠ sv.getD v 0)).map fun v : Nat => ((j : Int), (v : Int))))
        ⟨s2', [], upd_same, .nil⟩ (fun _ _ _ _ => trivial) ?_ ?_
      · rintro k x He Hf hk ⟨sk, ys, hL, AL⟩ ⟨rfl, rfl⟩
        have hk : k < ((m : Nat) : Int).toNat := hk
        rw [Int.toNat_natCast] at hk
        have hS' := sk _ _ hSb
        have ga : ∀ (w : Nat), w < m → atI (sv.map V.int) (0 + (w : Int)) = some (.int (sv.getD w 0)) := fun w hw => by
          rw [Int.zero_add]
          have := atI_int (xs := sv) (v := (w : Int)) (by omega) (by omega)
          rwa [Int.toNat_natCast] at this
        have er : ((List.range (k + 1)).filter fun v : Nat => decide (sv.getD j 0 ≠ sv.getD v 0)) = ((List.range k).filter fun v : Nat => decide (sv.getD j 0 ≠ sv.getD v 0)) ++ (if decide (sv.getD j 0 ≠ sv.getD k 0) = true then [k] else []) := by
          rw [List.range_succ, List.filter_append]
          congr 1
          rw [List.filter_cons]
          rfl
        refine ⟨rfl, _, rfl, _, rfl, S, _, _, _, rfl, rfl, SqL.of hS', ga j hj, _, rfl, _, rfl, S, _, _, _, rfl, rfl, SqL.of hS', ga k hk, rfl, _, rfl, ?_⟩
        by_cases z : sv.getD j 0 = sv.getD k 0
        · rw [show (!decide (V.int (sv.getD j 0) = V.int (sv.getD k 0))) = false by rw [z, decide_eq_true rfl]; rfl]
          refine iteF ⟨sk, ys, hL, ?_⟩
          rw [er, if_neg (by rw [decide_eq_true_iff]; exact fun c => c z), List.append_nil]
          exact AL
        · rw [show (!decide (V.int (sv.getD j 0) = V.int (sv.getD k 0))) = true by rw [decide_eq_false fun c => z (V.int.inj c)]; rfl]
          refine iteT ⟨_, rfl, _, rfl, by show 2 ≤ sizeLine; decide, fun T nT => ?_⟩
          have sT := same_new (o := .tup [.int (0 + (j : Int)), .int (0 + (k : Int))]) nT
          have hL' := sT _ _ hL
          have ly : ys.length ≤ k := by
            rw [AL.len, List.length_map]
            have := List.length_filter_le (fun v : Nat => decide (sv.getD j 0 ≠ sv.getD v 0)) (List.range k)
            rwa [List.length_range] at this
          have tu : TupS (upd Hf T (.tup [.int (0 + (j : Int)), .int (0 + (k : Int))])) (upd (upd Hf T (.tup [.int (0 + (j : Int)), .int (0 + (k : Int))])) L2 (.lst (ys ++ [.ref T]))) := TupS.lst hL'
          refine ⟨ys, hL', by rw [sizeLine_eq]; omega, fun b o ec => ?_, ys ++ [.ref T], upd_same, ?_⟩
          · rw [upd_ne (ne_of_none ec nL2)]
            exact sT _ _ (sk _ _ ec)
          · rw [er, if_pos (decide_eq_true z), List.map_append]
            refine ars_app ((AL.keep (.of sT)).keep tu) (.cons ⟨T, rfl, tu _ _ ?_⟩ .nil)
            rw [upd_same, Int.zero_add, Int.zero_add]
      · rintro Z5 ⟨sk, ys, hL, AL⟩
        rw [Int.toNat_natCast] at AL
        have hf5 := sk _ _ hfb
        have A5 := Ab.keep (.of sk)
        have lx : xs.length = _ := Ab.len
        have ly : ys.length ≤ 12 := by
          rw [AL.len, List.length_map]
          have := List.length_filter_le (fun v : Nat => decide (sv.getD j 0 ≠ sv.getD v 0)) (List.range m)
          rw [List.length_range] at this
          omega
        refine ⟨fl, L2, xs, ys, rfl, rfl, hf5, hL, by rw [sizeLine_eq]; omega, ?_⟩
        have tu : TupS Z5 (upd Z5 fl (.lst (xs ++ ys))) := TupS.lst hf5
        have D5 := Db.same sk
        refine ⟨xs ++ ys, _, _, rfl, D5.lst oF, kpw_upd (kb.trans (.of sk)) nf0, by rw [upd_ne FS.symm]; exact sk _ _ hSb, upd_same, ?_, by rw [List.length_append]; omega⟩
        rw [List.range_succ, List.flatMap_append, List.flatMap_cons, List.flatMap_nil, List.append_nil]
        exact ars_app (A5.keep tu) (AL.keep tu)
    · rintro σ Hb ⟨xs, s2, s3, rfl, Db, kb, hSb, hfb, Ab, lxs⟩
      rw [Int.toNat_natCast] at Ab
      refine ⟨_, rfl, _, rfl, fl, _, rfl, .inl ⟨SqL.of hfb, fun T1 nT1 => ⟨by show 2 ≤ sizeLine; decide, fun T2 nT2 => ?_⟩⟩⟩
      have s8 := same_new (o := .tup xs) nT1
      have s9 := same_new (o := .tup [.int (m : Nat), .ref T1]) nT2
      have sZ := s8.trans s9
      have Ab : ArsAt Hb xs (bipE m fun v => sv.getD v.toNat 0) := by
        unfold bipE
        simp only [Int.toNat_natCast]
        exact Ab
      have s0 : (fun v : Int => sv.getD v.toNat 0) 0 = 0 := sv0
      have s1 : (fun v : Int => sv.getD v.toNat 0) 1 = 1 := sv1
      have two : ∀ v : Int, (fun v : Int => sv.getD v.toNat 0) v = 0 ∨ (fun v : Int => sv.getD v.toNat 0) v = 1 := fun v => svt v.toNat
      have inn : ∀ e ∈ bipE m (fun v => sv.getD v.toNat 0), Inn (m : Int) e.1 ∧ Inn (m : Int) e.2 := fun e he => ⟨(bip_mem.mp he).1, (bip_mem.mp he).2.1⟩
      have few := pairs_few n12 (bip_asc m fun v => sv.getD v.toNat 0).nodup inn
      have lx : xs.length = _ := Ab.len
      exact q T2 T1 xs _ _ _ (Db.same sZ) (kb.trans (.of sZ)) ⟨⟨upd_same, .inl (s9 _ _ upd_same), arrs_of (Ab.keep (.of sZ)) inn, by omega, by omega, n12⟩, Ab.keep (.of sZ), bip_joined (by omega) two s0 s1, ⟨two, fun e he => (bip_mem.mp he).2.2⟩, n2, fun z => bip_many (by omega) two s0 s1 z.2⟩
end
end Sw
namespace Sw
open PySem PySem.Spec PyProof.Rows L2 LamX
/-! ### the law's own colours -/
/-- what is coloured so far -/
structure SG (n : Int) (ars : List (Int × Int)) (kvs : List (Key × V)) (ks : List Int) (w : Int → Int) : Prop where
  nd : ks.Nodup
  inn : ∀ v ∈ ks, Inn n v
  val : ∀ v, valV kvs (.inl v : Key) = if v ∈ ks then some (.int (w v)) else none
  len : kvs.length = ks.length
  zero : (0 : Int) ∈ ks
  way : ∀ v ∈ ks, ∃ k, Rch ars k 0 v ∧ w v = ((k % 2 : Nat) : Int)
theorem SG.add {n : Int} {ars : List (Int × Int)} {kvs : List (Key × V)} {ks : List Int} {w : Int → Int} (S : SG n ars kvs ks w) {u v : Int} (hu : u ∈ ks) (hv : v ∉ ks) (iv : Inn n v) (m : (u, v) ∈ ars) : SG n ars (putK kvs (.inl v) (.int (1 - w u))) (ks ++ [v]) (fun x => if x = v then 1 - w u else w x) := by
  refine ⟨List.nodup_append.mpr ⟨S.nd, by simp, fun a ha b hb c => ?_⟩, fun x hx => ?_, fun x => ?_, ?_, List.mem_append_left _ S.zero, fun x hx => ?_⟩
  · rw [List.mem_singleton.mp hb] at c
    rw [c] at ha
    exact hv ha
  · rcases List.mem_append.mp hx with h | h
    · exact S.inn x h
    · rw [List.mem_singleton.mp h]
      exact iv
  · rw [valV_put]
    by_cases c : x = v
    · rw [if_pos (congrArg Sum.inl c), if_pos (List.mem_append_right _ (List.mem_singleton.mpr c)), if_pos c]
    · rw [if_neg fun z => c (Sum.inl.inj z), S.val x]
      by_cases d : x ∈ ks
      · rw [if_pos d, if_pos (List.mem_append_left _ d), if_neg c]
      · rw [if_neg d, if_neg]
        intro z
        rcases List.mem_append.mp z with h | h
        · exact d h
        · exact c (List.mem_singleton.mp h)
  · have : valV kvs (.inl v : Key) = none := by rw [S.val v, if_neg hv]
    have e : putK kvs (.inl v : Key) (.int (1 - w u)) = kvs ++ [(.inl v, .int (1 - w u))] := by
      unfold putK
      rw [if_neg]
      intro z
      obtain ⟨p, hp, ep⟩ := List.any_eq_true.mp z
      have ep := of_decide_eq_true ep
      have hn : (kvs.find? fun p => decide (p.1 = (.inl v : Key))) = none := by
        unfold valV at this
        exact Option.map_eq_none_iff.mp this
      have := List.find?_eq_none.mp hn p hp
      exact this (decide_eq_true ep)
    rw [e, List.length_append, List.length_append, S.len]
    rfl
  · rcases List.mem_append.mp hx with h | h
    · have ne : x ≠ v := fun c => hv (by rw [← c]; exact h)
      obtain ⟨k, r, e⟩ := S.way x h
      exact ⟨k, r, by show (if x = v then _ else _) = _; rw [if_neg ne, e]⟩
    · have ex := List.mem_singleton.mp h
      obtain ⟨k, r, e⟩ := S.way u hu
      refine ⟨k + 1, ?_, ?_⟩
      · rw [ex]
        exact r.app (.cons m (.nil v))
      · show (if x = v then _ else _) = _
        rw [if_pos ex, e]
        omega
theorem SG.few {n : Int} {ars : List (Int × Int)} {kvs : List (Key × V)} {ks : List Int} {w : Int → Int} (S : SG n ars kvs ks w) (n0 : 0 ≤ n) : (ks.length : Int) ≤ n := by
  have := pig n.toNat ks S.nd fun k hk => ⟨(S.inn k hk).1, by have := (S.inn k hk).2; omega⟩
  omega
/-- when all arrows from what is coloured are followed, all is coloured -/
theorem SG.full {n : Int} {ars : List (Int × Int)} {kvs : List (Key × V)} {ks : List Int} {w : Int → Int} (S : SG n ars kvs ks w) (J : Joined n ars) (inn : ∀ e ∈ ars, Inn n e.1 ∧ Inn n e.2) (n1 : 1 ≤ n) (cl : ∀ u ∈ ks, ∀ v, (u, v) ∈ ars → v ∈ ks) {v : Int} (hv : Inn n v) : v ∈ ks := by
  have go : ∀ (k : Nat) (a c : Int), Rch ars k a c → a ∈ ks → c ∈ ks := by
    intro k a c h
    induction h with
    | nil => exact id
    | @cons k a b c m _ ih => exact fun ha => ih (cl a ha b m)
  obtain ⟨k, r⟩ := rea_of J inn (u := 0) ⟨by decide, by omega⟩ hv
  exact go k 0 v r S.zero
section
variable {P : Program} {w : World} {K : PySem.W.Frag} {mg : Str → Option Value} {base : Heap}
abbrev sShades : Stmt := top 55
abbrev nShades : List Str := ["web", "shade", "edge", "at", "begin", "end"]
theorem scShades : FnScope nShades ["web"] (defScope sShades) := ⟨rfl, rfl, rfl, by decide +kernel, rfl, by decide +kernel, by decide +kernel⟩
def spShades : Sp := fun vs H Q _ => ∃ (a b : Addr) (n : Int) (ts : List V) (ars : List (Int × Int)), vs = [.ref a] ∧ NetAt n H a b ts ∧ ArsAt H ts ars ∧ Joined n ars ∧
  (∀ sh, Col ars sh → ∀ (dd : Addr) (kvs : List (Key × V)) (H' : Hp), Same H H' → H dd = none → H' dd = some (.dK kvs) → (kvs.length : Int) = n → (∀ v, Inn n v → valV kvs (.inl v : Key) = some (.int ((sh v + sh 0) % 2))) → Q (.ref dd) H') ∧
  ((∀ sh, ¬ Col ars sh) → ∀ H', Same H H' → Q .non H')
theorem ok_shades {f : Addr} {fd : FuncData} (F : Fun K "_law_shades" "_law_shades" sShades f fd) (B : NoNames mg) : FnOk P w K mg base CX0 1 f fd ["web"] spShades := by
  refine F.ok scShades (fun vs H Q E h => ?_) (fun cdv A outer s H vs Q E hr h => ?_)
  · obtain ⟨a, b, n, ts, ars, rfl, _⟩ := h
    rfl
  · obtain ⟨a, b, n, ts, ars, rfl, N, AR, J, q1, q2⟩ := h
    have hu := hu_of hr
    refine ⟨_, pss_cons (ps_asg (pe_tup (pa_cons (pe_disp (pps_cons pe_int pe_int pps_nil) (by rfl) (by rfl) (by simp) (by decide)) (pa_cons (pe_lst (pa_cons pe_int pa_nil)) pa_nil))) (pg_tup (by rfl) (pgs_cons (pg_name (i := 1) scShades.nd rfl (.inr rfl)) (pgs_cons (pg_name (i := 2) scShades.nd rfl (.inl rfl)) pgs_nil)))) <|
      pss_cons (ps_while PassesOwn.never (pt_cmpR (op_neNil hr.units0) (pv 2) (pe_lst pa_nil) (nomark _))
        (pss_cons (ps_set (i := 3) scShades.nd rfl (.inl rfl) (pe_bm0 PySem.F.plainAttrs_list PySem.F.slot_list_pop PySem.F.type_list_pop mt_pop (pv 2))) <|
         pss_one (ps_for PassesOwn.never rfl (pi_tup (pe_ix (r := rIxT K) ix_tup (pv 0) pe_int (fun _ _ => rfl))) (pg_tup rfl (pgs_cons (pg_name (i := 4) scShades.nd rfl (.inl rfl)) (pgs_cons (pg_name (i := 5) scShades.nd rfl (.inl rfl)) pgs_nil)))
           (pss_one (ps_if (PW.pt (pw_and (pt_cmpR op_eq (pv 4) (pv 3) (nomark _)) (pw_and1 (pt_cmp (pc_dnotin hu (pv 5) (pv 1))))))
             (pss_cons (ps_dput hu (pv 1) (pv 5) (pe_op (r := rI0 fun i j => .int (i - j)) op_sub pe_int (pe_dget hu (pv 1) (pv 3) (fun _ _ => rfl))) (by rfl)) <|
              pss_one (ps_expr (pe_bm PySem.F.plainAttrs_list PySem.F.slot_list_append PySem.F.type_list_append mt_append (pv 2) (pa_cons (pv 5) pa_nil)))) pss_nil))))) <|
      pss_one (ps_ret (pe_ifExp (pt_cmpR (op_eqD hr.units) (pe_lc (own := [("begin", 4), ("end", 5)]) (g := gTup K 2 (gCons (gName 4) (gCons (gName 5) gNil))) (te := tC (.int 1)) rfl scShades.nd (pi_tup (pe_ix (r := rIxT K) ix_tup (pv 0) pe_int (fun _ _ => rfl))) (blkOk_by (own := [("begin", 4), ("end", 5)]) (N := nShades) (sc := defScope sShades) (by decide +kernel))
            (fun _ _ _ _ _ => pg_tup rfl (pgs_cons (pg_name (i := 4) scShades.nd rfl (Or.inl rfl)) (pgs_cons (pg_name (i := 5) scShades.nd rfl (Or.inl rfl)) pgs_nil)))
            (fun _ _ _ _ _ => pts_one (pt_cmpR op_eq (pe_dget hu (pv 1) (pv 4) (fun _ _ => rfl)) (pe_dget hu (pv 1) (pv 5) (fun _ _ => rfl)) (nomark _))) (fun _ _ _ _ _ => pe_int))
          (pe_lst pa_nil) (nomark _)) (pv 1) pe_non)), ?_⟩
    have n1 := N.n1
    have n12 := N.n2
    have inn := ars_inn N.arr AR
    refine fun dd nd => ⟨by rw [upd_same], [(.inl 0, .int 0)], rfl, by show 1 ≤ 15; decide, ?_⟩
    have hd0 : (upd (upd H dd (.dK [])) dd (.dK (mergeK [] [(.inl 0, .int 0)]))) dd = some (.dK [(.inl 0, .int 0)]) := by rw [upd_same]; rfl
    have s0 : Same H (upd (upd H dd (.dK [])) dd (.dK (mergeK [] [(.inl 0, .int 0)]))) := fun b o e => by
      rw [upd_ne (ne_of_none e nd), upd_ne (ne_of_none e nd)]
      exact e
    generalize (upd (upd H dd (.dK [])) dd (.dK (mergeK [] [(.inl 0, .int 0)]))) = H1 at hd0 s0 ⊢
    refine ⟨by show 1 ≤ sizeLine; decide, fun el ne => ⟨by show 2 ≤ sizeLine; decide, fun T nT => ?_⟩⟩
    have se := same_new (o := .lst [.int 0]) ne
    have sT := same_new (o := .tup [.ref dd, .ref el]) nT
    refine ⟨T, _, rfl, SqT.of upd_same, rfl, _, _, rfl, _, _, rfl, rfl, ?_⟩
    have hd1 := sT _ _ (se _ _ hd0)
    have he1 := sT _ _ (upd_same (H := H1) (a := el) (o := .lst [V.int 0]))
    have s1 := (s0.trans se).trans sT
    have ne0 : H el = none := s0.free ne
    have del : dd ≠ el := fun z => by
      rw [← z, hd0] at ne
      cases ne
    generalize (upd (upd H1 el (.lst [.int 0])) T (.tup [.ref dd, .ref el])) = H2 at hd1 he1 s1 ⊢
    clear se sT nT ne hd0 s0
    refine ⟨fun mm σ Z => ∃ (ks eg : List Int) (w : Int → Int) (kvs : List (Key × V)) (s3 s4 s5 : Option V), σ = [some (.ref a), some (.ref dd), some (.ref el), s3, s4, s5] ∧ Same H Z ∧ Z dd = some (.dK kvs) ∧ Z el = some (.lst (eg.map V.int)) ∧ SG n ars kvs ks w ∧ (∀ v ∈ eg, v ∈ ks) ∧ (∀ u ∈ ks, u ∉ eg → ∀ v, (u, v) ∈ ars → v ∈ ks) ∧ 2 * (n.toNat - ks.length) + eg.length = mm ∧ mm ≤ 30,
      ⟨_, [0], [0], fun _ => 0, [(.inl 0, .int 0)], none, none, none, rfl, s1, hd1, he1, ⟨by simp, fun v hv => by rw [List.mem_singleton.mp hv]; exact ⟨by decide, by omega⟩, fun v => ?_, rfl, List.mem_singleton.mpr rfl, fun v hv => ⟨0, by rw [List.mem_singleton.mp hv]; exact .nil 0, rfl⟩⟩, fun v hv => hv, fun u hu hn => (hn hu).elim, rfl, by show 2 * (n.toNat - 1) + 1 ≤ 30; omega⟩, ?_⟩
    · by_cases z : v = 0
      · rw [z, if_pos (List.mem_singleton.mpr rfl)]
        rfl
      · rw [if_neg fun c => z (List.mem_singleton.mp c), valV_neg fun c => z (Sum.inl.inj c).symm]
        rfl
    clear hd1 he1 s1
    rintro mm σ Ha ⟨ks, eg, w, kvs, s3, s4, s5, rfl, sa, hd, he, S, ek, cl, rfl, mb⟩
    refine ⟨_, rfl, Nat.zero_le _, fun e0 ne => ?_⟩
    have se := same_new (o := .lst []) ne
    refine ⟨el, e0, _, rfl, rfl, SqL.of (se _ _ he), SqL.of upd_same, _, rfl, ?_⟩
    have hd := se _ _ hd
    have he := se _ _ he
    have sa := sa.trans se
    generalize (upd Ha e0 (.lst [])) = Hb at sa hd he ⊢
    clear se ne
    refine ite2 (fun y => ?_) (fun y => ?_)
    · have neg : eg ≠ [] := fun z => by
        rw [z] at y
        cases y
      obtain ⟨r, x, rfl, h1, h2⟩ := pop_last neg
      refine ⟨fun σ Z => ∃ m', m' < 2 * (n.toNat - ks.length) + (r ++ [x]).length ∧ ∃ (ks eg : List Int) (w : Int → Int) (kvs : List (Key × V)) (s3 s4 s5 : Option V), σ = [some (.ref a), some (.ref dd), some (.ref el), s3, s4, s5] ∧ Same H Z ∧ Z dd = some (.dK kvs) ∧ Z el = some (.lst (eg.map V.int)) ∧ SG n ars kvs ks w ∧ (∀ v ∈ eg, v ∈ ks) ∧ (∀ u ∈ ks, u ∉ eg → ∀ v, (u, v) ∈ ars → v ∈ ks) ∧ 2 * (n.toNat - ks.length) + eg.length = m' ∧ m' ≤ 30, fun _ _ h => h, ?_⟩
      refine ⟨_, rfl, .inl ⟨rfl, _, SqL.of he⟩, el, _, _, rfl, rfl, he, h1, ?_⟩
      rw [h2]
      have hdc : (upd Hb el (.lst (r.map V.int))) dd = some (.dK kvs) := by
        rw [upd_ne del]
        exact hd
      have hec := upd_same (H := Hb) (a := el) (o := .lst (r.map V.int))
      have sc : Same H (upd Hb el (.lst (r.map V.int))) := fun b o e => by
        rw [upd_ne (ne_of_none e ne0)]
        exact sa _ _ e
      generalize (upd Hb el (.lst (r.map V.int))) = Hc at hdc hec sc ⊢
      have Nc := N.keep (.of sc)
      have xk : x ∈ ks := ek x (List.mem_append_right _ (List.mem_singleton.mpr rfl))
      refine ⟨_, rfl, a, _, 1, .ref b, rfl, rfl, SqT.of Nc.a, at_of (j := 1) rfl rfl, b, rfl, ⟨_, Nc.sq⟩, for_it (walk_tup (xs := ts)) (fun j σ Z => ∃ (ks' eg : List Int) (w : Int → Int) (kvs : List (Key × V)) (s4 s5 : Option V), σ = [some (.ref a), some (.ref dd), some (.ref el), some (.int x), s4, s5] ∧ Same H Z ∧ Z dd = some (.dK kvs) ∧ Z el = some (.lst (eg.map V.int)) ∧ SG n ars kvs ks' w ∧ x ∈ ks' ∧ (∀ v ∈ eg, v ∈ ks') ∧ (∀ u ∈ ks', u ∉ eg → u ≠ x → ∀ v, (u, v) ∈ ars → v ∈ ks') ∧ (∀ e ∈ ars.take j, e.1 = x → e.2 ∈ ks') ∧ 2 * (n.toNat - ks'.length) + eg.length ≤ 2 * (n.toNat - ks.length) + r.length)
        ⟨ks, r, w, kvs, _, _, rfl, sc, hdc, hec, S, xk, fun v hv => ek v (List.mem_append_left _ hv), fun u hu hn ux => cl u hu fun z => (List.mem_append.mp z).elim hn fun z => ux (List.mem_singleton.mp z), (fun e he => by rw [List.take_zero] at he; cases he), Nat.le_refl _⟩ (fun j σ Z _ h => by obtain ⟨_, _, _, _, _, _, _, h, _⟩ := h; exact (N.keep (.of h)).sq) ?_ ?_⟩
      · clear hdc hec sc Nc S ek cl hd he sa
        rintro j y' σ Hd He hj ⟨ks', eg, w, kvs, s4, s5, rfl, sd, hdd, hed, S, xk, ek, cl, dn, ms⟩ ⟨rfl, ex⟩
        obtain ⟨e, t, hee, rfl, ht⟩ := AR.at ex
        have me : (e.1, e.2) ∈ ars := List.mem_of_getElem? hee
        refine ⟨t, _, rfl, SqT.of (sd _ _ ht), rfl, _, _, rfl, _, _, rfl, rfl, ?_⟩
        have et : ars.take (j + 1) = ars.take j ++ [e] := by
          rw [List.take_add_one, hee]
          rfl
        have keep : (e.1 = x → e.2 ∈ ks') → ∀ g ∈ ars.take (j + 1), g.1 = x → g.2 ∈ ks' := fun hk g hg hx => by
          rw [et] at hg
          rcases List.mem_append.mp hg with h | h
          · exact dn g h hx
          · rw [List.mem_singleton.mp h] at hx ⊢
            exact hk hx
        refine ⟨_, rfl, _, rfl, rfl, _, rfl, ?_⟩
        by_cases c1 : e.1 = x
        · rw [decide_eq_true (by rw [c1])]
          have g2 := DGet.k (k := (.inl e.2 : Key)) hdd
          refine iteT ⟨_, rfl, _, rfl, dd, _, rfl, g2, _, rfl, ?_⟩
          rw [S.val e.2]
          by_cases c2 : e.2 ∈ ks'
          · rw [if_pos c2]
            exact iteF ⟨ks', eg, w, kvs, _, _, rfl, sd, hdd, hed, S, xk, ek, cl, keep fun _ => c2, ms⟩
          · rw [if_neg c2]
            have gx := DGet.k (k := (.inl x : Key)) hdd
            rw [S.val x, if_pos xk] at gx
            have fw := S.few (by omega)
            have S2 := S.add xk c2 (inn e (List.mem_of_getElem? hee)).2 (by rw [← c1]; exact me)
            have f2 := S2.few (by omega)
            rw [List.length_append] at f2
            have f2 : ((ks'.length + 1 : Nat) : Int) ≤ n := f2
            have le1 := S.len
            refine iteT ⟨_, rfl, _, rfl, dd, _, rfl, gx, _, _, rfl, rfl, _, rfl, _, rfl, dd, _, rfl, DPut.k (k := .inl e.2) hdd (by rw [sizeLine_eq]; omega), ?_⟩
            have hel2 : (upd He dd (.dK (putK kvs (.inl e.2) (.int (1 - w x))))) el = some (.lst (eg.map V.int)) := by
              rw [upd_ne del.symm]
              exact hed
            have leg : eg.length ≤ 200 := by
              rw [List.length_append] at mb
              omega
            refine ⟨_, rfl, .inl ⟨rfl, _, SqL.of hel2⟩, _, rfl, el, _, _, rfl, rfl, hel2, by rw [List.length_map, sizeLine_eq]; omega, ?_⟩
            refine ⟨ks' ++ [e.2], eg ++ [e.2], _, _, _, _, rfl, fun b o ec => ?_, by rw [upd_ne del, upd_same], by rw [upd_same, List.map_append]; rfl, S2, List.mem_append_left _ xk, fun v hv => ?_, fun u hu hn ux v hv => ?_, fun g hg hx => ?_, ?_⟩
            · rw [upd_ne (ne_of_none ec ne0), upd_ne (ne_of_none ec nd)]
              exact sd _ _ ec
            · rcases List.mem_append.mp hv with h | h
              · exact List.mem_append_left _ (ek v h)
              · exact List.mem_append_right _ h
            · rcases List.mem_append.mp hu with h | h
              · exact List.mem_append_left _ (cl u h (fun z => hn (List.mem_append_left _ z)) ux v hv)
              · exact (hn (List.mem_append_right _ h)).elim
            · rw [et] at hg
              rcases List.mem_append.mp hg with h | h
              · exact List.mem_append_left _ (dn g h hx)
              · rw [List.mem_singleton.mp h]
                exact List.mem_append_right _ (List.mem_singleton.mpr rfl)
            · rw [List.length_append, List.length_append]
              simp only [List.length_cons, List.length_nil]
              omega
        · rw [decide_eq_false fun z => c1 (V.int.inj z)]
          exact iteF (iteF ⟨ks', eg, w, kvs, _, _, rfl, sd, hdd, hed, S, xk, ek, cl, keep fun z => (c1 z).elim, ms⟩)
      · rintro σ Hd ⟨ks', eg, w, kvs, s4, s5, rfl, sd, hdd, hed, S, xk, ek, cl, dn, ms⟩
        rw [List.take_of_length_le (by rw [← AR.len]; exact Nat.le_refl _)] at dn
        refine ⟨_, ?_, ks', eg, w, kvs, _, _, _, rfl, sd, hdd, hed, S, ek, fun u hu hn v hv => ?_, rfl, ?_⟩
        · rw [List.length_append]
          simp only [List.length_cons, List.length_nil]
          omega
        · by_cases z : u = x
          · rw [z] at hv
            exact dn _ hv rfl
          · exact cl u hu hn z v hv
        · rw [List.length_append] at mb
          simp only [List.length_cons, List.length_nil] at mb
          omega
    · have y : eg = [] := by
        cases eg with
        | nil => rfl
        | cons a r => exact absurd rfl y
      subst y
      have cl : ∀ u ∈ ks, ∀ v, (u, v) ∈ ars → v ∈ ks := fun u hu => cl u hu fun z => nomatch z
      have all : ∀ v, Inn n v → v ∈ ks := fun v hv => S.full J inn n1 cl hv
      have vw : ∀ v, Inn n v → valV kvs (.inl v : Key) = some (.int (w v)) := fun v hv => by rw [S.val v, if_pos (all v hv)]
      have Nb := N.keep (.of sa)
      refine ⟨_, rfl, a, _, 1, .ref b, rfl, rfl, SqT.of Nb.a, at_of (j := 1) rfl rfl, b, rfl, ⟨_, Nb.sq⟩, fun L nL => ?_⟩
      have nL0 := sa.free nL
      refine lc_it (walk_tup (xs := ts)) (fun j Z => Same Hb Z ∧ ∃ cs : List Int, Z L = some (.lst (cs.map V.int)) ∧ cs.length ≤ j ∧ (cs = [] ↔ ∀ e ∈ ars.take j, w e.1 ≠ w e.2))
        ⟨same_new nL, [], upd_same, Nat.le_refl _, ⟨(fun _ e he => by rw [List.take_zero] at he; cases he), fun _ => rfl⟩⟩ (fun j Z _ h => (Nb.keep (.of h.1)).sq) ?_ ?_
      · rintro j y' Hd He hj ⟨sd, cs, hL, lc, ic⟩ ⟨rfl, ex⟩
        obtain ⟨e, t, hee, rfl, ht⟩ := AR.at ex
        have hj : j < ts.length := hj
        have lts := N.len
        have ie := inn e (List.mem_of_getElem? hee)
        have et : ars.take (j + 1) = ars.take j ++ [e] := by
          rw [List.take_add_one, hee]
          rfl
        have hd' := sd _ _ hd
        have g1 := DGet.k (k := (.inl e.1 : Key)) hd'
        rw [vw _ ie.1] at g1
        have g2 := DGet.k (k := (.inl e.2 : Key)) hd'
        rw [vw _ ie.2] at g2
        refine ⟨t, _, rfl, SqT.of (sd _ _ (sa _ _ ht)), rfl, _, _, rfl, _, _, rfl, rfl, ?_⟩
        refine ⟨rfl, _, rfl, _, rfl, dd, _, rfl, g1, _, rfl, _, rfl, dd, _, rfl, g2, rfl, _, rfl, ?_⟩
        by_cases c : w e.1 = w e.2
        · rw [decide_eq_true (by rw [c])]
          refine iteT ⟨_, hL, by rw [List.length_map, sizeLine_eq]; omega, fun b' o ec => ?_, cs ++ [1], by rw [upd_same, List.map_append]; rfl, by rw [List.length_append]; exact Nat.succ_le_succ lc, fun z => ?_, fun z => ?_⟩
          · rw [upd_ne (ne_of_none ec nL)]
            exact sd _ _ ec
          · simp at z
          · exact absurd c (z e (by rw [et]; exact List.mem_append_right _ (List.mem_singleton.mpr rfl)))
        · rw [decide_eq_false fun z => c (V.int.inj z)]
          refine iteF ⟨sd, cs, hL, by omega, ic.trans ⟨fun z g hg => ?_, fun z g hg => z g (by rw [et]; exact List.mem_append_left _ hg)⟩⟩
          rw [et] at hg
          rcases List.mem_append.mp hg with h | h
          · exact z g h
          · rw [List.mem_singleton.mp h]
            exact c
      · rintro Z ⟨sd, cs, hL, lc, ic⟩
        rw [List.take_of_length_le (by rw [← AR.len]; exact Nat.le_refl _)] at ic
        refine ⟨Nat.zero_le _, fun e1 ne1 => ?_⟩
        have se := same_new (o := .lst []) ne1
        have sZ := (sa.trans sd).trans se
        refine ⟨.list (cs.map PyData.int), .list [], .lst (SqL.of (se _ _ hL)) (dp_ints cs), .lst (SqL.of upd_same) .nil, PySem.W.ke_shaped_ints cs, rfl, _, rfl, ?_⟩
        have ev : PyData.eqv (.list (cs.map PyData.int)) (.list []) = decide (cs = []) := by
          have := eqv_nilW cs
          by_cases c : cs = []
          · rw [decide_eq_false fun z => z c] at this
            rw [decide_eq_true c]
            exact Bool.not_eq_false' .. ▸ this
          · rw [decide_eq_true c] at this
            rw [decide_eq_false c]
            exact Bool.not_eq_true' .. ▸ this
        rw [ev]
        have hd' := se _ _ (sd _ _ hd)
        have kl : (kvs.length : Int) = n := by
          have f1 := S.few (by omega)
          have f2 := S.len
          have cov : ∀ x ∈ (List.range n.toNat).map fun k : Nat => (k : Int), x ∈ ks := fun x hx => by
            obtain ⟨k, hk, rfl⟩ := List.mem_map.mp hx
            have hk := List.mem_range.mp hk
            exact all _ ⟨by omega, by omega⟩
          have q := sub_lenA (range_nd n.toNat) cov
          rw [List.length_map, List.length_range] at q
          omega
        by_cases c : cs = []
        · rw [decide_eq_true c]
          have alt := ic.mp c
          have two : ∀ v ∈ ks, w v = 0 ∨ w v = 1 := fun v hv => by
            obtain ⟨k, _, e⟩ := S.way v hv
            rw [e]
            omega
          have C : Col ars (fun v => if v ∈ ks then w v else 0) := by
            refine ⟨fun v => ?_, fun e he => ?_⟩
            · show (if v ∈ ks then w v else 0) = 0 ∨ (if v ∈ ks then w v else 0) = 1
              by_cases z : v ∈ ks
              · rw [if_pos z]
                exact two v z
              · rw [if_neg z]
                exact .inl rfl
            · show (if e.1 ∈ ks then w e.1 else 0) ≠ (if e.2 ∈ ks then w e.2 else 0)
              rw [if_pos (all _ (inn e he).1), if_pos (all _ (inn e he).2)]
              exact alt e he
          refine iteT ⟨_, rfl, q1 _ C dd kvs _ sZ nd hd' kl fun v hv => ?_⟩
          have i0 : Inn n 0 := ⟨by decide, by omega⟩
          show _ = some (V.int (((if v ∈ ks then w v else 0) + (if (0 : Int) ∈ ks then w 0 else 0)) % 2))
          rw [vw v hv, if_pos (all v hv), if_pos (all 0 i0)]
          obtain ⟨k, r, e⟩ := S.way 0 (all 0 i0)
          have ek := C.even 0 k r
          have tv := two v (all v hv)
          have : w 0 = 0 := by omega
          rw [this]
          congr 2
          omega
        · rw [decide_eq_false c]
          refine iteF (q2 (fun sh C => c (ic.mpr fun e he => ?_)) _ sZ)
          have i1 := all _ (inn e he).1
          have i2 := all _ (inn e he).2
          obtain ⟨k, r1, e1⟩ := S.way _ i1
          obtain ⟨j, r2, e2⟩ := S.way _ i2
          have w1 := C.way r1
          have w2 := C.way r2
          have al := C.alt e he
          have t0 := C.two 0
          rw [e1, e2]
          omega
end
end Sw
namespace Sw
open PySem PySem.Spec PyProof.Rows L2 LamX
/-! ### walks in any net -/
theorem stp_ord {n v : Int} {r : List Int} (R : Ord (n + 1) r) (iv : Inn n v) : Ord (n + 1) (stp r v.toNat) := by
  have l := R.len
  have h0 := iv.1
  have h1 := iv.2
  exact R.perm (stp_perm (by omega))
section
variable {P : Program} {w : World} {K : PySem.W.Frag} {mg : Str → Option Value} {base : Heap}
abbrev sWalkW : Stmt := top 59
abbrev nWalkW : List Str := ["loom", "web", "spot", "many", "turn", "ends", "begin", "end"]
theorem scWalkW : FnScope nWalkW ["loom", "web", "spot", "many"] (defScope sWalkW) := ⟨rfl, rfl, rfl, by decide +kernel, rfl, by decide +kernel, by decide +kernel⟩
def spWalkH : Sp := fun vs H Q _ => ∃ (n : Int) (p d a b s : Addr) (ts : List V) (ars : List (Int × Int)) (r : List Int) (v : Int) (m : Nat), vs = [.ref p, .ref a, .ref s, .int (m : Nat)] ∧ Loom H p d ∧ NetAt n H a b ts ∧ ArsAt H ts ars ∧ StW n H s r v ∧ m ≤ 10000 ∧
  ∀ (s' : Addr) (r' : List Int) (v' : Int) (H' : Hp), Loom H' p d → KpW p d H H' → StW n H' s' r' v' → Q (.ref s') H'
theorem ok_walkH {f : Addr} {fd : FuncData} (F : Fun K "_law_walk" "_law_walk" sWalkW f fd) (B : NoNames mg) (OS : Own P w K mg base 1 "_law_step" ["spot", "end"] spStepW) (OP : Own P w K mg base 2 "_law_pick" ["loom", "things"] spPickW) : FnOk P w K mg base CX0 3 f fd ["loom", "web", "spot", "many"] spWalkH := by
  obtain ⟨fS, fdS, GS, mS, kS, bS⟩ := OS.ex
  obtain ⟨fP, fdP, GP, mP, kP, bP⟩ := OP.ex
  refine F.ok scWalkW (fun vs H Q E h => ?_) (fun cdv A outer s H vs Q E hr h => ?_)
  · obtain ⟨n, p, d, a, b, s, ts, ars, r, v, m, rfl, _⟩ := h
    rfl
  · obtain ⟨n, p, d, a, b, s, ts, ars, r, v, m, rfl, D, N, AR, S, hm, q⟩ := h
    have hr1 := hr.mono (by decide : 1 ≤ 2)
    have inn := ars_inn N.arr AR
    have lts := AR.len
    have few := N.len
    refine ⟨_, pss_cons (ps_for PassesOwn.never rfl (pi_range1 (by rfl) B.range (pa_cons (pv 3) pa_nil)) (pg_name (i := 4) scWalkW.nd rfl (.inl rfl))
        (pss_cons (ps_setLc (i := 5) (own := [("begin", 6), ("end", 7)]) (g := gTup K 2 (gCons (gName 6) (gCons (gName 7) gNil))) (te := tVar 7) rfl scWalkW.nd rfl rfl (sw_true rfl rfl rfl (by decide +kernel)) (pi_tup (pe_ix ix_tup (pv 1) pe_int (fun _ _ => rfl))) (blkOk_by (own := [("begin", 6), ("end", 7)]) (N := nWalkW) (sc := defScope sWalkW) (by decide +kernel))
            (fun _ _ _ _ _ => pg_tup rfl (pgs_cons (pg_name (i := 6) scWalkW.nd rfl (Or.inl rfl)) (pgs_cons (pg_name (i := 7) scWalkW.nd rfl (Or.inl rfl)) pgs_nil)))
            (fun _ _ _ _ _ => pts_one (pt_cmpR op_eq (pv 6) (pe_ix (r := rIxT K) ix_tup (pv 2) pe_int (fun _ _ => rfl)) (nomark _))) (fun _ _ _ _ _ => pv 7)) <|
         pss_one (ps_set (i := 2) scWalkW.nd rfl (.inr rfl) (pe_ifExp (pt_cmpR (op_eqD hr.units) (pv 5) (pe_lst pa_nil) (nomark _)) (pv 2)
            (pe_call GS hr1 rfl mS kS bS .nil pass0 (pa_cons (pv 2) (pa_cons (pe_call GP hr rfl mP kP bP .nil pass0 (pa_cons (pv 0) (pa_cons (pv 5) pa_nil))) pa_nil))))))) <|
      pss_one (ps_ret (pv 2)), ?_⟩
    refine ⟨_, rfl, (m : Nat), rfl, by omega, by omega, ?_⟩
    refine for_it walk_range (fun j σ Z => ∃ (s : Addr) (rj : List Int) (vj : Int) (s4 s5 s6 s7 : Option V), σ = [some (.ref p), some (.ref a), some (.ref s), some (.int (m : Nat)), s4, s5, s6, s7] ∧ Loom Z p d ∧ KpW p d H Z ∧ StW n Z s rj vj)
      ⟨s, r, v, _, _, _, _, rfl, D, .refl, S⟩ (fun _ _ _ _ _ => trivial) ?_ ?_
    · rintro j x σ Hb Ha hj ⟨s, rj, vj, s4, s5, s6, s7, rfl, Da, ka, Sa⟩ ⟨rfl, rfl⟩
      have ta := TupS.kpw D ka
      have Na := N.keep ta
      have Aa := AR.keep ta
      obtain ⟨rw_, g1, g2⟩ := Sa.ex
      refine ⟨_, rfl, a, _, 1, .ref b, rfl, rfl, SqT.of Na.a, at_of (j := 1) rfl rfl, b, rfl, ⟨_, Na.sq⟩, fun L nL => ?_⟩
      have sL := same_new (o := .lst []) nL
      refine lc_it (walk_tup (xs := ts)) (fun i Z => Z L = some (.lst (((ars.take i).filter fun e => e.1 == vj).map fun e => V.int e.2)) ∧ Same Ha Z) ⟨upd_same, sL⟩ (fun i Z _ h => (Na.keep (.of h.2)).sq) ?_ ?_
      · rintro i x Hb2 Hc hi ⟨h1, h2⟩ ⟨rfl, ex⟩
        obtain ⟨e, t, he, rfl, ht⟩ := Aa.at ex
        refine ⟨t, _, rfl, SqT.of (h2 _ _ ht), rfl, _, _, rfl, _, _, rfl, rfl, ?_⟩
        refine ⟨rfl, ?_⟩
        refine ⟨_, rfl, _, rfl, s, _, 1, .int vj, rfl, rfl, SqT.of (h2 _ _ g1), at_of (j := 1) rfl rfl, rfl, _, rfl, ite2 (fun y => ?_) (fun y => ?_)⟩
        · have y : decide (V.int e.1 = V.int vj) = true := y
          have y := V.int.inj (of_decide_eq_true y)
          refine ⟨_, rfl, _, h1, ?_, ?_, fun c o ec => ?_⟩
          · have l1 := List.length_filter_le (fun e : Int × Int => e.1 == vj) (ars.take i)
            have l2 := List.length_take_le' i ars
            rw [List.length_map, sizeLine_eq]
            omega
          · rw [upd_same, List.take_add_one, he, List.filter_append, List.map_append]
            show some (HO.lst (_ ++ _)) = some (HO.lst (_ ++ (List.filter _ [e]).map _))
            rw [List.filter_cons, if_pos (beq_iff_eq.mpr y)]
            rfl
          · rw [upd_ne (ne_of_none ec nL)]
            exact h2 _ _ ec
        · have y : ¬ e.1 = vj := fun z => y (decide_eq_true (by rw [z]))
          refine ⟨?_, h2⟩
          rw [List.take_add_one, he, List.filter_append]
          show Hc L = some (HO.lst ((_ ++ List.filter _ [e]).map _))
          rw [List.filter_cons, if_neg fun c => y (beq_iff_eq.mp c), List.filter_nil, List.append_nil]
          exact h1
      · rintro Hc ⟨h1, h2⟩
        rw [List.take_of_length_le (by rw [← lts]; exact Nat.le_refl _)] at h1
        have fle := List.length_filter_le (fun e : Int × Int => e.1 == vj) ars
        have fin : ∀ u ∈ (ars.filter fun e => e.1 == vj).map fun e => e.2, Inn n u := fun u hu => by
          obtain ⟨e, he, rfl⟩ := List.mem_map.mp hu
          exact (inn e (List.mem_filter.mp he).1).2
        have em : ((ars.filter fun e => e.1 == vj).map fun e => V.int e.2) = ((ars.filter fun e => e.1 == vj).map fun e => e.2).map V.int := by
          rw [List.map_map]
          rfl
        rw [em] at h1
        have lfl : ((ars.filter fun e => e.1 == vj).map fun e => e.2).length ≤ 200 := by
          rw [List.length_map]
          omega
        generalize ((ars.filter fun e => e.1 == vj).map fun e => e.2) = us at h1 fin lfl
        have Dc := Da.same h2
        have oL := Da.off nL
        refine ⟨_, rfl, Nat.zero_le _, fun e ne => ?_⟩
        have se := same_new (o := .lst []) ne
        refine ⟨.list (us.map PyData.int), .list [], .lst (SqL.of (se _ _ h1)) (dp_ints us), .lst (SqL.of upd_same) .nil, PySem.W.ke_shaped_ints us, rfl, _, rfl, ?_⟩
        have s3 := h2.trans se
        have he := se _ _ h1
        have De := Dc.same se
        generalize (upd Hc e (.lst [])) = He at s3 he De ⊢
        cases c : PyData.eqv (.list (us.map PyData.int)) (.list []) with
        | true => exact iteT ⟨_, rfl, s, rj, vj, _, _, _, _, rfl, De, ka.trans (.of s3), Sa.keep (.of s3)⟩
        | false =>
          have nu : us ≠ [] := fun z => by
            rw [z] at c
            cases c
          refine iteF ⟨_, rfl, _, rfl, _, rfl, p, d, L, _, rfl, De, he, oL.1, oL.2, (fun z => nu (List.map_eq_nil_iff.mp z)), by rw [List.length_map]; omega, fun y H4 my D4 k4 => ?_⟩
          obtain ⟨u, mu, rfl⟩ := List.mem_map.mp my
          have t4 := (TupS.of s3).trans (TupS.kpw De k4)
          have iv := Sa.v
          have iv1 := iv.1
          have iv2 := iv.2
          have lr := Sa.R.len
          refine ⟨s, rw_, rj, vj, u, rfl, t4 _ _ g1, t4.rd g2, iv1, by omega, fun q1 q2 H5 s5 h5 h6 => ?_⟩
          exact ⟨q1, stp rj vj.toNat, u, _, _, _, _, rfl, D4.same s5, ((ka.trans (.of s3)).trans k4).trans (.of s5), ⟨⟨q2, h5, .inl h6⟩, stp_ord Sa.R iv, fin u mu⟩⟩
    · rintro σ Ha ⟨s, rj, vj, s4, s5, s6, s7, rfl, Da, ka, Sa⟩
      exact ⟨_, rfl, q s rj vj Ha Da ka Sa⟩
end
end Sw
namespace Sw
open PySem PySem.Spec PyProof.Rows L2 LamX
/-! ### the law of halves -/
abbrev sLaw24 : Stmt := top 64
abbrev nLaw24 : List Str := ["script", "loom", "turn", "size", "web", "shade", "here", "there", "some", "nth", "spot", "at"]
theorem scLaw24 : FnScope nLaw24 ["script"] (defScope sLaw24) := ⟨rfl, rfl, rfl, by decide +kernel, rfl, by decide +kernel, by decide +kernel⟩
structure Iz where
  p : Addr
  d : Addr
  a : Addr
  b : Addr
  dd : Addr
  s : Addr
  n : Int
  t : Int
  kvs : List (Key × V)
  ts : List V
  ars : List (Int × Int)
  sh : Int → Int
  r : List Int
  v : Int
  s0 : Option V
structure Mz (tb : Addr) (i : Iz) (H : Hp) : Prop where
  D : Loom H i.p i.d
  T : Tabs (lamT tb) H
  W : HalfW i.n H i.a i.b i.ts i.ars i.sh
  S : StW i.n H i.s i.r i.v
  hd : H i.dd = some (.dK i.kvs)
  od : i.dd ≠ i.p ∧ i.dd ≠ i.d
  kl : (i.kvs.length : Int) = i.n
  val : ∀ v, Inn i.n v → valV i.kvs (.inl v : Key) = some (.int ((i.sh v + i.sh 0) % 2))
  n12 : i.n ≤ 12
  ht : 0 ≤ i.t ∧ i.t < 3
theorem loom_ext {p d : Addr} {H H' : Hp} (D : Loom H p d) (x : ExtN H H') : Loom H' p d := by
  obtain ⟨ns, st, k, h1, h2, r⟩ := D.ex
  exact ⟨ns, st, k, x _ _ h1 (fun ps z => nomatch z), x _ _ h2 (fun ps z => nomatch z), r⟩
theorem tabs_loom {T : List (Addr × Str)} {p d : Addr} {H H' : Hp} (h : Tabs T H) (D : Loom H p d) (k : KpW p d H H') : Tabs T H' := fun q hq => by
  obtain ⟨ns, st, kk, e1, e2, _⟩ := D.ex
  obtain ⟨ps, h1, h2, h3⟩ := h q hq
  refine ⟨ps, k _ _ h1 (fun z => by rw [z, e1] at h1; cases h1) (fun z => by rw [z, e2] at h1; cases h1), h2, fun pos cv hc => ?_⟩
  obtain ⟨c, g1, g2⟩ := h3 pos cv hc
  refine ⟨c, g1, k _ _ g2 (fun z => ?_) fun z => ?_⟩
  · rw [z, e1] at g2
    have g : HO.dK _ = HO.ext _ := Option.some.inj g2
    cases g
  · rw [z, e2] at g2
    have g : HO.lst _ = HO.ext _ := Option.some.inj g2
    cases g
theorem Mz.kpw {tb : Addr} {i : Iz} {H H' : Hp} (M : Mz tb i H) (D : Loom H' i.p i.d) (k : KpW i.p i.d H H') : Mz tb i H' := ⟨D, tabs_loom M.T M.D k, M.W.keep (TupS.kpw M.D k), M.S.keep (TupS.kpw M.D k), k _ _ M.hd M.od.1 M.od.2, M.od, M.kl, M.val, M.n12, M.ht⟩
theorem Mz.same {tb : Addr} {i : Iz} {H H' : Hp} (M : Mz tb i H) (s : Same H H') : Mz tb i H' := M.kpw (M.D.same s) (.of s)
theorem Mz.ext {tb : Addr} {i : Iz} {H H' : Hp} (M : Mz tb i H) (x : ExtN H H') (T : Tabs (lamT tb) H') : Mz tb i H' := ⟨loom_ext M.D x, T, M.W.keep (TupS.extG x), M.S.keep (TupS.extG x), x _ _ M.hd (fun ps z => nomatch z), M.od, M.kl, M.val, M.n12, M.ht⟩
def IsStH (n : Int) (H : Hp) (x : V) : Prop := ∃ (s : Addr) (r : List Int) (v : Int), x = .ref s ∧ StW n H s r v
theorem IsStH.keep {n : Int} {H H' : Hp} {x : V} (h : IsStH n H x) (t : TupS H H') : IsStH n H' x := by
  obtain ⟨s, r, v, e, S⟩ := h
  exact ⟨s, r, v, e, S.keep t⟩
section
variable {P : Program} {w : World} {K : PySem.W.Frag} {mg : Str → Option Value} {base : Heap}
structure OwnsH (P : Program) (w : World) (K : PySem.W.Frag) (mg : Str → Option Value) (base : Heap) (tb : Addr) : Prop where
  loom : Own P w K mg base 1 "_law_loom" ["script"] (spLoom K)
  draw : Own P w K mg base 1 "_law_draw" ["loom", "many"] spDrawW
  broad : Own P w K mg base 5 "_law_broad" ["loom", "size"] spBroad
  shades : Own P w K mg base 1 "_law_shades" ["web"] spShades
  spot : Own P w K mg base 3 "_law_spot" ["loom", "size"] spSpotW
  walk : Own P w K mg base 3 "_law_walk" ["loom", "web", "spot", "many"] spWalkH
  swap : Own P w K mg base 3 "_law_swapped" ["loom", "spot"] spSwapW
  half : OwnG P w K mg base 14 "_law_is_half" ["web", "shade", "here", "there", "is_named", "is_full"] (spIsHalf tb)
def Z1 (tb : Addr) : L2.St → Hp → Prop := fun σ H => ∃ (i : Addr × Addr) (s0 s3 s4 s5 s6 s7 s8 s9 s10 s11 : Option V) (t : Int), σ = [s0, some (.ref i.1), some (.int t), s3, s4, s5, s6, s7, s8, s9, s10, s11] ∧ (0 ≤ t ∧ t < 3) ∧ Loom H i.1 i.2 ∧ Tabs (lamT tb) H
def Z2 (tb : Addr) : L2.St → Hp → Prop := fun σ H => ∃ (i : Addr × Addr) (s0 s4 s5 s6 s7 s8 s9 s10 s11 : Option V) (t n : Int), σ = [s0, some (.ref i.1), some (.int t), some (.int n), s4, s5, s6, s7, s8, s9, s10, s11] ∧ (0 ≤ t ∧ t < 3) ∧ (2 ≤ n ∧ n ≤ 12) ∧ Loom H i.1 i.2 ∧ Tabs (lamT tb) H
def Z2b (tb : Addr) : L2.St → Hp → Prop := fun σ H => ∃ (i : Addr × Addr) (s0 s5 s6 s7 s8 s9 s10 s11 : Option V) (t n : Int) (a b : Addr) (ts : List V) (ars : List (Int × Int)) (sh : Int → Int), σ = [s0, some (.ref i.1), some (.int t), some (.int n), some (.ref a), s5, s6, s7, s8, s9, s10, s11] ∧ (0 ≤ t ∧ t < 3) ∧ (2 ≤ n ∧ n ≤ 12) ∧ Loom H i.1 i.2 ∧ Tabs (lamT tb) H ∧ HalfW n H a b ts ars sh
def Z3 (tb : Addr) : L2.St → Hp → Prop := fun σ H => ∃ (i : Iz) (s7 s8 s9 s10 s11 : Option V), σ = [i.s0, some (.ref i.p), some (.int i.t), some (.int i.n), some (.ref i.a), some (.ref i.dd), some (.ref i.s), s7, s8, s9, s10, s11] ∧ Mz tb i H
def Z4 (tb : Addr) : L2.St → Hp → Prop := fun σ H => ∃ (i : Iz) (L : Addr) (xs : List V) (s7 s9 s10 s11 : Option V), σ = [i.s0, some (.ref i.p), some (.int i.t), some (.int i.n), some (.ref i.a), some (.ref i.dd), some (.ref i.s), s7, some (.ref L), s9, s10, s11] ∧ Mz tb i H ∧ H L = some (.lst xs) ∧ L ≠ i.p ∧ L ≠ i.d ∧ ∀ x ∈ xs, IsStH i.n H x
theorem law_body24 (B : NoNames mg) {tb : Addr} (O : OwnsH P w K mg base tb) {f : Addr} {cdv : Value} {A : Around} {outer : List Env} {s : Shared} {H : Hp} {vs : List V} {Q : VK} {E : XK}
    (hr : Room 14 (A.deeper (envOfC "law" (defScope sLaw24) s.heap.objs.size f cdv))) (hgd : (A.deeper (envOfC "law" (defScope sLaw24) s.heap.objs.size f cdv)).guards = some []) (hT : Tabs (lamT tb) H) (h : spLaw K vs H Q E) :
    ∃ t, PSs (cxOf CX0 P w K mg base nLaw24 "law" (defScope sLaw24) f cdv A outer s H E).nox (defBody sLaw24) t ∧ t { nx := fun _ H' => Q .non H', rt := Q } (start nLaw24 vs) H := by
  obtain ⟨fK, fdK, GK, mK, kK, bK⟩ := O.loom.ex
  obtain ⟨fD, fdD, GD, mD, kD, bD⟩ := O.draw.ex
  obtain ⟨fB, fdB, GB, mB, kB, bB⟩ := O.broad.ex
  obtain ⟨fC, fdC, GC, mC, kC, bC⟩ := O.shades.ex
  obtain ⟨fS, fdS, GS, mS, kS, bS⟩ := O.spot.ex
  obtain ⟨fW, fdW, GW, mW, kW, bW⟩ := O.walk.ex
  obtain ⟨fX, fdX, GX, mX, kX, bX⟩ := O.swap.ex
  obtain ⟨fI, fdI, GI, mI, kI, bI⟩ := O.half.ex
  obtain ⟨sa, ns, rfl, hS, hl, k⟩ := h
  have hr1 := hr.mono (j := 1) (by decide)
  have hr3 := hr.mono (j := 3) (by decide)
  have hr5 := hr.mono (j := 5) (by decide)
  refine ⟨_, pss_cons (ps_set (i := 1) scLaw24.nd rfl (.inl rfl) (pe_call GK hr1 rfl mK kK bK .nil pass0 (pa_cons (pv 0) pa_nil))) <|
    pss_cons (ps_for PassesOwn.never rfl (pi_range1 (by rfl) B.range (pa_cons pe_int pa_nil)) (pg_name (i := 2) scLaw24.nd rfl (.inl rfl))
      (pss_cons (ps_cut (J := Z1 tb) (J' := Z2 tb) (ps_set (i := 3) scLaw24.nd rfl (.inl rfl) (pe_ix (r := rIxL K) ix_list (pe_lst (pa_cons (pe_op (r := rI0 fun i j => .int (i + j)) op_add pe_int (pe_call GD hr1 rfl mD kD bD .nil pass0 (pa_cons (pv 1) (pa_cons pe_int pa_nil)))) (pa_cons pe_int (pa_cons (pe_op (r := rI0 fun i j => .int (i + j)) op_add pe_int (pe_call GD hr1 rfl mD kD bD .nil pass0 (pa_cons (pv 1) (pa_cons pe_int pa_nil)))) pa_nil)))) (pv 2) (fun _ _ => rfl))) ?ca) <|
       pss_cons (ps_cut (J := Z2 tb) (J' := Z2b tb) (ps_set (i := 4) scLaw24.nd rfl (.inl rfl) (pe_call GB hr5 rfl mB kB bB .nil pass0 (pa_cons (pv 1) (pa_cons (pv 3) pa_nil)))) ?cb) <|
       pss_cons (ps_cut (J := Z2b tb) (J' := Z3 tb) (ps_par (i := 5) (j := 6) rfl scLaw24.nd rfl rfl (by decide) rfl rfl (pa_cons (pe_call GC hr1 rfl mC kC bC .nil pass0 (pa_cons (pv 4) pa_nil)) (pa_cons (pe_call GS hr3 rfl mS kS bS .nil pass0 (pa_cons (pv 1) (pa_cons (pv 3) pa_nil))) pa_nil)) (by rfl)) ?cc) <|
       pss_cons (ps_if (PW.pt (pw_or (pt_cmpR op_isN (pv 5) pe_non (nomark _)) (pw_or1 (pt_cmpR op_ne (pe_callB call_lenD (by rfl) B.len PySem.boot_len (pa_cons (pv 5) pa_nil)) (pv 3) (nomark _))))) (pss_one (ps_ret pe_bl)) pss_nil) <|
       pss_cons (ps_set (i := 7) scLaw24.nd rfl (.inl rfl) (pe_call GW hr3 rfl mW kW bW .nil pass0 (pa_cons (pv 1) (pa_cons (pv 4) (pa_cons (pv 6) (pa_cons (pe_call GD hr1 rfl mD kD bD .nil pass0 (pa_cons (pv 1) (pa_cons pe_int pa_nil))) pa_nil)))))) <|
       pss_cons (ps_set (i := 8) scLaw24.nd rfl (.inl rfl) (pe_lst (pa_cons (pv 7) (pa_cons (pe_call GX hr3 rfl mX kX bX .nil pass0 (pa_cons (pv 1) (pa_cons (pv 7) pa_nil))) (pa_cons (pe_call GX hr3 rfl mX kX bX .nil pass0 (pa_cons (pv 1) (pa_cons (pe_call GX hr3 rfl mX kX bX .nil pass0 (pa_cons (pv 1) (pa_cons (pv 7) pa_nil))) pa_nil))) (pa_cons (pe_call GS hr3 rfl mS kS bS .nil pass0 (pa_cons (pv 1) (pa_cons (pv 3) pa_nil))) pa_nil)))))) <|
       pss_one (ps_cut (J := Z4 tb) (J' := Z4 tb) (ps_for PassesOwn.never rfl (pi_enum (by rfl) B.enumerate (pa_cons (pv 8) pa_nil)) (pg_tup rfl (pgs_cons (pg_name (i := 9) scLaw24.nd rfl (.inl rfl)) (pgs_cons (pg_name (i := 10) scLaw24.nd rfl (.inl rfl)) pgs_nil)))
         (pss_one (ps_for PassesOwn.never rfl (pi_tup (pe_tup (pa_cons (pe_ix (r := rIxT K) ix_tup (pv 10) pe_int (fun _ _ => rfl)) (pa_cons (pe_call GD hr1 rfl mD kD bD .nil pass0 (pa_cons (pv 1) (pa_cons (pv 3) pa_nil))) pa_nil)))) (pg_name (i := 11) scLaw24.nd rfl (.inl rfl))
           (pss_one (ps_if (pt_not (pt_val (pe_callG GI hr hgd rfl mI kI bI pass0 (pa_cons (pv 4) (pa_cons (pv 5) (pa_cons (pv 6) (pa_cons (pe_tup (pa_cons (pe_ix (r := rIxT K) ix_tup (pv 10) pe_int (fun _ _ => rfl)) (pa_cons (pv 11) pa_nil))) (pa_cons (pe_cmpR op_eq (pv 2) pe_int (nomark _))
             (pa_cons (pe_and (pe_cmpR op_eq (pv 9) (pv 2) (nomark _)) (pe_one (pe_cmpR op_eq (pv 11) (pe_ix (r := rIxT K) ix_tup (pv 10) pe_int (fun _ _ => rfl)) (nomark _)))) pa_nil))))))))) (pss_one (ps_ret pe_bl)) pss_nil))))) ?cd))) <|
    pss_one (ps_ret pe_bl), ?_⟩
  case ca =>
    rintro D0 σ H1 ⟨⟨p, d⟩, s0, s3, s4, s5, s6, s7, s8, s9, s10, s11, t, rfl, ht, D, T⟩ nx
    dsimp only at D
    refine ⟨_, rfl, p, d, 5, rfl, D, by decide, fun r H2 r0 r1 D2 k2 => ⟨_, _, rfl, rfl, ?_⟩⟩
    refine ⟨_, rfl, p, d, 5, rfl, D2, by decide, fun u H3 u0 u1 D3 k3 => ⟨_, _, rfl, rfl, by show 3 ≤ sizeLine; decide, fun L nL => ?_⟩⟩
    have r1 := r1 (by decide)
    have u1 := u1 (by decide)
    have sL := same_new (o := .lst [.int (2 + r), .int 12, .int (7 + u)]) nL
    have T2 := (tabs_loom (tabs_loom T D k2) D2 k3).ext sL
    obtain ⟨n, e, n1, n2⟩ : ∃ n : Int, atI [V.int (2 + r), .int 12, .int (7 + u)] t = some (.int n) ∧ 2 ≤ n ∧ n ≤ 12 := by
      have : t = 0 ∨ t = 1 ∨ t = 2 := by omega
      rcases this with rfl | rfl | rfl
      · exact ⟨2 + r, rfl, by omega, by omega⟩
      · exact ⟨12, rfl, by decide, by decide⟩
      · exact ⟨7 + u, rfl, by omega, by omega⟩
    exact ⟨_, rfl, L, _, t, .int n, rfl, rfl, SqL.of upd_same, e, nx _ _ ⟨(p, d), s0, s4, s5, s6, s7, s8, s9, s10, s11, t, n, rfl, ht, ⟨n1, n2⟩, D3.same sL, T2⟩⟩
  case cb =>
    rintro D0 σ H1 ⟨⟨p, d⟩, s0, s4, s5, s6, s7, s8, s9, s10, s11, t, n, rfl, ht, hn, D, T⟩ nx
    dsimp only at D
    refine ⟨_, rfl, _, rfl, p, d, n, rfl, D, hn.1, hn.2, fun a b ts ars sh H2 D2 k2 W => ?_⟩
    exact nx _ _ ⟨(p, d), s0, s5, s6, s7, s8, s9, s10, s11, t, n, a, b, ts, ars, sh, rfl, ht, hn, D2, tabs_loom T D k2, W⟩
  case cc =>
    rintro D0 σ H1 ⟨⟨p, d⟩, s0, s5, s6, s7, s8, s9, s10, s11, t, n, a, b, ts, ars, sh, rfl, ht, hn, D, T, W⟩ nx
    dsimp only at D
    refine ⟨_, rfl, a, b, n, ts, ars, rfl, W.N, W.A, W.J, fun sh2 C2 dd kvs H2 s2 nd hdd kl val => ?_, fun no => (no _ W.C).elim⟩
    have od := D.off nd
    refine ⟨_, rfl, _, rfl, p, d, n, rfl, D.same s2, by omega, hn.2, fun s r v H3 D3 k3 S => ?_⟩
    have kA := (KpW.of s2).trans k3
    refine ⟨_, _, rfl, nx _ _ ⟨⟨p, d, a, b, dd, s, n, t, kvs, ts, ars, sh2, r, v, s0⟩, s7, s8, s9, s10, s11, rfl, D3, tabs_loom T D kA, ?_, S, k3 _ _ hdd od.1 od.2, od, kl, val, hn.2, ht⟩⟩
    have W2 := W.keep (TupS.kpw D kA)
    exact ⟨W2.N, W2.A, W2.J, C2, W2.n2, W2.nr⟩
  case cd =>
    rintro D0 σ H1 ⟨i, L, xs, s7, s9, s10, s11, rfl, M, hL, oL1, oL2, al⟩ nx
    refine ⟨_, rfl, L, xs, rfl, SqL.of hL, for_it walk_enum (fun j σ Z => (∃ s9 s10 s11 : Option V, σ = [i.s0, some (.ref i.p), some (.int i.t), some (.int i.n), some (.ref i.a), some (.ref i.dd), some (.ref i.s), s7, some (.ref L), s9, s10, s11]) ∧ Mz tb i Z ∧ Z L = some (.lst xs) ∧ ∀ x ∈ xs, IsStH i.n Z x)
      ⟨⟨_, _, _, rfl⟩, M, hL, al⟩ (fun j σ Z _ h => SqL.of h.2.2.1) ?_ ?_⟩
    · clear M hL al
      rintro j x σ Hb Hc hj ⟨⟨s9, s10, s11, rfl⟩, M, hlb, al⟩ ⟨Tt, x1, x2, rfl, nT, rfl, e1, e2⟩
      obtain rfl : V.int (j : Nat) = x1 := Option.some.inj e1
      refine ⟨Tt, _, rfl, SqT.of upd_same, rfl, _, _, rfl, _, _, rfl, rfl, ?_⟩
      have sT := same_new (o := .tup [.int (j : Nat), x2]) nT
      have M1 := M.same sT
      have hl1 := sT _ _ hlb
      have al1 : ∀ x ∈ xs, IsStH i.n _ x := fun v hv => (al v hv).keep (.of sT)
      generalize (upd Hb Tt (.tup [.int (j : Nat), x2])) = H2 at M1 hl1 al1 ⊢
      obtain ⟨s2, r2, v2, rfl, S2⟩ := al1 x2 (List.mem_of_getElem? e2)
      obtain ⟨w2, g1, g2⟩ := S2.ex
      have n2 := M1.W.n2
      have n12 := M1.n12
      refine ⟨_, rfl, s2, _, 1, .int v2, rfl, rfl, SqT.of g1, at_of (j := 1) rfl rfl, _, rfl, _, rfl, i.p, i.d, i.n, rfl, M1.D, by omega, fun u H3 u0 u1 D3 k3 => ⟨by show 2 ≤ sizeLine; decide, fun G nG => ?_⟩⟩
      have u1 := u1 (by omega)
      have sG := same_new (o := .tup [.int v2, .int u]) nG
      have tG := (TupS.kpw M1.D k3).trans (.of sG)
      have M3 := (M1.kpw D3 k3).same sG
      have hl3 := sG _ _ (k3 _ _ hl1 oL1 oL2)
      have al3 : ∀ x ∈ xs, IsStH i.n (upd H3 G (.tup [.int v2, .int u])) x := fun v hv => (al1 v hv).keep tG
      have S3 := S2.keep tG
      have hG := upd_same (H := H3) (a := G) (o := .tup [.int v2, .int u])
      have i2 := S2.v
      generalize (upd H3 G (.tup [.int v2, .int u])) = H4 at M3 hl3 al3 S3 hG ⊢
      clear M M1 hl1 al1 S2 g1 g2 sG tG nG k3 D3 hlb al sT nT
      refine ⟨G, rfl, ⟨_, SqT.of hG⟩, for_it (walk_tup (xs := [.int v2, .int u])) (fun l σ Z => (∃ s11 : Option V, σ = [i.s0, some (.ref i.p), some (.int i.t), some (.int i.n), some (.ref i.a), some (.ref i.dd), some (.ref i.s), s7, some (.ref L), some (.int (j : Nat)), some (.ref s2), s11]) ∧ Mz tb i Z ∧ Z L = some (.lst xs) ∧ (∀ x ∈ xs, IsStH i.n Z x) ∧ StW i.n Z s2 r2 v2 ∧ Z G = some (.tup [.int v2, .int u]))
        ⟨⟨_, rfl⟩, M3, hl3, al3, S3, hG⟩ (fun l σ Z _ h => SqT.of h.2.2.2.2.2) ?_ ?_⟩
      · clear M3 hl3 al3 S3 hG
        rintro l x σ Hb Hc hl ⟨⟨s11, rfl⟩, M, hlb, al, S2, hG⟩ ⟨rfl, ex⟩
        obtain ⟨av, rfl, ia⟩ : ∃ av : Int, x = .int av ∧ Inn i.n av := by
          have hl : l < 2 := hl
          have : l = 0 ∨ l = 1 := by omega
          rcases this with rfl | rfl
          · exact ⟨v2, (Option.some.inj ex).symm, i2⟩
          · exact ⟨u, (Option.some.inj ex).symm, ⟨u0, u1⟩⟩
        obtain ⟨w2, g1, g2⟩ := S2.ex
        refine ⟨_, rfl, _, rfl, _, rfl, _, rfl, s2, _, 0, .ref w2, rfl, rfl, SqT.of g1, at_of (j := 0) rfl rfl, _, rfl, by show 2 ≤ sizeLine; decide, fun U nU => ?_⟩
        have sU := same_new (o := .tup [.ref w2, .int av]) nU
        have M5 := M.same sU
        have hl5 := sU _ _ hlb
        have al5 : ∀ x ∈ xs, IsStH i.n (upd Hc U (.tup [.ref w2, .int av])) x := fun v hv => (al v hv).keep (.of sU)
        have S5 := S2.keep (.of sU)
        have hG5 := sU _ _ hG
        have SU : StW i.n (upd Hc U (.tup [.ref w2, .int av])) U r2 av := ⟨⟨w2, upd_same, (TupS.of sU).rd g2⟩, S2.R, ia⟩
        have g15 := sU _ _ g1
        generalize (upd Hc U (.tup [.ref w2, .int av])) = H5 at M5 hl5 al5 S5 hG5 SU g15 ⊢
        clear M hlb al S2 hG g1 g2 sU nU
        refine ⟨_, rfl, rfl, _, rfl, _, rfl, rfl, _, rfl, ?_⟩
        by_cases c : decide (V.int ((j : Nat) : Int) = V.int i.t) = true
        · rw [c]
          refine iteT ⟨_, rfl, _, rfl, s2, _, 1, .int v2, rfl, rfl, SqT.of g15, at_of (j := 1) rfl rfl, rfl, ?_⟩
          refine ⟨i.n, i.a, i.b, i.s, U, i.dd, i.kvs, i.ts, i.ars, i.sh, i.r, r2, i.v, av, _, _, rfl, ⟨M5.W, M5.S, SU⟩, M5.n12, M5.hd, M5.val, M5.T, fun Z x T => ⟨_, rfl, ?_⟩⟩
          exact ⟨⟨_, rfl⟩, M5.ext x T, x _ _ hl5 (fun ps z => nomatch z), fun v hv => (al5 v hv).keep (TupS.extG x), S5.keep (TupS.extG x), x _ _ hG5 (fun ps z => nomatch z)⟩
        · rw [Bool.eq_false_iff.mpr c]
          refine iteF ?_
          refine ⟨i.n, i.a, i.b, i.s, U, i.dd, i.kvs, i.ts, i.ars, i.sh, i.r, r2, i.v, av, _, _, rfl, ⟨M5.W, M5.S, SU⟩, M5.n12, M5.hd, M5.val, M5.T, fun Z x T => ⟨_, rfl, ?_⟩⟩
          exact ⟨⟨_, rfl⟩, M5.ext x T, x _ _ hl5 (fun ps z => nomatch z), fun v hv => (al5 v hv).keep (TupS.extG x), S5.keep (TupS.extG x), x _ _ hG5 (fun ps z => nomatch z)⟩
      · rintro σ Hb ⟨⟨s11, rfl⟩, M, hlb, al, S2, hG⟩
        exact ⟨⟨_, _, _, rfl⟩, M, hlb, al⟩
    · rintro σ Hb ⟨⟨s9, s10, s11, rfl⟩, M, hlb, al⟩
      exact nx _ _ ⟨i, L, xs, s7, s9, s10, s11, rfl, M, hlb, oL1, oL2, al⟩
  refine ⟨_, rfl, sa, ns, rfl, hS, hl, fun p d H1 s1 np nd D => ?_⟩
  have T1 := hT.ext s1
  refine ⟨_, rfl, by decide, by decide, for_it walk_range (fun j σ Z => ∃ (p d : Addr) (s0 s2 s3 s4 s5 s6 s7 s8 s9 s10 s11 : Option V), σ = [s0, some (.ref p), s2, s3, s4, s5, s6, s7, s8, s9, s10, s11] ∧ Loom Z p d ∧ Tabs (lamT tb) Z)
    ⟨p, d, _, _, _, _, _, _, _, _, _, _, _, rfl, D, T1⟩ (fun _ _ _ _ _ => trivial) ?_ ?_⟩
  · clear D T1 hT hS s1 np nd
    rintro j x σ Hb Ha hj ⟨p, d, s0, s2, s3, s4, s5, s6, s7, s8, s9, s10, s11, rfl, D, T1⟩ ⟨rfl, rfl⟩
    have hj : j < 3 := hj
    refine ⟨⟨(p, d), s0, s3, s4, s5, s6, s7, s8, s9, s10, s11, 0 + (j : Int), rfl, ⟨by omega, by omega⟩, D, T1⟩, ?_⟩
    clear D T1
    rintro σ H2 j2
    refine ⟨j2, ?_⟩
    clear j2
    rintro σ H2 j2
    refine ⟨j2, ?_⟩
    clear j2
    rintro σ H2 ⟨i, s7, s8, s9, s10, s11, rfl, M⟩
    have n2 := M.W.n2
    have n12 := M.n12
    refine ⟨_, rfl, rfl, _, rfl, iteF ⟨_, rfl, i.dd, i.kvs, rfl, M.hd, _, rfl, rfl, _, rfl, ?_⟩⟩
    rw [show (!decide (V.int ((i.kvs.length : Nat) : Int) = V.int i.n)) = false from by rw [M.kl, decide_eq_true rfl]; rfl]
    refine iteF ⟨_, rfl, _, rfl, _, rfl, _, rfl, i.p, i.d, 30, rfl, M.D, by decide, fun y H3 y0 y1 D3 k3 => ?_⟩
    have y1 := y1 (by decide)
    obtain ⟨y, rfl⟩ := Int.eq_ofNat_of_zero_le y0
    have M3 := M.kpw D3 k3
    refine ⟨i.n, i.p, i.d, i.a, i.b, i.s, i.ts, i.ars, i.r, i.v, y, rfl, D3, M3.W.N, M3.W.A, M3.S, by omega, fun s4 r4 v4 H4 D4 k4 S4 => ?_⟩
    have M4 := M3.kpw D4 k4
    refine ⟨_, rfl, _, rfl, _, rfl, i.p, i.d, s4, i.n, r4, v4, rfl, D4, S4, by omega, n12, fun s5 ia ib H5 D5 k5 _ _ _ S5 => ?_⟩
    have M5 := M4.kpw D5 k5
    have S4a := S4.keep (TupS.kpw M4.D k5)
    refine ⟨_, rfl, _, rfl, _, rfl, i.p, i.d, s4, i.n, r4, v4, rfl, D5, S4a, by omega, n12, fun s6 ic id H6 D6 k6 _ _ _ S6 => ?_⟩
    have M6 := M5.kpw D6 k6
    have t6 := TupS.kpw M5.D k6
    refine ⟨i.p, i.d, s6, i.n, _, v4, rfl, D6, S6, by omega, n12, fun s7 ie ig H7 D7 k7 _ _ _ S7 => ?_⟩
    have M7 := M6.kpw D7 k7
    have t7 := TupS.kpw M6.D k7
    refine ⟨_, rfl, _, rfl, i.p, i.d, i.n, rfl, D7, by omega, n12, fun s8 r8 v8 H8 D8 k8 S8 => ?_⟩
    have M8 := M7.kpw D8 k8
    have t8 := TupS.kpw M7.D k8
    refine ⟨by show 4 ≤ sizeLine; decide, fun L nL => ?_⟩
    have zL := same_new (o := .lst [.ref s4, .ref s5, .ref s7, .ref s8]) nL
    have oL := M8.D.off nL
    refine ⟨⟨i, L, _, _, _, _, _, rfl, M8.same zL, upd_same, oL.1, oL.2, fun x hx => ?_⟩, ?_⟩
    · have q : IsStH i.n H8 x := by
        simp only [List.mem_cons, List.not_mem_nil, or_false] at hx
        rcases hx with rfl | rfl | rfl | rfl
        · exact ⟨_, _, _, rfl, S4a.keep (t6.trans (t7.trans t8))⟩
        · exact ⟨_, _, _, rfl, S5.keep (t6.trans (t7.trans t8))⟩
        · exact ⟨_, _, _, rfl, S7.keep t8⟩
        · exact ⟨_, _, _, rfl, S8⟩
      exact q.keep (.of zL)
    rintro σ H9 ⟨i, L, xs, s7, s9, s10, s11, rfl, M, hL, o1, o2, al⟩
    exact ⟨i.p, i.d, _, _, _, _, _, _, _, _, _, _, _, rfl, M.D, M.T⟩
  · rintro σ H3 ⟨p, d, s0, s2, s3, s4, s5, s6, s7, s8, s9, s10, s11, rfl, D3, T3⟩
    exact k H3
end
end Sw
namespace Sw
open PySem PySem.Spec PyProof.Rows L2 LamX
/-! ### the end of a law whose program makes lambdas: one code object's table is tracked -/
/-- the script and the table are known -/
def lamH (a tb : Addr) (u : Option HO) : Hp := fun b => if b = tb then some (.tbl #[]) else if b = a then u else none
theorem lamH_tb {a tb : Addr} {u : Option HO} : lamH a tb u tb = some (.tbl #[]) := if_pos rfl
theorem lamH_a {a tb : Addr} {u : Option HO} (h : a ≠ tb) : lamH a tb u a = u := (if_neg h).trans (if_pos rfl)
theorem lamH_else {a b tb : Addr} {u : Option HO} (h1 : b ≠ tb) (h2 : b ≠ a) : lamH a tb u b = none := (if_neg h1).trans (if_neg h2)
theorem call_lawT {P : Program} {w : World} {K : PySem.W.Frag} {mg mb : Str → Option Value} {fa a c tb : Addr} {s₁ : Shared} {vs : List Value} {ns : List Int} (kin : K.In s₁.heap) (hmg : s₁.heap.Ns mainGlobals mg) (hmb : s₁.heap.Ns builtinsNs mb)
    (hboot : ∀ x : Str, x ≠ "__name__" → mb x = bootBuiltins x) (nolim : s₁.heap.NoLimit) (hgen : s₁.gens = #[])
    (ht : s₁.heap.get? tb = some (PySem.W.tabObj #[])) (nt : K.lookup tb = none) (hc : PySem.W.CodeHd s₁.heap c tb)
    (hbm : ∃ (bm : Addr) (ob : Obj), mg "__builtins__" = some (.ref bm) ∧ bm ≠ builtinsNs ∧ s₁.heap.get? bm = some ob ∧ ob.cls = .type "module" ∧ ob.dict = some builtinsNs ∧ ob.data = .plain)
    (ha : s₁.heap.get? a = some { cls := .type "list", data := .seq vs.toArray }) (hi : IntsAre vs ns) (hlen : ns.length ≤ 63)
    (run : ∀ (base : Heap) (H : Hp), K.In base → base.Ns mainGlobals mg → Env0 P w K mg base callerA [] s₁ H → TabB base mg c tb → H tb = some (.tbl #[]) → SqL K H a (ns.map V.int) →
      codeAny (model P w) callerA (.call (.ref fa) ⟨[.ref a], []⟩) (CR CX0 [] P w H s₁ (fun v _ => v = .bl true) fun _ _ _ => False) s₁) :
    codeAny (model P w) callerA (.call (.ref fa) ⟨[.ref a], []⟩) (fun r s' => r = .ok (.ret (.bool true)) ∧ OldK s₁.heap s'.heap ∧ s'.os = s₁.os ∧ AllBare s'.gens) s₁ := by
  have rv := vals_ints hi
  have le63 : ns.length ≤ sizeLine := by
    rw [sizeLine_eq]
    omega
  have ne : a ≠ tb := fun z => by
    rw [z, ht] at ha
    cases ha
  have go : ∀ u : Option HO, (u = none ∨ (K.lookup a = none ∧ u = some (.frz { cls := .type "list", data := .seq vs.toArray } (.lst (ns.map V.int))))) → SqL K (lamH a tb u) a (ns.map V.int) →
      codeAny (model P w) callerA (.call (.ref fa) ⟨[.ref a], []⟩) (fun r s' => r = .ok (.ret (.bool true)) ∧ OldK s₁.heap s'.heap ∧ s'.os = s₁.os ∧ AllBare s'.gens) s₁ := by
    intro u only sq
    generalize eH : lamH a tb u = H at sq
    have atT : H tb = some (.tbl #[]) := eH ▸ lamH_tb
    have each : ∀ b, H b = none ∨ b = tb ∨ (b = a ∧ K.lookup a = none ∧ H a = some (.frz { cls := .type "list", data := .seq vs.toArray } (.lst (ns.map V.int)))) := fun b => by
      by_cases q : b = tb
      · exact .inr (.inl q)
      · by_cases z : b = a
        · rcases only with e | ⟨e1, e2⟩
          · exact .inl (by rw [z, ← eH, lamH_a ne, e])
          · exact .inr (.inr ⟨z, e1, by rw [← eH, lamH_a ne, e2]⟩)
        · exact .inl (by rw [← eH, lamH_else q z])
    -- what is neither a list nor a table without entries is not tracked
    have bare : ∀ {b : Addr} {o : Obj}, s₁.heap.get? b = some o → (∀ l n, o.data ≠ .seq l n) → o.data ≠ .fields #[] → H b = none := by
      intro b o e n1 n2
      rcases each b with q | rfl | ⟨rfl, _⟩
      · exact q
      · rw [ht] at e
        cases e
        exact (n2 rfl).elim
      · rw [ha] at e
        cases e
        exact (n1 _ _ rfl).elim
    have plain : ∀ {b : Addr} {o : Obj} {es : Array DictEntry} {ep : Nat}, s₁.heap.get? b = some o → o.data = .dict es ep → H b = none := fun e dd => bare e (fun l n z => by rw [dd] at z; cases z) fun z => by rw [dd] at z; cases z
    have spaces : ∀ {b : Addr} {m : Str → Option Value}, s₁.heap.Ns b m → (hidT s₁.heap H).Ns b m := by
      rintro b m ⟨o, es, ep, e, dd, r⟩
      exact ⟨o, es, ep, hidT_get e (plain e dd), dd, r⟩
    have kin' : K.In (hidT s₁.heap H) := by
      intro b o e
      refine hidT_get (kin b o e) ?_
      rcases each b with q | rfl | ⟨rfl, n, _⟩
      · exact q
      · rw [nt] at e
        cases e
      · rw [n] at e
        cases e
    have hok : HOk P w H s₁.heap := by
      intro b y e
      rcases each b with q | rfl | ⟨rfl, _, q⟩
      · rw [q] at e
        cases e
      · rw [atT] at e
        cases e
        exact ht
      · rw [q] at e
        cases e
        exact ⟨ha, by rw [List.length_map]; exact le63, vs, _, rv, ha⟩
    have tabs : TabB (hidT s₁.heap H) mg c tb := by
      refine ⟨?_, ?_, fun z => ?_⟩
      · obtain ⟨o, us, file, tf, flags, tg, inF, text, tt, e1, r1, r2, r3, r4, r5, r6, r7, r8, r9⟩ := hc
        refine ⟨o, us, file, tf, flags, tg, inF, text, tt, hidT_get e1 (bare e1 (fun l n z => ?_) fun z => ?_), r1, r2, r3, r4, r5, r6, r7, r8, r9⟩
        · rw [r2] at z
          cases z
        · rw [r2] at z
          cases z
          simp at r3
      · obtain ⟨bm, ob, b1, b2, b3, b4, b5, b6⟩ := hbm
        refine ⟨bm, ob, b1, b2, fun q => ?_, fun q => ?_, hidT_get b3 (bare b3 (fun l n z => ?_) fun z => ?_), b4, b5, b6⟩
        · obtain ⟨o, es, ep, e, hd, _⟩ := hmg
          rw [q, e] at b3
          cases b3
          rw [hd] at b6
          cases b6
        · rw [q, ht] at b3
          cases b3
          cases b6
        · rw [b6] at z
          cases z
        · rw [b6] at z
          cases z
      · obtain ⟨o, es, ep, e, hd, _⟩ := hmg
        rw [z, ht] at e
        cases e
        cases hd
    obtain ⟨ml, l1, l2⟩ := nolim
    have ev : Env0 P w K mg (hidT s₁.heap H) callerA [] s₁ H :=
      ⟨rfl, ⟨kin', spaces hmg, ⟨mb, spaces hmb, hboot⟩, ⟨ml, spaces l1, l2⟩⟩, fun _ _ z => of_hidT z, Nat.le_of_eq (hidT_size _ _), trivial, fun b z => (by cases z), hok, .of_eq hgen⟩
    refine codeAny_mono (run _ H kin' (spaces hmg) ev tabs atT sq) fun r s' hr => ?_
    rcases r with e | fl
    · exact False.elim hr
    rcases fl with _ | _ | _ | x
    all_goals first | exact False.elim hr | skip
    obtain ⟨v, H', os, bare', un, hok', ru, rfl⟩ := hr
    obtain rfl : x = Value.bool true := ru
    obtain ⟨more, gz⟩ := un.tbls tb #[] atT
    have grown : s'.heap.get? tb = some { cls := .none, data := .fields more } := by
      have := hok' tb _ gz
      rw [Array.empty_append] at this
      exact this
    have keeps : ∀ b o, b ≠ tb → s₁.heap.get? b = some o → s'.heap.get? b = some o := fun b o nb e => by
      rcases each b with q | q | ⟨rfl, _, q⟩
      · exact un.keep b o e q (fun z => by cases z) (fun z => by simp at z)
      · exact (nb q).elim
      · have old := (hok _ _ q).1
        have new := (hok' _ _ (un.frzs _ _ _ q)).1
        rw [e] at old
        cases old
        exact new
    refine ⟨rfl, ⟨fun b o e => ?_, fun b o e => ?_⟩, os, bare'⟩
    · by_cases hb : b = tb
      · subst hb
        rw [ht] at e
        cases e
        exact .inr (.inl ⟨(hc.tab ht).isCodeTable, rfl, #[], more, rfl, by rw [Array.empty_append]; exact grown⟩)
      · exact .inl (keeps b o hb e)
    · by_cases hb : b = tb
      · subst hb
        exact ⟨_, grown⟩
      · exact ⟨o, keeps b o hb e⟩
  cases z : K.lookup a with
  | none => exact go _ (.inr ⟨z, rfl⟩) (.inl (.inr ⟨_, lamH_a ne⟩))
  | some o =>
    have e := kin a o z
    rw [ha] at e
    cases e
    exact go none (.inl rfl) (.inr ⟨_, vs.toArray, _, z, rfl, rfl, rfl, by rw [List.size_toArray, hi.length]; exact le63, by simpa using rv⟩)
/-- the code object and the table of a def of the text -/
theorem tab_hd {K : PySem.W.Frag} {y : Str} {f c tb : Addr} {o1 o2 : Value} {d1 d2 : Option Addr} {fd : FuncData} {l1 l2 : Array (Option Value)} {us : Array Value} (_ : PySem.W.nsIn K mainGlobals y = some (some (.ref f))) (_ : K.lookup f = some ⟨o1, d1, .func fd, l1⟩)
    (_ : fd.code = .ref c) (_ : K.lookup c = some ⟨o2, d2, .fields us, l2⟩) (_ : us[11]? = some (.ref tb)) (h : PySem.W.codeHdIn K c tb = true) : PySem.W.codeHdIn K c tb = true := h
theorem walk_lawT {l : PySem.W.OpenLaw} {q : Program} {loose : List Str} {XP : (Str → Option Value) → Heap → Prop} {YP : World → Heap → Prop} {d : DefRec} {K : Params → PySem.W.Frag} {ts : List Addr} (hn : l.most = some 63) (hdf : d.params.defaults = [])
    (hY : ∀ (w : World) (h : Heap), YP w h → (K w.params).In h) (hP : ∀ (w : World) (h : Heap), YP w h → ∀ tb ∈ ts, h.get? tb = some (PySem.W.tabObj #[]))
    (F : ∀ (w : World) (mg : Str → Option Value) (fa : Addr) (h : Heap), (K w.params).In h → h.Ns mainGlobals mg → mg d.name = some (.ref fa) →
      ∃ c tb : Addr, PySem.W.codeHdIn (K w.params) c tb = true ∧ tb ∈ ts ∧ (K w.params).lookup tb = none ∧
      ∀ (base : Heap) (s₁ : Shared) (H : Hp) (a : Addr) (ns : List Int), Env0 l.prog w (K w.params) mg base callerA [] s₁ H → TabB base mg c tb → H tb = some (.tbl #[]) → SqL (K w.params) H a (ns.map V.int) → ns.length ≤ 63 →
        codeAny (model l.prog w) callerA (.call (.ref fa) ⟨[.ref a], []⟩) (CR CX0 [] l.prog w H s₁ (fun v _ => v = .bl true) fun _ _ _ => False) s₁) :
    PySem.W.WalkO q loose XP YP l.row.toRowW d [] (fun f vs => PySem.call f vs) := by
  refine Att.attach_call hn hdf fun w s₀ s₁ mg mb fa o pm cd doc a vs ns G Y _ _ _ hmg hobj hints hlen hg => ?_
  have KX := hY w _ Y
  obtain ⟨c, tb, h1, hm, h2, run⟩ := F w mg fa _ KX G.T.g hmg
  exact call_lawT KX G.T.g G.T.b G.T.builtins G.T.nolimit hg (hP w _ Y tb hm) h2 (PySem.W.codeHd_of_K KX h1) G.T.bmain hobj hints hlen fun base H _ _ ev tbs at_ sq => run base s₁ H a ns ev tbs at_ sq hlen
/-- a def of the text stands behind the top by its name, its code object told -/
def HasC (K : PySem.W.Frag) (mg : Str → Option Value) (x : Str) (st : Stmt) (c : Addr) : Prop := ∃ f fd, FunC K x x st f fd c ∧ mg x = some (.ref f)
theorem hasC_mk {K : PySem.W.Frag} {mg : Str → Option Value} {h : Heap} {x : Str} {st : Stmt} {f c : Addr} {oc kV dc pm ct : Value} {od an : Option Addr} {sl : Array (Option Value)} (X : K.In h) (G : h.Ns mainGlobals mg) (a : PySem.W.nsIn K mainGlobals x = some (some (.ref f)))
    (l : K.lookup f = some ⟨oc, od, .func (PySem.W.fnOf x x (defArgs st) (defBody st) (defScope st) .none kV dc pm an (.ref c) ct), sl⟩) (c' : PySem.W.codeIn K (.ref c) x = true) (k : PySem.W.keepIn K (.ref f) = true) : HasC K mg x st c :=
  ⟨f, _, ⟨⟨oc, od, kV, dc, pm, an, ct, sl, rfl, l, c'⟩, k⟩, PySem.W.mg_of X G a⟩
theorem HasC.own {P : Program} {w : World} {K : PySem.W.Frag} {mg : Str → Option Value} {base : Heap} {k : Nat} {x : Str} {st : Stmt} {ps : List Str} {sp : Sp} {c : Addr} (hs : HasC K mg x st c) (ok : ∀ f fd, FunC K x x st f fd c → FnOk P w K mg base CX0 k f fd ps sp)
    (b : ∀ (kV doc pm : Value) (an : Option Addr) (cdv ct : Value) (us : List Value), us.length = ps.length → bindArgs (PySem.W.fnOf x x (defArgs st) (defBody st) (defScope st) .none kV doc pm an cdv ct) ⟨us, []⟩ = pure (ps.zip us)) : Own P w K mg base k x ps sp := by
  obtain ⟨f, fd, F, m⟩ := hs
  exact ⟨f, fd, ok f fd F, m, F.fun.kp, F.fun.binds b⟩
end Sw
namespace Sw
open PySem PySem.Spec PyProof.Rows L2 PySem.W LamX
abbrev sFollower : Stmt := top 46
abbrev sFourThings : Stmt := top 47
abbrev sNames : Stmt := top 26
abbrev sRatioBy : Stmt := top 27
abbrev foursD : PyData := .tuple [.tuple [.int 0, .int 1, .int 2, .int 3], .tuple [.int 0, .int 1, .int 2, .int 4]]
theorem run_k24 {P : Program} {w : World} {K : Frag} {mg : Str → Option Value} {base : Heap} {fa a c tb : Addr} {s₁ : Shared} {H : Hp} {ns : List Int} (B : NoNames mg) (bs : mg "set" = none) (mG : mg "gcd" = some (.builtin "math.gcd")) (mP : mg "permutations" = some (.type "itertools.permutations")) (GF : GData K mg "FIVES" fivesD) (GO : GData K mg "FOURS" foursD)
    (hU : ∃ C1 C2 S, UErr2 K mg "Apart" "Unfit" "SwapError" C1 C2 S)
    (hFew : HasC K mg "fewest_from" sFew c) (hSpread : Has K mg "spread" sSpread) (hLeads : Has K mg "leads" sLeads) (hLotOf : Has K mg "lot_of" sLotOf) (hIsJ : Has K mg "is_joined" sIsJoined) (hBeat : Has K mg "beat" sPBeat) (hKind : Has K mg "kind_of" sKindOf) (hIsR : Has K mg "is_ring" sIsRing) (hIs5 : Has K mg "is_five" sIsFive)
    (hBtw : Has K mg "is_integer_between" sBetween) (hPair : Has K mg "is_pair" sPair) (hFol : Has K mg "follower" sFollower) (hPapers : Has K mg "papers" sPapers) (hIsPaper : Has K mg "is_paper" sIsPaper) (hSigns : Has K mg "are_signs_apart" sSignsApart) (hFour : Has K mg "are_four_things" sFourThings) (hNames : Has K mg "names" sNames) (hRatBy : Has K mg "ratio_by" sRatioBy)
    (hBar : Has K mg "bar" sBar) (hComes : Has K mg "comes" sComes) (hHolds : Has K mg "bar_holds" sBarHolds) (hCol : Has K mg "colours" sColours) (hOdd : Has K mg "is_odd" sPIsOdd)
    (hLoom : Has K mg "_law_loom" sLoom) (hDraw : Has K mg "_law_draw" sDrawW) (hPick : Has K mg "_law_pick" sPickW) (hMixed : Has K mg "_law_mixed" sMixedW) (hEared : Has K mg "_law_eared" sEaredW) (hWeb : Has K mg "_law_web" sWebW) (hShades : Has K mg "_law_shades" sShades) (hStep : Has K mg "_law_step" sStepW) (hSign : Has K mg "_law_sign" sSignW)
    (hSpot : Has K mg "_law_spot" sSpotW) (hWalk : Has K mg "_law_walk" sWalkW) (hSwap : Has K mg "_law_swapped" sSwapW) (hSeen : Has K mg "_law_seen" sSeenH) (hHalf : Has K mg "_law_is_half" sIsHalf) (hBroad : Has K mg "_law_broad" sBroad) (hLaw : Has K mg "law" sLaw24) (hfa : mg "law" = some (.ref fa))
    (ev : Env0 P w K mg base callerA [] s₁ H) (TB : TabB base mg c tb) (atT : H tb = some (.tbl #[])) (sq : SqL K H a (ns.map V.int)) (hlen : ns.length ≤ 63) :
    codeAny (model P w) callerA (.call (.ref fa) ⟨[.ref a], []⟩) (CR CX0 [] P w H s₁ (fun v _ => v = .bl true) fun _ _ _ => False) s₁ := by
  obtain ⟨f, fd, F, m⟩ := hLaw
  have e := hfa.symm.trans m
  cases e
  obtain ⟨g, gd, G, mg2⟩ := hSpread
  obtain ⟨C, D, S, U⟩ := hU
  obtain ⟨af, mF⟩ : ∃ af, mg "FOURS" = some (.ref af) := ⟨GO.choose, GO.choose_spec.1⟩
  have P1 : Own P w K mg base 1 "leads" ["net"] spLeads := hLeads.own (fun f fd F => ok_leads F B) fun _ _ _ _ _ _ us hl => match us, hl with | [_], _ => rfl
  have P2 : Own P w K mg base 5 "fewest_from" ["net", "stop"] (spFew tb) := hFew.own (fun f fd F => ok_few F TB G mg2 P1) fun _ _ _ _ _ _ us hl => match us, hl with | [_, _], _ => rfl
  have P3 : Own P w K mg base 6 "lot_of" ["net", "stop"] (spLotOf tb) := hLotOf.own (fun f fd F => ok_lotOf F B P2) fun _ _ _ _ _ _ us hl => match us, hl with | [_, _], _ => rfl
  have P4 : Own P w K mg base 7 "beat" ["net", "stop"] (spPBeat tb) := hBeat.own (fun f fd F => ok_pBeat F B mG P2 P3) fun _ _ _ _ _ _ us hl => match us, hl with | [_, _], _ => rfl
  have P5 : Own P w K mg base 7 "is_joined" ["net"] (spIsJoined tb) := hIsJ.own (fun f fd F => ok_isJoined F B P3) fun _ _ _ _ _ _ us hl => match us, hl with | [_], _ => rfl
  have P6 : Own P w K mg base 1 "is_ring" ["net"] spIsRing := hIsR.own (fun f fd F => ok_isRing F B) fun _ _ _ _ _ _ us hl => match us, hl with | [_], _ => rfl
  have P7 : Own P w K mg base 1 "is_five" ["net"] spIsFive := hIs5.own (fun f fd F => ok_isFive F B mP GF) fun _ _ _ _ _ _ us hl => match us, hl with | [_], _ => rfl
  have P8 : OwnX1 P w K mg base 8 "kind_of" "net" (spKind tb C) := hKind.ownX1 (fun f fd F => ok_kind F B U.a P5 P4 P6 P7) (fun _ _ _ _ _ _ us hl => match us, hl with | [_], _ => rfl) (fun _ _ _ _ _ _ _ => rfl) fun _ _ _ _ _ _ _ => rfl
  have P9 : OwnX P w K mg base 8 "colours" ["net"] (spColours tb C D) := hCol.ownX (fun f fd F => ok_colours F B U P2 P5 P4) (fun _ _ _ _ _ _ us hl => match us, hl with | [_], _ => rfl)
  have N1 : Own P w K mg base 1 "is_integer_between" ["value", "least", "most"] spNo := hBtw.own (fun f fd F => fn_no) fun _ _ _ _ _ _ us hl => match us, hl with | [_, _, _], _ => rfl
  have N2 : Own P w K mg base 1 "is_pair" ["value"] spNo := hPair.own (fun f fd F => fn_no) fun _ _ _ _ _ _ us hl => match us, hl with | [_], _ => rfl
  have N3 : Own P w K mg base 1 "follower" ["net", "standing", "thing"] spNo := hFol.own (fun f fd F => fn_no) fun _ _ _ _ _ _ us hl => match us, hl with | [_, _, _], _ => rfl
  have N4 : Own P w K mg base 1 "are_four_things" ["value"] spNo := hFour.own (fun f fd F => fn_no) fun _ _ _ _ _ _ us hl => match us, hl with | [_], _ => rfl
  have N5 : Own P w K mg base 1 "names" ["net"] spNo := hNames.own (fun f fd F => fn_no) fun _ _ _ _ _ _ us hl => match us, hl with | [_], _ => rfl
  have N6 : Own P w K mg base 1 "ratio_by" ["table", "standing", "things"] spNo := hRatBy.own (fun f fd F => fn_no) fun _ _ _ _ _ _ us hl => match us, hl with | [_, _, _], _ => rfl
  have R0 : Own P w K mg base 1 "is_odd" ["row"] (spPIsOdd K) := hOdd.own (fun f fd F => ok_pIsOdd F B) fun _ _ _ _ _ _ us hl => match us, hl with | [_], _ => rfl
  have R1 : Own P w K mg base 9 "are_signs_apart" ["net", "one", "other"] (spSigns tb) := hSigns.own (fun f fd F => ok_signs F B P9 R0) fun _ _ _ _ _ _ us hl => match us, hl with | [_, _, _], _ => rfl
  have R2 : Own P w K mg base 1 "papers" ["kind", "n"] spPapersH := hPapers.own (fun f fd F => ok_papersH F B mF) fun _ _ _ _ _ _ us hl => match us, hl with | [_, _], _ => rfl
  have R3 : Own P w K mg base 10 "is_paper" ["kind", "net", "one", "other", "value"] (spIsPaperH K tb) := hIsPaper.own (fun f fd F => ok_isPaperH F B N2 N1 N3 R1 N4 N5 N6) fun _ _ _ _ _ _ us hl => match us, hl with | [_, _, _, _, _], _ => rfl
  have R4 : OwnX3 P w K mg base 11 "bar" "net" "one" "other" (spBarH tb) := hBar.ownX3 (fun f fd F => ok_barH F B P8 R2 R3) (fun _ _ _ _ _ _ us hl => match us, hl with | [_, _, _], _ => rfl) (fun _ _ _ _ _ _ _ _ _ => rfl) (fun _ _ _ _ _ _ _ _ _ => rfl) (fun _ _ _ _ _ _ _ _ _ => rfl) fun _ _ _ _ _ _ _ _ _ => rfl
  have R5 : OwnXK P w K mg base 11 "bar" ["net", "one", "other"] ["other", "net", "one"] g312 g312 (spBarH tb) := hBar.ownX312 (fun f fd F => ok_barH F B P8 R2 R3) (fun _ _ _ _ _ _ us hl => match us, hl with | [_, _, _], _ => rfl) (fun _ _ _ _ _ _ _ _ _ => rfl)
  have R6 : OwnXK P w K mg base 12 "comes" ["net", "one", "other"] ["other", "net", "one"] g312 g312 (spComesH tb) := hComes.ownX312 (fun f fd F => ok_comesH F B R4) (fun _ _ _ _ _ _ us hl => match us, hl with | [_, _, _], _ => rfl) (fun _ _ _ _ _ _ _ _ _ => rfl)
  have R7 : OwnXK P w K mg base 11 "bar_holds" ["net", "one", "other", "value"] ["value", "other", "one", "net"] g4321 g4321 (spBarHoldsH K tb) := hHolds.ownX4321 (fun f fd F => ok_barHoldsH F B P8 R3) (fun _ _ _ _ _ _ us hl => match us, hl with | [_, _, _, _], _ => rfl) (fun _ _ _ _ _ _ _ _ _ _ => rfl)
  have L1 : Own P w K mg base 1 "_law_loom" ["script"] (spLoom K) := hLoom.own (fun f fd F => ok_loom F B) fun _ _ _ _ _ _ us hl => match us, hl with | [_], _ => rfl
  have L2 : Own P w K mg base 1 "_law_draw" ["loom", "many"] spDrawW := hDraw.own (fun f fd F => ok_drawW F B) fun _ _ _ _ _ _ us hl => match us, hl with | [_, _], _ => rfl
  have L3 : Own P w K mg base 2 "_law_pick" ["loom", "things"] spPickW := hPick.own (fun f fd F => ok_pickW F B L2) fun _ _ _ _ _ _ us hl => match us, hl with | [_, _], _ => rfl
  have L4 : Own P w K mg base 2 "_law_mixed" ["loom", "things"] spMixedW := hMixed.own (fun f fd F => ok_mixedW F B L2) fun _ _ _ _ _ _ us hl => match us, hl with | [_, _], _ => rfl
  have L5 : Own P w K mg base 3 "_law_eared" ["loom", "size", "is_even"] spEaredW := hEared.own (fun f fd F => ok_earedW F B L2 L3 L4) fun _ _ _ _ _ _ us hl => match us, hl with | [_, _, _], _ => rfl
  have L6 : Own P w K mg base 4 "_law_web" ["loom", "way", "size"] spWebE := hWeb.own (fun f fd F => ok_webE F B bs L2 L3 L4 L5) fun _ _ _ _ _ _ us hl => match us, hl with | [_, _, _], _ => rfl
  have L7 : Own P w K mg base 5 "_law_broad" ["loom", "size"] spBroad := hBroad.own (fun f fd F => ok_broad F B L2 L3 L6) fun _ _ _ _ _ _ us hl => match us, hl with | [_, _], _ => rfl
  have L8 : Own P w K mg base 1 "_law_shades" ["web"] spShades := hShades.own (fun f fd F => ok_shades F B) fun _ _ _ _ _ _ us hl => match us, hl with | [_], _ => rfl
  have L9 : Own P w K mg base 1 "_law_step" ["spot", "end"] spStepW := hStep.own (fun f fd F => ok_stepW F B) fun _ _ _ _ _ _ us hl => match us, hl with | [_, _], _ => rfl
  have LA : Own P w K mg base 1 "_law_sign" ["row"] (spSignW K) := hSign.own (fun f fd F => ok_signW F B) fun _ _ _ _ _ _ us hl => match us, hl with | [_], _ => rfl
  have LB : Own P w K mg base 3 "_law_spot" ["loom", "size"] spSpotW := hSpot.own (fun f fd F => ok_spotW F B L2 L4) fun _ _ _ _ _ _ us hl => match us, hl with | [_, _], _ => rfl
  have LC : Own P w K mg base 3 "_law_walk" ["loom", "web", "spot", "many"] spWalkH := hWalk.own (fun f fd F => ok_walkH F B L9 L3) fun _ _ _ _ _ _ us hl => match us, hl with | [_, _, _, _], _ => rfl
  have LD : Own P w K mg base 3 "_law_swapped" ["loom", "spot"] spSwapW := hSwap.own (fun f fd F => ok_swapW F B L4) fun _ _ _ _ _ _ us hl => match us, hl with | [_, _], _ => rfl
  have LE : Own P w K mg base 13 "_law_seen" ["web", "here", "there", "is_named"] (spSeenH tb) := hSeen.own (fun f fd F => ok_seenH F B R6 R5 R7) fun _ _ _ _ _ _ us hl => match us, hl with | [_, _, _, _], _ => rfl
  have LF : OwnG P w K mg base 14 "_law_is_half" ["web", "shade", "here", "there", "is_named", "is_full"] (spIsHalf tb) := hHalf.ownG (fun f fd F => ok_isHalf F B LA R6 R5 LE) fun _ _ _ _ _ _ us hl => match us, hl with | [_, _, _, _, _, _], _ => rfl
  have T0 : Tabs (lamT tb) H := fun p hp => by
    rw [List.mem_singleton.mp hp]
    exact TabS.nil atT
  have rm : Room 15 callerA := ⟨rfl, by decide, by decide⟩
  refine run_def (us := [.ref a]) (vs := [.ref a]) (Q := fun v _ => v = .bl true) (E := fun _ _ _ => False) F scLaw24 rm ev (F.binds (ps := ["script"]) (fun _ _ _ _ _ _ us hl => match us, hl with | [_], _ => rfl) s₁ [.ref a] ?_ rfl) (.cons rfl .nil) rfl fun cdv => ?_
  · exact ev.mod.kin.keeps fun b o z => (ev.bs b o z).1
  · exact law_body24 (Q := fun v _ => v = .bl true) B ⟨L1, L2, L7, L8, LB, LC, LD, LF⟩ (rm.deeper _) rfl T0 ⟨a, ns, rfl, sq, hlen, fun _ => rfl⟩
end Sw
open PySem PySem.W PyProof.Rows
set_option maxHeartbeats 0 in
theorem PySem.Challenge.cw_swapstops_k24_whole_signs_and_colours_of_holds : PySem.Challenge.rw_swapstops_k24_whole_signs_and_colours_of.Holds := by
  w_on; o_law; k_head; (case hw => w_witness2)
  k_fill
  refine Sw.walk_lawT (l := PySem.Challenge.rw_swapstops_k24_whole_signs_and_colours_of) rfl rfl (fun w h Y => PySem.W.km_in_of Y) (fun w h Y => PySem.W.km_tabs_of Y) ?F
  case F =>
    intro w mg fa h KX G hmg
    refine' ⟨_, _, Sw.tab_hd (y := PySem.Str.ofString "fewest_from") ?lamA ?lamL ?lamC ?lamK ?lamP ?lamH, ?lamM, ?lamN, ?lamG⟩
    (case lamA => k_is); (case lamL => k_is); (case lamC => rfl); (case lamK => k_is); (case lamP => rfl); (case lamH => kernel_rfl); (case lamM => decide); (case lamN => kernel_rfl)
    case lamG =>
      intro base s₁ H a ns ev TB atT sq hlen
      refine' Sw.run_k24 ?qz0h ?qz1h ?qz2h ?qz3h ?qz4h ?qz5h ?qz6h ?qz7h ?qz8h ?qz9h ?qz10h ?qz11h ?qz12h ?qz13h ?qz14h ?qz15h ?qz16h ?qz17h ?qz18h ?qz19h ?qz20h ?qz21h ?qz22h ?qz23h ?qz24h ?qz25h ?qz26h ?qz27h ?qz28h ?qz29h ?qz30h ?qz31h ?qz32h ?qz33h ?qz34h ?qz35h ?qz36h ?qz37h ?qz38h ?qz39h ?qz40h ?qz41h ?qz42h ?qz43h ?qz44h ?qz45h hmg ev TB atT sq hlen
      case qz0h =>
        refine' ⟨PySem.W.mg_none_of KX G ?zn1, PySem.W.mg_none_of KX G ?zn2, PySem.W.mg_none_of KX G ?zn3, PySem.W.mg_none_of KX G ?zn4, PySem.W.mg_none_of KX G ?zn5, PySem.W.mg_none_of KX G ?zn6, PySem.W.mg_none_of KX G ?zn7, PySem.W.mg_none_of KX G ?zn8, PySem.W.mg_none_of KX G ?zn9, PySem.W.mg_none_of KX G ?zn10, PySem.W.mg_none_of KX G ?zn11, PySem.W.mg_none_of KX G ?zn12, PySem.W.mg_none_of KX G ?zn13, PySem.W.mg_none_of KX G ?zn14, PySem.W.mg_none_of KX G ?zn15⟩
        (case zn1 => k_is); (case zn2 => k_is); (case zn3 => k_is); (case zn4 => k_is); (case zn5 => k_is); (case zn6 => k_is); (case zn7 => k_is); (case zn8 => k_is); (case zn9 => k_is); (case zn10 => k_is); (case zn11 => k_is); (case zn12 => k_is); (case zn13 => k_is); (case zn14 => k_is); (case zn15 => k_is)
      case qz1h =>
        refine' PySem.W.mg_none_of KX G ?nn1
        (case nn1 => k_is)
      case qz2h =>
        refine' PySem.W.mg_of KX G ?mm2
        (case mm2 => k_is)
      case qz3h =>
        refine' PySem.W.mg_of KX G ?mm3
        (case mm3 => k_is)
      case qz4h =>
        refine' Sw.gdata_mk KX G ?ge4 ?gk4
        (case ge4 => k_is); (case gk4 => kernel_rfl)
      case qz5h =>
        refine' Sw.gdata_mk KX G ?ge5 ?gk5
        (case ge5 => k_is); (case gk5 => kernel_rfl)
      case qz6h =>
        refine' Sw.uerr2_mk KX G ?aCx6 ?aDx6 ?aSx6 ?madex6 ?kCx6 ?basex6 ?tyx6 ?selfx6 ?e1x6 ?e2x6 ?e4x6 ?e5x6 ?e6x6 ?e7x6 ?e8x6 ?subx6 ?made2x6 ?kC2x6 ?base2x6 ?ty2x6 ?self2x6 ?f1x6 ?f2x6 ?f4x6 ?f5x6 ?f8x6 ?sub2x6 ?abx6 ?bax6
        (case aCx6 => k_is); (case aDx6 => k_is); (case aSx6 => k_is); (case madex6 => k_exc); (case kCx6 => k_is); (case basex6 => k_is); (case tyx6 => k_is); (case selfx6 => first | rfl | k_is); (case e1x6 => k_is); (case e2x6 => k_is); (case e4x6 => k_is); (case e5x6 => k_is); (case e6x6 => k_is); (case e7x6 => k_is); (case e8x6 => k_is); (case subx6 => kit_is); (case made2x6 => k_exc); (case kC2x6 => k_is); (case base2x6 => k_is); (case ty2x6 => k_is); (case self2x6 => first | rfl | k_is); (case f1x6 => k_is); (case f2x6 => k_is); (case f4x6 => k_is); (case f5x6 => k_is); (case f8x6 => k_is); (case sub2x6 => kit_is); (case abx6 => kit_is); (case bax6 => k_is)
      case qz7h =>
        refine' Sw.hasC_mk KX G ?ca7 ?cl7 ?cc7 ?ck7
        (case ca7 => k_is); (case cl7 => k_is); (case cc7 => k_is); (case ck7 => k_is)
      case qz8h =>
        refine' Sw.has_mk KX G ?va1 ?vl1 ?vc1 ?vk1
        (case va1 => k_is); (case vl1 => k_is); (case vc1 => k_is); (case vk1 => k_is)
      case qz9h =>
        refine' Sw.has_mk KX G ?va2 ?vl2 ?vc2 ?vk2
        (case va2 => k_is); (case vl2 => k_is); (case vc2 => k_is); (case vk2 => k_is)
      case qz10h =>
        refine' Sw.has_mk KX G ?va3 ?vl3 ?vc3 ?vk3
        (case va3 => k_is); (case vl3 => k_is); (case vc3 => k_is); (case vk3 => k_is)
      case qz11h =>
        refine' Sw.has_mk KX G ?va4 ?vl4 ?vc4 ?vk4
        (case va4 => k_is); (case vl4 => k_is); (case vc4 => k_is); (case vk4 => k_is)
      case qz12h =>
        refine' Sw.has_mk KX G ?va5 ?vl5 ?vc5 ?vk5
        (case va5 => k_is); (case vl5 => k_is); (case vc5 => k_is); (case vk5 => k_is)
      case qz13h =>
        refine' Sw.has_mk KX G ?va6 ?vl6 ?vc6 ?vk6
        (case va6 => k_is); (case vl6 => k_is); (case vc6 => k_is); (case vk6 => k_is)
      case qz14h =>
        refine' Sw.has_mk KX G ?va7 ?vl7 ?vc7 ?vk7
        (case va7 => k_is); (case vl7 => k_is); (case vc7 => k_is); (case vk7 => k_is)
      case qz15h =>
        refine' Sw.has_mk KX G ?va8 ?vl8 ?vc8 ?vk8
        (case va8 => k_is); (case vl8 => k_is); (case vc8 => k_is); (case vk8 => k_is)
      case qz16h =>
        refine' Sw.has_mk KX G ?va9 ?vl9 ?vc9 ?vk9
        (case va9 => k_is); (case vl9 => k_is); (case vc9 => k_is); (case vk9 => k_is)
      case qz17h =>
        refine' Sw.has_mk KX G ?va10 ?vl10 ?vc10 ?vk10
        (case va10 => k_is); (case vl10 => k_is); (case vc10 => k_is); (case vk10 => k_is)
      case qz18h =>
        refine' Sw.has_mk KX G ?va11 ?vl11 ?vc11 ?vk11
        (case va11 => k_is); (case vl11 => k_is); (case vc11 => k_is); (case vk11 => k_is)
      case qz19h =>
        refine' Sw.has_mk KX G ?va12 ?vl12 ?vc12 ?vk12
        (case va12 => k_is); (case vl12 => k_is); (case vc12 => k_is); (case vk12 => k_is)
      case qz20h =>
        refine' Sw.has_mk KX G ?va13 ?vl13 ?vc13 ?vk13
        (case va13 => k_is); (case vl13 => k_is); (case vc13 => k_is); (case vk13 => k_is)
      case qz21h =>
        refine' Sw.has_mk KX G ?va14 ?vl14 ?vc14 ?vk14
        (case va14 => k_is); (case vl14 => k_is); (case vc14 => k_is); (case vk14 => k_is)
      case qz22h =>
        refine' Sw.has_mk KX G ?va15 ?vl15 ?vc15 ?vk15
        (case va15 => k_is); (case vl15 => k_is); (case vc15 => k_is); (case vk15 => k_is)
      case qz23h =>
        refine' Sw.has_mk KX G ?va16 ?vl16 ?vc16 ?vk16
        (case va16 => k_is); (case vl16 => k_is); (case vc16 => k_is); (case vk16 => k_is)
      case qz24h =>
        refine' Sw.has_mk KX G ?va17 ?vl17 ?vc17 ?vk17
        (case va17 => k_is); (case vl17 => k_is); (case vc17 => k_is); (case vk17 => k_is)
      case qz25h =>
        refine' Sw.has_mk KX G ?va18 ?vl18 ?vc18 ?vk18
        (case va18 => k_is); (case vl18 => k_is); (case vc18 => k_is); (case vk18 => k_is)
      case qz26h =>
        refine' Sw.has_mk KX G ?va19 ?vl19 ?vc19 ?vk19
        (case va19 => k_is); (case vl19 => k_is); (case vc19 => k_is); (case vk19 => k_is)
      case qz27h =>
        refine' Sw.has_mk KX G ?va20 ?vl20 ?vc20 ?vk20
        (case va20 => k_is); (case vl20 => k_is); (case vc20 => k_is); (case vk20 => k_is)
      case qz28h =>
        refine' Sw.has_mk KX G ?va21 ?vl21 ?vc21 ?vk21
        (case va21 => k_is); (case vl21 => k_is); (case vc21 => k_is); (case vk21 => k_is)
      case qz29h =>
        refine' Sw.has_mk KX G ?va22 ?vl22 ?vc22 ?vk22
        (case va22 => k_is); (case vl22 => k_is); (case vc22 => k_is); (case vk22 => k_is)
      case qz30h =>
        refine' Sw.has_mk KX G ?va23 ?vl23 ?vc23 ?vk23
        (case va23 => k_is); (case vl23 => k_is); (case vc23 => k_is); (case vk23 => k_is)
      case qz31h =>
        refine' Sw.has_mk KX G ?va24 ?vl24 ?vc24 ?vk24
        (case va24 => k_is); (case vl24 => k_is); (case vc24 => k_is); (case vk24 => k_is)
      case qz32h =>
        refine' Sw.has_mk KX G ?va25 ?vl25 ?vc25 ?vk25
        (case va25 => k_is); (case vl25 => k_is); (case vc25 => k_is); (case vk25 => k_is)
      case qz33h =>
        refine' Sw.has_mk KX G ?va26 ?vl26 ?vc26 ?vk26
        (case va26 => k_is); (case vl26 => k_is); (case vc26 => k_is); (case vk26 => k_is)
      case qz34h =>
        refine' Sw.has_mk KX G ?va27 ?vl27 ?vc27 ?vk27
        (case va27 => k_is); (case vl27 => k_is); (case vc27 => k_is); (case vk27 => k_is)
      case qz35h =>
        refine' Sw.has_mk KX G ?va28 ?vl28 ?vc28 ?vk28
        (case va28 => k_is); (case vl28 => k_is); (case vc28 => k_is); (case vk28 => k_is)
      case qz36h =>
        refine' Sw.has_mk KX G ?va29 ?vl29 ?vc29 ?vk29
        (case va29 => k_is); (case vl29 => k_is); (case vc29 => k_is); (case vk29 => k_is)
      case qz37h =>
        refine' Sw.has_mk KX G ?va30 ?vl30 ?vc30 ?vk30
        (case va30 => k_is); (case vl30 => k_is); (case vc30 => k_is); (case vk30 => k_is)
      case qz38h =>
        refine' Sw.has_mk KX G ?va31 ?vl31 ?vc31 ?vk31
        (case va31 => k_is); (case vl31 => k_is); (case vc31 => k_is); (case vk31 => k_is)
      case qz39h =>
        refine' Sw.has_mk KX G ?va32 ?vl32 ?vc32 ?vk32
        (case va32 => k_is); (case vl32 => k_is); (case vc32 => k_is); (case vk32 => k_is)
      case qz40h =>
        refine' Sw.has_mk KX G ?va33 ?vl33 ?vc33 ?vk33
        (case va33 => k_is); (case vl33 => k_is); (case vc33 => k_is); (case vk33 => k_is)
      case qz41h =>
        refine' Sw.has_mk KX G ?va34 ?vl34 ?vc34 ?vk34
        (case va34 => k_is); (case vl34 => k_is); (case vc34 => k_is); (case vk34 => k_is)
      case qz42h =>
        refine' Sw.has_mk KX G ?va35 ?vl35 ?vc35 ?vk35
        (case va35 => k_is); (case vl35 => k_is); (case vc35 => k_is); (case vk35 => k_is)
      case qz43h =>
        refine' Sw.has_mk KX G ?va36 ?vl36 ?vc36 ?vk36
        (case va36 => k_is); (case vl36 => k_is); (case vc36 => k_is); (case vk36 => k_is)
      case qz44h =>
        refine' Sw.has_mk KX G ?va37 ?vl37 ?vc37 ?vk37
        (case va37 => k_is); (case vl37 => k_is); (case vc37 => k_is); (case vk37 => k_is)
      case qz45h =>
        refine' Sw.has_mk KX G ?va38 ?vl38 ?vc38 ?vk38
        (case va38 => k_is); (case vl38 => k_is); (case vc38 => k_is); (case vk38 => k_is)
