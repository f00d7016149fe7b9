import PyProof.Rows.All
import Wide.All
import OpenK.AllK
import Wide.FinOn
import KE.KExcSuper
import HandS.ForExc
import HandS.ExcInit
import HandS.ExcValue
import KE.KExcStr
import PyProof.ReprReads
import PyProof.ReprLen
import PyProof.StrHeap
import HandS.Call
import HandS.IsInst
import KE.KExcIs
import HandS.ForMost
import HandS.Walk
import KE.GoesMore
import KE.GoesEnum
import PyProof.Draws
import HandS.TupLe
import KE.KEqSeq
import HandS.Conv
import HandS.Style
import HandS.TupAny
import PyProof.NeKinds
import HandS.Wide
import KE.KDictPairs
import HandS.SortRule
import HandS.DictSub
import HandS.WordsDict
import HandS.TupSets
import PyProof.SetRoads
import HandS.Zip
import HandS.Ends
import HandS.TupMul
import PySem.Challenge.RW_swapstops_k09_what_is_a_journey
set_option Elab.async false
set_option linter.all false
set_option maxRecDepth 100000
set_option maxHeartbeats 4000000
namespace Sw
open PySem PySem.Spec PyProof.Rows PySem.W
/-- an exception's record -/
abbrev xRec (C : Addr) (d : Option Addr) (t : Addr) : Obj := { cls := .ref C, dict := d, data := .fields #[.ref t, .none, .none, .none, .bool false, .none] }
abbrev xTup (vs : List Value) : Obj := { cls := .type "tuple", data := .seq vs.toArray }
/-- what the written part says of an own exception's class over ValueError -/
structure XCls (K : Frag) (C : Addr) : Prop where
  cls : ∃ nm q N bs bm sn sub ab col dd k0 k1 k2 k3 k5, K.lookup C = some (excClassObj nm q C N bs bm true sn sub ab col dd k0 k1 k2 k3 k5 "ValueError.__new__") ∧ PySem.HandSPX.refsVE bm = true
  sa : findIn K (.ref C) "__setattr__" = some (some (.builtin "object.__setattr__"))
  opq : nsIn K cStatics "thirdparty.any" = some none
  kp : keepIn K (.ref C) = true
section
variable {P : Program} {w : World} {A : Around} {E : Value → Shared → Prop} {h : Heap} {g : Array GenState} {d : Drawn} {t : Nat} {os : OsState} {K : Frag} {C x : Addr}
/-- super().__init__ as it was bound, called: the args are laid anew -/
theorem bound_call (T : XCls K C) (X : K.In h) {u t0 : Addr} {dv : Option Addr} {rest : List Value} {Q : Value → Shared → Prop}
    (hu : h.get? u = some (kxs_mw "ValueError.__init__" x)) (hx : h.get? x = some (xRec C dv t0)) (hz : rest.length ≤ sizeLine)
    (hq : ∀ h' t1, (∀ b o, b ≠ x → h.get? b = some o → h'.get? b = some o) → h.get? t1 = none → t1 ≠ x → h'.get? x = some (xRec C dv t1) → h'.get? t1 = some (xTup rest) → Q .none ⟨h', g, d, t, os⟩) :
    wpAny (model P w) A (call (.ref u) rest) Q E ⟨h, g, d, t, os⟩ := by
  obtain ⟨nm, q, N, bs, bm, sn, sub, ab, col, dd, k0, k1, k2, k3, k5, hC, hbm⟩ := T.cls
  refine wpAny_call (codeAny_of_tree ?_)
  show wpAny _ A.in1 (callAny (.ref u) ⟨rest, []⟩) _ _ _
  simp only [callAny]
  refine wpAny_bind (wpAny_load hu ?_)
  simp only [kxs_mw, show (Value.type "method-wrapper" == Value.type "method" || Value.type "method-wrapper" == Value.type "builtin_function_or_method" || Value.type "method-wrapper" == Value.type "method-wrapper") = true by decide, if_true]
  refine KFB.if_so (by decide) ?_
  refine wpAny_bind (check_bound_init PySem.F.excBase_ValueError.toExcCallFacts (X _ _ hC) hx rfl ?_)
  refine wpAny_bind (wpAny_pure (wpAny_pure ?_))
  refine ⟨plainId_quiet PySem.F.excBase_ValueError.init.plain _, codeAny_builtin PySem.F.excBase_ValueError.initEntry ?_⟩
  refine exc_init_tree (cls := .ref C) (t0 := t0) (dv := dv) (c2 := .none) (c3 := .none) (b4 := .bool false) hx hz fun h' k e1 e2 => ?_
  refine hq h' h.objs.size k (Heap.get?_none_of_le (Nat.le_refl _)) (fun z => ?_) e1 e2
  rw [← z] at hx
  exact absurd (Heap.lt_size hx) (Nat.lt_irrefl _)
end
end Sw
namespace Sw
open PySem PySem.Spec PyProof.Rows PySem.W PySem.Calls
/-- the body that super().__init__(msg); self.fld = prm makes -/
abbrev initBody (msg fld prm : Str) (j : Nat) (p0 p1 p2 p3 p4 p5 p6 p7 p8 p9 : Pos) : List Stmt :=
  [.Expr (.Call (.Attribute (.Call (.Name "super" p0) [] [] p1) "__init__" p2) [.Constant (.str msg) j p3] [] p4) p5,
   .Assign [.Attribute (.Name "self" p6) fld p7] (.Name prm p8) p9]
theorem call_base {o : Expr} {name : Str} {apos pos : Pos} {e : Expr} {env : Env} (hl : (apos.endLine == pos.line) = true) (hs : starEach [e] env = [(false, eval e env)]) :
    eval (.Call (.Attribute o name apos) [e] [] pos) env = (do
      let ov ← attributeBase o name env (eval o env)
      standAt apos.atName
      let (f, first) ← holding [ov] (getMethod ov name (do return (← importBound o env).getD true))
      callWith pos f first (backTo pos (starEach [e] env)) []) := by
  have e2 : methodCallPos true o env apos pos = pure pos := by
    unfold methodCallPos
    rw [hl]
    rfl
  show (do
    let ov ← attributeBase o name env (eval o env)
    standAt apos.atName
    methodCall o name apos pos env ov 1 (backTo pos (starEach [e] env)) (backToKw pos (keywordEach [] env))) = _
  unfold methodCall
  rw [hs]
  show (do
    let ov ← attributeBase o name env (eval o env)
    standAt apos.atName
    let (f, first) ← holding [ov] (calleeOf true o env ov name)
    let callPos ← methodCallPos true o env apos pos
    callWith callPos f first (backTo pos [(false, eval e env)]) []) = _
  rw [e2]
  simp only [pure_bind]
  rfl
abbrev initScope (prm : Str) : Scope := { kind := .function, names := [(PySem.Str.ofString "self", .local), (prm, .local), (PySem.Str.ofString "__class__", .free), (PySem.Str.ofString "super", .globalImplicit)], isGenerator := false, isCoroutine := false, more := [] }
/-- what the written part says of the def __init__ of such a class -/
structure XInit (K : Frag) (C fI : Addr) (msg fld prm file : Str) : Prop where
  ex : ∃ (qual : Str) (j : Nat) (p0 p1 p2 p3 p4 p5 p6 p7 p8 p9 : Pos) (params : Arguments) (dV kV doc pm ct oc ccl cl : Value) (an od cdd cld : Option Addr) (osl ccs csl : Array (Option Value)) (cc cda : Addr) (vs : Array Value) (tf : Tok) (ar : Arg),
    K.lookup fI = some ⟨oc, od, .func (ksFn "__init__" qual params (initBody msg fld prm j p0 p1 p2 p3 p4 p5 p6 p7 p8 p9) (initScope prm) dV kV doc pm an (.ref cda) ct cc), osl⟩ ∧
    codeIn K (.ref cda) qual = true ∧ K.lookup cda = some ⟨ccl, cdd, .fields vs, ccs⟩ ∧ vs[2]? = some (.str file tf) ∧ K.lookup cc = some ⟨cl, cld, .cell (some (.ref C)), csl⟩ ∧
    (p2.endLine == p4.line) = true ∧ (params.posonlyargs ++ params.args).head? = some ar ∧ ar.arg = "self" ∧
    (∀ a u : Value, bindArgs (ksFn "__init__" qual params (initBody msg fld prm j p0 p1 p2 p3 p4 p5 p6 p7 p8 p9) (initScope prm) dV kV doc pm an (.ref cda) ct cc) ⟨[a, u], []⟩ = pure [(("self" : Str), a), (prm, u)])
  pn : ¬ prm = "self"
  pc : ¬ prm = "__class__"
  ps : ¬ prm = "super"
  pd : (prm == ("__debug__" : Str)) = false
  su : ks_superIn K C C "__init__" = some (some (.builtin "ValueError.__init__"))
  sub : subIn K (.ref C) (.type "ValueError") = some true
  self : mroIn K C (.ref C) = some true
  nf : findIn K (.ref C) fld = some none
  ty : typeIn K (.ref fI) = some (.type "function")
  fi : findIn K (.ref C) "__init__" = some (some (.ref fI))
section
variable {P : Program} {w : World} {A : Around} {E : Value → Shared → Prop} {h : Heap} {g : Array GenState} {d : Drawn} {t : Nat} {os : OsState} {K : Frag} {C x fI t0 : Addr} {mg mb : Str → Option Value} {u : Value} {msg fld prm file : Str}
theorem init_code (T : XCls K C) (F : XInit K C fI msg fld prm file) (X : K.In h) {R : Result → Shared → Prop}
    (hroom : A.depth < recursionLimit) (hlim : h.NoLimit) (hmg : h.Ns mainGlobals mg) (hmb : h.Ns builtinsNs mb) (hg : mg "super" = none) (hb : mb "super" = some (.type "super"))
    (hfile : ((P.main.file : Str) == file) = true) (htop : (P.main.scope.names.lookup ("super" : Str)).isSome = false)
    (hx : h.get? x = some (xRec C none t0)) (hxK : K.lookup x = none)
    (hq : ∀ h' tk t1 dx, (∀ b o, b ≠ x → h.get? b = some o → h'.get? b = some o) → h.get? t1 = none → t1 ≠ x → h'.get? x = some (xRec C (some dx) t1) → (∃ tm, h'.get? t1 = some (xTup [.str msg tm])) → h.get? dx = none → dx ≠ x → dx ≠ t1 → (∃ o, h'.get? dx = some o) → R (.ok (.ret .none)) ⟨h', g, d, tk, os⟩) :
    codeAny (model P w) A (.call (.ref fI) ⟨[.ref x, u], []⟩) R ⟨h, g, d, t, os⟩ := by
  obtain ⟨nm, q, N, bs, bm, sn, sub, ab, col, dd, k0, k1, k2, k3, k5, hC, hbm⟩ := T.cls
  obtain ⟨qual, j, p0, p1, p2, p3, p4, p5, p6, p7, p8, p9, params, dV, kV, doc, pm, ct, oc, ccl, cl, an, od, cdd, cld, osl, ccs, csl, cc, cda, vs, tf, ar, lk, hcd, hcda, hvs, hcc, hln, har, hself, hbind⟩ := F.ex
  have ne1 : (("__class__" : Str) == "self") = false := by decide
  have ne2 : (("super" : Str) == "self") = false := by decide
  have ne3 : (("super" : Str) == "__class__") = false := by decide
  have nb : ∀ {a b : Str}, ¬ b = a → (a == b) = false := fun h => beq_eq_false_iff_ne.mpr fun z => h z.symm
  have hsl : (initScope prm).names.lookup ("self" : Str) = some .local := by
    show List.lookup ("self" : Str) ((("self" : Str), NameKind.local) :: _) = _
    rw [List.lookup_cons_self]
  have hpl : (initScope prm).names.lookup prm = some .local := by
    show List.lookup prm ((("self" : Str), NameKind.local) :: (prm, NameKind.local) :: _) = _
    rw [List.lookup_cons, beq_eq_false_iff_ne.mpr F.pn, List.lookup_cons_self]
  have hcls : (initScope prm).names.lookup ("__class__" : Str) = some .free := by
    show List.lookup ("__class__" : Str) ((("self" : Str), NameKind.local) :: (prm, NameKind.local) :: (("__class__" : Str), NameKind.free) :: _) = _
    rw [List.lookup_cons, ne1, List.lookup_cons, nb F.pc, List.lookup_cons_self]
  have hsup : (initScope prm).names.lookup ("super" : Str) = some .globalImplicit := by
    show List.lookup ("super" : Str) ((("self" : Str), NameKind.local) :: (prm, NameKind.local) :: (("__class__" : Str), NameKind.free) :: (("super" : Str), NameKind.globalImplicit) :: _) = _
    rw [List.lookup_cons, ne2, List.lookup_cons, nb F.ps, List.lookup_cons, ne3, List.lookup_cons_self]
  have hncell : ∀ x ∈ (initScope prm).names, x.2 ≠ .cell := fun x hx => by
    simp at hx
    rcases hx with rfl | rfl | rfl | rfl <;> (intro z; cases z)
  have hk : (initScope prm).kind = .function := rfl
  have hcl : clsIn K C = some { name := nm, bases := bs, mro := .ref C :: bm, ns := N, qualname := q, hasDict := true, slotNames := sn, subclasses := sub, abstract := ab, collection := col, hasDel := false } := by unfold clsIn; rw [hC] <;> rfl
  have hCd : ∃ cd, h.get? C = some (excClassObj nm q C N bs bm true sn sub ab col dd k0 k1 k2 k3 k5 "ValueError.__new__") ∧ (excClassObj nm q C N bs bm true sn sub ab col dd k0 k1 k2 k3 k5 "ValueError.__new__").data = .cls cd := ⟨_, X _ _ hC, rfl⟩
  obtain ⟨cdC, hC1, hC2⟩ := hCd
  have hloc : ∀ y ∈ [(("self" : Str), Value.ref x), (prm, u)], (initScope prm).names.lookup y.1 = some .local := fun y hy => by
    rcases List.mem_cons.mp hy with rfl | hy
    · exact hsl
    · obtain rfl := List.mem_singleton.mp hy
      exact hpl
  refine ks_codeAny_call_defAt (fd := ksFn "__init__" qual params (initBody msg fld prm j p0 p1 p2 p3 p4 p5 p6 p7 p8 p9) (initScope prm) dV kV doc pm an (.ref cda) ct cc) (binds := [(("self" : Str), Value.ref x), (prm, u)]) hroom (X _ _ lk) rfl hlim (codeRec_of X hcd) rfl (.of_eq (hbind _ _)) hncell hloc (fun h1 hns k1 => ?_) rfl rfl hk
  have mp : ([(("self" : Str), Value.ref x), (prm, u)].reverse.lookup prm) = some u := by
    show List.lookup prm [(prm, u), (("self" : Str), Value.ref x)] = some u
    rw [List.lookup_cons_self]
  have ms : ([(("self" : Str), Value.ref x), (prm, u)].reverse.lookup ("self" : Str)) = some (.ref x) := by
    show List.lookup ("self" : Str) [(prm, u), (("self" : Str), Value.ref x)] = some (.ref x)
    have e : (("self" : Str) == prm) = false := beq_eq_false_iff_ne.mpr fun z => F.pn z.symm
    rw [List.lookup_cons, e, List.lookup_cons_self]
  -- super().__init__(msg)
  refine ks_wpAt_execs_cons (ks_wpAt_Expr_any (ks_wpAt_MethodCall ?_ (call_base hln rfl)))
  refine ks_wpAt_super_base (env := ksEnv qual (initScope prm) h.objs.size fI (.ref cda) cc) (ar := ar) hsup hcls (by decide) rfl (k1 _ _ (X _ _ lk)) rfl har rfl (k1 _ _ (X _ _ hcda)) rfl hvs hfile htop ?_
  refine ks_loadName_global hk hsup (loadGlobal_builtin (env := ksEnv qual (initScope prm) h.objs.size fI (.ref cda) cc) (hmg.keeps k1) hg (hmb.keeps k1) hb ⟨rfl, ?_⟩)
  refine wpAny_loadName_free hk hcls rfl ⟨_, k1 _ _ (X _ _ hcc), rfl⟩ ?_
  rw [hself]
  refine wpAny_loadName_local hk hsl hns ms ?_
  refine ks_wpAny_isType_cls (k1 _ _ hC1) hC2 ⟨rfl, ?_⟩
  have X1 : K.In h1 := X.keeps k1
  refine ks_wpAny_call_super (k1 _ _ hC1) hC2 (k1 _ _ hx) rfl (fun c e => by cases e) (looks_mroIn X1 F.self) (fun h2 eso k2 => ?_)
  have X2 : K.In h2 := X1.keeps k2
  have hx2 := k2 _ _ (k1 _ _ hx)
  have I2 : InstAt h2 x (xRec C none t0) C none := ⟨hx2, rfl, rfl, trivial⟩
  have hm := F.su
  unfold ks_superIn at hm
  rw [hcl] at hm
  refine kxs_getMethod kxs_ValueError eso (looks_opaque X2 T.opq) (l₀ := .ref C :: bm) ?_ rfl X2 hm (I2.type.andThen (looks_subIn X2 F.sub)) (ks_ne X2 I2 hcl) (by decide) ?_
  · exact fun A Q E s k q => wpAny_bind ((looks_clsIn X2 hcl) A _ E s k (wpAny_pure q))
  have k3 : ∀ b o, h2.get? b = some o → (h2.push (kxs_mw "ValueError.__init__" x)).get? b = some o := fun b o e => Heap.get?_push_of_some _ e
  have hu3 : (h2.push (kxs_mw "ValueError.__init__" x)).get? h2.objs.size = some (kxs_mw "ValueError.__init__" x) := Heap.get?_push_at rfl rfl
  refine kxs_callWith (i := "ValueError.__init__") (x := x) rfl (evalArgs_plain ?_)
  show wpAny _ _ (spliced ((false, eval (.Constant (.str msg) j p3) _) :: backTo p4 (starEach [] _))) _ _ _
  refine Calls.spliced_cons (Calls.Constant_str ?_)
  refine Calls.spliced_nil ⟨hu3, ?_⟩
  show wpAny _ _ (call (.ref h2.objs.size) [.str msg _]) _ _ _
  refine bound_call T (X2.keeps k3) hu3 (k3 _ _ hx2) (by show 1 ≤ sizeLine; rw [sizeLine_eq]; omega) fun h4 t1 k4 nt1 nx e1 e2 => ?_
  -- self.fld = prm
  have kAll : ∀ b o, b ≠ x → h.get? b = some o → h4.get? b = some o := fun b o hb e => k4 b o hb (k3 _ _ (k2 _ _ (k1 _ _ e)))
  have hLx : h.objs.size ≠ x := fun z => by
    rw [← z] at hx
    exact absurd (Heap.lt_size hx) (Nat.lt_irrefl _)
  have hns4 : h4.Ns h.objs.size fun z => List.lookup z [(("self" : Str), Value.ref x), (prm, u)].reverse := by
    obtain ⟨o, es, ep, ho, r⟩ := hns
    exact ⟨o, es, ep, k4 _ _ hLx (k3 _ _ (k2 _ _ ho)), r⟩
  have X4 : K.In h4 := fun b o e => kAll b o (fun z => by
    rw [z, hxK] at e
    cases e) (X _ _ e)
  refine ks_wpAt_execs_cons (wpAt_of_wpAny (plainObj_wpAny_Assign_Attribute ?_))
  refine wpAny_Name (wpAny_loadName_local hk hpl hns4 mp ?_) F.pd
  refine wpAny_Name (wpAny_loadName_local hk hsl hns4 ms ?_) (by decide)
  refine set_plain X4 (ox := xRec C none t1) (od := none) ⟨e1, rfl, rfl, trivial⟩ T.sa ?_
  refine PySem.HandSPX.exc_osa X4 e1 hcl (show PySem.HandSPX.refsVE (.ref C :: bm) = true from hbm) rfl F.nf (fun h5 tk' dx k5 dn dne hx5 hn5 => ?_)
  refine wpAt_of_wpAny (wpAny_pure ?_)
  obtain ⟨oD, es, ep, hoD, hdD, _⟩ := hn5
  have e2' := k5 _ _ nx e2
  refine hq h5 tk' t1 dx (fun b o hb e => k5 b o hb (kAll b o hb e)) ?_ nx hx5 ⟨_, e2'⟩ ?_ dne (fun z => ?_) ⟨oD, hoD⟩
  rotate_left
  · cases e : h.get? dx with
    | none => rfl
    | some o =>
      have hb : dx ≠ x := dne
      exact absurd (Heap.lt_size (kAll _ _ hb e)) (Nat.not_lt.mpr dn)
  · rw [z, e2'] at hoD
    obtain rfl := Option.some.inj hoD
    cases hdD
  cases e : h.get? t1 with
  | none => rfl
  | some o =>
    rw [k3 _ _ (k2 _ _ (k1 _ _ e))] at nt1
    cases nt1
end
end Sw
namespace Sw
open PySem PySem.Spec PyProof.Rows L2
/-- an exception of the class at C that was made, its args at t -/
def xV (C t : Addr) (d : Option Addr) (a : Addr) : HO := .ext fun h => h.get? a = some (xRec C d t)
theorem xV_ok {P : Program} {w : World} {H : Hp} {h : Heap} {C t a : Addr} {d : Option Addr} (e : h.get? a = some (xRec C d t)) : ObjOk P w H h a (xV C t d a) :=
  ⟨e, ⟨_, e⟩, fun _ _ z k => k _ z⟩
theorem xV_at {P : Program} {w : World} {H : Hp} {h : Heap} {C t a : Addr} {d : Option Addr} (ok : HOk P w H h) (e : H a = some (xV C t d a)) : h.get? a = some (xRec C d t) := by
  have x : ObjOk P w H h a (.ext fun h => h.get? a = some (xRec C d t)) := ok a _ e
  exact x.1
section
variable {X : Cx} {pins : List (Addr × Obj)} {σ : L2.St} {H : Hp} {s : Shared}
/-- two new objects laid -/
theorem laid2 {h' : Heap} {a b : Addr} {o u : HO} {t' : Nat} (I : Inv X pins σ H s) (k : ∀ c v, s.heap.get? c = some v → h'.get? c = some v) (ha : s.heap.get? a = none) (hb : s.heap.get? b = none) (ne : b ≠ a)
    (new : ObjOk X.prog X.w (upd (upd H b u) a o) h' a o) (new2 : ObjOk X.prog X.w (upd (upd H b u) a o) h' b u) : Inv X pins σ (upd (upd H b u) a o) { s with heap := h', toks := t' } := by
  have na : H a = none := I.hok.gone ha
  have nb : H b = none := I.hok.gone hb
  have up : ∀ {c : Addr} {v : HO}, H c = some v → (upd (upd H b u) a o) c = some v := fun {c v} e => by
    rw [upd_ne (ne_of_none e na), upd_ne (ne_of_none e nb)]
    exact e
  have old : ∀ {c : Addr} {v : Obj}, s.heap.get? c = some v → c ≠ a ∧ c ≠ b := fun {c v} e => by
    constructor
    · intro z
      rw [z, ha] at e
      cases e
    · intro z
      rw [z, hb] at e
      cases e
  refine I.un ⟨fun c v e _ _ _ => k c v e, fun c v e _ _ _ => ⟨v.slots, k c v e⟩, fun c v e n _ => ?_, fun c v e _ => ⟨v, k c v e⟩, fun c xs e => up e, fun c v xs e => up e, fun c ps e => ⟨#[], by rw [up e]; simp⟩⟩ fun c v e => ?_
  · rw [upd_ne (old e).1, upd_ne (old e).2]
    exact n
  · by_cases ca : c = a
    · subst ca
      rw [upd_same] at e
      cases e
      exact new
    · by_cases cb : c = b
      · subst cb
        rw [upd_ne ca, upd_same] at e
        cases e
        exact new2
      · rw [upd_ne ca, upd_ne cb] at e
        exact (I.hok c v e).stay (fun d q _ z => k d q z) (fun d z => up z) fun d xs z => up z
/-- three -/
theorem laid3 {h' : Heap} {a b c : Addr} {o u v : HO} {t' : Nat} (I : Inv X pins σ H s) (k : ∀ x y, s.heap.get? x = some y → h'.get? x = some y) (ha : s.heap.get? a = none) (hb : s.heap.get? b = none) (hc : s.heap.get? c = none) (ne : b ≠ a) (ca : c ≠ a) (cb : c ≠ b)
    (new : ObjOk X.prog X.w (upd (upd (upd H c v) b u) a o) h' a o) (new2 : ObjOk X.prog X.w (upd (upd (upd H c v) b u) a o) h' b u) (new3 : ObjOk X.prog X.w (upd (upd (upd H c v) b u) a o) h' c v) : Inv X pins σ (upd (upd (upd H c v) b u) a o) { s with heap := h', toks := t' } := by
  have na : H a = none := I.hok.gone ha
  have nb : H b = none := I.hok.gone hb
  have nc : H c = none := I.hok.gone hc
  have up : ∀ {x : Addr} {y : HO}, H x = some y → (upd (upd (upd H c v) b u) a o) x = some y := fun {x y} e => by
    rw [upd_ne (ne_of_none e na), upd_ne (ne_of_none e nb), upd_ne (ne_of_none e nc)]
    exact e
  have old : ∀ {x : Addr} {y : Obj}, s.heap.get? x = some y → x ≠ a ∧ x ≠ b ∧ x ≠ c := fun {x y} e => by
    refine ⟨?_, ?_, ?_⟩
    · intro z
      rw [z, ha] at e
      cases e
    · intro z
      rw [z, hb] at e
      cases e
    · intro z
      rw [z, hc] at e
      cases e
  refine I.un ⟨fun x y e _ _ _ => k x y e, fun x y e _ _ _ => ⟨y.slots, k x y e⟩, fun x y e n _ => ?_, fun x y e _ => ⟨y, k x y e⟩, fun x xs e => up e, fun x y xs e => up e, fun x ps e => ⟨#[], by rw [up e]; simp⟩⟩ fun x y e => ?_
  · obtain ⟨z1, z2, z3⟩ := old e
    rw [upd_ne z1, upd_ne z2, upd_ne z3]
    exact n
  · by_cases xa : x = a
    · subst xa
      rw [upd_same] at e
      cases e
      exact new
    · by_cases xb : x = b
      · subst xb
        rw [upd_ne xa, upd_same] at e
        cases e
        exact new2
      · by_cases xc : x = c
        · subst xc
          rw [upd_ne xa, upd_ne xb, upd_same] at e
          cases e
          exact new3
        · rw [upd_ne xa, upd_ne xb, upd_ne xc] at e
          exact (I.hok x y e).stay (fun d q _ z => k d q z) (fun d z => up z) fun d xs z => up z
variable {e : Expr} {te : TE} {x : Str} {p pos : Pos} {C fI : Addr} {msg fld prm file : Str}
theorem boot_super : bootBuiltins "super" = some (.type "super") := by first | boot_by_name | rfl | kernel_rfl
/-- C(e), C an own class of errors whose __init__ says super().__init__(msg); self.fld = prm -/
theorem pe_xmk (T : XCls X.K C) (F : XInit X.K C fI msg fld prm file) (hr : Room 1 X.A) (hg : Gl X x) (hm : X.mg x = some (.ref C)) (hs : X.mg "super" = none)
    (hfile : ((X.prog.main.file : Str) == file) = true) (htop : (X.prog.main.scope.names.lookup ("super" : Str)).isSome = false) (he : PE X e te)
    (hst : starEach [e] X.env = (false, eval e X.env) :: starEach [] X.env := by rfl) (hdb : (x == ("__debug__" : Str)) = false := by decide) :
    PE X (.Call (.Name x p) [e] [] pos) (fun σ H Q => te σ H fun _ H1 => ∀ a t1 dx, H1 a = none → H1 t1 = none → H1 dx = none → t1 ≠ a → dx ≠ a → dx ≠ t1 → Q (.ref a) (upd (upd (upd H1 dx (.own a)) t1 (.tup [.str msg])) a (xV C t1 (some dx) a))) := by
  refine ⟨fun pins s σ H Q I h => ?_⟩
  obtain ⟨nm, q, N, bs, bm, sn, sub, ab, col, dd, k0, k1, k2, k3, k5, hC, hbm⟩ := T.cls
  refine wpAny_Call_Name_kw (ld_glob I hg hm ?_ hdb)
  refine PySem.W.callWith_K (h₀ := X.base) I.ok.mod.kin T.kp ?_ hst (by rfl)
  rw [hst]
  show wpAny _ _ (spliced ((false, eval e X.env) :: backTo pos (starEach [] X.env))) _ _ s
  refine Calls.spliced_cons (thn (he.run pins s σ H _ I h) fun u s1 ⟨v, H1, I1, r1, q1⟩ => ?_)
  refine Calls.spliced_nil ⟨I1.kIn, ?_⟩
  show wpAny _ _ (call (.ref C) [u]) _ _ _
  obtain ⟨hp, g, dr, tk, os⟩ := s1
  have kk : ∀ b o, hp.get? b = some o → ((hp.push (PySem.W.kdv_tup [u])).push (PySem.HandSPX.excO C hp.objs.size)).get? b = some o := fun b o e => Heap.get?_push_of_some _ (Heap.get?_push_of_some _ e)
  have hget : ((hp.push (PySem.W.kdv_tup [u])).push (PySem.HandSPX.excO C hp.objs.size)).get? (hp.objs.size + 1) = some (xRec C none hp.objs.size) := by
    show _ = some (PySem.HandSPX.excO C hp.objs.size)
    heap_get
  have na : hp.get? (hp.objs.size + 1) = none := Heap.get?_none_of_le (Nat.le_succ _)
  have kin := I1.kIn
  obtain ⟨mb, hb1, hb2⟩ := I1.mod.blt
  refine wpAny_call (PySem.HandSPX.call_own PySem.F.excBase_ValueError (fun Y => PySem.HandSPX.refsVE_contains Y bm hbm) (kin _ _ hC) (PySem.W.looks_findIn kin F.fi) (fun self => PySem.W.bind_fn kin self F.ty) (by show 1 ≤ sizeLine; rw [sizeLine_eq]; omega) ?_)
  refine init_code T F (kin.keeps kk) (mg := X.mg) (mb := mb) (hr.make C [u] []).depth (I1.nolimit.keeps kk) ((I1.mod.glob.keeps I1.bk).keeps kk) ((hb1.keeps I1.bk).keeps kk) hs ((hb2 _ (by decide)).trans boot_super) hfile htop hget ?_ fun h' tk' t1 dx k4 nt1 ne e1 e2 nd da dt eo => ?_
  · cases z : X.K.lookup (hp.objs.size + 1) with
    | none => rfl
    | some o =>
      rw [kin _ _ z] at na
      cases na
  · have k5 : ∀ b o, hp.get? b = some o → h'.get? b = some o := fun b o e => k4 b o (fun z => by
      rw [z, na] at e
      cases e) (kk b o e)
    have nt0 : hp.get? t1 = none := by
      cases z : hp.get? t1 with
      | none => rfl
      | some o =>
        rw [kk _ _ z] at nt1
        cases nt1
    have nd0 : hp.get? dx = none := by
      cases z : hp.get? dx with
      | none => rfl
      | some o =>
        rw [kk _ _ z] at nd
        cases nd
    obtain ⟨tm, e3⟩ := e2
    refine ⟨rfl, ⟨.ref (hp.objs.size + 1), _, laid3 (t' := tk') (o := xV C t1 (some dx) (hp.objs.size + 1)) (u := .tup [.str msg]) (v := .own (hp.objs.size + 1)) I1 k5 na nt0 nd0 ne da dt (xV_ok e1) ⟨?_, [.str msg tm], .cons ⟨tm, rfl⟩ .nil, ⟨_, e3, rfl, _, rfl⟩⟩ eo, rfl, q1 _ t1 dx (I1.hok.gone na) (I1.hok.gone nt0) (I1.hok.gone nd0) ne da dt⟩⟩
    show 1 ≤ sizeLine
    rw [sizeLine_eq]
    omega
/-- C(), C an own class of errors without __init__ -/
theorem pe_xmk0 {k : Nat} {bmB : List Value} {B newId initId : String} (F : ExcBaseFacts B newId initId bmB) (q : PySem.W.excIn X.K C bmB newId = true) (kC : PySem.W.keepIn X.K (.ref C) = true) (hg : Gl X x) (hm : X.mg x = some (.ref C))
    (hdb : (x == ("__debug__" : Str)) = false := by decide) :
    PE X (.Call (.Name x p) [] [] pos) (fun _ H Q => ∀ a t1, H a = none → H t1 = none → t1 ≠ a → Q (.ref a) (upd (upd H t1 (.tup [])) a (xV C t1 none a))) := by
  refine ⟨fun pins s σ H Q I h => ?_⟩
  refine wpAny_Call_Name_kw (ld_glob I hg hm ?_ hdb)
  refine PySem.W.callWith_K0 (first := []) I.kIn kC ?_
  show wpAny _ _ (call (.ref C) []) _ _ _
  obtain ⟨bm, N, nm, qn, bs, hdct, sn, sub, ab, col, dd, k0, k1, k2, k3, k5, mN, hC, hN, hni, T⟩ := exc_obj I.kIn q
  refine wpAny_call_exc_subT F T hC hN hni (fun h' a hm => ?_) (by show 0 ≤ sizeLine; omega)
  obtain ⟨t1, e1, nt, e2⟩ := hm.there
  have ne : t1 ≠ a := fun z => by
    rw [z, e1] at e2
    have e3 := Option.some.inj e2
    cases e3
  exact ⟨.ref a, _, laid2 (t' := s.toks) (o := xV C t1 none a) (u := .tup []) I hm.keeps hm.new nt ne (xV_ok e1) ⟨Nat.zero_le _, [], .nil, ⟨_, e2, rfl, _, rfl⟩⟩, rfl, h a t1 (I.hok.gone hm.new) (I.hok.gone nt) ne⟩
end
end Sw
namespace Sw
open PySem PySem.Spec PyProof.Rows PySem.W Builtin Builtin.BaseException
/-- how repr calls a class -/
def exN (nm : Str) : Str := ((nm.toString.cutAt '.').getLastD "")
/-- a class of errors, by what repr and isinstance ask -/
structure XGood (K : Frag) (C : Addr) (n : Str) : Prop where
  nm : ∃ cd, clsIn K C = some cd ∧ exN cd.name = n
  len : n.length ≤ 60
  rp : findIn K (.ref C) "__repr__" = some (some (.builtin "BaseException.__repr__"))
  sub : subIn K (.ref C) (.type "BaseException") = some true
  ga : findIn K (.ref C) "__getattribute__" = some (some (.builtin "BaseException.__getattribute__"))
  gt : findIn K (.ref C) "__getattr__" = some none
  ca : findIn K (.ref C) "__class__" = some (some (.builtin "object.__class__"))
  cn : specialIn K (.builtin "object.__class__") "__get__" = some (some (.builtin "getset_descriptor.__get__"))
  ct : takesIn K (.builtin "object.__class__") = some true
  mo : mroIn K C (.type "object") = some true
  ni : subIn K (.ref C) (.type "int") = some false
  nb : subIn K (.ref C) (.type "bool") = some false
  nt : subIn K (.ref C) (.type "tuple") = some false
  ns : subIn K (.ref C) (.type "str") = some false
  nl : subIn K (.ref C) (.type "list") = some false
  nd : subIn K (.ref C) (.type "dict") = some false
/-- the text of such an error, by its args (none or one text) -/
def xText (n : Str) : Option Str → Str
  | none => n ++ "()"
  | some m => n ++ "(" ++ reprText m ++ ")"
def xArgs : Option Str → List L2.V
  | none => []
  | some m => [.str m]
section
variable {prog : Program} {w : World} {A : Around} {E : Value → Shared → Prop} {s : Shared} {K : Frag} {C e t0 : Addr} {n : Str}
theorem typeNameWhole_C {M : Model} (G : XGood K C n) (x : ExcC K C e t0 s.heap) {Q : String → Shared → Prop} (h : ∀ nm : String, (((nm.cutAt '.').getLastD "" : String) : Str) = n → Q nm s) : wpAny M A (typeNameOfWhole (.ref e)) Q E s := by
  obtain ⟨cd, hc, hn⟩ := G.nm
  unfold typeNameOfWhole shownTypeOf
  refine wpAny_bind (wpAny_bind ((x.LT).here ?_))
  simp only [show (Value.ref C == Value.type "builtin_function_or_method") = false from rfl, Bool.false_eq_true, if_false]
  refine wpAny_pure ?_
  unfold typeNameWhole
  refine wpAny_bind ((looks_clsIn x.1 hc).here (wpAny_pure ?_))
  exact h _ hn
theorem bexcRepr_C (G : XGood K C n) (x : ExcC K C e t0 s.heap) (m : Option Str) {its : List Value} (hi : L2.Vals (xArgs m) its) (ht : s.heap.TupAt t0 its) (b : Nat) (hsz : b + (xText n m).length ≤ sizeLine)
    (g : List Code) (hg : A.guards = some g) (hcl : Clear g t0) (hu : A.units + 2 < cLine) {Q : Fin → Shared → Prop}
    (h : ∀ h' u tk, (∀ b o, s.heap.get? b = some o → h'.get? b = some o) → Q (.done (.ret (.str (xText n m) u))) { s with heap := h', toks := tk }) :
    wpAny (model prog w) A (Builtin.bexcReprAt b ⟨[.ref e], []⟩) Q E s := by
  unfold Builtin.bexcReprAt
  cases m with
  | some m =>
    cases hi with
    | cons r1 r2 =>
      cases r2
      obtain ⟨tk, rfl⟩ := r1
      have eP : (Str.ofString "(").length = 1 := by rw [PySem.ofString_length]; rfl
      have e1 : b + (n ++ Str.ofString "(" ++ reprText m ++ Str.ofString ")").length ≤ sizeLine := hsz
      have hsz2 : (n ++ Str.ofString "(" ++ reprText m ++ Str.ofString ")").length ≤ sizeLine := Nat.le_trans (Nat.le_add_left _ b) e1
      rw [strLen_append, strLen_append, strLen_append, eP] at e1
      have hsz1 : (reprText m).length ≤ sizeLine := by omega
      have hpile : b + (n.length + 1) ≤ sizeLine := by omega
      refine wpAny_bind (wpAny_pure ?_)
      refine wpAny_bind (typeNameWhole_C G x fun nm en => ?_)
      refine wpAny_bind (bexcArgs_C x ht ?_)
      show wpAny _ _ (rule "BaseException.__repr__.one-argument" >>= _) _ _ _
      refine wpAny_bind (wpAny_rule ?_)
      rw [en]
      refine wpAny_bind ?_
      rw [pyReprUnder_leaf (v := .str m tk) hpile (by intro a; nofun)]
      refine wpAny_pyRepr_str ?_ hsz1
      unfold retStr
      refine wpAny_bind (wpAny_mkStr (wpAny_pure ?_) hsz2)
      exact h s.heap _ _ fun _ _ e => e
  | none =>
    cases hi
    obtain ⟨ot, kk, hto, hc, hd⟩ := id ht
    have e1 : b + (n ++ Str.ofString "()").length ≤ sizeLine := hsz
    have e2 : (n ++ Str.ofString "()").length ≤ sizeLine := Nat.le_trans (Nat.le_add_left _ b) e1
    rw [strLen_append] at e1
    have e3 : (Str.ofString "()").length = 2 := by rw [PySem.ofString_length]; rfl
    have et : tupleText [] = ("()" : Str) := by decide +kernel
    refine wpAny_bind (wpAny_pure ?_)
    refine wpAny_bind (typeNameWhole_C G x fun nm en => ?_)
    refine wpAny_bind (bexcArgs_C x ht ?_)
    show wpAny _ _ (pyReprUnder (b + _) (.ref t0) >>= _) _ _ _
    rw [en]
    refine wpAny_bind ?_
    have hK := ReprK.tuple (prog := prog) (w := w) (as := []) (h₀ := s.heap) (d := 0) (a := t0) (o := ot) (items := #[]) (n := kk) (ts := []) hto hc hd (by simp) .nil
    refine hK (b + n.length) (by rw [et]; show b + n.length + (Str.ofString "()").length ≤ sizeLine; omega) A g E s _ hg (fun b hb => ?_) (by omega) (fun _ _ e => e) fun h' tk hk => ?_
    · obtain rfl := List.mem_singleton.mp hb
      exact hcl
    · rw [et]
      unfold retStr
      refine wpAny_bind (wpAny_mkStr (wpAny_pure ?_) e2)
      exact h h' _ _ hk
theorem reprUnder_C (G : XGood K C n) (x : ExcC K C e t0 s.heap) (m : Option Str) {its : List Value} (hi : L2.Vals (xArgs m) its) (ht : s.heap.TupAt t0 its) (b : Nat) (hsz : b + (xText n m).length ≤ sizeLine)
    (g : List Code) (hg : A.guards = some g) (hcl : Clear g t0) (hu : A.units + 3 < cLine) {Q : Value → Shared → Prop}
    (h : ∀ h' u tk, (∀ b o, s.heap.get? b = some o → h'.get? b = some o) → Q (.str (xText n m) u) { s with heap := h', toks := tk }) :
    wpAny (model prog w) A (pyReprObjUnder b (.ref e)) Q E s := by
  unfold pyReprObjUnder pyReprObjBy
  have hf : Looks (model prog w) s.heap (typeLookup (.ref C) "__repr__") (some (.builtin "BaseException.__repr__")) := looks_findIn x.1 G.rp
  have hb : bindSpecial (.builtin "BaseException.__repr__") (.ref e) = pure (.builtin "BaseException.__repr__", [.ref e]) := PySem.F.excStr_Exception.repr.bind _
  have hT : Looks (model prog w) s.heap (typeOf (.ref e)) (.ref C) := x.LT
  refine wpAny_bind (wpAny_cRoomFor (by omega) ?_)
  unfold specialOf
  refine wpAny_bind (wpAny_bind (hT.here (hf.here ?_)))
  have fin : wpAny (model prog w) A (call (.builtin "BaseException.__repr__.under") [.ref e, rawInt b]) (fun v s' => (∃ x u, v = .str x u) ∧ Q v s') E s := by
    refine wpAny_call (codeAny_call_builtin PySem.F.plain_bexc_repr_under PySem.F.entry_bexc_repr_under ?_)
    rw [PySem.F.check_bexc_repr_under]
    refine wpAny_pure ?_
    show wpAny _ _ (reprTwin "BaseException.__repr__" Builtin.bexcReprAt ⟨[.ref e, rawInt b], []⟩) _ _ _
    rw [reprTwin_eq]
    refine wpAny_bind ?_
    refine @PySem.W.check_slot (model prog w) _ _ s "BaseException.__repr__" "BaseException" "__repr__" (.ref e) [] [] _ (by decide +kernel) (by decide +kernel) (x.LI G.sub) (PySem.F.args_bexc_repr _) ?_
    refine bexcRepr_C (A := A.in1) G x m hi ht b hsz g hg hcl (by show A.units + 1 + 2 < cLine; omega) fun h' u tk hk => ?_
    exact ⟨⟨_, _, rfl⟩, h h' u tk hk⟩
  simp only [Option.isNone_some, Bool.false_eq_true, if_false]
  refine wpAny_bind ?_
  unfold callSpecialIfBoundBy? bindSpecialIfBound? specialOf
  refine wpAny_holding (wpAny_bind (wpAny_bind (wpAny_bind (hT.here (hf.here ?_)))))
  simp only [hb]
  have fin2 : wpAny (model prog w) A (call (.builtin "BaseException.__repr__.under") [.ref e, rawInt b] >>= fun v => pure (some v)) (fun r s' => wpAny (model prog w) A (match r with
      | some r => do if ← isInstance r (.type "str") then pure r else raiseError "TypeError" s!"__repr__ returned non-string (type {← typeNameOf r})"
      | none => unsupported "repr:special-get-raises") Q E s') E s := by
    refine wpAny_bind (wpAny_mono fin (fun v s' hv => ?_) fun _ _ z => z)
    obtain ⟨⟨y, u, rfl⟩, hq⟩ := hv
    exact wpAny_pure (wpAny_bind (wpAny_isInstance (T := "str") (b := true) rfl isSubtype_str_str (wpAny_pure hq)))
  refine wpAny_bind (wpAny_askSetting (wpAny_ite ?_))
  split
  · exact wpAny_bind (wpAny_pure (wpAny_pure fin2))
  · exact wpAny_tryCatch (wpAny_bind (wpAny_pure (wpAny_pure fin2)))
end
end Sw
namespace Sw
open PySem PySem.Spec PyProof.Rows L2
/-- plain data, and errors of the package -/
inductive D where
  | non | bl (b : Bool) | int (i : Int) | str (x : Str) | tup (xs : List D) | lst (xs : List D) | dct | exc (C : Addr) (n : Str) (m : Option Str)
mutual
/-- the text that repr gives -/
def shown : D → Str
  | .non => "None"
  | .bl b => if b then "True" else "False"
  | .int i => toString i
  | .str x => reprText x
  | .tup xs => tupleText (shownAll xs)
  | .lst xs => listText (shownAll xs)
  | .dct => "{}"
  | .exc _ n m => xText n m
def shownAll : List D → List Str
  | [] => []
  | d :: r => shown d :: shownAll r
end
mutual
/-- no shorter than the text -/
def wt : D → Nat
  | .non => 4
  | .bl _ => 5
  | .int i => (Str.ofString (toString i)).length
  | .str x => (reprText x).length
  | .tup xs => wtAll xs + 3
  | .lst xs => wtAll xs + 3
  | .dct => 2
  | .exc _ n m => (xText n m).length
def wtAll : List D → Nat
  | [] => 0
  | d :: r => wt d + 2 + wtAll r
end
mutual
def dep : D → Nat
  | .tup xs => depAll xs + 1
  | .lst xs => depAll xs + 1
  | .dct => 1
  | .exc _ _ _ => 3
  | _ => 0
def depAll : List D → Nat
  | [] => 0
  | d :: r => max (dep d) (depAll r)
end
mutual
/-- its ints can be written -/
def small : D → Prop
  | .int i => i.natAbs.log2 < 1920
  | .tup xs => smallAll xs
  | .lst xs => smallAll xs
  | _ => True
def smallAll : List D → Prop
  | [] => True
  | d :: r => small d ∧ smallAll r
end
mutual
theorem shown_wt : ∀ d : D, (shown d).length ≤ wt d
  | .non => by simp only [wt]; decide +kernel
  | .bl b => by cases b <;> (simp only [wt]; decide +kernel)
  | .int i => by simp only [shown, wt]; exact Nat.le_refl _
  | .str x => by simp only [shown, wt]; exact Nat.le_refl _
  | .tup xs => by
    have h := tupleText_len_le (shownAll xs)
    have h2 := shownAll_wt xs
    simp only [shown, wt]
    omega
  | .lst xs => by
    have h := listText_len_le (shownAll xs)
    have h2 := shownAll_wt xs
    simp only [shown, wt]
    omega
  | .dct => by simp only [wt]; decide +kernel
  | .exc _ n m => by simp only [shown, wt]; exact Nat.le_refl _
theorem shownAll_wt : ∀ xs : List D, ((shownAll xs).map (·.length)).sum + 2 * (shownAll xs).length ≤ wtAll xs
  | [] => by simp [shownAll, wtAll]
  | d :: r => by
    have h := shown_wt d
    have h2 := shownAll_wt r
    simp only [shownAll, wtAll, List.map_cons, List.sum_cons, List.length_cons]
    omega
end
theorem wt_mem : ∀ {xs : List D} {d : D}, d ∈ xs → wt d + 2 ≤ wtAll xs
  | x :: r, d, h => by
    simp only [wtAll]
    rcases List.mem_cons.mp h with e | e
    · rw [e]; omega
    · have := wt_mem e
      omega
theorem dep_mem : ∀ {xs : List D} {d : D}, d ∈ xs → dep d ≤ depAll xs
  | x :: r, d, h => by
    simp only [depAll]
    rcases List.mem_cons.mp h with e | e
    · rw [e]; exact Nat.le_max_left _ _
    · exact Nat.le_trans (dep_mem e) (Nat.le_max_right _ _)
theorem small_mem : ∀ {xs : List D} {d : D}, smallAll xs → d ∈ xs → small d
  | x :: r, d, s, h => by
    simp only [smallAll] at s
    rcases List.mem_cons.mp h with e | e
    · rw [e]; exact s.1
    · exact small_mem s.2 e
mutual
/-- in H the value v is the data d; as: the addresses of what it is made of -/
def Rep (K : PySem.W.Frag) (H : Hp) : D → V → List Addr → Prop
  | .non, v, as => v = .non ∧ as = []
  | .bl b, v, as => v = .bl b ∧ as = []
  | .int i, v, as => v = .int i ∧ as = []
  | .str x, v, as => v = .str x ∧ as = []
  | .tup ds, v, as => ∃ a xs bs, v = .ref a ∧ H a = some (.tup xs) ∧ RepAll K H ds xs bs ∧ a ∉ bs ∧ as = a :: bs
  | .lst ds, v, as => ∃ a xs bs, v = .ref a ∧ H a = some (.lst xs) ∧ RepAll K H ds xs bs ∧ a ∉ bs ∧ as = a :: bs
  | .dct, v, as => ∃ a, v = .ref a ∧ H a = some (.dK []) ∧ as = [a]
  | .exc C n m, v, as => ∃ a t d, v = .ref a ∧ H a = some (xV C t d a) ∧ H t = some (.tup (xArgs m)) ∧ (∀ dx, d = some dx → H dx = some (.own a)) ∧ XGood K C n ∧ as = a :: t :: d.toList
def RepAll (K : PySem.W.Frag) (H : Hp) : List D → List V → List Addr → Prop
  | [], xs, as => xs = [] ∧ as = []
  | d :: ds, xs, as => ∃ x r bs cs, xs = x :: r ∧ Rep K H d x bs ∧ RepAll K H ds r cs ∧ as = bs ++ cs
end
section
variable {K : PySem.W.Frag} {H H' : Hp}
mutual
theorem Rep.keep : ∀ {d : D} {v : V} {as : List Addr}, Rep K H d v as → (∀ b ∈ as, ∀ o, H b = some o → H' b = some o) → Rep K H' d v as
  | .non, v, as, h, _ => by simpa only [Rep] using h
  | .bl _, v, as, h, _ => by simpa only [Rep] using h
  | .int _, v, as, h, _ => by simpa only [Rep] using h
  | .str _, v, as, h, _ => by simpa only [Rep] using h
  | .tup ds, v, as, h, k => by
    simp only [Rep] at h ⊢
    obtain ⟨a, xs, bs, e, ha, r, na, rfl⟩ := h
    exact ⟨a, xs, bs, e, k a (by simp) _ ha, RepAll.keep r fun b hb => k b (by simp [hb]), na, rfl⟩
  | .lst ds, v, as, h, k => by
    simp only [Rep] at h ⊢
    obtain ⟨a, xs, bs, e, ha, r, na, rfl⟩ := h
    exact ⟨a, xs, bs, e, k a (by simp) _ ha, RepAll.keep r fun b hb => k b (by simp [hb]), na, rfl⟩
  | .dct, v, as, h, k => by
    simp only [Rep] at h ⊢
    obtain ⟨a, e, ha, rfl⟩ := h
    exact ⟨a, e, k a (by simp) _ ha, rfl⟩
  | .exc C n m, v, as, h, k => by
    simp only [Rep] at h ⊢
    obtain ⟨a, t, d, e, ha, ht, hd, g, rfl⟩ := h
    exact ⟨a, t, d, e, k a (by simp) _ ha, k t (by simp) _ ht, fun dx z => k dx (by simp [z]) _ (hd dx z), g, rfl⟩
theorem RepAll.keep : ∀ {ds : List D} {xs : List V} {as : List Addr}, RepAll K H ds xs as → (∀ b ∈ as, ∀ o, H b = some o → H' b = some o) → RepAll K H' ds xs as
  | [], xs, as, h, _ => by simpa only [RepAll] using h
  | d :: ds, xs, as, h, k => by
    simp only [RepAll] at h ⊢
    obtain ⟨x, r, bs, cs, e, h1, h2, rfl⟩ := h
    exact ⟨x, r, bs, cs, e, Rep.keep h1 fun b hb => k b (by simp [hb]), RepAll.keep h2 fun b hb => k b (by simp [hb]), rfl⟩
end
mutual
/-- all of it is tracked -/
theorem Rep.tracked : ∀ {d : D} {v : V} {as : List Addr}, Rep K H d v as → ∀ b ∈ as, ∃ o, H b = some o
  | .non, v, as, h, b, hb => by simp only [Rep] at h; rw [h.2] at hb; cases hb
  | .bl _, v, as, h, b, hb => by simp only [Rep] at h; rw [h.2] at hb; cases hb
  | .int _, v, as, h, b, hb => by simp only [Rep] at h; rw [h.2] at hb; cases hb
  | .str _, v, as, h, b, hb => by simp only [Rep] at h; rw [h.2] at hb; cases hb
  | .tup ds, v, as, h, b, hb => by
    simp only [Rep] at h
    obtain ⟨a, xs, bs, e, ha, r, na, rfl⟩ := h
    rcases List.mem_cons.mp hb with z | z
    · exact ⟨_, z ▸ ha⟩
    · exact RepAll.tracked r b z
  | .lst ds, v, as, h, b, hb => by
    simp only [Rep] at h
    obtain ⟨a, xs, bs, e, ha, r, na, rfl⟩ := h
    rcases List.mem_cons.mp hb with z | z
    · exact ⟨_, z ▸ ha⟩
    · exact RepAll.tracked r b z
  | .dct, v, as, h, b, hb => by
    simp only [Rep] at h
    obtain ⟨a, e, ha, rfl⟩ := h
    obtain rfl := List.mem_singleton.mp hb
    exact ⟨_, ha⟩
  | .exc C n m, v, as, h, b, hb => by
    simp only [Rep] at h
    obtain ⟨a, t, d, e, ha, ht, hd, g, rfl⟩ := h
    rcases List.mem_cons.mp hb with z | z
    · exact ⟨_, z ▸ ha⟩
    · rcases List.mem_cons.mp z with z | z
      · exact ⟨_, z ▸ ht⟩
      · exact ⟨_, hd b (by simpa using z)⟩
theorem RepAll.tracked : ∀ {ds : List D} {xs : List V} {as : List Addr}, RepAll K H ds xs as → ∀ b ∈ as, ∃ o, H b = some o
  | [], xs, as, h, b, hb => by simp only [RepAll] at h; rw [h.2] at hb; cases hb
  | d :: ds, xs, as, h, b, hb => by
    simp only [RepAll] at h
    obtain ⟨x, r, bs, cs, e, h1, h2, rfl⟩ := h
    rcases List.mem_append.mp hb with z | z
    · exact Rep.tracked h1 b z
    · exact RepAll.tracked h2 b z
end
theorem RepAll.len : ∀ {ds : List D} {xs : List V} {as : List Addr}, RepAll K H ds xs as → xs.length = ds.length
  | [], xs, as, h => by
    simp only [RepAll] at h
    rw [h.1]
    rfl
  | d :: ds, xs, as, h => by
    simp only [RepAll] at h
    obtain ⟨x, r, bs, cs, e, h1, h2, _⟩ := h
    rw [e, List.length_cons, List.length_cons, RepAll.len h2]
theorem RepAll.at : ∀ {ds : List D} {xs : List V} {as : List Addr} {i : Nat} {d : D}, RepAll K H ds xs as → ds[i]? = some d → ∃ x bs, xs[i]? = some x ∧ Rep K H d x bs ∧ ∀ b ∈ bs, b ∈ as
  | [], xs, as, i, d, h, e => by simp at e
  | d :: ds, xs, as, 0, d', h, e => by
    simp only [RepAll] at h
    obtain ⟨x, r, bs, cs, rfl, h1, h2, rfl⟩ := h
    obtain rfl : d = d' := by simpa using e
    exact ⟨x, bs, rfl, h1, fun b hb => by simp [hb]⟩
  | d :: ds, xs, as, i + 1, d', h, e => by
    simp only [RepAll] at h
    obtain ⟨x, r, bs, cs, rfl, h1, h2, rfl⟩ := h
    obtain ⟨y, es, q1, q2, q3⟩ := RepAll.at (i := i) h2 (by simpa using e)
    exact ⟨y, es, by simpa using q1, q2, fun b hb => by simp [q3 b hb]⟩
theorem RepAll.at2 {ds : List D} {xs : List V} {as : List Addr} {i : Nat} {x : V} (h : RepAll K H ds xs as) (e : xs[i]? = some x) : ∃ d bs, ds[i]? = some d ∧ Rep K H d x bs ∧ ∀ b ∈ bs, b ∈ as := by
  have hl := h.len
  have hi : i < ds.length := by rw [← hl]; exact (List.getElem?_eq_some_iff.mp e).1
  obtain ⟨y, bs, q1, q2, q3⟩ := h.at (List.getElem?_eq_getElem hi)
  rw [e] at q1
  cases q1
  exact ⟨_, bs, List.getElem?_eq_getElem hi, q2, q3⟩
section
variable {P : Program} {w : World} {h : Heap}
mutual
/-- what stands there shows by its text -/
theorem Rep.shows (hok : HOk P w H h) (kin : K.In h) : ∀ {d : D} {v : V} {as : List Addr} {u : Value}, Rep K H d v as → RelV v u → small d → wt d ≤ sizeLine → ReprK P w as h (dep d) u (shown d)
  | .non, v, as, u, r, q, sm, z => by
    simp only [Rep] at r
    obtain ⟨rfl, rfl⟩ := r
    cases (show u = Value.none from q)
    exact ReprK.of_is ReprIs.none _ _ _
  | .bl b, v, as, u, r, q, sm, z => by
    simp only [Rep] at r
    obtain ⟨rfl, rfl⟩ := r
    cases (show u = Value.bool b from q)
    exact ReprK.of_is (ReprIs.bool b) _ _ _
  | .int i, v, as, u, r, q, sm, z => by
    simp only [Rep] at r
    obtain ⟨rfl, rfl⟩ := r
    obtain ⟨t, rfl⟩ := (show ∃ t, u = Value.int i t from q)
    simp only [small] at sm
    exact ReprK.of_is (ReprIs.int t sm) _ _ _
  | .str x, v, as, u, r, q, sm, z => by
    simp only [Rep] at r
    obtain ⟨rfl, rfl⟩ := r
    obtain ⟨t, rfl⟩ := (show ∃ t, u = Value.str x t from q)
    simp only [wt] at z
    exact ReprK.of_is (ReprIs.str x t z) _ _ _
  | .tup ds, v, as, u, r, q, sm, z => by
    simp only [Rep] at r
    obtain ⟨a, xs, bs, rfl, ha, ra, na, rfl⟩ := r
    cases (show u = Value.ref a from q)
    obtain ⟨_, its, rv, o, h1, h2, n, h3⟩ := (show ObjOk P w H h a (.tup xs) from hok a _ ha)
    simp only [small] at sm
    simp only [wt] at z
    have k := RepAll.shows hok kin ra rv sm (by omega) (depAll ds) (Nat.le_refl _)
    simp only [shown, dep]
    exact ReprK.tuple h1 h2 h3 na (by simpa using k)
  | .lst ds, v, as, u, r, q, sm, z => by
    simp only [Rep] at r
    obtain ⟨a, xs, bs, rfl, ha, ra, na, rfl⟩ := r
    cases (show u = Value.ref a from q)
    obtain ⟨_, its, n, rv, h1⟩ := (show ObjOk P w H h a (.lst xs) from hok a _ ha)
    simp only [small] at sm
    simp only [wt] at z
    have k := RepAll.shows hok kin ra rv sm (by omega) (depAll ds) (Nat.le_refl _)
    simp only [shown, dep]
    cases its with
    | nil =>
      generalize shownAll ds = ts at k ⊢
      cases k
      rw [show listText [] = ("[]" : Str) from listText_nil]
      exact ReprK.listEmpty h1 rfl rfl
    | cons y l =>
      exact ReprK.list h1 rfl rfl na (by simpa using k.length_eq) (fun i y e => k.item i y (by simpa using e))
  | .dct, v, as, u, r, q, sm, z => by
    simp only [Rep] at r
    obtain ⟨a, rfl, ha, rfl⟩ := r
    cases (show u = Value.ref a from q)
    obtain ⟨_, hs, vs, kv, o, es, ep, h1, h2, h3, h4⟩ := (show ObjOk P w H h a (.dK []) from hok a _ ha)
    cases kv
    simp only [shown, dep]
    have et : dictText [] = ("{}" : Str) := by decide +kernel
    rw [← et]
    refine ReprK.dict (as := []) (d := 0) (o := o) (es := es) (n := ep) h1 h2.1 h3 hs (by simp) ?_
    have e0 : es.toList = [] := by
      have q : Pairs (mixKind P w) es.toList [] := h4.2.1
      generalize es.toList = l at q
      cases q
      rfl
    rw [e0]
    exact .nil
  | .exc C n m, v, as, u, r, q, sm, z => by
    simp only [Rep] at r
    obtain ⟨a, t, d, rfl, ha, ht, _, g, rfl⟩ := r
    cases (show u = Value.ref a from q)
    have h1 := xV_at hok ha
    obtain ⟨_, its, rv, o, h2, h3, n2, h4⟩ := (show ObjOk P w H h t (.tup (xArgs m)) from hok t _ ht)
    simp only [wt] at z
    simp only [shown, dep]
    intro base hb A gs E s Q hg hcl hu hk0 hQ
    refine wpAny_pyReprUnder_ref (by omega) (reprUnder_C g ⟨kin.keeps hk0, _, _, hk0 _ _ h1, rfl, rfl, rfl⟩ m rv ⟨o, n2, hk0 _ _ h2, h3, h4⟩ base hb gs hg (hcl t (by simp)) hu fun h' u tk hk => ⟨_, _, rfl, hQ h' tk hk⟩)
theorem RepAll.shows (hok : HOk P w H h) (kin : K.In h) : ∀ {ds : List D} {xs : List V} {as : List Addr} {us : List Value}, RepAll K H ds xs as → Vals xs us → smallAll ds → wtAll ds ≤ sizeLine → ∀ n, depAll ds ≤ n → ReprAllK P w as h n us (shownAll ds)
  | [], xs, as, us, r, q, sm, z, n, hn => by
    simp only [RepAll] at r
    obtain ⟨rfl, rfl⟩ := r
    cases q
    simp only [shownAll]
    exact .nil
  | d :: ds, xs, as, us, r, q, sm, z, n, hn => by
    simp only [RepAll] at r
    obtain ⟨x, l, bs, cs, rfl, r1, r2, rfl⟩ := r
    cases q with
    | cons q1 q2 =>
      simp only [smallAll] at sm
      simp only [wtAll] at z
      simp only [depAll] at hn
      simp only [shownAll]
      have k1 := Rep.shows hok kin r1 q1 sm.1 (by omega)
      have k2 := RepAll.shows hok kin r2 q2 sm.2 (by omega) n (by omega)
      exact .cons ((k1.more fun b hb => List.mem_append_left _ hb).level_le (by omega)) (k2.more_le (fun b hb => List.mem_append_right _ hb) (Nat.le_refl _))
end
end
end
end Sw
namespace Sw
open PySem PySem.Spec PyProof.Rows L2
/-- repr(xs), xs a list of data -/
def rRepr (K : PySem.W.Frag) : List V → Hp → VK → Prop := fun xs H Q => ∃ x ds as, xs = [x] ∧ Rep K H (.lst ds) x as ∧ smallAll ds ∧ wtAll ds ≤ 10000000 ∧ depAll ds ≤ 30 ∧ Q (.str (shown (.lst ds))) H
theorem call_repr {X : Cx} {k : Nat} (hr : Room k X.A) (hg : X.A.guards = some []) : CallR X (.builtin "repr") (rRepr X.K) := by
  intro pins s σ H xs us Q I r h
  obtain ⟨x, ds, as, rfl, hd, sm, z, dp, q⟩ := h
  obtain ⟨u, rfl, hu⟩ := vals1 r
  have un := hr.units
  have hz : wt (.lst ds) ≤ sizeLine := by
    rw [sizeLine_eq]
    simp only [wt]
    omega
  have hsh : (listText (shownAll ds)).length ≤ sizeLine := by
    have h1 := shown_wt (.lst ds)
    simp only [shown] at h1
    omega
  simp only [Rep] at hd
  obtain ⟨a, ys, bs, rfl, ha, ra, na, rfl⟩ := hd
  cases (show u = Value.ref a from hu)
  obtain ⟨_, its, n, rv, h1⟩ := (show ObjOk X.prog X.w H s.heap a (.lst ys) from I.hok a _ ha)
  have kr := RepAll.shows I.hok I.kIn ra rv sm (by simp only [wt] at hz; omega) (depAll ds) (Nat.le_refl _)
  have hT : s.TypeIs (.ref a) "list" := ⟨_, h1, rfl⟩
  simp only [shown] at q
  refine call_repr_slot (by omega) hT PySem.F.slot_list_repr.toG ?_
  cases its with
  | nil =>
    generalize shownAll ds = ts at kr q
    cases kr
    rw [show listText [] = ("[]" : Str) from listText_nil] at q
    exact call_list_repr_empty hT h1 rfl ⟨_, _, rfl, .str "[]", H, I.tok _, ⟨_, rfl⟩, q⟩
  | cons y l =>
    refine call_list_reprK (as := bs) (h₀ := s.heap) (d := depAll ds) h1 rfl rfl na (by simpa using kr.length_eq) (fun i y e => kr.item i y (by simpa using e)) (g := []) hg (fun b _ => Clear.nil b) (by show X.A.units + 1 + _ < cLine; omega) (fun _ _ e => e) (fun h' u tk hk => ?_) hsh
    exact ⟨_, _, rfl, .str _, H, I.kept (t' := tk) hk, ⟨_, rfl⟩, q⟩
/-! ### what a class a thing is of -/
/-- isinstance(x, T), by the data -/
def isT (T : String) : D → Bool
  | .int _ => T == "int"
  | .bl _ => T == "bool" || T == "int"
  | .str _ => T == "str"
  | .tup _ => T == "tuple"
  | .lst _ => T == "list"
  | .dct => T == "dict"
  | _ => false
def isTs : List String := ["int", "bool", "tuple", "str", "list", "dict"]
def rIsD (K : PySem.W.Frag) : List V → Hp → VK → Prop := fun xs H Q => ∃ (x : V) (d : D) (as : List Addr) (T : String), xs = [x, .ty T] ∧ T ∈ isTs ∧ Rep K H d x as ∧ Q (.bl (isT T d)) H
theorem kit_exc {K : PySem.W.Frag} {C : Addr} {n : Str} (G : XGood K C n) {T : String} (hT : T ∈ isTs) : PySem.W.kitOne K (.ref C) (.type T) = some false := by
  have e : ∀ T : String, PySem.W.kitMeta T = true → PySem.W.subIn K (.ref C) (.type T) = some false → PySem.W.kitOne K (.ref C) (.type T) = some false := fun T h1 h2 => by
    unfold PySem.W.kitOne PySem.W.kitCls
    rw [if_neg (show ¬ ((Value.ref C == Value.type T) = true) from Bool.false_ne_true)]
    show (if PySem.W.kitMeta T = true then _ else _) = _
    rw [if_pos h1, h2]
  simp only [isTs, List.mem_cons, List.not_mem_nil, or_false] at hT
  rcases hT with rfl | rfl | rfl | rfl | rfl | rfl
  · exact e _ (by decide +kernel) G.ni
  · exact e _ (by decide +kernel) G.nb
  · exact e _ (by decide +kernel) G.nt
  · exact e _ (by decide +kernel) G.ns
  · exact e _ (by decide +kernel) G.nl
  · exact e _ (by decide +kernel) G.nd
theorem kitB_none {T : String} (hT : T ∈ isTs) : kitB "NoneType" T = some false := by
  simp only [isTs, List.mem_cons, List.not_mem_nil, or_false] at hT
  rcases hT with rfl | rfl | rfl | rfl | rfl | rfl <;> decide +kernel
theorem kitB_bool {T : String} (hT : T ∈ isTs) : kitB "bool" T = some (T == "bool" || T == "int") := by
  simp only [isTs, List.mem_cons, List.not_mem_nil, or_false] at hT
  rcases hT with rfl | rfl | rfl | rfl | rfl | rfl <;> decide +kernel
theorem kitB_self {S T : String} (hS : S ∈ ["int", "str", "tuple", "list", "dict"]) (hT : T ∈ isTs) : kitB S T = some (T == S) := by
  simp only [isTs, List.mem_cons, List.not_mem_nil, or_false] at hT hS
  rcases hS with rfl | rfl | rfl | rfl | rfl <;> rcases hT with rfl | rfl | rfl | rfl | rfl | rfl <;> decide +kernel
theorem call_isD {X : Cx} : CallR X (.builtin "isinstance") (rIsD X.K) := by
  intro pins s σ H xs us Q I r h
  obtain ⟨x, d, as, T, rfl, hT, hd, q⟩ := h
  have ex : ∀ t b, TyX X.K H x t → PySem.W.kitOne X.K t (.type T) = some b → isT T d = b → wpAny (model X.prog X.w) X.A (call (.builtin "isinstance") us) (EP X pins σ Q) X.xe s := fun t b h1 h2 h3 => by
    rw [h3] at q
    exact call_isi pins s σ H _ us Q I r ⟨x, .ty T, t, .type T, b, rfl, .ty T, h1, h2, q⟩
  cases d with
  | non =>
    simp only [Rep] at hd
    obtain ⟨rfl, rfl⟩ := hd
    exact ex _ _ (.base .non) (kit_ty (kitB_none hT)) rfl
  | bl b =>
    simp only [Rep] at hd
    obtain ⟨rfl, rfl⟩ := hd
    exact ex _ _ (.base (.bl b)) (kit_ty (kitB_bool hT)) rfl
  | int i =>
    simp only [Rep] at hd
    obtain ⟨rfl, rfl⟩ := hd
    exact ex _ _ (.base (.int i)) (kit_ty (kitB_self (by decide) hT)) rfl
  | str y =>
    simp only [Rep] at hd
    obtain ⟨rfl, rfl⟩ := hd
    exact ex _ _ (.base (.str y)) (kit_ty (kitB_self (by decide) hT)) rfl
  | tup ds =>
    simp only [Rep] at hd
    obtain ⟨a, ys, bs, rfl, ha, _⟩ := hd
    exact ex _ _ (.base (.tup ha)) (kit_ty (kitB_self (by decide) hT)) rfl
  | lst ds =>
    simp only [Rep] at hd
    obtain ⟨a, ys, bs, rfl, ha, _⟩ := hd
    exact ex _ _ (.base (.lst ha)) (kit_ty (kitB_self (by decide) hT)) rfl
  | dct =>
    simp only [Rep] at hd
    obtain ⟨a, rfl, ha, _⟩ := hd
    exact ex _ _ (.base (.dK ha)) (kit_ty (kitB_self (by decide) hT)) rfl
  | exc C n m =>
    simp only [Rep] at hd
    obtain ⟨a, t, dd, rfl, ha, ht, hx, G, _⟩ := hd
    obtain ⟨u1, u2, rfl, r1, r2⟩ := vals2 r
    cases (show u1 = Value.ref a from r1)
    cases (show u2 = Value.type T from r2)
    have h1 := xV_at I.hok ha
    obtain ⟨cd, hc, _⟩ := G.nm
    have fin : ∀ od, PySem.W.InstAt s.heap a (xRec C dd t) C od → wpAny (model X.prog X.w) X.A (call (.builtin "isinstance") [.ref a, .type T]) (EP X pins σ Q) X.xe s := fun od J =>
      PySem.W.kia_one (PySem.W.kitx_exc (od := od) (by rw [hc]; rfl) G.ga G.gt G.sub G.ca G.cn G.ct G.mo) I.kIn J (kit_exc G hT) (fun z => nomatch z) fun tk => ⟨.bl false, H, I.tok tk, rfl, q⟩
    cases dd with
    | none => exact fin none ⟨h1, rfl, rfl, trivial⟩
    | some dx =>
      obtain ⟨o, ho⟩ := (show ObjOk X.prog X.w H s.heap dx (.own a) from I.hok dx _ (hx dx rfl))
      exact fin (some o) ⟨h1, rfl, rfl, ho⟩
end Sw
namespace Sw
open PySem PySem.Spec PyProof.Rows
theorem enum_new1 {v : Value} {o : Obj} {Hx : Heap → Prop} (B : Begins v o Hx) :
    Meets (Builtin.«enumerate.__new__» ⟨[.type "enumerate", v], []⟩) (fun _ R s => Hx s.heap ∧
      R (.ok (.ret (.ref (s.heap.push o).objs.size))) { s with heap := (s.heap.push o).push { cls := .type "enumerate", data := .fields #[.none, .bool false, .ref s.heap.objs.size, rawInt 0, .none, .none] } }) :=
  .of_wp fun prog w A R s h => by
    obtain ⟨hp, g, d, tk, os⟩ := s
    obtain ⟨h1, h⟩ := h
    have hsub := sub_enumerate
    have q1 : ∀ {A' : Around} {E : Value → Shared → Prop} {Q : Value → Shared → Prop}, Q (.ref hp.objs.size) ⟨hp.push o, g, d, tk, os⟩ → wpAny (model prog w) A' (pyIter v) Q E ⟨hp, g, d, tk, os⟩ :=
      fun q => B.iter prog w _ _ ⟨hp, g, d, tk, os⟩ _ h1 q
    wp_walk using q1
    refine wpAny_stack_any fun st => wpAny_pure ?_
    split
    · rename_i c _ _ _ _ _
      cases (c == Value.type "enumerate")
      · wp_walk using q1
        exact ⟨_, rfl, h⟩
      · wp_walk using q1
        exact ⟨_, rfl, h⟩
    · wp_walk using q1
      exact ⟨_, rfl, h⟩
theorem enum_call1 {prog : Program} {w : World} {A : Around} {E : Value → Shared → Prop} {s : Shared} {v : Value} {o : Obj} {Hx : Heap → Prop} {Q : Value → Shared → Prop} (B : Begins v o Hx) (h1 : Hx s.heap)
    (h : ∀ h', IsEnum h' (s.heap.objs.size + 1) s.heap.objs.size 0 .none → h'.get? s.heap.objs.size = some o → (∀ b o, s.heap.get? b = some o → h'.get? b = some o) → Q (.ref (s.heap.objs.size + 1)) { s with heap := h' }) :
    wpAny (model prog w) A (call (.type "enumerate") [v]) Q E s := by
  refine callType_new F.called_enumerate (by decide) (F.typeCall_enumerate_1 _) (F.newCall_enumerate_1 _) (fun obj => F.args_object_init_2 obj _) F.entry_enumerate_new (enum_new1 B) ⟨h1, ?_⟩
  have hz : (s.heap.push o).objs.size = s.heap.objs.size + 1 := Heap.size_push ..
  show _ ∧ _
  rw [hz]
  have he : IsEnum ((s.heap.push o).push { cls := .type "enumerate", data := .fields #[.none, .bool false, .ref s.heap.objs.size, rawInt 0, .none, .none] }) (s.heap.objs.size + 1) s.heap.objs.size 0 .none := by
    have q := Heap.get?_push_size (s.heap.push o) (o := { cls := .type "enumerate", data := .fields #[.none, .bool false, .ref s.heap.objs.size, rawInt 0, .none, .none] }) rfl
    rw [hz] at q
    exact q
  exact ⟨⟨_, he, rfl⟩, h _ he (Heap.get?_push_of_some _ (Heap.get?_push_size _ B.free)) fun b o x => Heap.get?_push_of_some _ (Heap.get?_push_of_some _ x)⟩
end Sw
namespace Sw
open PySem PySem.Spec PyProof.Rows L2
/-- the tuple at a, each item in a new pair with its place -/
def ItTe (K : PySem.W.Frag) (a : Addr) : It :=
  ⟨fun i H => ∃ (xs : List V) (x : V), SqT K H a xs ∧ xs[i]? = some x, fun i H v H' => ∃ T x, v = .ref T ∧ H T = none ∧ H' = upd H T (.tup [.int (i : Nat), x]) ∧ ∀ xs, SqT K H a xs → xs[i]? = some x, fun i H => ∃ xs : List V, SqT K H a xs ∧ xs.length = i⟩
theorem turn_te {P : Program} {w : World} {K : PySem.W.Frag} {elts : List Expr} {kk : Nat} {tpos : Pos} (a e it : Addr) :
    Turn P w K (.Tuple elts kk tpos) (ItTe K a) [e, it] e (fun i h => (∃ old, IsEnum h e it ((i : Nat) : Int) old) ∧ h.IsTupleIter it a i ∧ e ≠ it ∧ a ≠ it ∧ a ≠ e) where
  mem := by simp
  obj := fun i h st b hb => by
    obtain ⟨⟨old, he⟩, ⟨o, ho, hc, hd⟩, _⟩ := st
    rcases List.mem_cons.mp hb with z | z
    · rw [z]; exact ⟨_, he, fun v q => nomatch q⟩
    · obtain rfl := List.mem_singleton.mp z
      exact ⟨o, ho, fun v q => by rw [hd] at q; cases q⟩
  keep := fun i h h' st k => by
    obtain ⟨⟨old, he⟩, hi, hne⟩ := st
    exact ⟨⟨old, k e (by simp) _ he⟩, hi.at fun o q => k it (by simp) o q, hne⟩
  item := by
    intro X hP hw hK hc i pins s σ H E I hf st hg
    subst hP hw hK
    obtain ⟨⟨old, he⟩, hit, hne, hai, hae⟩ := st
    obtain ⟨xs, x, hq, hx⟩ := hg
    obtain ⟨its, rv, p, hz⟩ := I.tuple hq
    obtain ⟨u, hu, ru⟩ := rv.get hx
    have hel : e < s.heap.objs.size := Heap.lt_size he
    have hil : it < s.heap.objs.size := by obtain ⟨_, q, _⟩ := hit; exact Heap.lt_size q
    have hlt : i < its.toArray.size := by
      have := (List.getElem?_eq_some_iff.mp hu).1
      simpa using this
    refine wpAny_pyNext_enum_itemD (Draws.tuple (A := X.A.in1) (I.ok.hd hc) it a hai its.toArray) he ⟨hit, p⟩ hlt hne (by simp [hne, Ne.symm hae]) fun y h' tk hy ho hst hT hsz hk => ?_
    obtain ⟨hit', _⟩ := hst
    have ey : y = u := by
      have q : its.toArray[i]? = some y := hy
      have q2 : its.toArray[i]? = some u := by simpa using hu
      rw [q2] at q
      exact (Option.some.inj q).symm
    subst ey
    refine ⟨_, rfl, wpAny_letOwnedTupleGo_enum (s := { s with heap := h', toks := tk + 1 }) ho fun h'' he' sb => ?_⟩
    have hT2 : h''.get? s.heap.objs.size = some { cls := .type "tuple", data := .seq #[.int i tk, y] } := (sb.2 _ (Nat.ne_of_gt hel)).trans hT
    have new : ObjOk X.prog X.w (upd H s.heap.objs.size (.tup [.int (i : Nat), x])) h'' s.heap.objs.size (.tup [.int (i : Nat), x]) :=
      ⟨by show 2 ≤ sizeLine; decide, [.int i tk, y], .cons ⟨_, rfl⟩ (.cons ru .nil), ⟨_, hT2, rfl, _, rfl⟩⟩
    have I1 : Inv X pins σ (upd H s.heap.objs.size (.tup [.int (i : Nat), x])) { s with heap := h'', toks := tk + 1 } :=
      I.turnedNew (ch := [e, it]) (fun b ob hb q => (sb.2 b (fun z => hb (by simp [z]))).trans (hk b ob (fun z => hb (by simp [z])) (fun z => hb (by simp [z])) q)) hf (Nat.le_refl _) new
    refine ⟨.ref s.heap.objs.size, _, I1, rfl, ⟨_, x, rfl, I.hok.fresh (Nat.le_refl _), rfl, fun ys hy => by rw [I.tuple_inj hy hq]; exact hx⟩, ⟨⟨y, ?_⟩, hit'.at fun o q => (sb.2 it (Ne.symm hne)).trans q, hne, hai, hae⟩, fun b hb => ?_⟩
    · have e1 : ((i + 1 : Nat) : Int) = (i : Int) + 1 := by omega
      rw [e1]; exact he'
    · have hb' : b < s.heap.objs.size := by
        rcases List.mem_cons.mp hb with z | z
        · rw [z]; exact hel
        · obtain rfl := List.mem_singleton.mp z
          exact hil
      rw [upd_ne (Nat.ne_of_lt hb')]
      exact (hf b hb).1
  done := by
    intro X hP hw hK hc i pins s σ H E I hf st hg
    subst hP hw hK
    obtain ⟨⟨old, he⟩, hit, hne, hai, hae⟩ := st
    obtain ⟨xs, hq, hx⟩ := hg
    obtain ⟨its, rv, p, hz⟩ := I.tuple hq
    obtain ⟨f0, f1, f2, f3, f4, f5⟩ := hf it (by simp)
    have hl := rv.length
    have hi : its.toArray.size = i := by simp; omega
    refine wpAny_pyNext_enum_endD (Draws.tuple (A := X.A.in1) (I.ok.hd hc) it a hai its.toArray) he (by rw [hi]; exact ⟨hit, p⟩) fun h' eb => ⟨rfl, I.turned (t' := s.toks) (fun b o hb q => eb b o hb q) f0 f1 f3 f4 f5⟩
  self := fun A i s Q E st h => let ⟨⟨_, he⟩, _⟩ := st; wpAny_pyIter_enum he h
def iTe (K : PySem.W.Frag) (ta : TA) : TI := fun σ H R => ta σ H fun vs H1 => ∃ a xs, vs = [.ref a] ∧ SqT K H1 a xs ∧ R (ItTe K a) H1
/-- for i, x in enumerate(t), t a tuple -/
theorem pi_enumT {X : Cx} {e : Expr} {ta : TA} {p pos tpos : Pos} {elts : List Expr} {kk : Nat} (hg : Gl X "enumerate") (hm : X.mg "enumerate" = none) (ha : PA X [e] ta) (hs : starEach [e] X.env = [(false, eval e X.env)] := by rfl) :
    PI X (.Tuple elts kk tpos) (.Call (.Name "enumerate" p) [e] [] pos) (iTe X.K ta) := by
  refine ⟨fun pins s σ H R I h => ?_⟩
  refine Call_ (ld_blt I hg hm boot_enumerate (PyProof.Rows.callWith_type1 (thn (ha.run pos pins s σ H _ I h) fun us s1 ⟨vs, H1, I1, r1, q1⟩ => ?_) hs rfl))
  obtain ⟨a, xs, ex, hq, q⟩ := q1
  subst ex
  cases r1 with
  | cons r rr =>
    cases rr
    cases r
    obtain ⟨its, rv, p', hz⟩ := I1.tuple hq
    have hal : a < s1.heap.objs.size := by obtain ⟨_, q, _⟩ := p'; exact Heap.lt_size q
    refine enum_call1 (begins_tuple a its.toArray) p' fun h' he hit hk => wpAny_pyIter_enum he ?_
    have I2 : Inv X pins σ H1 { s1 with heap := h' } := I1.kept (t' := s1.toks) hk
    refine ⟨s1.heap.objs.size + 1, [s1.heap.objs.size + 1, s1.heap.objs.size], _, _, H1, rfl, I2, turn_te a (s1.heap.objs.size + 1) s1.heap.objs.size, ⟨⟨.none, he⟩, ⟨_, hit, rfl, rfl⟩, Nat.succ_ne_self _, Nat.ne_of_lt hal, Nat.ne_of_lt (Nat.lt_succ_of_lt hal)⟩, fun b hb => ?_, q⟩
    have hle : s1.heap.objs.size ≤ b := by
      rcases List.mem_cons.mp hb with z | z
      · rw [z]; exact Nat.le_add_right _ _
      · obtain rfl := List.mem_singleton.mp z
        exact Nat.le_refl _
    exact I1.fpOk hle (I1.hok.fresh hle)
theorem walk_te {K : PySem.W.Frag} {a : Addr} {xs : List V} : Walk (ItTe K a) xs.length (fun H => SqT K H a xs) (YPair (fun i => some (.int (i : Nat))) (fun i => xs[i]?)) := by
  refine ⟨fun i _ hi q => ⟨xs, xs[i], q, by simp [hi]⟩, fun _ q => ⟨xs, q, rfl⟩, fun i H v H' _ q y => ?_⟩
  obtain ⟨T, x, h1, h2, h3, h4⟩ := y
  exact ⟨T, .int (i : Nat), x, h1, h2, h3, rfl, h4 xs q⟩
end Sw
namespace Sw
open PySem L2
/-! ### what all laws share: the text by places, the checks of the package, data in short -/
def top (i : Nat) : Stmt := PySem.Challenge.pw_swapstops_k09_what_is_a_journey.main.body.getD i (.Pass ⟨0, 0, 0, 0⟩)
def isWhole (lo hi : Int) : D → Bool
  | .int i => decide (lo ≤ i) && decide (i ≤ hi)
  | _ => false
def isPair : D → Bool
  | .tup [_, _] => true
  | _ => false
/-- built-in names that no module has taken -/
structure NoNames (mg : Str → Option Value) : Prop where
  isi : mg "isinstance" = none
  len : mg "len" = none
  int : mg "int" = none
  bool : mg "bool" = none
  tuple : mg "tuple" = none
  enumerate : mg "enumerate" = none
  range : mg "range" = none
  abs : mg "abs" = none
  list : mg "list" = none
  dict : mg "dict" = none
  zip : mg "zip" = none
  sorted : mg "sorted" = none
  str : mg "str" = none
  repr : mg "repr" = none
  super : mg "super" = none
section
variable {P : Program} {w : World} {K : PySem.W.Frag} {mg : Str → Option Value} {base : Heap}
/-- isinstance(the name in slot i, T) -/
theorem pe_isi {X : Cx} {i : Nat} {x T : Str} {p1 p2 p3 p4 : Pos} {TN : String} (hN : X.N[i]? = some x) (hv : Vis X.env.scope x) (hd : (x == ("__debug__" : Str)) = false) (hcd : (x == ("__classdict__" : Str)) = false)
    (h1 : X.mg "isinstance" = none) (h2 : X.mg T = none) (g1 : Gl X "isinstance") (g2 : Gl X T) (hb : bootBuiltins T = some (.type TN)) (hn : T ≠ "__name__") (hd2 : (T == ("__debug__" : Str)) = false)
    (hs : starEach [Expr.Name x p1, Expr.Name T p2] X.env = (false, eval (.Name x p1) X.env) :: starEach [Expr.Name T p2] X.env := by rfl) (hs2 : starEach [Expr.Name T p2] X.env = (false, eval (.Name T p2) X.env) :: starEach [] X.env := by rfl)
    (hpl : (backTo p4 (starEach [Expr.Name T p2] X.env)).any (·.1) = false := by rfl) :
    PE X (.Call (.Name "isinstance" p3) [.Name x p1, .Name T p2] [] p4) (tCB (rIsD X.K) (tCons (tVar i) (tCons (tC (.ty TN)) tNil))) :=
  pe_callB call_isD g1 h1 (by decide +kernel) (pa_cons (pe_var hN hv hd hcd) (pa_cons (pe_bltn (v := .ty TN) g2 h2 hb rfl hn hd2) pa_nil hs2) hs) (by decide) (by decide) hs hpl
def spBetween (K : PySem.W.Frag) : Sp := fun vs H Q _ => ∃ (x : V) (d : D) (as : List Addr) (lo hi : Int), vs = [x, .int lo, .int hi] ∧ Rep K H d x as ∧ Q (.bl (isWhole lo hi d)) H
/-! ### is_pair -/
def spPair (K : PySem.W.Frag) : Sp := fun vs H Q _ => ∃ (x : V) (d : D) (as : List Addr), vs = [x] ∧ Rep K H d x as ∧ Q (.bl (isPair d)) H
/-- a def of one's own that may be called by its name -/
structure Own (P : Program) (w : World) (K : PySem.W.Frag) (mg : Str → Option Value) (base : Heap) (k : Nat) (x : Str) (ps : List Str) (sp : Sp) : Prop where
  ex : ∃ f fd, FnOk P w K mg base CX0 k f fd ps sp ∧ mg x = some (.ref f) ∧ PySem.W.keepIn K (.ref f) = true ∧ Binds K fd ps []
theorem two_of {d : D} (h : isPair d = true) : ∃ a b, d = .tup [a, b] := by
  cases d with
  | tup ds =>
    match ds, h with
    | [a, b], _ => exact ⟨a, b, rfl⟩
    | [], h => cases h
    | [_], h => cases h
    | _ :: _ :: _ :: _, h => cases h
  | _ => cases h
theorem int_wt {i : Nat} (h : i ≤ sizeLine) : (Str.ofString (toString (i : Int))).length ≤ 20 ∧ ((i : Int)).natAbs.log2 < 1920 := by
  rw [sizeLine_eq] at h
  have h1 : ((i : Int)).natAbs < 10 ^ 19 := by
    have : ((i : Int)).natAbs = i := rfl
    rw [this]
    omega
  have h2 := int_text_length_le10 (k := 19) (by decide) h1
  rw [PySem.ofString_length]
  refine ⟨h2, ?_⟩
  exact PySem.Spec.log2_small (Nat.lt_of_lt_of_le h1 (by decide +kernel))
theorem wt_len : ∀ ds : List D, 2 * ds.length ≤ wtAll ds
  | [] => by simp [wtAll]
  | d :: r => by
    have := wt_len r
    simp only [wtAll, List.length_cons]
    omega
/-- a new pair of a word and a place -/
theorem rep_err {H : Hp} {p : Addr} {z : Str} {i : Int} (h : H p = none) : Rep K (upd H p (.tup [.str z, .int i])) (.tup [.str z, .int i]) (.ref p) [p] := by
  simp only [Rep, RepAll]
  exact ⟨p, _, [], rfl, upd_same, ⟨_, _, [], [], rfl, ⟨rfl, rfl⟩, ⟨_, _, [], [], rfl, ⟨rfl, rfl⟩, ⟨rfl, rfl⟩, rfl⟩, rfl⟩, by simp, rfl⟩
theorem same_new {H : Hp} {p : Addr} {o : HO} (h : H p = none) : Same H (upd H p o) := fun b x e => by
  rw [upd_ne (ne_of_none e h)]
  exact e
theorem Rep.same {H H' : Hp} {d : D} {v : V} {as : List Addr} (h : Rep K H d v as) (s : Same H H') : Rep K H' d v as := h.keep fun b _ o e => s b o e
theorem RepAll.same {H H' : Hp} {d : List D} {v : List V} {as : List Addr} (h : RepAll K H d v as) (s : Same H H') : RepAll K H' d v as := h.keep fun b _ o e => s b o e
theorem pair_len {ds : List D} {n : Nat} (h : n = ds.length) : isPair (.tup ds) = decide (V.int (n : Int) = V.int 2) := by
  match ds, h with
  | [], hl => rw [hl]; rfl
  | [_], hl => rw [hl]; rfl
  | [_, _], hl => rw [hl]; rfl
  | _ :: _ :: _ :: r, hl =>
    rw [hl]
    show false = _
    refine (decide_eq_false fun z => ?_).symm
    have z2 : ((_ : Nat) : Int) = 2 := V.int.inj z
    simp only [List.length_cons] at z2
    omega
theorem tup_of {d : D} (e : isT "tuple" d = true) : ∃ ds, d = .tup ds := by
  cases d <;> first | exact ⟨_, rfl⟩ | (simp_all [isT])
theorem pair_tup {d : D} (e : isT "tuple" d = false) : isPair d = false := by
  cases d <;> simp_all [isT, isPair]
/-- isinstance(e, T) -/
theorem pe_isiE {X : Cx} {e : Expr} {te : TE} {T : Str} {p2 p3 p4 : Pos} {TN : String} (he : PE X e te)
    (h1 : X.mg "isinstance" = none) (h2 : X.mg T = none) (g1 : Gl X "isinstance") (g2 : Gl X T) (hb : bootBuiltins T = some (.type TN)) (hn : T ≠ "__name__") (hd2 : (T == ("__debug__" : Str)) = false)
    (hs : starEach [e, Expr.Name T p2] X.env = (false, eval e X.env) :: starEach [Expr.Name T p2] X.env := by rfl) (hs2 : starEach [Expr.Name T p2] X.env = (false, eval (.Name T p2) X.env) :: starEach [] X.env := by rfl)
    (hpl : (backTo p4 (starEach [Expr.Name T p2] X.env)).any (·.1) = false := by rfl) :
    PE X (.Call (.Name "isinstance" p3) [e, .Name T p2] [] p4) (tCB (rIsD X.K) (tCons te (tCons (tC (.ty TN)) tNil))) :=
  pe_callB call_isD g1 h1 (by decide +kernel) (pa_cons he (pa_cons (pe_bltn (v := .ty TN) g2 h2 hb rfl hn hd2) pa_nil hs2) hs) (by decide) (by decide) hs hpl
end
end Sw
namespace Sw
open PySem L2
abbrev sDeck : Stmt := top 14
abbrev sDraw : Stmt := top 15
abbrev sPick : Stmt := top 16
abbrev sMixed : Stmt := top 17
theorem scDeck : FnScope ["script", "deck", "cell", "whole", "state"] ["script"] (defScope sDeck) := ⟨rfl, rfl, rfl, by decide +kernel, rfl, by decide +kernel, by decide +kernel⟩
theorem scDraw : FnScope ["deck", "many", "whole", "one", "two"] ["deck", "many"] (defScope sDraw) := ⟨rfl, rfl, rfl, by decide +kernel, rfl, by decide +kernel, by decide +kernel⟩
theorem scPick : FnScope ["deck", "items"] ["deck", "items"] (defScope sPick) := ⟨rfl, rfl, rfl, by decide +kernel, rfl, by decide +kernel, by decide +kernel⟩
theorem scMixed : FnScope ["deck", "items", "left", "found"] ["deck", "items"] (defScope sMixed) := ⟨rfl, rfl, rfl, by decide +kernel, rfl, by decide +kernel, by decide +kernel⟩
/-! ### the deck -/
def kD : Key := .inr "deep"
def kS : Key := .inr "state"
theorem kDS : ¬ kD = kS := by decide +kernel
theorem kSD : ¬ kS = kD := by decide +kernel
def deckL (d : Addr) (st : Int) : List (Key × V) := [(kD, .ref d), (kS, .int st)]
theorem deck_deep (d : Addr) (st : Int) : valV (deckL d st) kD = some (.ref d) := by
  show ((deckL d st).find? fun kv => decide (kv.1 = kD)).map (·.2) = _
  unfold deckL
  rw [List.find?_cons, decide_eq_true rfl]
  rfl
theorem deck_state (d : Addr) (st : Int) : valV (deckL d st) kS = some (.int st) := by
  show ((deckL d st).find? fun kv => decide (kv.1 = kS)).map (·.2) = _
  unfold deckL
  rw [List.find?_cons, decide_eq_false kDS, List.find?_cons, decide_eq_true rfl]
  rfl
theorem deck_put_deep (d e : Addr) (st : Int) : putK (deckL d st) kD (.ref e) = deckL e st := by
  unfold putK deckL
  rw [if_pos (by simp)]
  simp [kSD]
theorem deck_put_state (d : Addr) (st z : Int) : putK (deckL d st) kS (.int z) = deckL d z := by
  unfold putK deckL
  rw [if_pos (by simp)]
  simp [kDS]
theorem deck_new (d : Addr) (st : Int) : mergeK [] [(kD, V.ref d), (kS, V.int st)] = deckL d st := by
  show putK (putK [] kD (.ref d)) kS (.int st) = _
  have e1 : putK ([] : List (Key × V)) kD (.ref d) = [(kD, .ref d)] := by simp [putK]
  rw [e1]
  unfold putK deckL
  rw [if_neg (by simp [kDS])]
  rfl
/-- a deck at p, its deep cells at d: at most m -/
structure Deck (H : Hp) (p d : Addr) (m : Nat) : Prop where
  ex : ∃ (ns : List Int) (st : Int), H p = some (.dK (deckL d st)) ∧ H d = some (.lst (ns.map V.int)) ∧ ns.length ≤ m ∧ (∀ n ∈ ns, 0 ≤ n) ∧ 0 ≤ st ∧ st < 2 ^ 61
theorem Deck.same {H H' : Hp} {p d : Addr} {m : Nat} (D : Deck H p d m) (s : Same H H') : Deck H' p d m := by
  obtain ⟨ns, st, h1, h2, r⟩ := D.ex
  exact ⟨ns, st, s _ _ h1, s _ _ h2, r⟩
theorem Deck.ne {H : Hp} {p d : Addr} {m : Nat} (D : Deck H p d m) : p ≠ d := by
  obtain ⟨ns, st, h1, h2, r⟩ := D.ex
  exact ne_of h1 h2 (by intro z; cases z)
theorem Deck.mono {H : Hp} {p d : Addr} {m k : Nat} (D : Deck H p d m) (h : m ≤ k) : Deck H p d k := by
  obtain ⟨ns, st, h1, h2, h3, r⟩ := D.ex
  exact ⟨ns, st, h1, h2, Nat.le_trans h3 h, r⟩
theorem dget_deep {H : Hp} {p d : Addr} {st : Int} (h : H p = some (.dK (deckL d st))) : DGet H p (.str "deep") (some (.ref d)) := by
  have q := DGet.k (k := kD) h
  rw [deck_deep] at q
  exact q
theorem dget_state {H : Hp} {p d : Addr} {st : Int} (h : H p = some (.dK (deckL d st))) : DGet H p (.str "state") (some (.int st)) := by
  have q := DGet.k (k := kS) h
  rw [deck_state] at q
  exact q
theorem dput_deep {H : Hp} {p d : Addr} {st : Int} (e : Addr) (h : H p = some (.dK (deckL d st))) : DPut H p (.str "deep") (.ref e) (upd H p (.dK (deckL e st))) := by
  have q := DPut.k (k := kD) (v := .ref e) h (by show 2 < sizeLine; rw [sizeLine_eq]; omega)
  rw [deck_put_deep] at q
  exact q
theorem dput_state {H : Hp} {p d : Addr} {st : Int} (z : Int) (h : H p = some (.dK (deckL d st))) : DPut H p (.str "state") (.int z) (upd H p (.dK (deckL d z))) := by
  have q := DPut.k (k := kS) (v := .int z) h (by show 2 < sizeLine; rw [sizeLine_eq]; omega)
  rw [deck_put_state] at q
  exact q
theorem cut_int (ns : List Int) (lo hi : Option Int) : ∃ ms : List Int, cutV (ns.map V.int) lo hi = ms.map V.int ∧ ms.length ≤ ns.length := by
  refine ⟨(ns.drop (HT.sIx (ns.map V.int).length 0 lo)).take (HT.sIx (ns.map V.int).length (ns.map V.int).length hi - HT.sIx (ns.map V.int).length 0 lo), ?_, ?_⟩
  · unfold cutV
    rw [List.map_take, List.map_drop]
  · rw [List.length_take, List.length_drop]
    omega
section
variable {P : Program} {w : World} {K : PySem.W.Frag} {mg : Str → Option Value} {base : Heap}
def spDeck (K : PySem.W.Frag) : Sp := fun vs H Q _ => ∃ (a : Addr) (ns : List Int), vs = [.ref a] ∧ SqL K H a (ns.map V.int) ∧ ns.length ≤ 63 ∧ ∀ (p d : Addr) (H' : Hp), Same H H' → H p = none → H d = none → Deck H' p d 63 → Q (.ref p) H'
theorem ok_deck {f : Addr} {fd : FuncData} (F : Fun K "_law_deck" "_law_deck" sDeck f fd) (B : NoNames mg) : FnOk P w K mg base CX0 1 f fd ["script"] (spDeck K) := by
  refine F.ok scDeck (fun vs H Q E h => ?_) (fun cdv A outer s H vs Q E hr h => ?_)
  · obtain ⟨a, ns, rfl, _⟩ := h
    rfl
  · obtain ⟨a, ns, rfl, hS, hl, k⟩ := h
    have hu := hu_of hr
    refine ⟨_, pss_cons (ps_set (i := 1) scDeck.nd rfl (.inl rfl) (pe_disp (pps_cons pe_str (pe_lst pa_nil) (pps_cons pe_str (pe_op op_add pe_int (pe_callB call_len_seq (by rfl) B.len PySem.boot_len (pa_cons (pe_slice sl_list (pv 0) po_none (po_some pe_int)) pa_nil))) pps_nil)) (by rfl) (by rfl) (fun z => by cases z) (by decide)))
      (pss_cons (ps_for PassesOwn.never rfl (pi_list (pe_slice sl_list (pv 0) po_none (po_some pe_int))) (pg_name (i := 2) scDeck.nd rfl (.inl rfl))
        (pss_cons (ps_set (i := 3) scDeck.nd rfl (.inl rfl) (pe_callB call_abs (by rfl) B.abs (by decide +kernel) (pa_cons (pv 2) pa_nil)))
        (pss_cons (ps_if (pt_cmpR op_ge (pv 3) (pe_op op_pow pe_int pe_int) (nomark _)) (pss_one (ps_dput hu (pv 1) pe_str (pe_op op_cat (pe_lst (pa_cons (pv 3) pa_nil)) (pe_dget hu (pv 1) pe_str (fun _ _ => rfl))) rfl)) pss_nil)
        (pss_cons (ps_set (i := 4) scDeck.nd rfl (.inl rfl) (pe_op op_add (pe_op op_mul (pe_op op_add (pe_op op_add (pe_op op_add (pe_dget hu (pv 1) pe_str (fun _ _ => rfl)) (pe_op op_mul pe_int (pv 3)))
            (pe_callTy call_int1 (by rfl) B.int (by decide +kernel) (pa_cons (pe_cmpR op_lt (pv 2) pe_int (nomark _)) pa_nil))) pe_int) pe_int) pe_int))
        (pss_one (ps_dput hu (pv 1) pe_str (pe_op op_mod (pe_callTy call_int1 (by rfl) B.int (by decide +kernel) (pa_cons (pv 4) pa_nil)) pe_int) rfl))))))
      (pss_one (ps_ret (pv 1)))), ?_⟩
    -- the deck
    intro p np
    refine ⟨Nat.zero_le _, fun l nl => ?_⟩
    have nlp : p ≠ l := fun z => by
      rw [z, upd_same] at nl
      cases nl
    have nl0 : H l = none := by
      rw [upd_ne nlp.symm] at nl
      exact nl
    have s1 : Same H (upd (upd H p (.dK [])) l (.lst [])) := (same_new np).trans (same_new nl)
    obtain ⟨ms, em, lm⟩ := cut_int ns none (some 63)
    refine ⟨_, rfl, 63, rfl, a, ns.map V.int, rfl, s1.seq hS, fun c nc => ?_⟩
    rw [em]
    refine ⟨c, _, rfl, .inl (SqL.of upd_same), _, _, rfl, rfl, ?_⟩
    have s2 := s1.trans (same_new (o := .lst (ms.map V.int)) nc)
    have ncp : p ≠ c := fun z => by
      rw [← z, upd_ne nlp, upd_same] at nc
      cases nc
    have ncl : l ≠ c := fun z => by
      rw [← z, upd_same] at nc
      cases nc
    refine ⟨by rw [upd_ne ncp, upd_ne nlp, upd_same], [(kD, .ref l), (kS, .int (1279809 + ((ms.map V.int).length : Int)))], rfl, by show 2 ≤ 15; decide, ?_⟩
    rw [deck_new]
    have em2 : (ms.map V.int).length ≤ 63 := by
      rw [List.length_map]
      omega
    have d0 : Deck (upd (upd (upd (upd H p (.dK [])) l (.lst [])) c (.lst (ms.map V.int))) p (.dK (deckL l (1279809 + ((ms.map V.int).length : Int))))) p l 0 :=
      ⟨[], _, upd_same, by rw [upd_ne nlp.symm, upd_ne ncl, upd_same]; rfl, Nat.le_refl _, fun _ h => absurd h (by simp), by omega, by omega⟩
    have s3 : Same H (upd (upd (upd (upd H p (.dK [])) l (.lst [])) c (.lst (ms.map V.int))) p (.dK (deckL l (1279809 + ((ms.map V.int).length : Int))))) := fun b o e => by
      rw [upd_ne (ne_of_none e np)]
      exact s2 b o e
    -- for cell in script[:63]
    refine ⟨_, rfl, 63, rfl, a, ns.map V.int, rfl, s3.seq hS, fun c2 nc2 => ?_⟩
    rw [em]
    have s4 := s3.trans (same_new (o := .lst (ms.map V.int)) nc2)
    have p0 : ∀ {H' : Hp}, (∃ d', Deck H' p d' 0) → True := fun _ => trivial
    refine ⟨c2, rfl, ⟨_, SqL.of upd_same⟩, for_it (walk_list (xs := ms.map V.int)) (fun i σ H' => ∃ s2 s3 s4 d', σ = [some (.ref a), some (.ref p), s2, s3, s4] ∧ Same H H' ∧ H' c2 = some (.lst (ms.map V.int)) ∧ H d' = none ∧ Deck H' p d' i)
      ⟨none, none, none, l, rfl, s4, upd_same, nl0, d0.same (same_new nc2)⟩ (fun i σ H' _ h => by obtain ⟨_, _, _, _, _, _, h3, _⟩ := h; exact SqL.of h3) ?_ ?_⟩
    · rintro i x σ H0 H1 hi ⟨t2, t3, t4, d', rfl, w1, w2, w3, D⟩ ⟨rfl, ex⟩
      obtain ⟨z, rfl⟩ : ∃ z, x = V.int z := by
        rw [List.getElem?_map] at ex
        cases q : ms[i]? with
        | none => rw [q] at ex; cases ex
        | some z => rw [q] at ex; exact ⟨z, (Option.some.inj ex).symm⟩
      have hi63 : i < 63 := by
        rw [List.length_map] at hi
        omega
      -- whole = abs(cell)
      refine ⟨_, rfl, z, rfl, ?_⟩
      obtain ⟨deep, st, hp1, hd1, hl1, hn1, hs1, hs2⟩ := id D.ex
      have hW : 0 ≤ (if z < 0 then -z else z) := by split <;> omega
      generalize (if z < 0 then -z else z) = W at hW ⊢
      refine ⟨_, rfl, _, _, rfl, rfl, ⟨by decide, by decide, by decide⟩, _, _, rfl, rfl, _, rfl, ?_⟩
      refine ite2 (fun _ => ?yes) (fun _ => ?no)
      case' yes =>
        -- deck["deep"] = [whole] + deck["deep"]
        refine ⟨_, rfl, by show 1 ≤ sizeLine; decide, fun q nq => ?_⟩
        have sq : Same H1 (upd H1 q (.lst [.int W])) := same_new nq
        refine ⟨_, rfl, p, _, rfl, dget_deep (sq _ _ hp1), q, d', _, _, rfl, rfl, upd_same, sq _ _ hd1, ?_, fun e ne => ?_⟩
        · rw [List.length_map, sizeLine_eq]
          show 1 + deep.length ≤ _
          omega
        have se := sq.trans (same_new (o := .lst ([V.int W] ++ deep.map V.int)) ne)
        refine ⟨_, rfl, p, _, rfl, dput_deep e (se _ _ hp1), ?_⟩
        have ep : e ≠ p := fun y => by
          rw [y, sq _ _ hp1] at ne
          cases ne
        have cp : c2 ≠ p := ne_of w2 hp1 (by intro y; cases y)
        have e0 : H e = none := w1.free (sq.free ne)
        have y1 : Same H (upd (upd (upd H1 q (.lst [.int W])) e (.lst ([V.int W] ++ deep.map V.int))) p (.dK (deckL e st))) := fun b o h => by
          rw [upd_ne (ne_of_none h np)]
          exact se _ _ (w1 b o h)
        have y2 : (upd (upd (upd H1 q (.lst [.int W])) e (.lst ([V.int W] ++ deep.map V.int))) p (.dK (deckL e st))) c2 = some (.lst (ms.map V.int)) := by
          rw [upd_ne cp]
          exact se _ _ w2
        have y3 : ∃ (d2 : Addr) (deep2 : List Int) (st2 : Int), (H d2 = none ∧ (upd (upd (upd H1 q (.lst [.int W])) e (.lst ([V.int W] ++ deep.map V.int))) p (.dK (deckL e st))) p = some (.dK (deckL d2 st2)) ∧
            (upd (upd (upd H1 q (.lst [.int W])) e (.lst ([V.int W] ++ deep.map V.int))) p (.dK (deckL e st))) d2 = some (.lst (deep2.map V.int)) ∧ deep2.length ≤ i + 1 ∧ (∀ n ∈ deep2, 0 ≤ n)) ∧ 0 ≤ st2 ∧ st2 < 2 ^ 61 :=
          ⟨e, W :: deep, st, ⟨e0, upd_same, by rw [upd_ne ep, upd_same]; rfl, by simp only [List.length_cons]; omega, fun n hn => by
            rcases List.mem_cons.mp hn with y | y
            · rw [y]; exact hW
            · exact hn1 n y⟩, hs1, hs2⟩
        generalize (upd (upd (upd H1 q (.lst [.int W])) e (.lst ([V.int W] ++ deep.map V.int))) p (.dK (deckL e st))) = H2 at y1 y2 y3 ⊢
      case' no =>
        have y1 : Same H H1 := w1
        have y2 : H1 c2 = some (.lst (ms.map V.int)) := w2
        have y3 : ∃ (d2 : Addr) (deep2 : List Int) (st2 : Int), (H d2 = none ∧ H1 p = some (.dK (deckL d2 st2)) ∧ H1 d2 = some (.lst (deep2.map V.int)) ∧ deep2.length ≤ i + 1 ∧ (∀ n ∈ deep2, 0 ≤ n)) ∧ 0 ≤ st2 ∧ st2 < 2 ^ 61 :=
          ⟨d', deep, st, ⟨w3, hp1, hd1, by omega, hn1⟩, hs1, hs2⟩
        generalize H1 = H2 at y1 y2 y3 ⊢
      all_goals
        obtain ⟨d2, deep2, st2, ⟨g0, g1, g2, g3, g4⟩, g5, g6⟩ := y3
        -- state
        refine ⟨_, rfl, p, _, rfl, dget_state g1, _, rfl, _, _, rfl, rfl, .inl ⟨by decide, by decide⟩, _, _, rfl, rfl, ?_⟩
        refine ⟨_, rfl, _, _, rfl, rfl, .inr ⟨_, rfl, _, _, rfl, rfl, ?_⟩⟩
        refine ⟨_, _, rfl, rfl, _, _, rfl, rfl, .inr ⟨by decide, by decide⟩, _, _, rfl, rfl, ?_⟩
        refine ⟨_, rfl, .inl ⟨_, rfl, _, _, rfl, rfl, (by show (0 : Int) < 2305843009213693951; decide), _, rfl, p, _, rfl, dput_state _ g1, ?_⟩⟩
        have np2 : p ≠ d2 := ne_of g1 g2 (by intro y; cases y)
        have cp : c2 ≠ p := ne_of y2 g1 (by intro y; cases y)
        refine ⟨_, _, _, d2, rfl, fun b o h => ?_, ?_, g0, ⟨deep2, _, upd_same, ?_, g3, g4, Int.emod_nonneg _ (by decide), Int.lt_of_lt_of_le (Int.emod_lt_of_pos _ (by decide)) (by decide)⟩⟩
        · rw [upd_ne (ne_of_none h np)]
          exact y1 b o h
        · rw [upd_ne cp]
          exact y2
        · rw [upd_ne np2.symm]
          exact g2
    · rintro σ H1 ⟨t2, t3, t4, d', rfl, w1, w2, w3, D⟩
      refine ⟨_, rfl, k p d' H1 w1 np w3 (D.mono ?_)⟩
      rw [List.length_map]
      omega
end
end Sw
namespace Sw
open PySem L2
/-- all but the deck stands -/
def Kp (p d : Addr) (H H' : Hp) : Prop := ∀ b o, H b = some o → b ≠ p → b ≠ d → H' b = some o
theorem Kp.of {p d : Addr} {H H' : Hp} (s : Same H H') : Kp p d H H' := fun b o e _ _ => s b o e
theorem Kp.refl {p d : Addr} {H : Hp} : Kp p d H H := fun _ _ e _ _ => e
theorem Kp.trans {p d : Addr} {H H1 H2 : Hp} (s : Kp p d H H1) (t : Kp p d H1 H2) : Kp p d H H2 := fun b o e n1 n2 => t b o (s b o e n1 n2) n1 n2
theorem Kp.new {p d : Addr} {H : Hp} {a : Addr} {o : HO} (h : H a = none) : Kp p d H (upd H a o) := .of (same_new h)
theorem Deck.ne_none {H : Hp} {p d : Addr} {m : Nat} (D : Deck H p d m) {a : Addr} (h : H a = none) : a ≠ p ∧ a ≠ d := by
  obtain ⟨ns, st, h1, h2, r⟩ := D.ex
  refine ⟨fun z => ?_, fun z => ?_⟩
  · rw [z, h1] at h
    cases h
  · rw [z, h2] at h
    cases h
/-- what is not yet stands not behind either -/
theorem Deck.free {H H' : Hp} {p d : Addr} {m : Nat} (D : Deck H p d m) (s : Kp p d H H') {a : Addr} (h : H' a = none) (D' : Deck H' p d m) : H a = none := by
  cases e : H a with
  | none => rfl
  | some o =>
    have n := D'.ne_none h
    have := s a o e n.1 n.2
    rw [this] at h
    cases h
theorem eqv_nil (ns : List Int) : (!PyData.eqv (.list (ns.map PyData.int)) (.list [])) = decide (ns ≠ []) := by
  cases ns with
  | nil => simp [PyData.eqv, PyData.eqvAll]
  | cons a r => simp [PyData.eqv, PyData.eqvAll]
theorem dpInts {K : PySem.W.Frag} {H : Hp} : ∀ ns : List Int, DpAll K H (ns.map V.int) (ns.map PyData.int)
  | [] => .nil
  | n :: r => .cons (.int n) (dpInts r)
theorem last_ints {ns : List Int} (h : ns ≠ []) : ∃ n ms, ns = ms ++ [n] ∧ (ns.map V.int)[(ns.map V.int).length - 1]? = some (.int n) ∧ (ns.map V.int).dropLast = ms.map V.int := by
  refine ⟨ns.getLast h, ns.dropLast, (List.dropLast_concat_getLast h).symm, ?_, ?_⟩
  · rw [List.getElem?_map, List.length_map]
    rw [← List.getLast?_eq_getElem?, List.getLast?_eq_some_getLast h]
    rfl
  · rw [List.map_dropLast]
section
variable {P : Program} {w : World} {K : PySem.W.Frag} {mg : Str → Option Value} {base : Heap}
def spDraw : Sp := fun vs H Q _ => ∃ (p d : Addr) (m : Int), vs = [.ref p, .int m] ∧ Deck H p d 63 ∧ m < 1000000 ∧ ∀ (r : Int) (H' : Hp), 0 ≤ r → (1 ≤ m → r < m) → (m < 2 → r = 0) → Deck H' p d 63 → Kp p d H H' → Q (.int r) H'
theorem ok_draw {f : Addr} {fd : FuncData} (F : Fun K "_law_draw" "_law_draw" sDraw f fd) (B : NoNames mg) : FnOk P w K mg base CX0 1 f fd ["deck", "many"] (spDraw) := by
  refine F.ok scDraw (fun vs H Q E h => ?_) (fun cdv A outer s H vs Q E hr h => ?_)
  · obtain ⟨p, d, m, rfl, _⟩ := h
    rfl
  · obtain ⟨p, d, m, rfl, D, hm, k⟩ := h
    have hu := hu_of hr
    refine ⟨_, pss_cons (ps_if (pt_cmpR op_lt (pv 1) pe_int (nomark _)) (pss_one (ps_ret pe_int)) pss_nil)
      (pss_cons (ps_if (pt_cmpR (op_neD hr.units) (pe_dget hu (pv 0) pe_str (fun _ _ => rfl)) (pe_lst pa_nil) (nomark _))
        (pss_cons (ps_set (i := 2) scDraw.nd rfl (.inl rfl) (pe_bm0 PySem.F.plainAttrs_list PySem.F.slot_list_pop PySem.F.type_list_pop mt_pop (pe_dget hu (pv 0) pe_str (fun _ _ => rfl))))
        (pss_cons (ps_if (pt_cmpR op_ge (pv 2) (pv 1) (nomark _)) (pss_one (ps_expr (pe_bm PySem.F.plainAttrs_list PySem.F.slot_list_append PySem.F.type_list_append mt_append (pe_dget hu (pv 0) pe_str (fun _ _ => rfl)) (pa_cons (pe_op op_fdiv (pv 2) (pv 1)) pa_nil)))) pss_nil)
        (pss_one (ps_ret (pe_op op_mod (pe_callTy call_int1 (by rfl) B.int (by decide +kernel) (pa_cons (pv 2) pa_nil)) (pv 1)))))) pss_nil)
      (pss_cons (ps_set (i := 3) scDraw.nd rfl (.inl rfl) (pe_op op_mod (pe_callTy call_int1 (by rfl) B.int (by decide +kernel) (pa_cons (pe_op op_add (pe_op op_mul (pe_dget hu (pv 0) pe_str (fun _ _ => rfl)) pe_int) pe_int) pa_nil)) pe_int))
      (pss_cons (ps_dput hu (pv 0) pe_str (pv 3) rfl)
      (pss_cons (ps_set (i := 4) scDraw.nd rfl (.inl rfl) (pe_op op_mod (pe_callTy call_int1 (by rfl) B.int (by decide +kernel) (pa_cons (pe_op op_add (pe_op op_add (pe_op op_mul (pv 3) (pv 3)) (pe_op op_mul pe_int (pv 3))) pe_int) pa_nil)) pe_int))
      (pss_one (ps_ret (pe_op op_mod (pe_callTy call_int1 (by rfl) B.int (by decide +kernel) (pa_cons (pe_op op_fdiv (pv 4) pe_int) pa_nil)) (pv 1)))))))), ?_⟩
    obtain ⟨ns, st, hp, hd, hl, hn, hs1, hs2⟩ := id D.ex
    refine ⟨_, rfl, _, _, rfl, rfl, _, rfl, ?_⟩
    refine ite2 (fun z => ?_) (fun z => ?_)
    · have z : m < 2 := of_decide_eq_true z
      exact k 0 H (by decide) (fun _ => by omega) (fun _ => rfl) D .refl
    have z : ¬ m < 2 := fun q => z (decide_eq_true q)
    refine ⟨_, rfl, p, _, rfl, dget_deep hp, by show 0 ≤ sizeLine; exact Nat.zero_le _, fun e ne => ?_⟩
    have se : Same H (upd H e (.lst [])) := same_new ne
    refine ⟨.list (ns.map PyData.int), .list [], .lst (SqL.of (se _ _ hd)) (dpInts ns), .lst (SqL.of upd_same) .nil, PySem.W.ke_shaped_ints ns, rfl, _, rfl, ?_⟩
    rw [eqv_nil]
    refine ite2 (fun y => ?_) (fun y => ?_)
    · obtain ⟨n, ms, rfl, hlast, hdrop⟩ := last_ints (of_decide_eq_true y)
      have hn0 : 0 ≤ n := hn n (by simp)
      refine ⟨_, rfl, p, _, rfl, dget_deep (se _ _ hp), .inl ⟨rfl, _, SqL.of (se _ _ hd)⟩, d, _, _, rfl, rfl, se _ _ hd, hlast, ?_⟩
      rw [hdrop]
      have hpd := D.ne
      have h1 : (upd (upd H e (.lst [])) d (.lst (ms.map V.int))) p = some (.dK (deckL d st)) := by
        rw [upd_ne hpd]
        exact se _ _ hp
      have h2 : (upd (upd H e (.lst [])) d (.lst (ms.map V.int))) d = some (.lst (ms.map V.int)) := upd_same
      have h3 : Kp p d H (upd (upd H e (.lst [])) d (.lst (ms.map V.int))) := fun b o e n1 n2 => by
        rw [upd_ne n2]
        exact se _ _ e
      have hl' : ms.length + 1 ≤ 63 := by simpa using hl
      have hn' : ∀ x ∈ ms, 0 ≤ x := fun x hx => hn x (by simp [hx])
      generalize (upd (upd H e (.lst [])) d (.lst (ms.map V.int))) = H1 at h1 h2 h3 ⊢
      have D1 : Deck H1 p d 63 := ⟨ms, st, h1, h2, by omega, hn', hs1, hs2⟩
      refine ⟨_, rfl, _, rfl, _, _, rfl, rfl, _, rfl, ?_⟩
      refine ite2 (fun x => ?_) (fun x => ?_)
      · have x : m ≤ n := of_decide_eq_true x
        refine ⟨_, rfl, p, _, rfl, dget_deep h1, .inl ⟨rfl, _, SqL.of h2⟩, _, rfl, _, rfl, _, _, rfl, rfl, ⟨by omega, by omega⟩, d, _, _, rfl, rfl, h2, ?_, ?_⟩
        · rw [List.length_map, sizeLine_eq]
          omega
        refine ⟨_, rfl, .inl ⟨_, rfl, _, rfl, _, _, rfl, rfl, by show 0 < m; omega, ?_⟩⟩
        refine k _ _ (Int.emod_nonneg _ (by omega)) (fun _ => Int.emod_lt_of_pos _ (by omega)) (fun y => absurd y (by omega)) ⟨ms ++ [n / m], st, ?_, ?_, ?_, ?_, hs1, hs2⟩ (h3.trans fun b o e n1 n2 => ?_)
        · rw [upd_ne hpd]
          exact h1
        · rw [upd_same, List.map_append]
          rfl
        · simp
          omega
        · intro x hx
          rcases List.mem_append.mp hx with q | q
          · exact hn' x q
          · rw [List.mem_singleton.mp q]
            exact Int.ediv_nonneg hn0 (by omega)
        · rw [upd_ne n2]
          exact e
      · refine ⟨_, rfl, .inl ⟨_, rfl, _, rfl, _, _, rfl, rfl, by show 0 < m; omega, ?_⟩⟩
        exact k _ _ (Int.emod_nonneg _ (by omega)) (fun _ => Int.emod_lt_of_pos _ (by omega)) (fun y => absurd y (by omega)) D1 h3
    · have D1 := D.same se
      generalize (upd H e (.lst [])) = H1 at se D1
      obtain ⟨ns, st, hp, hd, hl, hn, hs1, hs2⟩ := id D1.ex
      refine ⟨_, rfl, p, _, rfl, dget_state hp, _, _, rfl, rfl, .inl ⟨by omega, by omega⟩, _, _, rfl, rfl, ?_⟩
      refine .inl ⟨_, rfl, _, _, rfl, rfl, (by show (0 : Int) < 2305843009213693951; decide), ?_⟩
      dsimp only
      have o1 : 0 ≤ (st * 1181783497276652981 + 88172645463325) % 2305843009213693951 := Int.emod_nonneg _ (by decide)
      have o2 : (st * 1181783497276652981 + 88172645463325) % 2305843009213693951 < 2305843009213693951 := Int.emod_lt_of_pos _ (by decide)
      generalize (st * 1181783497276652981 + 88172645463325) % 2305843009213693951 = one at o1 o2 ⊢
      refine ⟨_, rfl, _, rfl, p, _, rfl, dput_state one hp, ?_⟩
      refine ⟨_, rfl, _, rfl, _, _, rfl, rfl, .inl ⟨by omega, by omega⟩, _, rfl, _, _, rfl, rfl, .inl ⟨by decide, by decide⟩, _, _, rfl, rfl, _, _, rfl, rfl, ?_⟩
      refine .inl ⟨_, rfl, _, _, rfl, rfl, (by show (0 : Int) < 2305843009213693921; decide), ?_⟩
      dsimp only
      generalize (one * one + 374761393 * one + 11) % 2305843009213693921 = two
      refine ⟨_, rfl, _, _, rfl, rfl, ⟨by decide, by decide⟩, ?_⟩
      refine .inl ⟨_, rfl, _, rfl, _, _, rfl, rfl, by show 0 < m; omega, ?_⟩
      refine k _ _ (Int.emod_nonneg _ (by omega)) (fun _ => Int.emod_lt_of_pos _ (by omega)) (fun y => absurd y (by omega)) ⟨ns, one, upd_same, ?_, hl, hn, o1, by omega⟩ (fun b o e n1 n2 => ?_)
      · rw [upd_ne (D1.ne).symm]
        exact hd
      · rw [upd_ne n1]
        exact se _ _ e
end
end Sw
namespace Sw
open PySem L2
theorem erase_map {α β : Type} (f : α → β) : ∀ (l : List α) (i : Nat), (l.map f).eraseIdx i = (l.eraseIdx i).map f
  | [], _ => rfl
  | _ :: _, 0 => rfl
  | a :: r, i + 1 => by
    show f a :: (r.map f).eraseIdx i = f a :: (r.eraseIdx i).map f
    rw [erase_map f r i]
theorem Deck.kne {H : Hp} {p d : Addr} {m : Nat} (D : Deck H p d m) {a : Addr} {xs : List V} (h : H a = some (.lst xs)) : a ≠ p := by
  obtain ⟨ns, st, h1, h2, r⟩ := D.ex
  exact ne_of h h1 (by intro y; cases y)
theorem Deck.tne {H : Hp} {p d : Addr} {m : Nat} (D : Deck H p d m) {a : Addr} {xs : List V} (h : H a = some (.tup xs)) : a ≠ p ∧ a ≠ d := by
  obtain ⟨ns, st, h1, h2, r⟩ := D.ex
  exact ⟨ne_of h h1 (by intro y; cases y), ne_of h h2 (by intro y; cases y)⟩
theorem Deck.upd {H : Hp} {p d a : Addr} {m : Nat} {o : HO} (D : Deck H p d m) (h1 : a ≠ p) (h2 : a ≠ d) : Deck (L2.upd H a o) p d m := by
  obtain ⟨ns, st, e1, e2, r⟩ := D.ex
  exact ⟨ns, st, by rw [upd_ne h1.symm]; exact e1, by rw [upd_ne h2.symm]; exact e2, r⟩
section
variable {P : Program} {w : World} {K : PySem.W.Frag} {mg : Str → Option Value} {base : Heap}
def spPick : Sp := fun vs H Q _ => ∃ (p d a : Addr) (xs : List V), vs = [.ref p, .ref a] ∧ Deck H p d 63 ∧ H a = some (.lst xs) ∧ a ≠ d ∧ xs ≠ [] ∧ xs.length < 1000000 ∧ ∀ (x : V) (H' : Hp), x ∈ xs → Deck H' p d 63 → Kp p d H H' → Q x H'
theorem ok_pick {f : Addr} {fd : FuncData} (F : Fun K "_law_pick" "_law_pick" sPick f fd) (B : NoNames mg) (O : Own P w K mg base 1 "_law_draw" ["deck", "many"] spDraw) : FnOk P w K mg base CX0 2 f fd ["deck", "items"] (spPick) := by
  obtain ⟨fD, fdD, GD, mD, kD, bD⟩ := O.ex
  refine F.ok scPick (fun vs H Q E h => ?_) (fun cdv A outer s H vs Q E hr h => ?_)
  · obtain ⟨p, d, a, xs, rfl, _⟩ := h
    rfl
  · obtain ⟨p, d, a, xs, rfl, D, ha, nd, hx, hl, k⟩ := h
    refine ⟨_, pss_one (ps_ret (pe_ix ix_list (pv 1) (pe_call GD hr rfl mD kD bD .nil pass0 (pa_cons (pv 0) (pa_cons (pe_callB call_len_seq (by rfl) B.len PySem.boot_len (pa_cons (pv 1) pa_nil)) pa_nil))) (fun _ _ => rfl))), ?_⟩
    have hpos : 0 < xs.length := List.length_pos_iff.mpr hx
    refine ⟨_, rfl, _, rfl, _, rfl, a, xs, rfl, .inl (SqL.of ha), p, d, (xs.length : Int), rfl, D, by omega, fun r H' r0 r1 r2 D' kp => ?_⟩
    have ha' := kp _ _ ha (D.kne ha) nd
    have hr : r < (xs.length : Int) := r1 (by omega)
    obtain ⟨i, rfl⟩ := Int.eq_ofNat_of_zero_le r0
    have hi : i < xs.length := by omega
    exact ⟨a, xs, _, xs[i], rfl, rfl, SqL.of ha', at_of (j := i) rfl (List.getElem?_eq_getElem hi), k _ _ (List.getElem_mem hi) D' kp⟩
def spMixed : Sp := fun vs H Q _ => ∃ (p d a : Addr) (ns : List Int), vs = [.ref p, .ref a] ∧ Deck H p d 63 ∧ H a = some (.lst (ns.map V.int)) ∧ ns.length < 1000000 ∧ ∀ (r : Addr) (ms : List Int) (H' : Hp), Deck H' p d 63 → Kp p d H H' → H r = none → H' r = some (.lst (ms.map V.int)) → ms.length = ns.length → (∀ m ∈ ms, m ∈ ns) → Q (.ref r) H'
theorem ok_mixed {f : Addr} {fd : FuncData} (F : Fun K "_law_mixed" "_law_mixed" sMixed f fd) (B : NoNames mg) (O : Own P w K mg base 1 "_law_draw" ["deck", "many"] spDraw) : FnOk P w K mg base CX0 2 f fd ["deck", "items"] (spMixed) := by
  obtain ⟨fD, fdD, GD, mD, kD, bD⟩ := O.ex
  refine F.ok scMixed (fun vs H Q E h => ?_) (fun cdv A outer s H vs Q E hr h => ?_)
  · obtain ⟨p, d, a, ns, rfl, _⟩ := h
    rfl
  · obtain ⟨p, d, a, ns, rfl, D, ha, hl, k⟩ := h
    refine ⟨_, pss_cons (ps_par (i := 2) (j := 3) rfl scMixed.nd rfl rfl (by decide) rfl rfl (pa_cons (pe_callTy call_list_of (by rfl) B.list (by decide +kernel) (pa_cons (pv 1) pa_nil)) (pa_cons (pe_lst pa_nil) pa_nil)) (by rfl))
      (pss_cons (ps_while PassesOwn.never (pt_cmpR (op_neD hr.units) (pv 2) (pe_lst pa_nil) (nomark _))
        (pss_one (ps_expr (pe_bm PySem.F.plainAttrs_list PySem.F.slot_list_append PySem.F.type_list_append mt_append (pv 3)
          (pa_cons (pe_bm PySem.F.plainAttrs_list PySem.F.slot_list_pop PySem.F.type_list_pop mt_popAt (pv 2)
            (pa_cons (pe_call GD hr rfl mD kD bD .nil pass0 (pa_cons (pv 0) (pa_cons (pe_callB call_len_seq (by rfl) B.len PySem.boot_len (pa_cons (pv 2) pa_nil)) pa_nil))) pa_nil)) pa_nil)))))
      (pss_one (ps_ret (pv 3)))), ?_⟩
    refine ⟨_, rfl, a, _, rfl, .inl (SqL.of ha), fun l nl => ⟨by show 0 ≤ sizeLine; exact Nat.zero_le _, fun g ng => ⟨_, _, rfl, ?_⟩⟩⟩
    have s1 : Same H (L2.upd H l (.lst (ns.map V.int))) := same_new nl
    have s2 := s1.trans (same_new (o := .lst []) ng)
    have ngl : g ≠ l := fun z => by
      rw [z, upd_same] at ng
      cases ng
    refine ⟨fun m σ H' => ∃ ls fs : List Int, σ = [some (.ref p), some (.ref a), some (.ref l), some (.ref g)] ∧ Deck H' p d 63 ∧ Kp p d H H' ∧ H' l = some (.lst (ls.map V.int)) ∧ H' g = some (.lst (fs.map V.int)) ∧ l ≠ d ∧ g ≠ d ∧ ls.length = m ∧ ls.length + fs.length = ns.length ∧ (∀ x ∈ ls, x ∈ ns) ∧ (∀ x ∈ fs, x ∈ ns),
      ⟨ns.length, ns, [], rfl, D.same s2, .of s2, by rw [upd_ne ngl.symm, upd_same], upd_same, (D.ne_none nl).2, (D.ne_none (s1.free ng)).2, rfl, rfl, fun _ h => h, fun _ h => absurd h (by simp)⟩, ?_⟩
    rintro m σ H1 ⟨ls, fs, rfl, D1, k1, h1, h2, n1, n2, rfl, hlen, m1, m2⟩
    refine ⟨_, rfl, by show 0 ≤ sizeLine; exact Nat.zero_le _, fun e ne => ?_⟩
    have se : Same H1 (L2.upd H1 e (.lst [])) := same_new ne
    refine ⟨.list (ls.map PyData.int), .list [], .lst (SqL.of (se _ _ h1)) (dpInts ls), .lst (SqL.of upd_same) .nil, PySem.W.ke_shaped_ints ls, rfl, _, rfl, ?_⟩
    have D2 := D1.same se
    have k2 := k1.trans (.of se)
    have h1' := se _ _ h1
    have h2' := se _ _ h2
    generalize (L2.upd H1 e (.lst [])) = H2 at D2 k2 h1' h2' ⊢
    rw [eqv_nil]
    refine ite2 (fun y => ?_) (fun y => ?_)
    · have y : ls ≠ [] := of_decide_eq_true y
      have hpos : 0 < ls.length := List.length_pos_iff.mpr y
      refine ⟨fun σ' H' => ∃ m', m' < ls.length ∧ ∃ ls fs : List Int, σ' = [some (.ref p), some (.ref a), some (.ref l), some (.ref g)] ∧ Deck H' p d 63 ∧ Kp p d H H' ∧ H' l = some (.lst (ls.map V.int)) ∧ H' g = some (.lst (fs.map V.int)) ∧ l ≠ d ∧ g ≠ d ∧ ls.length = m' ∧ ls.length + fs.length = ns.length ∧ (∀ x ∈ ls, x ∈ ns) ∧ (∀ x ∈ fs, x ∈ ns), fun _ _ h => h, ?_⟩
      refine ⟨_, rfl, .inl ⟨rfl, _, SqL.of h2'⟩, _, rfl, .inl ⟨rfl, _, SqL.of h1'⟩, _, rfl, _, rfl, l, ls.map V.int, rfl, .inl (SqL.of h1'), p, d, ((ls.map V.int).length : Int), rfl, D2, ?_, fun r H3 r0 r1 r2 D3 k3 => ?_⟩
      · rw [List.length_map]
        omega
      have h1 := k3 _ _ h1' (D2.kne h1') n1
      have h2 := k3 _ _ h2' (D2.kne h2') n2
      have np1 := D2.kne h1'
      have np2 := D2.kne h2'
      have hr : r < ((ls.map V.int).length : Int) := r1 (by rw [List.length_map]; omega)
      obtain ⟨i, rfl⟩ := Int.eq_ofNat_of_zero_le r0
      have hi : i < ls.length := by
        rw [List.length_map] at hr
        omega
      have hz : ((ls.map V.int).eraseIdx i) = (ls.eraseIdx i).map V.int := by
        exact erase_map _ ls i
      refine ⟨l, _, _, i, .int ls[i], rfl, rfl, h1, by omega, by omega, ?_, ?_, ?_⟩
      · exact PySem.seqIndex_of r0 hr
      · rw [List.getElem?_map, List.getElem?_eq_getElem hi]
        rfl
      rw [hz]
      refine ⟨g, fs.map V.int, _, rfl, rfl, by rw [upd_ne ngl]; exact h2, ?_, ?_⟩
      · rw [List.length_map, sizeLine_eq]
        omega
      have le : (ls.eraseIdx i).length + 1 = ls.length := by
        rw [List.length_eraseIdx_of_lt hi]
        omega
      refine ⟨(ls.eraseIdx i).length, by omega, ls.eraseIdx i, fs ++ [ls[i]], rfl, (D3.upd np1 n1).upd np2 n2, ?_, ?_, ?_, n1, n2, rfl, ?_, ?_, ?_⟩
      · intro b o e q1 q2
        rw [upd_ne (ne_of_none e (s1.free ng)), upd_ne (ne_of_none e nl)]
        exact k3 _ _ (k2 _ _ e q1 q2) q1 q2
      · rw [upd_ne ngl.symm, upd_same]
      · rw [upd_same, List.map_append]
        rfl
      · rw [List.length_append, List.length_singleton]
        omega
      · exact fun x hx => m1 x (List.mem_of_mem_eraseIdx hx)
      · intro x hx
        rcases List.mem_append.mp hx with q | q
        · exact m2 x q
        · rw [List.mem_singleton.mp q]
          exact m1 _ (List.getElem_mem hi)
    · have y : ls = [] := by
        refine Classical.byContradiction fun q => y (decide_eq_true q)
      subst y
      refine ⟨_, rfl, k g fs H2 D2 k2 ?_ h2' (by simpa using hlen) m2⟩
      exact s1.free ng
end
end Sw
namespace Sw
open PySem L2
/-! ### expressions that give data -/
abbrev SH := L2.St → Hp → Prop
/-- what is free may be used, and what S says holds -/
structure Fit (S : SH) (U : L2.St → Addr → Prop) (σ : L2.St) (H : Hp) : Prop where
  s : S σ H
  u : ∀ a, H a = none → U σ a
def tDat (K : PySem.W.Frag) (S : SH) (U : L2.St → Addr → Prop) (w k : Nat) : TE := fun σ H Q => Fit S U σ H ∧ ∀ (x : V) (dd : D) (as : List Addr) (H' : Hp), Rep K H' dd x as → (∀ a ∈ as, U σ a) → Same H H' → small dd → wt dd ≤ w → dep dd ≤ k → Q x H'
def tDats (K : PySem.W.Frag) (S : SH) (U : L2.St → Addr → Prop) (w k m : Nat) : TA := fun σ H Q => Fit S U σ H ∧ ∀ (xs : List V) (ds : List D) (as : List Addr) (H' : Hp), xs.length = m → RepAll K H' ds xs as → (∀ a ∈ as, U σ a) → Same H H' → smallAll ds → wtAll ds ≤ w → depAll ds ≤ k → Q xs H'
/-- a new list of data -/
def tDatL (K : PySem.W.Frag) (S : SH) (U : L2.St → Addr → Prop) (w k m : Nat) : TE := fun σ H Q => Fit S U σ H ∧ ∀ (l : Addr) (xs : List V) (ds : List D) (as : List Addr) (H' : Hp), H l = none → H' l = some (.lst xs) → l ∉ as → xs.length = m → RepAll K H' ds xs as → (∀ a ∈ as, U σ a) → Same H H' → smallAll ds → wtAll ds ≤ w → depAll ds ≤ k → Q (.ref l) H'
def SMono (S : SH) : Prop := ∀ σ H H', S σ H → Same H H' → S σ H'
theorem Fit.same {S : SH} {U : L2.St → Addr → Prop} {σ : L2.St} {H H' : Hp} (hS : SMono S) (f : Fit S U σ H) (s : Same H H') : Fit S U σ H' := ⟨hS σ H H' f.s s, fun a h => f.u a (s.free h)⟩
theorem pe_weak {X : Cx} {e : Expr} {t t' : TE} (h : PE X e t) (hw : ∀ σ H Q, t' σ H Q → t σ H Q) : PE X e t' := ⟨fun pins s σ H Q I q => h.run pins s σ H Q I (hw σ H Q q)⟩
theorem pa_weak {X : Cx} {es : List Expr} {t t' : TA} (h : PA X es t) (hw : ∀ σ H Q, t' σ H Q → t σ H Q) : PA X es t' := ⟨fun pos pins s σ H Q I q => h.run pos pins s σ H Q I (hw σ H Q q)⟩
section
variable {X : Cx} {S : SH} {U : L2.St → Addr → Prop} {e : Expr} {es : List Expr} {w k : Nat}
theorem dat_le {w' k' : Nat} (h : PE X e (tDat X.K S U w k)) (hw : w ≤ w') (hk : k ≤ k') : PE X e (tDat X.K S U w' k') :=
  pe_weak h fun σ H Q q => ⟨q.1, fun x dd as H' h1 h2 h3 h4 h5 h6 => q.2 x dd as H' h1 h2 h3 h4 (by omega) (by omega)⟩
theorem dat_of {t : TE} (h : PE X e t) (ht : ∀ σ H Q, S σ H → (∀ v dd, Rep X.K H dd v [] → small dd → wt dd ≤ w → dep dd ≤ k → Q v H) → t σ H Q) : PE X e (tDat X.K S U w k) :=
  pe_weak h fun σ H Q q => ht σ H Q q.1.s fun v dd h1 h2 h3 h4 => q.2 v dd [] H h1 (fun _ h => absurd h (by simp)) (Same.refl H) h2 h3 h4
theorem int_ok {K : PySem.W.Frag} {H : Hp} {i : Int} {w k : Nat} (hi : i.natAbs < 10 ^ w) (hw : 0 < w) (hw2 : w ≤ 40) : Rep K H (.int i) (.int i) [] ∧ small (.int i) ∧ wt (.int i) ≤ w + 1 ∧ dep (.int i) ≤ k := by
  refine ⟨by simp [Rep], ?_, ?_, by simp only [dep]; omega⟩
  · simp only [small]
    exact PySem.Spec.log2_small (Nat.lt_of_lt_of_le hi (Nat.le_trans (Nat.pow_le_pow_right (by decide) hw2) (by decide +kernel)))
  · simp only [wt]
    rw [PySem.ofString_length]
    exact int_text_length_le10 hw hi
theorem dat_int {i : Int} {t : TE} (h : PE X e t) (ht : ∀ σ H Q, Q (.int i) H → t σ H Q) (hi : i.natAbs < 10 ^ w := by decide +kernel) (hw : 0 < w := by decide) (hw2 : w ≤ 40 := by decide) : PE X e (tDat X.K S U (w + 1) k) :=
  dat_of h fun σ H Q _ q => ht σ H Q (by
    obtain ⟨h1, h2, h3, h4⟩ := int_ok (K := X.K) (H := H) (k := k) hi hw hw2
    exact q _ _ h1 h2 h3 h4)
/-- a slot that holds a small whole number -/
def SInt (S : SH) (i : Nat) : Prop := ∀ σ H, S σ H → ∃ v, σ[i]? = some (some (.int v)) ∧ v.natAbs < 10 ^ 3
theorem dat_var {i : Nat} (h : PE X e (tVar i)) (hS : SInt S i) : PE X e (tDat X.K S U 4 k) :=
  dat_of h fun σ H Q hs q => by
    obtain ⟨v, e, hv⟩ := hS σ H hs
    obtain ⟨h1, h2, h3, h4⟩ := int_ok (K := X.K) (H := H) (k := k) hv (by decide) (by decide)
    exact ⟨_, e, q _ _ h1 h2 h3 h4⟩
theorem dat_bl {t : TE} (h : PE X e t) (ht : ∀ σ H Q, S σ H → (∀ b, Q (.bl b) H) → t σ H Q) : PE X e (tDat X.K S U 5 k) :=
  dat_of h fun σ H Q hs q => ht σ H Q hs fun b => q _ (.bl b) (by simp [Rep]) (by simp only [small]) (by simp only [wt]; omega) (by simp only [dep]; omega)
theorem dat_true {b : Bool} (h : PE X e (tC (.bl b))) : PE X e (tDat X.K S U 5 k) := dat_bl h fun σ H Q _ q => q b
theorem dat_non (h : PE X e (tC .non)) : PE X e (tDat X.K S U 4 k) :=
  dat_of h fun σ H Q _ q => q .non .non (by simp [Rep]) (by simp only [small]) (by simp only [wt]; omega) (by simp only [dep]; omega)
theorem dat_str {x : Str} (h : PE X e (tC (.str x))) (hw : (reprText x).length ≤ w := by decide +kernel) : PE X e (tDat X.K S U w k) :=
  dat_of h fun σ H Q _ q => q (.str x) (.str x) (by simp [Rep]) (by simp only [small]) (by simp only [wt]; omega) (by simp only [dep]; omega)
theorem dat_dct {pos : Pos} : PE X (.Dict [] [] pos) (tDat X.K S U 2 (k + 1)) :=
  pe_weak pe_dnewK fun σ H Q q p np => q.2 _ .dct [p] _ (by simp only [Rep]; exact ⟨p, rfl, upd_same, rfl⟩) (fun a ha => by rw [List.mem_singleton.mp ha]; exact q.1.u p np) (same_new np) (by simp only [small]) (by simp only [wt]; omega) (by simp only [dep]; omega)
theorem dats_nil : PA X [] (tDats X.K S U 0 k 0) := pa_weak pa_nil fun σ H Q q => q.2 [] [] [] H rfl (by simp [RepAll]) (fun _ h => absurd h (by simp)) (Same.refl H) (by simp only [smallAll]) (by simp only [wtAll]; omega) (by simp only [depAll]; omega)
theorem dats_cons {w' m : Nat} (hS : SMono S) (ha : PE X e (tDat X.K S U w k)) (hr : PA X es (tDats X.K S U w' k m)) (hs : starEach (e :: es) X.env = (false, eval e X.env) :: starEach es X.env := by rfl) : PA X (e :: es) (tDats X.K S U (w + 2 + w') k (m + 1)) :=
  pa_weak (pa_cons ha hr hs) fun σ H Q q => ⟨q.1, fun x dd as H1 h1 h2 h3 h4 h5 h6 => ⟨q.1.same hS h3, fun xs ds bs H2 lm l1 l2 l3 l4 l5 l6 =>
    q.2 (x :: xs) (dd :: ds) (as ++ bs) H2 (by rw [List.length_cons, lm]) (by simp only [RepAll]; exact ⟨x, xs, as, bs, rfl, h1.same l3, l1, rfl⟩) (fun a ha => (List.mem_append.mp ha).elim (h2 a) (l2 a)) (h3.trans l3) (by simp only [smallAll]; exact ⟨h4, l4⟩) (by simp only [wtAll]; omega) (by simp only [depAll]; omega)⟩⟩
theorem wlen {K : PySem.W.Frag} {H : Hp} {xs : List V} {ds : List D} {as : List Addr} (h : RepAll K H ds xs as) (hw : wtAll ds ≤ 10000000) : xs.length ≤ sizeLine := by
  have h1 := wt_len ds
  rw [h.len, sizeLine_eq]
  omega
theorem nmem {K : PySem.W.Frag} {H : Hp} {xs : List V} {ds : List D} {as : List Addr} {a : Addr} (h : RepAll K H ds xs as) (ha : H a = none) : a ∉ as := fun z => by
  obtain ⟨o, e⟩ := h.tracked a z
  rw [ha] at e
  cases e
theorem dat_tup {x1 m : Nat} {pos : Pos} (h : PA X es (tDats X.K S U w k m)) (hS : SMono S) (hw : w ≤ 10000000 := by decide) : PE X (.Tuple es x1 pos) (tDat X.K S U (w + 3) (k + 1)) :=
  pe_weak (pe_tup h) fun σ H Q q => ⟨q.1, fun xs ds as H1 hm h1 h2 h3 h4 h5 h6 => ⟨wlen h1 (by omega), fun p np =>
    q.2 (.ref p) (.tup ds) (p :: as) _ (by simp only [Rep]; exact ⟨p, xs, as, rfl, upd_same, h1.same (same_new np), nmem h1 np, rfl⟩) (fun a ha => (List.mem_cons.mp ha).elim (fun z => by rw [z]; exact (q.1.same hS h3).u p np) (h2 a)) (h3.trans (same_new np)) (by simp only [small]; exact h4) (by simp only [wt]; omega) (by simp only [dep]; omega)⟩⟩
theorem dat_lst {m : Nat} {pos : Pos} (h : PA X es (tDats X.K S U w k m)) (hS : SMono S) (hw : w ≤ 10000000 := by decide) : PE X (.List es pos) (tDat X.K S U (w + 3) (k + 1)) :=
  pe_weak (pe_lst h) fun σ H Q q => ⟨q.1, fun xs ds as H1 hm h1 h2 h3 h4 h5 h6 => ⟨wlen h1 (by omega), fun p np =>
    q.2 (.ref p) (.lst ds) (p :: as) _ (by simp only [Rep]; exact ⟨p, xs, as, rfl, upd_same, h1.same (same_new np), nmem h1 np, rfl⟩) (fun a ha => (List.mem_cons.mp ha).elim (fun z => by rw [z]; exact (q.1.same hS h3).u p np) (h2 a)) (h3.trans (same_new np)) (by simp only [small]; exact h4) (by simp only [wt]; omega) (by simp only [dep]; omega)⟩⟩
theorem datL_lst {m : Nat} {pos : Pos} (h : PA X es (tDats X.K S U w k m)) (hS : SMono S) (hw : w ≤ 10000000 := by decide) : PE X (.List es pos) (tDatL X.K S U w k m) :=
  pe_weak (pe_lst h) fun σ H Q q => ⟨q.1, fun xs ds as H1 hm h1 h2 h3 h4 h5 h6 => ⟨wlen h1 (by omega), fun p np =>
    q.2 p xs ds as _ (h3.free np) upd_same (nmem h1 np) hm (h1.same (same_new np)) h2 (h3.trans (same_new np)) h4 (by omega) (by omega)⟩⟩
/-- an own error with an __init__ -/
structure XE (P : Program) (K : PySem.W.Frag) (mg : Str → Option Value) (x msg fld : Str) : Prop where
  ex : ∃ C fI file, XCls K C ∧ XInit K C fI msg fld fld file ∧ mg x = some (.ref C) ∧ ((P.main.file : Str) == file) = true ∧ (P.main.scope.names.lookup ("super" : Str)).isSome = false ∧ XGood K C x
/-- an own error without -/
structure XU (K : PySem.W.Frag) (mg : Str → Option Value) (x : Str) : Prop where
  ex : ∃ (C : Addr) (bmB : List Value) (B newId initId : String), ExcBaseFacts B newId initId bmB ∧ PySem.W.excIn K C bmB newId = true ∧ PySem.W.keepIn K (.ref C) = true ∧ mg x = some (.ref C) ∧ XGood K C x
theorem wt_exc {C : Addr} {n : Str} (h : n.length ≤ 60) : wt (.exc C n none) ≤ 62 := by
  simp only [wt, xText]
  rw [PySem.Str.length_append]
  have : ("()" : Str).length = 2 := by decide +kernel
  omega
theorem wt_exc1 {C : Addr} {n m : Str} (h : n.length ≤ 60) (hm : (reprText m).length ≤ 40) : wt (.exc C n (some m)) ≤ 102 := by
  simp only [wt, xText]
  rw [PySem.Str.length_append, PySem.Str.length_append, PySem.Str.length_append]
  have h1 : ("(" : Str).length = 1 := by decide +kernel
  have h2 : (")" : Str).length = 1 := by decide +kernel
  omega
theorem dat_xe {x msg fld : Str} {pos p : Pos} {kr : Nat} (E : XE X.prog X.K X.mg x msg fld) (hmsg : (reprText msg).length ≤ 40) (hdb : (x == ("__debug__" : Str)) = false) (B : NoNames X.mg) (hr : Room kr X.A) (h1r : 1 ≤ kr) (hS : SMono S) (hg : Gl X x) (he : PE X e (tDat X.K S U w k)) (hst : starEach [e] X.env = (false, eval e X.env) :: starEach [] X.env := by rfl) :
    PE X (.Call (.Name x p) [e] [] pos) (tDat X.K S U 102 (k + 3)) := by
  obtain ⟨C, fI, file, T, F, hm, hf, ht, G⟩ := E.ex
  refine pe_weak (pe_xmk T F (hr.mono h1r) hg hm B.super hf ht he hst hdb) fun σ H Q q => ⟨q.1, fun x' dd as H1 l1 l2 l3 l4 l5 l6 => fun a t1 dx na nt nd n1 n2 n3 => ?_⟩
  have u := (q.1.same hS l3).u
  refine q.2 (.ref a) (.exc C x (some msg)) [a, t1, dx] _ ?_ (fun b hb => ?_) ?_ (by simp only [small]) (wt_exc1 G.len hmsg) (by simp only [dep]; omega)
  · simp only [Rep]
    refine ⟨a, t1, some dx, rfl, upd_same, ?_, fun d hd => ?_, G, rfl⟩
    · rw [upd_ne n1, upd_same]
      rfl
    · cases hd
      rw [upd_ne n2, upd_ne n3, upd_same]
  · simp only [List.mem_cons, List.not_mem_nil, or_false] at hb
    rcases hb with rfl | rfl | rfl
    · exact u _ na
    · exact u _ nt
    · exact u _ nd
  · refine l3.trans fun b o hb => ?_
    rw [upd_ne (ne_of_none hb na), upd_ne (ne_of_none hb nt), upd_ne (ne_of_none hb nd)]
    exact hb
theorem dat_xu {x : Str} {pos p : Pos} (E : XU X.K X.mg x) (hdb : (x == ("__debug__" : Str)) = false) (hg : Gl X x) : PE X (.Call (.Name x p) [] [] pos) (tDat X.K S U 62 (k + 3)) := by
  obtain ⟨C, bmB, Bn, newId, initId, F, q, kC, hm, G⟩ := E.ex
  refine pe_weak (pe_xmk0 (k := 0) F q kC hg hm hdb) fun σ H Q q a t1 na nt n1 => ?_
  refine q.2 (.ref a) (.exc C x none) [a, t1] _ ?_ (fun b hb => ?_) ?_ (by simp only [small]) (wt_exc G.len) (by simp only [dep]; omega)
  · simp only [Rep]
    refine ⟨a, t1, none, rfl, upd_same, ?_, fun d hd => (nomatch hd), G, rfl⟩
    rw [upd_ne n1, upd_same]
    rfl
  · simp only [List.mem_cons, List.not_mem_nil, or_false] at hb
    rcases hb with rfl | rfl
    · exact q.1.u _ na
    · exact q.1.u _ nt
  · intro b o hb
    rw [upd_ne (ne_of_none hb na), upd_ne (ne_of_none hb nt)]
    exact hb
end
end Sw
namespace Sw
open PySem L2
/-- a statement kept to what it is to do with the slots and the heap -/
def tCut (J J' : L2.St → Hp → Prop) : TS := fun D σ H => J σ H ∧ ∀ σ' H', J' σ' H' → D.nx σ' H'
theorem ps_cut {X : Cx} {st : Stmt} {t : TS} {J J' : L2.St → Hp → Prop} (h : PS X st t) (hJ : ∀ D σ H, J σ H → (∀ σ' H', J' σ' H' → D.nx σ' H') → t D σ H) : PS X st (tCut J J') :=
  ⟨fun pins s σ H D I q => h.run pins s σ H D I (hJ D σ H q.1 q.2)⟩
def Inn (n a : Int) : Prop := 0 ≤ a ∧ a < n
/-- tuples stand -/
def TupS (H H' : Hp) : Prop := ∀ b xs, H b = some (.tup xs) → H' b = some (.tup xs)
theorem TupS.of {H H' : Hp} (s : Same H H') : TupS H H' := fun b xs e => s _ _ e
theorem TupS.refl {H : Hp} : TupS H H := fun _ _ e => e
theorem TupS.trans {H H1 H2 : Hp} (s : TupS H H1) (t : TupS H1 H2) : TupS H H2 := fun b xs e => t _ _ (s _ _ e)
theorem TupS.kp {H H' : Hp} {p d : Addr} {m : Nat} (D : Deck H p d m) (s : Kp p d H H') : TupS H H' := fun b xs e => s _ _ e (D.tne e).1 (D.tne e).2
/-- a list, a dict is written -/
theorem TupS.upd {H : Hp} {a : Addr} {o : HO} (h : ∀ xs, H a ≠ some (.tup xs)) : TupS H (L2.upd H a o) := fun b xs e => by
  rw [upd_ne (fun z => h xs (by rw [← z]; exact e))]
  exact e
theorem Kp.free {H H' : Hp} {p d : Addr} {m : Nat} (s : Kp p d H H') (D' : Deck H' p d m) {a : Addr} (h : H' a = none) : H a = none := by
  cases e : H a with
  | none => rfl
  | some o =>
    have n := D'.ne_none h
    have := s a o e n.1 n.2
    rw [this] at h
    cases h
end Sw
namespace Sw
open PySem L2
/-- off the deck -/
def Off (p d : Addr) : Addr → Prop := fun a => a ≠ p ∧ a ≠ d
/-- the deck, and U: addresses off the deck, what is free and all tuples among them -/
structure Dk (H : Hp) (p d : Addr) (U : Addr → Prop) : Prop where
  dk : Deck H p d 63
  off : ∀ a, U a → Off p d a
  free : ∀ a, H a = none → U a
  tup : ∀ a zs, H a = some (.tup zs) → U a
theorem Dk.kp {H H' : Hp} {p d : Addr} {U : Addr → Prop} (D : Dk H p d U) (s : Kp p d H H') (D' : Deck H' p d 63) : Dk H' p d U := by
  have fr : ∀ a, H' a = none → H a = none := fun a h => by
    cases e : H a with
    | none => rfl
    | some o =>
      have n := D'.ne_none h
      have := s a o e n.1 n.2
      rw [this] at h
      cases h
  refine ⟨D', D.off, fun a h => D.free a (fr a h), fun a zs h => ?_⟩
  cases e : H a with
  | none => exact D.free a e
  | some o =>
    have n := D'.tne h
    have := s a o e n.1 n.2
    rw [this] at h
    cases h
    exact D.tup a zs e
theorem Dk.same {H H' : Hp} {p d : Addr} {U : Addr → Prop} (D : Dk H p d U) (s : Same H H') : Dk H' p d U := D.kp (.of s) (D.dk.same s)
/-- x is data of a bounded kind, made of things of U -/
def Dat (K : PySem.W.Frag) (U : Addr → Prop) (w k : Nat) (H : Hp) (x : V) : Prop := ∃ dd as, Rep K H dd x as ∧ (∀ a ∈ as, U a) ∧ small dd ∧ wt dd ≤ w ∧ dep dd ≤ k
theorem Dat.keep {K : PySem.W.Frag} {p d : Addr} {U : Addr → Prop} {w k : Nat} {H H' : Hp} {x : V} (h : Dat K U w k H x) (o : ∀ a, U a → Off p d a) (s : Kp p d H H') : Dat K U w k H' x := by
  obtain ⟨dd, as, h1, h2, h3⟩ := h
  exact ⟨dd, as, h1.keep fun b hb y e => s b y e (o b (h2 b hb)).1 (o b (h2 b hb)).2, h2, h3⟩
theorem Dat.le {K : PySem.W.Frag} {U : Addr → Prop} {w k w' k' : Nat} {H : Hp} {x : V} (h : Dat K U w k H x) (h1 : w ≤ w') (h2 : k ≤ k') : Dat K U w' k' H x := by
  obtain ⟨dd, as, h3, h4, h5, h6, h7⟩ := h
  exact ⟨dd, as, h3, h4, h5, by omega, by omega⟩
theorem Dat.all {K : PySem.W.Frag} {U : Addr → Prop} {w k : Nat} {H : Hp} {xs : List V} {ds : List D} {as : List Addr} (h : RepAll K H ds xs as) (hu : ∀ a ∈ as, U a) (hs : smallAll ds) (hw : wtAll ds ≤ w) (hk : depAll ds ≤ k) : ∀ x ∈ xs, Dat K U w k H x := fun x hx => by
  obtain ⟨i, hi, e⟩ := List.getElem_of_mem hx
  obtain ⟨dd, bs, h1, h2, h3⟩ := h.at2 (i := i) (x := x) (by rw [List.getElem?_eq_getElem hi, e])
  have hm := List.mem_of_getElem? h1
  have := wt_mem hm
  have := dep_mem hm
  exact ⟨dd, bs, h2, fun a ha => hu a (h3 a ha), small_mem hs hm, by omega, by omega⟩
/-- a list of data -/
theorem dats_rep {K : PySem.W.Frag} {U : Addr → Prop} {w k : Nat} {H : Hp} : ∀ {xs : List V}, (∀ x ∈ xs, Dat K U w k H x) → ∃ ds as, RepAll K H ds xs as ∧ (∀ a ∈ as, U a) ∧ smallAll ds ∧ wtAll ds ≤ xs.length * (w + 2) ∧ depAll ds ≤ k
  | [], _ => ⟨[], [], by simp [RepAll], fun _ h => absurd h (by simp), by simp [smallAll], by simp [wtAll], by simp [depAll]⟩
  | x :: r, h => by
    obtain ⟨dd, as, h1, h2, h3, h4, h5⟩ := h x (by simp)
    obtain ⟨ds, bs, l1, l2, l3, l4, l5⟩ := dats_rep (xs := r) fun y hy => h y (by simp [hy])
    refine ⟨dd :: ds, as ++ bs, ?_, fun c hc => (List.mem_append.mp hc).elim (h2 c) (l2 c), ?_, ?_, ?_⟩
    · simp only [RepAll]
      exact ⟨x, r, as, bs, rfl, h1, l1, rfl⟩
    · simp only [smallAll]
      exact ⟨h3, l3⟩
    · simp only [wtAll, List.length_cons, Nat.succ_mul]
      omega
    · simp only [depAll]
      omega
/-- a new tuple of data -/
theorem Dat.newTup {K : PySem.W.Frag} {T : Addr} {U : Addr → Prop} {w k : Nat} {H : Hp} {xs : List V} (h : ∀ x ∈ xs, Dat K U w k H x) (nT : H T = none) (o : U T) : Dat K U (xs.length * (w + 2) + 3) (k + 1) (upd H T (.tup xs)) (.ref T) := by
  obtain ⟨ds, as, l1, l2, l3, l4, l5⟩ := dats_rep h
  refine ⟨.tup ds, T :: as, ?_, fun c hc => ?_, by simp only [small]; exact l3, by simp only [wt]; omega, by simp only [dep]; omega⟩
  · simp only [Rep]
    exact ⟨T, _, as, rfl, upd_same, l1.same (same_new nT), nmem l1 nT, rfl⟩
  · rcases List.mem_cons.mp hc with z | z
    · rw [z]; exact o
    · exact l2 c z
theorem Dat.int {K : PySem.W.Frag} {U : Addr → Prop} {w k : Nat} {H : Hp} {i : Int} (h : i.natAbs < 1000) (hw : 4 ≤ w) : Dat K U w k H (.int i) := by
  obtain ⟨i1, i2, i3, i4⟩ := int_ok (K := K) (H := H) (i := i) (w := 3) (k := k) h (by decide) (by decide)
  exact ⟨_, [], i1, fun _ h => absurd h (by simp), i2, by omega, i4⟩
end Sw
namespace Sw
open PySem PySem.Spec PyProof.Rows L2 HT
/-! ### t[::-1], t a tuple -/
theorem back_pick (items : List Value) : ((List.range items.length).filterMap fun (m : Nat) => items.toArray[(((items.length : Int) - 1) + (m : Int) * (-1)).toNat]?) = items.reverse := by
  have e : ∀ m, m < items.length → items.toArray[(((items.length : Int) - 1) + (m : Int) * (-1)).toNat]? = some (items.reverse.getD m .none) := fun m hm => by
    have h1 : (((items.length : Int) - 1) + (m : Int) * (-1)).toNat = items.length - 1 - m := by omega
    rw [h1, List.getElem?_toArray, List.getD_eq_getElem?_getD, List.getElem?_reverse hm, List.getElem?_eq_getElem (by omega)]
    rfl
  have go : ∀ k, k ≤ items.length → (List.range k).filterMap (fun (m : Nat) => items.toArray[(((items.length : Int) - 1) + (m : Int) * (-1)).toNat]?) = items.reverse.take k := by
    intro k
    induction k with
    | zero => intro _; rfl
    | succ k ih =>
      intro hk
      have hk' : k < items.reverse.length := by rw [List.length_reverse]; exact hk
      rw [List.range_succ, List.filterMap_append, ih (by omega), List.take_add_one, List.getElem?_eq_getElem hk']
      congr 1
      have e1 := e k hk
      rw [List.getD_eq_getElem?_getD, List.getElem?_eq_getElem hk'] at e1
      show (List.filterMap (fun (m : Nat) => items.toArray[(((items.length : Int) - 1) + (m : Int) * (-1)).toNat]?) [k]) = [items.reverse[k]]
      simp only [List.filterMap, e1, Option.getD_some]
  have h := go items.length (Nat.le_refl _)
  rw [h, List.take_of_length_le (by rw [List.length_reverse]; exact Nat.le_refl _)]
section
variable {prog : Program} {w : World} {A : Around} {E : Value → Shared → Prop} {s : Shared}
theorem getItem_tuple_back {t sl : Addr} {items : List Value} {vl vu vs : Value} {Q : Value → Shared → Prop} (ht : IsTup s.heap t items.toArray) (hs : s.heap.IsSliceOf sl vl vu vs) (pl : IsPart vl none) (pu : IsPart vu none) (ps : IsPart vs (some (-1)))
    (h : Q (.ref s.heap.objs.size) { s with heap := s.heap.push { cls := .type "tuple", data := .seq items.reverse.toArray } }) (hsz : items.length ≤ sizeLine) : wpAny (model prog w) A (getItem (.ref t) (.ref sl)) Q E s := by
  obtain ⟨os, a1, a2, a3⟩ := id hs
  have tS : s.TypeIs (.ref sl) "slice" := ⟨os, a1, a2⟩
  unfold getItem
  try with_reducible refine wpAny_holding ?_
  first | refine wpAny_bind (wpAny_pure ?_) | skip
  refine wpAny_bind (wpAny_sequenceKey ht.typeIs (by decide) ?_)
  refine wpAny_bind (wpAny_callSpecial?_slot (name := Str.ofString "__getitem__") ht.typeIs PyProof.Rows.slot_tuple_getitem ?_)
  refine wpAny_call_entry PyProof.Rows.slot_tuple_getitem ht.typeIs entry_tuple_getitem ?_ (args_tuple_getitem _ _)
  show wpAny _ _ (Builtin.Tuple.tupleItemsOf (.ref t) >>= _) _ _ s
  refine wpAny_bind (tupleItemsOf_ ht (wpAny_bind (wpAny_typeOf tS ?_)))
  rw [if_pos (by decide)]
  refine wpAny_bind ?_
  unfold Builtin.Slice.sliceApplied Builtin.Slice.sliceFields
  refine wpAny_bind (wpAny_bind (wpAny_field a1 a3 (x := vl) rfl (wpAny_bind (wpAny_field a1 a3 (x := vu) rfl (wpAny_bind (wpAny_field a1 a3 (x := vs) rfl (wpAny_pure ?_)))))))
  refine wpAny_bind (slicePart_ ps ?_)
  show wpAny _ _ (if ((-1 : Int) == 0) = true then _ else _) _ _ s
  rw [if_neg (by decide)]
  refine wpAny_bind (slicePart_ pl (wpAny_bind (slicePart_ pu (wpAny_bind (wpAny_pure ?_)))))
  have adj : Builtin.Slice.sliceAdjust none none (-1) ((items.toArray.size : Nat) : Int) = (((items.length : Int) - 1), -1) := by
    rw [List.size_toArray]
    rfl
  have plc : Builtin.Slice.slicePlaces ((items.length : Int) - 1) (-1) (-1) = items.length := by
    unfold Builtin.Slice.slicePlaces
    rw [if_neg (by decide)]
    by_cases c : (items.length : Int) - 1 > -1
    · rw [if_pos c]
      simp only [Int.neg_neg, Int.ediv_one]
      omega
    · rw [if_neg c]
      omega
  show wpAny _ _ (match Builtin.Slice.sliceAdjust none none (-1) ((items.toArray.size : Nat) : Int) with | (lo, hi) => pure (lo, (-1 : Int), Builtin.Slice.slicePlaces lo hi (-1))) _ _ s
  rw [adj]
  show wpAny _ _ (pure ((items.length : Int) - 1, (-1 : Int), Builtin.Slice.slicePlaces ((items.length : Int) - 1) (-1) (-1))) _ _ s
  rw [plc]
  refine wpAny_pure ?_
  show wpAny _ _ (if ((((items.length : Int) - 1) == 0 && (-1 : Int) == 1 && items.length == items.toArray.size) = true) then _ else _) _ _ s
  rw [if_neg (by simp)]
  have pick := back_pick items
  have pick2 : ((List.range items.length).filterMap fun (m : Nat) => items.toArray[(((items.length : Int) - 1) + (m : Int) * (-1)).toNat]?).toArray = items.reverse.toArray := by rw [pick]
  rw [pick2]
  have ok : sizeOk (.seq items.reverse.toArray) := by
    show items.reverse.toArray.size ≤ sizeLine
    rw [List.size_toArray, List.length_reverse]
    exact hsz
  first
    | exact wpAny_bind (m := Builtin.Tuple.tupleExact _) (wpAny_newObj_type (wpAny_pure ⟨_, rfl, wpAny_pure h⟩) ok)
    | exact wpAny_bind (m := Builtin.Tuple.tupleExact _) (wpAny_newObj_type (wpAny_bind (wpAny_pure (wpAny_pure ⟨_, rfl, wpAny_pure h⟩))) ok)
    | exact wpAny_bind (wpAny_bind (m := Builtin.Tuple.tupleExact _) (wpAny_newObj_type (wpAny_pure (wpAny_pure ⟨_, rfl, wpAny_pure h⟩)) ok))
    | exact wpAny_bind (wpAny_bind (m := Builtin.Tuple.tupleExact _) (wpAny_newObj_type (wpAny_pure ⟨_, rfl, wpAny_pure h⟩) ok))
end
def tRevT (K : PySem.W.Frag) (te : TE) : TE := fun σ H Q => te σ H fun x H1 => ∃ a xs, x = .ref a ∧ SqT K H1 a xs ∧ ∀ p, H1 p = none → Q (.ref p) (upd H1 p (.tup xs.reverse))
theorem pe_revT {X : Cx} {e : Expr} {te : TE} {k : Nat} {p1 p2 p3 pos : Pos} (he : PE X e te) : PE X (.Subscript e (.Slice none none (some (.UnaryOp .USub (.Constant (.int 1) k p1) p2)) p3) pos) (tRevT X.K te) := by
  refine ⟨fun pins s σ H Q I h => Subscript_ (thn (he.run pins s σ H _ I h) fun v s1 ⟨x, H1, I1, r1, q1⟩ => ?_)⟩
  obtain ⟨a, xs, rfl, hx, q⟩ := q1
  cases r1
  have minus : PO X (some (.UnaryOp .USub (.Constant (.int 1) k p1) p2)) (tPart (tUn (rU fun i => .int (-i)) (tC (.int 1)))) := po_some (pe_un un_neg pe_int)
  refine wpAny_Slice (thn (po_none.run pins s1 σ H1 (fun o H2 => o = none ∧ H2 = H1) I1 ⟨rfl, rfl⟩) fun vl s2 ⟨l, H2, I2, pl, z1, z2⟩ => ?_)
  subst z1 z2
  refine thn (po_none.run pins s2 σ H2 (fun o H3 => o = none ∧ H3 = H2) I2 ⟨rfl, rfl⟩) fun vu s3 ⟨u, H3, I3, pu, z1, z2⟩ => ?_
  subst z1 z2
  refine thn (minus.run pins s3 σ H3 (fun o H4 => o = some (-1) ∧ H4 = H3) I3 ⟨1, rfl, -1, rfl, rfl, rfl⟩) fun vs s4 ⟨o, H4, I4, ps, z1, z2⟩ => ?_
  subst z1 z2
  have I5 : Inv X pins σ H4 { s4 with heap := s4.heap.push { cls := .type "slice", data := .fields #[vl, vu, vs] } } := I4.kept (t' := s4.toks) fun b ob z => Heap.get?_push_of_some _ z
  obtain ⟨its, r, ht, hz⟩ := I5.tuple hx
  show wpAny (model X.prog X.w) X.A (subscriptTail e (.Slice none none (some (.UnaryOp .USub (.Constant (.int 1) k p1) p2)) p3) (.ref a) (.ref s4.heap.objs.size)) (EP X pins σ Q) X.xe { s4 with heap := s4.heap.push { cls := .type "slice", data := .fields #[vl, vu, vs] } }
  refine tail_any (ops := [.ref a, .ref s4.heap.objs.size]) ht.typeIs PyProof.Rows.slot_tuple_getitem.lookup ?_ (by with_unfolding_all rfl)
  refine getItem_tuple_back ht (Heap.IsSliceOf.new _ vl vu vs) pl pu ps ?_ (by rw [← r.length]; exact hz)
  refine ⟨.ref _, _, I5.laid (t' := s4.toks) (o := .tup xs.reverse) (fun b ob z => Heap.get?_push_of_some _ z) (Nat.le_refl _) ?_, rfl, q _ (I5.hok.fresh (Nat.le_refl _))⟩
  exact ⟨by rw [List.length_reverse]; exact hz, _, r.reverse, IsTup.new _ _⟩
end Sw
namespace Sw
open PySem PySem.Spec PyProof.Rows L2
/-- xs != [], xs a list of whatever -/
def rNeNil (K : PySem.W.Frag) : R2 := fun x y H Q => ∃ a b xs, x = .ref a ∧ y = .ref b ∧ SqL K H a xs ∧ SqL K H b [] ∧ Q (.bl (!xs.isEmpty)) H
theorem op_neNil {X : Cx} (hu : X.A.units < cLine) : OpR X (compareOp .NotEq) (rNeNil X.K) := by
  intro pins s σ H x y v u Q I rx ry h
  obtain ⟨a, b, xs, rfl, rfl, ha, hb, q⟩ := h
  cases rx
  cases ry
  obtain ⟨its, r1, p1, _⟩ := I.list ha
  obtain ⟨it2, r2, p2, _⟩ := I.list hb
  cases r2
  cases r1 with
  | nil => exact SeqAt.RcNeAt.lists (e := fun _ => true) p1.isList p2.isList rfl hu (fun j h1 _ => absurd h1 (by simp)) _ _ _ _ ⟨.bl false, H, I, rfl, q⟩
  | cons r t => exact SeqAt.RcNeAt.lists_lengths p1.isList p2.isList (by simp) hu _ _ _ _ ⟨.bl true, H, I, rfl, q⟩
theorem erase_permV {α : Type} {l : List α} {i : Nat} (h : i < l.length) : (l[i] :: l.eraseIdx i).Perm l := by
  induction l generalizing i with
  | nil => exact absurd h (Nat.not_lt_zero _)
  | cons a l ih =>
    cases i with
    | zero => exact .refl _
    | succ i =>
      have h2 : i < l.length := by simpa using h
      exact ((List.Perm.swap _ _ _).trans ((ih h2).cons a))
theorem scMixed3 : FnScope ["deck", "items", "left", "found"] ["deck", "items"] (defScope sMixed) := ⟨rfl, rfl, rfl, by decide +kernel, rfl, by decide +kernel, by decide +kernel⟩
section
variable {P : Program} {w : World} {K : PySem.W.Frag} {mg : Str → Option Value} {base : Heap}
/-- _law_draw of any number of which there are -/
def spDrawW : Sp := fun vs H Q _ => ∃ (p d : Addr) (m : Int), vs = [.ref p, .int m] ∧ Deck H p d 63 ∧ m < 1000000000000 ∧ ∀ (r : Int) (H' : Hp), 0 ≤ r → (1 ≤ m → r < m) → (m < 2 → r = 0) → Deck H' p d 63 → Kp p d H H' → Q (.int r) H'
theorem ok_drawW {f : Addr} {fd : FuncData} (F : Fun K "_law_draw" "_law_draw" sDraw f fd) (B : NoNames mg) : FnOk P w K mg base CX0 1 f fd ["deck", "many"] spDrawW := by
  refine F.ok scDraw (fun vs H Q E h => ?_) (fun cdv A outer s H vs Q E hr h => ?_)
  · obtain ⟨p, d, m, rfl, _⟩ := h
    rfl
  · obtain ⟨p, d, m, rfl, D, hm, k⟩ := h
    have hu := hu_of hr
    refine ⟨_, pss_cons (ps_if (pt_cmpR op_lt (pv 1) pe_int (nomark _)) (pss_one (ps_ret pe_int)) pss_nil)
      (pss_cons (ps_if (pt_cmpR (op_neD hr.units) (pe_dget hu (pv 0) pe_str (fun _ _ => rfl)) (pe_lst pa_nil) (nomark _))
        (pss_cons (ps_set (i := 2) scDraw.nd rfl (.inl rfl) (pe_bm0 PySem.F.plainAttrs_list PySem.F.slot_list_pop PySem.F.type_list_pop mt_pop (pe_dget hu (pv 0) pe_str (fun _ _ => rfl))))
        (pss_cons (ps_if (pt_cmpR op_ge (pv 2) (pv 1) (nomark _)) (pss_one (ps_expr (pe_bm PySem.F.plainAttrs_list PySem.F.slot_list_append PySem.F.type_list_append mt_append (pe_dget hu (pv 0) pe_str (fun _ _ => rfl)) (pa_cons (pe_op op_fdivW (pv 2) (pv 1)) pa_nil)))) pss_nil)
        (pss_one (ps_ret (pe_op op_mod (pe_callTy call_int1 (by rfl) B.int (by decide +kernel) (pa_cons (pv 2) pa_nil)) (pv 1)))))) pss_nil)
      (pss_cons (ps_set (i := 3) scDraw.nd rfl (.inl rfl) (pe_op op_mod (pe_callTy call_int1 (by rfl) B.int (by decide +kernel) (pa_cons (pe_op op_add (pe_op op_mul (pe_dget hu (pv 0) pe_str (fun _ _ => rfl)) pe_int) pe_int) pa_nil)) pe_int))
      (pss_cons (ps_dput hu (pv 0) pe_str (pv 3) rfl)
      (pss_cons (ps_set (i := 4) scDraw.nd rfl (.inl rfl) (pe_op op_mod (pe_callTy call_int1 (by rfl) B.int (by decide +kernel) (pa_cons (pe_op op_add (pe_op op_add (pe_op op_mul (pv 3) (pv 3)) (pe_op op_mul pe_int (pv 3))) pe_int) pa_nil)) pe_int))
      (pss_one (ps_ret (pe_op op_mod (pe_callTy call_int1 (by rfl) B.int (by decide +kernel) (pa_cons (pe_op op_fdiv (pv 4) pe_int) pa_nil)) (pv 1)))))))), ?_⟩
    obtain ⟨ns, st, hp, hd, hl, hn, hs1, hs2⟩ := id D.ex
    refine ⟨_, rfl, _, _, rfl, rfl, _, rfl, ?_⟩
    refine ite2 (fun z => ?_) (fun z => ?_)
    · have z : m < 2 := of_decide_eq_true z
      exact k 0 H (by decide) (fun _ => by omega) (fun _ => rfl) D .refl
    have z : ¬ m < 2 := fun q => z (decide_eq_true q)
    refine ⟨_, rfl, p, _, rfl, dget_deep hp, by show 0 ≤ sizeLine; exact Nat.zero_le _, fun e ne => ?_⟩
    have se : Same H (upd H e (.lst [])) := same_new ne
    refine ⟨.list (ns.map PyData.int), .list [], .lst (SqL.of (se _ _ hd)) (dpInts ns), .lst (SqL.of upd_same) .nil, PySem.W.ke_shaped_ints ns, rfl, _, rfl, ?_⟩
    rw [eqv_nil]
    refine ite2 (fun y => ?_) (fun y => ?_)
    · obtain ⟨n, ms, rfl, hlast, hdrop⟩ := last_ints (of_decide_eq_true y)
      have hn0 : 0 ≤ n := hn n (by simp)
      refine ⟨_, rfl, p, _, rfl, dget_deep (se _ _ hp), .inl ⟨rfl, _, SqL.of (se _ _ hd)⟩, d, _, _, rfl, rfl, se _ _ hd, hlast, ?_⟩
      rw [hdrop]
      have hpd := D.ne
      have h1 : (upd (upd H e (.lst [])) d (.lst (ms.map V.int))) p = some (.dK (deckL d st)) := by
        rw [upd_ne hpd]
        exact se _ _ hp
      have h2 : (upd (upd H e (.lst [])) d (.lst (ms.map V.int))) d = some (.lst (ms.map V.int)) := upd_same
      have h3 : Kp p d H (upd (upd H e (.lst [])) d (.lst (ms.map V.int))) := fun b o e n1 n2 => by
        rw [upd_ne n2]
        exact se _ _ e
      have hl' : ms.length + 1 ≤ 63 := by simpa using hl
      have hn' : ∀ x ∈ ms, 0 ≤ x := fun x hx => hn x (by simp [hx])
      generalize (upd (upd H e (.lst [])) d (.lst (ms.map V.int))) = H1 at h1 h2 h3 ⊢
      have D1 : Deck H1 p d 63 := ⟨ms, st, h1, h2, by omega, hn', hs1, hs2⟩
      refine ⟨_, rfl, _, rfl, _, _, rfl, rfl, _, rfl, ?_⟩
      refine ite2 (fun x => ?_) (fun x => ?_)
      · have x : m ≤ n := of_decide_eq_true x
        refine ⟨_, rfl, p, _, rfl, dget_deep h1, .inl ⟨rfl, _, SqL.of h2⟩, _, rfl, _, rfl, _, _, rfl, rfl, wide_div (b := 40) (by omega) (by omega) (by decide) (by decide), d, _, _, rfl, rfl, h2, ?_, ?_⟩
        · rw [List.length_map, sizeLine_eq]
          omega
        refine ⟨_, rfl, .inl ⟨_, rfl, _, rfl, _, _, rfl, rfl, by show 0 < m; omega, ?_⟩⟩
        refine k _ _ (Int.emod_nonneg _ (by omega)) (fun _ => Int.emod_lt_of_pos _ (by omega)) (fun y => absurd y (by omega)) ⟨ms ++ [n / m], st, ?_, ?_, ?_, ?_, hs1, hs2⟩ (h3.trans fun b o e n1 n2 => ?_)
        · rw [upd_ne hpd]
          exact h1
        · rw [upd_same, List.map_append]
          rfl
        · simp
          omega
        · intro x hx
          rcases List.mem_append.mp hx with q | q
          · exact hn' x q
          · rw [List.mem_singleton.mp q]
            exact Int.ediv_nonneg hn0 (by omega)
        · rw [upd_ne n2]
          exact e
      · refine ⟨_, rfl, .inl ⟨_, rfl, _, rfl, _, _, rfl, rfl, by show 0 < m; omega, ?_⟩⟩
        exact k _ _ (Int.emod_nonneg _ (by omega)) (fun _ => Int.emod_lt_of_pos _ (by omega)) (fun y => absurd y (by omega)) D1 h3
    · have D1 := D.same se
      generalize (upd H e (.lst [])) = H1 at se D1
      obtain ⟨ns, st, hp, hd, hl, hn, hs1, hs2⟩ := id D1.ex
      refine ⟨_, rfl, p, _, rfl, dget_state hp, _, _, rfl, rfl, .inl ⟨by omega, by omega⟩, _, _, rfl, rfl, ?_⟩
      refine .inl ⟨_, rfl, _, _, rfl, rfl, (by show (0 : Int) < 2305843009213693951; decide), ?_⟩
      dsimp only
      have o1 : 0 ≤ (st * 1181783497276652981 + 88172645463325) % 2305843009213693951 := Int.emod_nonneg _ (by decide)
      have o2 : (st * 1181783497276652981 + 88172645463325) % 2305843009213693951 < 2305843009213693951 := Int.emod_lt_of_pos _ (by decide)
      generalize (st * 1181783497276652981 + 88172645463325) % 2305843009213693951 = one at o1 o2 ⊢
      refine ⟨_, rfl, _, rfl, p, _, rfl, dput_state one hp, ?_⟩
      refine ⟨_, rfl, _, rfl, _, _, rfl, rfl, .inl ⟨by omega, by omega⟩, _, rfl, _, _, rfl, rfl, .inl ⟨by decide, by decide⟩, _, _, rfl, rfl, _, _, rfl, rfl, ?_⟩
      refine .inl ⟨_, rfl, _, _, rfl, rfl, (by show (0 : Int) < 2305843009213693921; decide), ?_⟩
      dsimp only
      generalize (one * one + 374761393 * one + 11) % 2305843009213693921 = two
      refine ⟨_, rfl, _, _, rfl, rfl, ⟨by decide, by decide⟩, ?_⟩
      refine .inl ⟨_, rfl, _, rfl, _, _, rfl, rfl, by show 0 < m; omega, ?_⟩
      refine k _ _ (Int.emod_nonneg _ (by omega)) (fun _ => Int.emod_lt_of_pos _ (by omega)) (fun y => absurd y (by omega)) ⟨ns, one, upd_same, ?_, hl, hn, o1, by omega⟩ (fun b o e n1 n2 => ?_)
      · rw [upd_ne (D1.ne).symm]
        exact hd
      · rw [upd_ne n1]
        exact se _ _ e
/-- _law_mixed of a list of whatever -/
def spMixedV : Sp := fun vs H Q _ => ∃ (p d a : Addr) (ns : List V), vs = [.ref p, .ref a] ∧ Deck H p d 63 ∧ H a = some (.lst ns) ∧ ns.length < 1000000 ∧ ∀ (r : Addr) (ms : List V) (H' : Hp), Deck H' p d 63 → Kp p d H H' → H r = none → H' r = some (.lst ms) → ms.Perm ns → Q (.ref r) H'
theorem ok_mixedV {f : Addr} {fd : FuncData} (F : Fun K "_law_mixed" "_law_mixed" sMixed f fd) (B : NoNames mg) (O : Own P w K mg base 1 "_law_draw" ["deck", "many"] spDraw) : FnOk P w K mg base CX0 2 f fd ["deck", "items"] (spMixedV) := by
  obtain ⟨fD, fdD, GD, mD, kD, bD⟩ := O.ex
  refine F.ok scMixed3 (fun vs H Q E h => ?_) (fun cdv A outer s H vs Q E hr h => ?_)
  · obtain ⟨p, d, a, ns, rfl, _⟩ := h
    rfl
  · obtain ⟨p, d, a, ns, rfl, D, ha, hl, k⟩ := h
    refine ⟨_, pss_cons (ps_par (i := 2) (j := 3) rfl scMixed3.nd rfl rfl (by decide) rfl rfl (pa_cons (pe_callTy call_list_of (by rfl) B.list (by decide +kernel) (pa_cons (pv 1) pa_nil)) (pa_cons (pe_lst pa_nil) pa_nil)) (by rfl))
      (pss_cons (ps_while PassesOwn.never (pt_cmpR (op_neNil hr.units0) (pv 2) (pe_lst pa_nil) (nomark _))
        (pss_one (ps_expr (pe_bm PySem.F.plainAttrs_list PySem.F.slot_list_append PySem.F.type_list_append mt_append (pv 3)
          (pa_cons (pe_bm PySem.F.plainAttrs_list PySem.F.slot_list_pop PySem.F.type_list_pop mt_popAt (pv 2)
            (pa_cons (pe_call GD hr rfl mD kD bD .nil pass0 (pa_cons (pv 0) (pa_cons (pe_callB call_len_seq (by rfl) B.len PySem.boot_len (pa_cons (pv 2) pa_nil)) pa_nil))) pa_nil)) pa_nil)))))
      (pss_one (ps_ret (pv 3)))), ?_⟩
    refine ⟨_, rfl, a, _, rfl, .inl (SqL.of ha), fun l nl => ⟨by show 0 ≤ sizeLine; exact Nat.zero_le _, fun g ng => ⟨_, _, rfl, ?_⟩⟩⟩
    have s1 : Same H (L2.upd H l (.lst ns)) := same_new nl
    have s2 := s1.trans (same_new (o := .lst []) ng)
    have ngl : g ≠ l := fun z => by
      rw [z, upd_same] at ng
      cases ng
    refine ⟨fun m σ H' => ∃ ls fs : List V, σ = [some (.ref p), some (.ref a), some (.ref l), some (.ref g)] ∧ Deck H' p d 63 ∧ Kp p d H H' ∧ H' l = some (.lst ls) ∧ H' g = some (.lst fs) ∧ l ≠ d ∧ g ≠ d ∧ ls.length = m ∧ (fs ++ ls).Perm ns,
      ⟨ns.length, ns, [], rfl, D.same s2, .of s2, by rw [upd_ne ngl.symm, upd_same], upd_same, (D.ne_none nl).2, (D.ne_none (s1.free ng)).2, rfl, .refl _⟩, ?_⟩
    rintro m σ H1 ⟨ls, fs, rfl, D1, k1, h1, h2, n1, n2, rfl, hpm⟩
    refine ⟨_, rfl, by show 0 ≤ sizeLine; exact Nat.zero_le _, fun e ne => ?_⟩
    have se : Same H1 (L2.upd H1 e (.lst [])) := same_new ne
    refine ⟨l, e, ls, rfl, rfl, SqL.of (se _ _ h1), SqL.of upd_same, _, rfl, ?_⟩
    have D2 := D1.same se
    have k2 := k1.trans (.of se)
    have h1' := se _ _ h1
    have h2' := se _ _ h2
    have hlen : fs.length + ls.length = ns.length := by
      rw [← hpm.length_eq, List.length_append]
    generalize (L2.upd H1 e (.lst [])) = H2 at D2 k2 h1' h2' ⊢
    refine ite2 (fun y => ?_) (fun y => ?_)
    · have y : ls ≠ [] := fun z => by rw [z] at y; cases y
      have hpos : 0 < ls.length := List.length_pos_iff.mpr y
      refine ⟨fun σ' H' => ∃ m', m' < ls.length ∧ ∃ ls fs : List V, σ' = [some (.ref p), some (.ref a), some (.ref l), some (.ref g)] ∧ Deck H' p d 63 ∧ Kp p d H H' ∧ H' l = some (.lst ls) ∧ H' g = some (.lst fs) ∧ l ≠ d ∧ g ≠ d ∧ ls.length = m' ∧ (fs ++ ls).Perm ns, fun _ _ h => h, ?_⟩
      refine ⟨_, rfl, .inl ⟨rfl, _, SqL.of h2'⟩, _, rfl, .inl ⟨rfl, _, SqL.of h1'⟩, _, rfl, _, rfl, l, ls, rfl, .inl (SqL.of h1'), p, d, (ls.length : Int), rfl, D2, ?_, fun r H3 r0 r1 r2 D3 k3 => ?_⟩
      · omega
      have h1 := k3 _ _ h1' (D2.kne h1') n1
      have h2 := k3 _ _ h2' (D2.kne h2') n2
      have np1 := D2.kne h1'
      have np2 := D2.kne h2'
      have hr : r < (ls.length : Int) := r1 (by omega)
      obtain ⟨i, rfl⟩ := Int.eq_ofNat_of_zero_le r0
      have hi : i < ls.length := by omega
      refine ⟨l, _, _, i, ls[i], rfl, rfl, h1, by omega, by omega, PySem.seqIndex_of r0 hr, ?_, ?_⟩
      · exact List.getElem?_eq_getElem hi
      refine ⟨g, fs, _, rfl, rfl, by rw [upd_ne ngl]; exact h2, ?_, ?_⟩
      · rw [sizeLine_eq]
        omega
      have le : (ls.eraseIdx i).length + 1 = ls.length := by
        rw [List.length_eraseIdx_of_lt hi]
        omega
      refine ⟨(ls.eraseIdx i).length, by omega, ls.eraseIdx i, fs ++ [ls[i]], rfl, (D3.upd np1 n1).upd np2 n2, ?_, ?_, ?_, n1, n2, rfl, ?_⟩
      · intro b o e q1 q2
        rw [upd_ne (ne_of_none e (s1.free ng)), upd_ne (ne_of_none e nl)]
        exact k3 _ _ (k2 _ _ e q1 q2) q1 q2
      · rw [upd_ne ngl.symm, upd_same]
      · exact upd_same
      · rw [List.append_assoc]
        exact ((erase_permV hi).append_left fs).trans hpm
    · have y : ls = [] := by
        cases ls with
        | nil => rfl
        | cons _ _ => exact absurd rfl y
      subst y
      rw [List.append_nil] at hpm
      exact ⟨_, rfl, k g fs H2 D2 k2 (s1.free ng) h2' hpm⟩
end
end Sw
namespace Sw
open PySem L2
/-! ### expressions that give data, draws among them: all stands but the deck -/
def UW (p d : Addr) (W : Addr → Prop) : Addr → Prop := fun c => Off p d c ∧ W c
/-- W holds of what is free, of all tuples -/
structure WOk (W : Addr → Prop) (H : Hp) : Prop where
  free : ∀ a, H a = none → W a
  tup : ∀ a zs, H a = some (.tup zs) → W a
theorem WOk.kp {W : Addr → Prop} {p d : Addr} {H H' : Hp} (h : WOk W H) (s : Kp p d H H') (D' : Deck H' p d 63) : WOk W H' := by
  refine ⟨fun a e => h.free a (s.free D' e), fun a zs e => ?_⟩
  cases q : H a with
  | none => exact h.free a q
  | some o =>
    have n := D'.tne e
    have := s a o q n.1 n.2
    rw [this] at e
    cases e
    exact h.tup a zs q
structure SK (p d : Addr) (W : Addr → Prop) (S : SH) : Prop where
  wk : ∀ σ H, S σ H → WOk W H
  dk : ∀ σ H, S σ H → Deck H p d 63
  keep : ∀ σ H H', S σ H → Deck H' p d 63 → Kp p d H H' → S σ H'
theorem SK.same {p d : Addr} {W : Addr → Prop} {S : SH} (h : SK p d W S) {σ : L2.St} {H H' : Hp} (s : S σ H) (e : Same H H') : S σ H' := h.keep σ H H' s ((h.dk _ _ s).same e) (.of e)
def tK (K : PySem.W.Frag) (p d : Addr) (W : Addr → Prop) (S : SH) (w k : Nat) : TE := fun σ H Q => S σ H ∧ ∀ (x : V) (H' : Hp), Dat K (UW p d W) w k H' x → S σ H' → Kp p d H H' → Q x H'
def tKs (K : PySem.W.Frag) (p d : Addr) (W : Addr → Prop) (S : SH) (w k m : Nat) : TA := fun σ H Q => S σ H ∧ ∀ (xs : List V) (ds : List D) (as : List Addr) (H' : Hp), xs.length = m → RepAll K H' ds xs as → (∀ a ∈ as, UW p d W a) → smallAll ds → wtAll ds ≤ w → depAll ds ≤ k → S σ H' → Kp p d H H' → Q xs H'
def tKl (K : PySem.W.Frag) (p d : Addr) (W : Addr → Prop) (S : SH) (w k m : Nat) : TA := fun σ H Q => S σ H ∧ ∀ (xs : List V) (H' : Hp), xs.length = m → (∀ x ∈ xs, Dat K (UW p d W) w k H' x) → S σ H' → Kp p d H H' → Q xs H'
/-- a small whole number -/
def tI (p d : Addr) (S : SH) : TE := fun σ H Q => S σ H ∧ ∀ (i : Int) (H' : Hp), i.natAbs < 1000 → S σ H' → Kp p d H H' → Q (.int i) H'
/-- a tuple of small whole numbers -/
def tIT (p d : Addr) (S : SH) (m : Nat) : TE := fun σ H Q => S σ H ∧ ∀ (q : Addr) (is : List Int) (H' : Hp), H' q = some (.tup (is.map V.int)) → (∀ o ∈ is, o.natAbs < 1000) → is.length ≤ m → S σ H' → Kp p d H H' → Q (.ref q) H'
theorem Dat.kp {K : PySem.W.Frag} {W : Addr → Prop} {p d : Addr} {w k : Nat} {H H' : Hp} {x : V} (h : Dat K (UW p d W) w k H x) (s : Kp p d H H') : Dat K (UW p d W) w k H' x := h.keep (fun _ o => o.1) s
theorem repAll_kp {K : PySem.W.Frag} {W : Addr → Prop} {p d : Addr} {H H' : Hp} {ds : List D} {xs : List V} {as : List Addr} (h : RepAll K H ds xs as) (o : ∀ a ∈ as, UW p d W a) (s : Kp p d H H') : RepAll K H' ds xs as := h.keep fun b hb y e => s b y e (o b hb).1.1 (o b hb).1.2
theorem ints_all {K : PySem.W.Frag} {H : Hp} : ∀ {is : List Int}, (∀ o ∈ is, o.natAbs < 1000) → RepAll K H (is.map D.int) (is.map V.int) [] ∧ smallAll (is.map D.int) ∧ wtAll (is.map D.int) ≤ is.length * 6 ∧ depAll (is.map D.int) = 0
  | [], _ => ⟨by simp [RepAll], by simp [smallAll], by simp [wtAll], by simp [depAll]⟩
  | o :: r, h => by
    obtain ⟨r1, r2, r3, r4⟩ := ints_all (K := K) (H := H) (is := r) fun x hx => h x (List.mem_cons_of_mem _ hx)
    obtain ⟨i1, i2, i3, i4⟩ := int_ok (K := K) (H := H) (i := o) (w := 3) (k := 0) (h o (List.mem_cons_self ..)) (by decide) (by decide)
    refine ⟨?_, ?_, ?_, ?_⟩
    · simp only [List.map_cons, RepAll]
      exact ⟨_, _, [], [], rfl, i1, r1, rfl⟩
    · simp only [List.map_cons, smallAll]
      exact ⟨i2, r2⟩
    · simp only [List.map_cons, wtAll, List.length_cons]
      omega
    · simp only [List.map_cons, depAll]
      omega
theorem rep_newT {K : PySem.W.Frag} {H : Hp} {p : Addr} {ds : List D} {xs : List V} {as : List Addr} (h : RepAll K H ds xs as) (np : H p = none) : Rep K (upd H p (.tup xs)) (.tup ds) (.ref p) (p :: as) := by
  simp only [Rep]
  exact ⟨p, xs, as, rfl, upd_same, h.same (same_new np), nmem h np, rfl⟩
theorem rep_snoc {K : PySem.W.Frag} {H : Hp} {dd : D} {x : V} {as : List Addr} (g : Rep K H dd x as) (sm : small dd) : ∀ {is : List Int}, (∀ o ∈ is, o.natAbs < 1000) → RepAll K H (is.map D.int ++ [dd]) (is.map V.int ++ [x]) as ∧ smallAll (is.map D.int ++ [dd]) ∧ wtAll (is.map D.int ++ [dd]) ≤ is.length * 6 + wt dd + 2 ∧ depAll (is.map D.int ++ [dd]) ≤ dep dd
  | [], _ => by
    refine ⟨?_, ?_, ?_, ?_⟩
    · simp only [List.map_nil, List.nil_append, RepAll]
      exact ⟨x, [], as, [], rfl, g, ⟨rfl, rfl⟩, by simp⟩
    · simp only [List.map_nil, List.nil_append, smallAll]
      exact ⟨sm, trivial⟩
    · simp only [List.map_nil, List.nil_append, wtAll]
      omega
    · simp only [List.map_nil, List.nil_append, depAll]
      omega
  | o :: r, h => by
    obtain ⟨r1, r2, r3, r4⟩ := rep_snoc (K := K) (H := H) g sm (is := r) fun y hy => h y (List.mem_cons_of_mem _ hy)
    obtain ⟨i1, i2, i3, i4⟩ := int_ok (K := K) (H := H) (i := o) (w := 3) (k := 0) (h o (List.mem_cons_self ..)) (by decide) (by decide)
    refine ⟨?_, ?_, ?_, ?_⟩
    · simp only [List.map_cons, List.cons_append]
      rw [RepAll]
      exact ⟨_, _, [], as, rfl, i1, r1, rfl⟩
    · simp only [List.map_cons, List.cons_append, smallAll]
      exact ⟨i2, r2⟩
    · simp only [List.map_cons, List.cons_append, wtAll, List.length_cons]
      omega
    · simp only [List.map_cons, List.cons_append, depAll]
      omega
section
variable {X : Cx} {p d : Addr} {W : Addr → Prop} {S : SH} {e e1 e2 : Expr} {es : List Expr} {w k w' m m' : Nat} {pos : Pos}
theorem k_gen {t : TE} (h : PE X e t) (ht : ∀ σ H Q, S σ H → (∀ (x : V) (H' : Hp), Dat X.K (UW p d W) w k H' x → S σ H' → Kp p d H H' → Q x H') → t σ H Q) : PE X e (tK X.K p d W S w k) := pe_weak h fun σ H Q q => ht σ H Q q.1 q.2
theorem k_at {t : TE} (h : PE X e t) (ht : ∀ σ H Q, S σ H → (∀ v dd, Rep X.K H dd v [] → small dd → wt dd ≤ w → dep dd ≤ k → Q v H) → t σ H Q) : PE X e (tK X.K p d W S w k) :=
  k_gen h fun σ H Q s q => ht σ H Q s fun v dd h1 h2 h3 h4 => q v H ⟨dd, [], h1, fun _ z => absurd z (by simp), h2, h3, h4⟩ s .refl
theorem k_int {i : Int} {t : TE} (h : PE X e t) (ht : ∀ σ H Q, Q (.int i) H → t σ H Q) (hi : i.natAbs < 10 ^ w := by decide +kernel) (hw : 0 < w := by decide) (hw2 : w ≤ 40 := by decide) : PE X e (tK X.K p d W S (w + 1) k) :=
  k_at h fun σ H Q _ q => ht σ H Q (by
    obtain ⟨h1, h2, h3, h4⟩ := int_ok (K := X.K) (H := H) (k := k) hi hw hw2
    exact q _ _ h1 h2 h3 h4)
theorem k_bl {t : TE} (h : PE X e t) (ht : ∀ σ H Q, S σ H → (∀ b, Q (.bl b) H) → t σ H Q) : PE X e (tK X.K p d W S 5 k) :=
  k_at h fun σ H Q hs q => ht σ H Q hs fun b => q _ (.bl b) (by simp [Rep]) (by simp only [small]) (by simp only [wt]; omega) (by simp only [dep]; omega)
theorem k_true {b : Bool} (h : PE X e (tC (.bl b))) : PE X e (tK X.K p d W S 5 k) := k_bl h fun σ H Q _ q => q b
theorem k_non (h : PE X e (tC .non)) : PE X e (tK X.K p d W S 4 k) :=
  k_at h fun σ H Q _ q => q .non .non (by simp [Rep]) (by simp only [small]) (by simp only [wt]; omega) (by simp only [dep]; omega)
theorem k_str {x : Str} (h : PE X e (tC (.str x))) (hw : (reprText x).length ≤ w := by decide +kernel) : PE X e (tK X.K p d W S w k) :=
  k_at h fun σ H Q _ q => q (.str x) (.str x) (by simp [Rep]) (by simp only [small]) (by simp only [wt]; omega) (by simp only [dep]; omega)
theorem k_dct (hS : SK p d W S) : PE X (.Dict [] [] pos) (tK X.K p d W S 2 (k + 1)) :=
  k_gen pe_dnewK fun σ H Q s q a na => q _ _ ⟨.dct, [a], by simp only [Rep]; exact ⟨a, rfl, upd_same, rfl⟩, fun b hb => by rw [List.mem_singleton.mp hb]; exact ⟨(hS.dk _ _ s).ne_none na, (hS.wk _ _ s).free _ na⟩, by simp only [small], by simp only [wt]; omega, by simp only [dep]; omega⟩ (hS.same s (same_new na)) (.of (same_new na))
theorem k_I (h : PE X e (tI p d S)) : PE X e (tK X.K p d W S 4 k) :=
  k_gen h fun σ H Q s q => ⟨s, fun i H' hi s' kp => by
    obtain ⟨h1, h2, h3, h4⟩ := int_ok (K := X.K) (H := H') (w := 3) (k := k) hi (by decide) (by decide)
    exact q _ _ ⟨_, [], h1, fun _ z => absurd z (by simp), h2, h3, h4⟩ s' kp⟩
theorem ks_nil : PA X [] (tKs X.K p d W S 0 k 0) := pa_weak pa_nil fun σ H Q q => q.2 [] [] [] H rfl (by simp [RepAll]) (fun _ h => absurd h (by simp)) (by simp only [smallAll]) (by simp only [wtAll]; omega) (by simp only [depAll]; omega) q.1 .refl
theorem ks_cons (ha : PE X e (tK X.K p d W S w k)) (hr : PA X es (tKs X.K p d W S w' k m)) (hs : starEach (e :: es) X.env = (false, eval e X.env) :: starEach es X.env := by rfl) : PA X (e :: es) (tKs X.K p d W S (w + 2 + w') k (m + 1)) :=
  pa_weak (pa_cons ha hr hs) fun σ H Q q => ⟨q.1, fun x H1 ⟨dd, as, h1, h2, h4, h5, h6⟩ s1 k1 => ⟨s1, fun xs ds bs H2 lm l1 l2 l4 l5 l6 s2 k2 =>
    q.2 (x :: xs) (dd :: ds) (as ++ bs) H2 (by rw [List.length_cons, lm]) (by simp only [RepAll]; exact ⟨x, xs, as, bs, rfl, h1.keep fun b hb y e => k2 b y e (h2 b hb).1.1 (h2 b hb).1.2, l1, rfl⟩) (fun a ha => (List.mem_append.mp ha).elim (h2 a) (l2 a)) (by simp only [smallAll]; exact ⟨h4, l4⟩) (by simp only [wtAll]; omega) (by simp only [depAll]; omega) s2 (k1.trans k2)⟩⟩
theorem k_tup {x1 : Nat} (hS : SK p d W S) (h : PA X es (tKs X.K p d W S w k m)) (hw : w ≤ 10000000 := by decide) : PE X (.Tuple es x1 pos) (tK X.K p d W S (w + 3) (k + 1)) :=
  k_gen (pe_tup h) fun σ H Q s q => ⟨s, fun xs ds as H1 hm h1 h2 h4 h5 h6 s1 k1 => ⟨wlen h1 (by omega), fun a na =>
    q (.ref a) _ ⟨.tup ds, a :: as, by simp only [Rep]; exact ⟨a, xs, as, rfl, upd_same, h1.same (same_new na), nmem h1 na, rfl⟩, fun b hb => (List.mem_cons.mp hb).elim (fun z => by rw [z]; exact ⟨(hS.dk _ _ s1).ne_none na, (hS.wk _ _ s1).free _ na⟩) (h2 b), by simp only [small]; exact h4, by simp only [wt]; omega, by simp only [dep]; omega⟩ (hS.same s1 (same_new na)) (k1.trans (.of (same_new na)))⟩⟩
theorem k_lst (hS : SK p d W S) (h : PA X es (tKs X.K p d W S w k m)) (hw : w ≤ 10000000 := by decide) : PE X (.List es pos) (tK X.K p d W S (w + 3) (k + 1)) :=
  k_gen (pe_lst h) fun σ H Q s q => ⟨s, fun xs ds as H1 hm h1 h2 h4 h5 h6 s1 k1 => ⟨wlen h1 (by omega), fun a na =>
    q (.ref a) _ ⟨.lst ds, a :: as, by simp only [Rep]; exact ⟨a, xs, as, rfl, upd_same, h1.same (same_new na), nmem h1 na, rfl⟩, fun b hb => (List.mem_cons.mp hb).elim (fun z => by rw [z]; exact ⟨(hS.dk _ _ s1).ne_none na, (hS.wk _ _ s1).free _ na⟩) (h2 b), by simp only [small]; exact h4, by simp only [wt]; omega, by simp only [dep]; omega⟩ (hS.same s1 (same_new na)) (k1.trans (.of (same_new na)))⟩⟩
theorem kl_nil : PA X [] (tKl X.K p d W S w k 0) := pa_weak pa_nil fun σ H Q q => q.2 [] H rfl (fun _ h => absurd h (by simp)) q.1 .refl
theorem kl_cons {k' : Nat} (ha : PE X e (tK X.K p d W S w' k')) (hr : PA X es (tKl X.K p d W S w k m)) (hw : w' ≤ w := by decide) (hk : k' ≤ k := by decide) (hs : starEach (e :: es) X.env = (false, eval e X.env) :: starEach es X.env := by rfl) : PA X (e :: es) (tKl X.K p d W S w k (m + 1)) :=
  pa_weak (pa_cons ha hr hs) fun σ H Q q => ⟨q.1, fun x H1 hx s1 k1 => ⟨s1, fun xs H2 lm hxs s2 k2 => q.2 (x :: xs) H2 (by rw [List.length_cons, lm]) (fun y hy => (List.mem_cons.mp hy).elim (fun z => by rw [z]; exact (hx.kp k2).le hw hk) (hxs y)) s2 (k1.trans k2)⟩⟩
theorem it_one {x1 : Nat} (hS : SK p d W S) (h : PE X e (tI p d S)) (hs : starEach [e] X.env = (false, eval e X.env) :: starEach [] X.env := by rfl) : PE X (.Tuple [e] x1 pos) (tIT p d S 1) :=
  pe_weak (pe_tup (pa_cons h pa_nil hs)) fun σ H Q q => ⟨q.1, fun i H1 hi s1 k1 => ⟨by show 1 ≤ sizeLine; decide, fun a na => q.2 a [i] _ upd_same (fun o ho => by rw [List.mem_singleton.mp ho]; exact hi) (Nat.le_refl 1) (hS.same s1 (same_new na)) (k1.trans (.of (same_new na)))⟩⟩
theorem it_nil {x1 : Nat} (hS : SK p d W S) : PE X (.Tuple [] x1 pos) (tIT p d S 0) :=
  pe_weak (pe_tup pa_nil) fun σ H Q q => ⟨Nat.zero_le _, fun a na => q.2 a [] _ upd_same (fun o ho => absurd ho (by simp)) (Nat.le_refl 0) (hS.same q.1 (same_new na)) (.of (same_new na))⟩
theorem it_cat (hS : SK p d W S) (h1 : PE X e1 (tIT p d S m)) (h2 : PE X e2 (tIT p d S m')) (hm : m + m' ≤ 1000000 := by decide) : PE X (.BinOp e1 .Add e2 pos) (tIT p d S (m + m')) :=
  pe_weak (pe_op (r := rCatA X.K) op_catA h1 h2) fun σ H Q q => ⟨q.1, fun q1 is1 H1 a1 b1 l1 s1 k1 => ⟨s1, fun q2 is2 H2 a2 b2 l2 s2 k2 => by
    have a12 := k2 _ _ a1 ((hS.dk _ _ s1).tne a1).1 ((hS.dk _ _ s1).tne a1).2
    refine ⟨q1, q2, _, _, rfl, rfl, SqT.of a12, SqT.of a2, by rw [List.length_map, List.length_map, sizeLine_eq]; omega, fun z => ?_, fun _ z => ?_, fun _ _ c nc => ?_⟩
    · exact q.2 q2 is2 H2 a2 b2 (by omega) s2 (k1.trans k2)
    · exact q.2 q1 is1 H2 a12 b1 (by omega) s2 (k1.trans k2)
    · exact q.2 c (is1 ++ is2) _ (by rw [upd_same, List.map_append]) (fun o ho => (List.mem_append.mp ho).elim (b1 o) (b2 o)) (by rw [List.length_append]; omega) (hS.same s2 (same_new nc)) ((k1.trans k2).trans (.of (same_new nc)))⟩⟩
theorem it_cut {lo hi : Option Expr} {tl th : TO} {l u : Option Int} {p2 : Pos} (hS : SK p d W S) (h : PE X e (tIT p d S m)) (hl : PO X lo tl) (hh : PO X hi th) (rl : ∀ σ H Q, Q l H → tl σ H Q) (rh : ∀ σ H Q, Q u H → th σ H Q) : PE X (.Subscript e (.Slice lo hi none p2) pos) (tIT p d S m) :=
  pe_weak (pe_slice sl_tupA h hl hh) fun σ H Q q => ⟨q.1, fun q1 is H1 a1 b1 l1 s1 k1 => rl _ _ _ (rh _ _ _ ⟨q1, _, rfl, SqT.of a1, fun _ => q.2 q1 is H1 a1 b1 l1 s1 k1, fun _ c nc => by
    obtain ⟨js, ej, sj⟩ : ∃ js : List Int, cutV (is.map V.int) l u = js.map V.int ∧ (∀ o ∈ js, o ∈ is) ∧ js.length ≤ is.length := by
      refine ⟨(is.drop (HT.sIx (is.map V.int).length 0 l)).take (HT.sIx (is.map V.int).length (is.map V.int).length u - HT.sIx (is.map V.int).length 0 l), ?_, fun o ho => List.mem_of_mem_drop (List.mem_of_mem_take ho), ?_⟩
      · unfold cutV
        rw [List.map_take, List.map_drop]
      · rw [List.length_take, List.length_drop]
        omega
    exact q.2 c js _ (by rw [upd_same, ej]) (fun o ho => b1 o (sj.1 o ho)) (by omega) (hS.same s1 (same_new nc)) (k1.trans (.of (same_new nc)))⟩)⟩
theorem it_rev {kk : Nat} {p1 p2 p3 : Pos} (hS : SK p d W S) (h : PE X e (tIT p d S m)) : PE X (.Subscript e (.Slice none none (some (.UnaryOp .USub (.Constant (.int 1) kk p1) p2)) p3) pos) (tIT p d S m) :=
  pe_weak (pe_revT h) fun σ H Q q => ⟨q.1, fun q1 is H1 a1 b1 l1 s1 k1 => ⟨q1, _, rfl, SqT.of a1, fun c nc => q.2 c is.reverse _ (by rw [upd_same, List.map_reverse]) (fun o ho => b1 o (List.mem_reverse.mp ho)) (by rw [List.length_reverse]; exact l1) (hS.same s1 (same_new nc)) (k1.trans (.of (same_new nc)))⟩⟩
theorem k_it (hS : SK p d W S) (h : PE X e (tIT p d S m)) : PE X e (tK X.K p d W S (m * 6 + 3) (k + 1)) :=
  k_gen h fun σ H Q s q => ⟨s, fun a is H1 a1 b1 l1 s1 k1 => by
    obtain ⟨r1, r2, r3, r4⟩ := ints_all (K := X.K) (H := H1) b1
    exact q _ _ ⟨.tup (is.map D.int), [a], by simp only [Rep]; exact ⟨a, _, [], rfl, a1, r1, by simp, rfl⟩, fun b hb => by rw [List.mem_singleton.mp hb]; exact ⟨(hS.dk _ _ s1).tne a1, (hS.wk _ _ s1).tup _ _ a1⟩, by simp only [small]; exact r2, by simp only [wt]; omega, by simp only [dep]; omega⟩ s1 k1⟩
/-- a tuple of whole numbers and one thing more -/
theorem k_cat1 {x1 : Nat} {pos' : Pos} (hS : SK p d W S) (h1 : PE X e1 (tIT p d S m)) (h2 : PE X e2 (tK X.K p d W S w k)) (hs : starEach [e2] X.env = (false, eval e2 X.env) :: starEach [] X.env := by rfl) (hm : m ≤ 100000 := by decide) : PE X (.BinOp e1 .Add (.Tuple [e2] x1 pos) pos') (tK X.K p d W S (m * 6 + w + 5) (k + 1)) :=
  k_gen (pe_op (r := rCatA X.K) op_catA h1 (pe_tup (pa_cons h2 pa_nil hs))) fun σ H Q s q => ⟨s, fun q1 is H1 a1 b1 l1 s1 k1 => ⟨s1, fun x H2 ⟨dd, as, g1, g2, g3, g4, g5⟩ s2 k2 => ⟨by show 1 ≤ sizeLine; decide, fun T nT => by
    have a12 := k2 _ _ a1 ((hS.dk _ _ s1).tne a1).1 ((hS.dk _ _ s1).tne a1).2
    have sT : Same H2 (upd H2 T (.tup [x])) := same_new nT
    have sST := hS.same s2 sT
    refine ⟨q1, T, _, _, rfl, rfl, SqT.of (sT _ _ a12), SqT.of upd_same, by rw [List.length_map, sizeLine_eq]; simp only [List.length_cons, List.length_nil]; omega, fun z => ?_, fun _ z => (nomatch z), fun _ _ c nc => ?_⟩
    · have ei : is = [] := by simpa using z
      obtain ⟨r1, r2, r3, r4⟩ := rep_snoc g1 g3 (is := []) fun _ h => absurd h (by simp)
      refine q _ _ ⟨.tup ([].map D.int ++ [dd]), T :: as, rep_newT r1 nT, fun b hb => (List.mem_cons.mp hb).elim (fun z => by rw [z]; exact ⟨(hS.dk _ _ s2).ne_none nT, (hS.wk _ _ s2).free _ nT⟩) (g2 b), by simp only [small]; exact r2, ?_, ?_⟩ sST ((k1.trans k2).trans (.of sT))
      · simp only [wt]
        simp only [List.length_nil] at r3
        omega
      · simp only [dep]
        omega
    · obtain ⟨r1, r2, r3, r4⟩ := rep_snoc (g1.same sT) g3 b1
      refine q _ _ ⟨.tup (is.map D.int ++ [dd]), c :: as, rep_newT r1 nc, fun b hb => (List.mem_cons.mp hb).elim (fun z => by rw [z]; exact ⟨(hS.dk _ _ sST).ne_none nc, (hS.wk _ _ sST).free _ nc⟩) (g2 b), by simp only [small]; exact r2, ?_, ?_⟩ (hS.same sST (same_new nc)) (((k1.trans k2).trans (.of sT)).trans (.of (same_new nc)))
      · simp only [wt]
        omega
      · simp only [dep]
        omega⟩⟩⟩
end
end Sw
namespace Sw
open PySem PySem.Spec PyProof.Rows L2
/-- pairs of a tuple and a value, as they are laid: the key, its address, the value -/
abbrev PT := List Key × Addr × V
def PairT (K : PySem.W.Frag) (H : Hp) (p : Addr) (q : PT) : Prop := SqT K H p [.ref q.2.1, q.2.2] ∧ H q.2.1 = some (.tup (q.1.map kV))
theorem pairsT_of {X : Cx} {pins : List (Addr × Obj)} {σ : L2.St} {H : Hp} {s : Shared} (I : Inv X pins σ H s) : ∀ {ps : List Addr} {qs : List PT}, Paired (PairT X.K H) ps qs →
    ∃ prs : List (List Key × Addr × Value), Paired (fun (q : PT) (r : List Key × Addr × Value) => q.1 = r.1 ∧ q.2.1 = r.2.1 ∧ RelV q.2.2 r.2.2) qs prs ∧ prs.length = ps.length ∧
      ∀ (j : Nat) (r : List Key × Addr × Value), prs[j]? = some r → ∃ p, ps[j]? = some p ∧ s.heap.IsTuple p #[.ref r.2.1, r.2.2]
  | _, _, .nil => ⟨[], .nil, rfl, fun j r e => by simp at e⟩
  | _, _, .cons (a := p) (b := q) h t => by
    obtain ⟨prs, r, hl, hp⟩ := pairsT_of I t
    obtain ⟨its, rv, ht, _⟩ := I.tuple h.1
    obtain ⟨u, y, ei, ru, ry⟩ := vals2 rv
    subst ei
    cases (show u = Value.ref q.2.1 from ru)
    refine ⟨(q.1, q.2.1, y) :: prs, .cons ⟨rfl, rfl, ry⟩ r, by simp [hl], fun j z e => ?_⟩
    cases j with
    | zero =>
      obtain rfl : (q.1, q.2.1, y) = z := by simpa using e
      exact ⟨p, rfl, ht⟩
    | succ j =>
      obtain ⟨p2, h1, h2⟩ := hp j z (by simpa using e)
      exact ⟨p2, by simpa using h1, h2⟩
theorem stored_mem {κ : Type} [DecidableEq κ] {xs : List (κ × Addr × Value)} {k : κ} {a : Addr} {v : Value} {z : κ × Addr × Value} (h : z ∈ storedH xs k a v) : z = (k, a, v) ∨ z ∈ xs ∨ ∃ y ∈ xs, z = (y.1, y.2.1, v) := by
  unfold storedH at h
  split at h
  · obtain ⟨y, hy, e⟩ := List.mem_map.mp h
    unfold putAt at e
    split at e
    · exact .inr (.inr ⟨y, hy, e.symm⟩)
    · exact .inr (.inl (e ▸ hy))
  · rcases List.mem_append.mp h with q | q
    · exact .inr (.inl q)
    · exact .inl (by simpa using q)
theorem storedAll_mem {κ : Type} [DecidableEq κ] : ∀ (ps xs : List (κ × Addr × Value)) (z : κ × Addr × Value), z ∈ storedAllH xs ps →
    (∃ y, (y ∈ xs ∨ y ∈ ps) ∧ y.1 = z.1 ∧ y.2.1 = z.2.1) ∧ ∃ y, (y ∈ xs ∨ y ∈ ps) ∧ y.2.2 = z.2.2
  | [], xs, z, h => ⟨⟨z, .inl h, rfl, rfl⟩, z, .inl h, rfl⟩
  | p :: ps, xs, z, h => by
    obtain ⟨⟨y, hy, e1, e2⟩, y', hy', e3⟩ := storedAll_mem ps (storedH xs p.1 p.2.1 p.2.2) z h
    constructor
    · rcases hy with hy | hy
      · rcases stored_mem hy with q | q | ⟨t, q, e⟩
        · exact ⟨p, .inr (by simp), by rw [q] at e1; exact e1, by rw [q] at e2; exact e2⟩
        · exact ⟨y, .inl q, e1, e2⟩
        · exact ⟨t, .inl q, by rw [e] at e1; exact e1, by rw [e] at e2; exact e2⟩
      · exact ⟨y, .inr (by simp [hy]), e1, e2⟩
    · rcases hy' with hy | hy
      · rcases stored_mem hy with q | q | ⟨t, q, e⟩
        · exact ⟨p, .inr (by simp), by rw [q] at e3; exact e3⟩
        · exact ⟨y', .inl q, e3⟩
        · exact ⟨p, .inr (by simp), by rw [e] at e3; exact e3⟩
      · exact ⟨y', .inr (by simp [hy]), e3⟩
theorem stored_keep {κ : Type} [DecidableEq κ] {xs : List (κ × Addr × Value)} {k : κ} {a : Addr} {v : Value} {y : κ × Addr × Value} (h : y ∈ xs) : ∃ z ∈ storedH xs k a v, z.1 = y.1 := by
  unfold storedH
  split
  · refine ⟨putAt k v y, List.mem_map.mpr ⟨y, h, rfl⟩, ?_⟩
    unfold putAt
    split <;> rfl
  · exact ⟨y, List.mem_append.mpr (.inl h), rfl⟩
theorem stored_has {κ : Type} [DecidableEq κ] {xs : List (κ × Addr × Value)} {k : κ} {a : Addr} {v : Value} : ∃ z ∈ storedH xs k a v, z.1 = k := by
  by_cases e : (atKey xs k).isSome = true
  · obtain ⟨y, hy, e2⟩ : ∃ y ∈ xs, y.1 = k := by
      unfold atKey at e
      cases q : xs.find? (fun x => decide (x.1 = k)) with
      | none =>
        rw [q] at e
        cases e
      | some y => exact ⟨y, List.mem_of_find?_eq_some q, by simpa using List.find?_some q⟩
    obtain ⟨z, hz, e3⟩ := stored_keep (k := k) (a := a) (v := v) hy
    exact ⟨z, hz, e3.trans e2⟩
  · unfold storedH
    rw [if_neg e]
    exact ⟨(k, a, v), List.mem_append.mpr (.inr (by simp)), rfl⟩
theorem storedAll_has {κ : Type} [DecidableEq κ] : ∀ (ps xs : List (κ × Addr × Value)) (y : κ × Addr × Value), y ∈ xs ∨ y ∈ ps → ∃ z ∈ storedAllH xs ps, z.1 = y.1
  | [], xs, y, h => ⟨y, h.elim id (fun z => absurd z (by simp)), rfl⟩
  | p :: ps, xs, y, h => by
    show ∃ z ∈ storedAllH (storedH xs p.1 p.2.1 p.2.2) ps, z.1 = y.1
    rcases h with h | h
    · obtain ⟨z, hz, e⟩ := stored_keep (k := p.1) (a := p.2.1) (v := p.2.2) h
      obtain ⟨z2, h2, e2⟩ := storedAll_has ps _ z (.inl hz)
      exact ⟨z2, h2, e2.trans e⟩
    · rcases List.mem_cons.mp h with rfl | h
      · obtain ⟨z, hz, e⟩ := stored_has (xs := xs) (k := y.1) (a := y.2.1) (v := y.2.2)
        obtain ⟨z2, h2, e2⟩ := storedAll_has ps _ z (.inl hz)
        exact ⟨z2, h2, e2.trans e⟩
      · exact storedAll_has ps _ y (.inr h)
theorem storedAll_len {κ : Type} [DecidableEq κ] : ∀ (ps xs : List (κ × Addr × Value)), (storedAllH xs ps).length ≤ xs.length + ps.length
  | [], xs => Nat.le_refl _
  | p :: ps, xs => by
    have h := storedAll_len ps (storedH xs p.1 p.2.1 p.2.2)
    have h2 := storedH_length xs p.1 p.2.1 p.2.2
    show (storedAllH (storedH xs p.1 p.2.1 p.2.2) ps).length ≤ _
    simp only [List.length_cons]
    omega
theorem paired_mem {α β : Type} {F : α → β → Prop} : ∀ {l : List α} {m : List β} {b : β}, Paired F l m → b ∈ m → ∃ a ∈ l, F a b
  | _, _, b, .nil, h => by cases h
  | _, _, b, .cons h t, hb => by
    rcases List.mem_cons.mp hb with e | e
    · exact ⟨_, List.mem_cons_self .., e ▸ h⟩
    · obtain ⟨a, h1, h2⟩ := paired_mem t e
      exact ⟨a, List.mem_cons_of_mem _ h1, h2⟩
theorem paired_memL {α β : Type} {F : α → β → Prop} : ∀ {l : List α} {m : List β} {a : α}, Paired F l m → a ∈ l → ∃ b ∈ m, F a b
  | _, _, a, .nil, h => by cases h
  | _, _, a, .cons h t, ha => by
    rcases List.mem_cons.mp ha with e | e
    · exact ⟨_, List.mem_cons_self .., e ▸ h⟩
    · obtain ⟨b, h1, h2⟩ := paired_memL t e
      exact ⟨b, List.mem_cons_of_mem _ h1, h2⟩
/-- dict(xs), xs a list of pairs whose first things are tuples: its keys are just theirs -/
theorem call_dictTE {X : Cx} {k : Nat} (hr : Room k X.A) (hcalm : X.calm = true) : CallR X (.type "dict") (fun xs H Q => ∃ (a : Addr) (ps : List Addr) (qs : List PT), xs = [.ref a] ∧ SqL X.K H a (ps.map V.ref) ∧ Paired (PairT X.K H) ps qs ∧
    ∀ (d : Addr) (kvs : List (List Key × V)), H d = none → kvs.length ≤ ps.length → (∀ kv ∈ kvs, ∃ q ∈ qs, q.1 = kv.1) → (∀ q ∈ qs, ∃ kv ∈ kvs, kv.1 = q.1) → Q (.ref d) (upd H d (.dT kvs))) := by
  intro pins s σ H xs us Q I r q
  obtain ⟨a, ps, qs, rfl, hq, hp, q⟩ := q
  obtain ⟨u, rfl, rx⟩ := vals1 r
  cases rx
  obtain ⟨its, rv, pl, hz⟩ := I.list hq
  obtain rfl := refs_at rv
  rw [List.length_map] at hz
  obtain ⟨prs, rel, hl, hpr⟩ := pairsT_of I hp
  obtain ⟨o, n, ho, hc, hd, hdat⟩ := pl
  have un := hr.units
  let psV : List (Value × Value) := prs.map fun r => (.ref r.2.1, r.2.2)
  let Ts : Nat → Addr := fun j => ps.getD j 0
  have hlen : psV.length = ps.length := by simp [psV, hl]
  have keyAt : ∀ r ∈ prs, H r.2.1 = some (.tup (r.1.map kV)) := fun r hr => by
    obtain ⟨t, ht, e1, e2, _⟩ := paired_mem rel hr
    have back : ∀ {l : List Addr} {m : List PT}, Paired (PairT X.K H) l m → t ∈ m → H t.2.1 = some (.tup (t.1.map kV)) := fun h hm => by
      obtain ⟨_, _, z⟩ := paired_mem h hm
      exact z.2
    rw [← e1, ← e2]
    exact back hp ht
  have okP : PlainSeq "list" s.heap a (ps.map Value.ref).toArray ∧ PairItems s.heap (ps.map Value.ref).toArray Ts psV := by
    refine ⟨⟨o, n, ho, hc, hd, hdat⟩, by simp [hlen], fun j kk v e => ?_⟩
    obtain ⟨r, er, e2⟩ : ∃ r, prs[j]? = some r ∧ (Value.ref r.2.1, r.2.2) = (kk, v) := by
      simp only [psV, List.getElem?_map] at e
      cases z : prs[j]? with
      | none => rw [z] at e; simp at e
      | some r => rw [z] at e; exact ⟨r, rfl, by simpa using e⟩
    cases e2
    obtain ⟨p, h1, h2⟩ := hpr j r er
    have eT : Ts j = p := by simp [Ts, List.getD, h1]
    refine ⟨by simp [h1, eT], .inl (by rw [eT]; exact h2)⟩
  have hsz : psV.length ≤ sizeLine := by rw [hlen]; exact hz
  refine call_dict_pairsH (knd := tupleKind (mixKind X.prog X.w)) (ps := prs) (PairArg.list a (ps.map Value.ref).toArray Ts psV) (I.ok.hd hcalm) (by show X.A.units + 1 + 1 < cLine; omega) okP ⟨by simp [psV], fun i key v hrel => ?_⟩ (fun h' hk x hx => ?_) hsz fun h' tk hd' hk => ?_
  · have e : psV[i]? = some (key, v) := hrel
    simp only [psV, List.getElem?_map] at e
    cases z : prs[i]? with
    | none => rw [z] at e; simp at e
    | some r =>
      rw [z] at e
      obtain ⟨rk, rb, rv'⟩ := r
      have e2 : (Value.ref rb, rv') = (key, v) := by simpa using e
      cases e2
      exact ⟨rk, rb, rfl, rfl⟩
  · obtain ⟨o', its', n', h1, h2, h3, h4⟩ := key_of I.hok (keyAt x hx)
    exact ⟨o', its', n', hk _ _ (Nat.ne_of_lt (Heap.lt_size h1)) (by simp) h1, h2, h3, h4⟩
  · have hm : (s.heap.objs.size == sysModules) = false := beq_eq_false_iff_ne.mpr (Nat.ne_of_gt I.big)
    have hn : H s.heap.objs.size = none := I.hok.fresh (Nat.le_refl _)
    have hll : (storedAllH [] prs).length ≤ ps.length := by
      have := storedAll_len prs []
      rw [List.length_nil, Nat.zero_add, hl] at this
      exact this
    have vOf : ∀ z ∈ storedAllH [] prs, ∃ y, RelV y z.2.2 := fun z hz => by
      obtain ⟨_, y, hy, e⟩ := storedAll_mem prs [] z hz
      rcases hy with hy | hy
      · cases hy
      · obtain ⟨t, _, _, _, e3⟩ := paired_mem rel hy
        exact ⟨t.2.2, by rw [← e]; exact e3⟩
    have kOf : ∀ z ∈ storedAllH [] prs, H z.2.1 = some (.tup (z.1.map kV)) ∧ ∃ q ∈ qs, q.1 = z.1 := fun z hz => by
      obtain ⟨⟨y, hy, e1, e2⟩, _⟩ := storedAll_mem prs [] z hz
      rcases hy with hy | hy
      · cases hy
      · refine ⟨by rw [← e1, ← e2]; exact keyAt y hy, ?_⟩
        obtain ⟨t, ht, e3, _, _⟩ := paired_mem rel hy
        exact ⟨t, ht, e3.trans e1⟩
    obtain ⟨kvs, hkv⟩ : ∃ kvs : List (List Key × V), Paired (fun (p : List Key × V) (z : List Key × Addr × Value) => p.1 = z.1 ∧ (upd H s.heap.objs.size (.dT kvs)) z.2.1 = some (.tup (p.1.map kV)) ∧ RelV p.2 z.2.2) kvs (storedAllH [] prs) ∧ ∀ kv ∈ kvs, ∃ q ∈ qs, q.1 = kv.1 := by
      have mk : ∀ l : List (List Key × Addr × Value), (∀ z ∈ l, (∃ y, RelV y z.2.2) ∧ H z.2.1 = some (.tup (z.1.map kV)) ∧ ∃ q ∈ qs, q.1 = z.1) →
          ∃ kvs : List (List Key × V), Paired (fun (p : List Key × V) (z : List Key × Addr × Value) => p.1 = z.1 ∧ H z.2.1 = some (.tup (p.1.map kV)) ∧ RelV p.2 z.2.2) kvs l ∧ ∀ kv ∈ kvs, ∃ q ∈ qs, q.1 = kv.1 := by
        intro l
        induction l with
        | nil => intro _; exact ⟨[], .nil, fun _ h => by cases h⟩
        | cons z l ih =>
          intro hz
          obtain ⟨⟨y, hy⟩, hk', hq'⟩ := hz z (List.mem_cons_self ..)
          obtain ⟨kvs, h1, h2⟩ := ih fun t ht => hz t (List.mem_cons_of_mem _ ht)
          refine ⟨(z.1, y) :: kvs, .cons ⟨rfl, hk', hy⟩ h1, fun kv hkv => ?_⟩
          rcases List.mem_cons.mp hkv with e | e
          · rw [e]; exact hq'
          · exact h2 kv e
      obtain ⟨kvs, h1, h2⟩ := mk (storedAllH [] prs) fun z hz => ⟨vOf z hz, kOf z hz⟩
      exact ⟨kvs, Paired.mapP h1 fun p z h => ⟨h.1, by rw [upd_ne (ne_of_none h.2.1 hn)]; exact h.2.1, h.2.2⟩, h2⟩
    have hkl : kvs.length = (storedAllH [] prs).length := hkv.1.length
    obtain ⟨o', es, ep, h1, h2, h3, h4, _, h5⟩ := hd'
    exact ⟨.ref s.heap.objs.size, upd H s.heap.objs.size (.dT kvs), I.laid (t' := tk) (fun b o e => hk b o (by simp) e) (Nat.le_refl _)
      (show ObjOk X.prog X.w _ _ _ (.dT kvs) from ⟨by omega, hm, storedAllH [] prs, hkv.1, o', es, ep, h1, h2, h3, h4, h5⟩), rfl, q _ kvs hn (by omega) hkv.2 fun t ht => by
        obtain ⟨r, hr, e⟩ := paired_memL rel ht
        obtain ⟨z, hz, e2⟩ := storedAll_has prs [] r (.inr hr)
        obtain ⟨kv, hk, e3⟩ := paired_mem hkv.1 hz
        exact ⟨kv, hk, e3.1.trans (e2.trans e.1.symm)⟩⟩
/-- the same, told less -/
theorem call_dictT {X : Cx} {k : Nat} (hr : Room k X.A) (hcalm : X.calm = true) : CallR X (.type "dict") (fun xs H Q => ∃ (a : Addr) (ps : List Addr) (qs : List PT), xs = [.ref a] ∧ SqL X.K H a (ps.map V.ref) ∧ Paired (PairT X.K H) ps qs ∧
    ∀ (d : Addr) (kvs : List (List Key × V)), H d = none → kvs.length ≤ ps.length → (∀ kv ∈ kvs, ∃ q ∈ qs, q.1 = kv.1) → Q (.ref d) (upd H d (.dT kvs))) := by
  intro pins s σ H xs us Q I r q
  obtain ⟨a, ps, qs, e, hq, hp, q⟩ := q
  exact call_dictTE hr hcalm pins s σ H xs us Q I r ⟨a, ps, qs, e, hq, hp, fun d kvs h1 h2 h3 _ => q d kvs h1 h2 h3⟩
end Sw
namespace Sw
open PySem L2
/-- an arrow of whole numbers below n -/
def Arr (n : Int) (H : Hp) (x : V) : Prop := ∃ t a b, x = .ref t ∧ H t = some (.tup [.int a, .int b]) ∧ Inn n a ∧ Inn n b
def Arrs (n : Int) (H : Hp) (xs : List V) : Prop := ∀ x ∈ xs, Arr n H x
def KOk (n : Int) (k : List Key) : Prop := ∃ a b : Int, k = [.inl a, .inl b] ∧ Inn n a ∧ Inn n b
def PairH (H : Hp) (p : Addr) (q : PT) : Prop := H p = some (.tup [.ref q.2.1, q.2.2]) ∧ H q.2.1 = some (.tup (q.1.map kV))
theorem PairH.t {K : PySem.W.Frag} {H : Hp} {p : Addr} {q : PT} (h : PairH H p q) : PairT K H p q := ⟨SqT.of h.1, h.2⟩
theorem Arr.keep {n : Int} {H H' : Hp} {x : V} (h : Arr n H x) (s : TupS H H') : Arr n H' x := by
  obtain ⟨t, a, b, e, h, r⟩ := h
  exact ⟨t, a, b, e, s _ _ h, r⟩
theorem Arrs.keep {n : Int} {H H' : Hp} {xs : List V} (h : Arrs n H xs) (s : TupS H H') : Arrs n H' xs := fun x hx => (h x hx).keep s
theorem PairH.keep {H H' : Hp} {p : Addr} {q : PT} (h : PairH H p q) (s : TupS H H') : PairH H' p q := ⟨s _ _ h.1, s _ _ h.2⟩
theorem paired_mono {α β : Type} {F G : α → β → Prop} (h : ∀ a b, F a b → G a b) : ∀ {l : List α} {m : List β}, Paired F l m → Paired G l m
  | _, _, .nil => .nil
  | _, _, .cons x t => .cons (h _ _ x) (paired_mono h t)
theorem paired_app {α β : Type} {F : α → β → Prop} : ∀ {l l' : List α} {m m' : List β}, Paired F l m → Paired F l' m' → Paired F (l ++ l') (m ++ m')
  | _, _, _, _, .nil, h => h
  | _, _, _, _, .cons x t, h => .cons x (paired_app t h)
/-- the list of pairs that a block has made so far -/
def PV (D : Addr) (H1 : Hp) (n : Int) (i : Nat) (H : Hp) : Prop := ∃ ps qs, H D = some (.lst (ps.map V.ref)) ∧ Paired (PairH H) ps qs ∧ (∀ q ∈ qs, KOk n q.1) ∧ ps.length ≤ i ∧ H1 D = none ∧ Same H1 H
theorem PV.start {D : Addr} {H1 : Hp} {n : Int} (h : H1 D = none) : PV D H1 n 0 (L2.upd H1 D (.lst [])) :=
  ⟨[], [], upd_same, .nil, fun _ h => absurd h (by simp), Nat.le_refl _, h, same_new h⟩
theorem PV.add {D : Addr} {H1 : Hp} {n : Int} {i : Nat} {H H2 : Hp} {t k : Addr} {a b : Int} {v : V} (h : PV D H1 n i H) (s : Same H H2) (hi : i < 1000) (ht : H2 t = some (.tup [.ref k, v])) (hk : H2 k = some (.tup [.int a, .int b])) (ia : Inn n a) (ib : Inn n b) :
    ∃ acc, H2 D = some (.lst acc) ∧ acc.length < sizeLine ∧ PV D H1 n (i + 1) (L2.upd H2 D (.lst (acc ++ [.ref t]))) := by
  obtain ⟨ps, qs, h1, h2, h3, h4, h5, h6⟩ := h
  have hD := s _ _ h1
  have ts : TupS H2 (L2.upd H2 D (.lst (ps.map V.ref ++ [.ref t]))) := TupS.upd fun xs z => by
    rw [hD] at z
    cases z
  refine ⟨_, hD, ?_, ps ++ [t], qs ++ [([.inl a, .inl b], k, v)], ?_, (paired_mono (fun _ _ x => x.keep ((TupS.of s).trans ts)) h2).snoc (b := (([.inl a, .inl b] : List Key), k, v)) ⟨ts _ _ ht, ts k [.int a, .int b] hk⟩, fun q hq => ?_, ?_, h5, fun c o e => ?_⟩
  · rw [List.length_map, sizeLine_eq]
    omega
  · rw [upd_same, List.map_append]
    rfl
  · rcases List.mem_append.mp hq with z | z
    · exact h3 q z
    · rw [List.mem_singleton.mp z]
      exact ⟨a, b, rfl, ia, ib⟩
  · rw [List.length_append, List.length_singleton]
    omega
  · rw [upd_ne (ne_of_none e h5)]
    exact s _ _ (h6 _ _ e)
/-- the list of arrows that a block has made so far -/
def EV (q : Prop) (D : Addr) (H1 : Hp) (n : Int) (i : Nat) (H : Hp) : Prop := ∃ xs, H D = some (.lst xs) ∧ Arrs n H xs ∧ (xs.length ≤ i ∧ (q → xs.length = i)) ∧ H1 D = none ∧ Same H1 H
theorem EV.start {q : Prop} {D : Addr} {H1 : Hp} {n : Int} (h : H1 D = none) : EV q D H1 n 0 (L2.upd H1 D (.lst [])) :=
  ⟨[], upd_same, fun _ h => absurd h (by simp), ⟨Nat.le_refl _, fun _ => rfl⟩, h, same_new h⟩
theorem EV.skip {D : Addr} {H1 : Hp} {n : Int} {i : Nat} {H : Hp} (h : EV False D H1 n i H) : EV False D H1 n (i + 1) H := by
  obtain ⟨xs, h1, h2, h3, r⟩ := h
  exact ⟨xs, h1, h2, ⟨by omega, fun z => z.elim⟩, r⟩
theorem EV.add {q : Prop} {D : Addr} {H1 : Hp} {n : Int} {i : Nat} {H H2 : Hp} {t : Addr} {a b : Int} (h : EV q D H1 n i H) (s : Same H H2) (hi : i < 1000) (ht : H2 t = some (.tup [.int a, .int b])) (ia : Inn n a) (ib : Inn n b) :
    ∃ acc, H2 D = some (.lst acc) ∧ acc.length < sizeLine ∧ EV q D H1 n (i + 1) (L2.upd H2 D (.lst (acc ++ [.ref t]))) := by
  obtain ⟨xs, h1, h2, h4, h5, h6⟩ := h
  have hD := s _ _ h1
  have ts : TupS H2 (L2.upd H2 D (.lst (xs ++ [.ref t]))) := TupS.upd fun xs z => by
    rw [hD] at z
    cases z
  refine ⟨_, hD, ?_, xs ++ [.ref t], upd_same, fun q hq => ?_, ?_, h5, fun c o e => ?_⟩
  · rw [sizeLine_eq]
    omega
  · rcases List.mem_append.mp hq with z | z
    · exact (h2 q z).keep ((TupS.of s).trans ts)
    · rw [List.mem_singleton.mp z]
      exact ⟨t, a, b, rfl, ts _ _ ht, ia, ib⟩
  · rw [List.length_append, List.length_singleton]
    exact ⟨by omega, fun z => by rw [h4.2 z]⟩
  · rw [upd_ne (ne_of_none e h5)]
    exact s _ _ (h6 _ _ e)
/-- what the making of a net carries -/
def NJ (p d : Addr) (n : Int) (H0 : Hp) (m : Nat) (σ : L2.St) (H : Hp) : Prop :=
  ∃ (sort : Int) (o g e : Addr) (sv st : Option V) (os : List Int) (es : List V) (kvs : List (List Key × V)),
    σ = [some (.ref p), some (.int n), some (.int sort), some (.ref o), some (.ref g), some (.ref e), sv, st, none, none] ∧ Inn 8 sort ∧ Deck H p d 63 ∧ Kp p d H0 H ∧
    (H o = some (.lst (os.map V.int)) ∧ o ≠ d ∧ (os.length : Int) = n ∧ ∀ a ∈ os, Inn n a) ∧ (H g = some (.dT kvs) ∧ (∀ kv ∈ kvs, KOk n kv.1) ∧ kvs.length ≤ m ∧ H0 g = none) ∧
    (H e = some (.lst es) ∧ e ≠ d ∧ Arrs n H es ∧ es ≠ [] ∧ es.length ≤ 144)
theorem NJ.turn {p d : Addr} {n : Int} {H0 H : Hp} {m : Nat} {σ : L2.St} {x : Option V} (j : NJ p d n H0 m σ H) : NJ p d n H0 m (σ.set 7 x) H := by
  obtain ⟨sort, o, g, e, sv, st, os, es, kvs, rfl, r⟩ := j
  exact ⟨sort, o, g, e, sv, x, os, es, kvs, rfl, r⟩
theorem putK_keys {n : Int} {kvs : List (List Key × V)} {k : List Key} {v : V} (h : ∀ kv ∈ kvs, KOk n kv.1) (hk : KOk n k) : ∀ kv ∈ putK kvs k v, KOk n kv.1 := by
  intro kv hkv
  unfold putK at hkv
  split at hkv
  · obtain ⟨z, hz, e⟩ := List.mem_map.mp hkv
    have := h z hz
    split at e
    · rw [← e]; exact this
    · rw [← e]; exact this
  · rcases List.mem_append.mp hkv with z | z
    · exact h kv z
    · rw [List.mem_singleton.mp z]
      exact hk
theorem NJ.same {p d : Addr} {n : Int} {H0 H H' : Hp} {m : Nat} {σ : L2.St} (j : NJ p d n H0 m σ H) (s : Same H H') : NJ p d n H0 m σ H' := by
  obtain ⟨sort, o, g, e, sv, st, os, es, kvs, rfl, i1, D1, k1, ⟨h1, h2, h3, h4⟩, ⟨g1, g2, g3, g4⟩, e1, e2, e3, e4, e5⟩ := j
  exact ⟨sort, o, g, e, sv, st, os, es, kvs, rfl, i1, D1.same s, k1.trans (.of s), ⟨s _ _ h1, h2, h3, h4⟩, ⟨s _ _ g1, g2, g3, g4⟩, s _ _ e1, e2, e3.keep (.of s), e4, e5⟩
theorem NJ.put {p d g2 : Addr} {n : Int} {H0 H H' : Hp} {m m' : Nat} {σ : L2.St} {ks : List (List Key × V)} (j : NJ p d n H0 m σ H) (s : Same H H') (ng : H' g2 = none) (k1 : ∀ kv ∈ ks, KOk n kv.1) (k2 : ks.length ≤ m') : NJ p d n H0 m' (σ.set 4 (some (.ref g2))) (L2.upd H' g2 (.dT ks)) := by
  obtain ⟨sort, o, g, e, sv, st, os, es, kvs, rfl, i1, D1, k, ⟨h1, h2, h3, h4⟩, ⟨g1, _, g3⟩, e1, e2, e3, e4, e5⟩ := j
  have s2 : Same H (L2.upd H' g2 (.dT ks)) := s.trans (same_new ng)
  exact ⟨sort, o, g2, e, sv, st, os, es, ks, rfl, i1, D1.same s2, k.trans (.of s2), ⟨s2 _ _ h1, h2, h3, h4⟩, ⟨upd_same, k1, k2, (k.trans (.of s)).free (D1.same s) ng⟩, s2 _ _ e1, e2, e3.keep (.of s2), e4, e5⟩
theorem PV.dict {K : PySem.W.Frag} {p d D : Addr} {n : Int} {H0 H1 H : Hp} {i m m' : Nat} {σ : L2.St} (h : PV D H1 n i H) (j : NJ p d n H0 m σ H1) (hi : i ≤ m') {Q : VK} (k : ∀ g' H', NJ p d n H0 m' (σ.set 4 (some (.ref g'))) H' → Q (.ref g') H') :
    ∃ (a : Addr) (ps : List Addr) (qs : List PT), [V.ref D] = [.ref a] ∧ SqL K H a (ps.map V.ref) ∧ Paired (PairT K H) ps qs ∧
      ∀ (d : Addr) (kvs : List (List Key × V)), H d = none → kvs.length ≤ ps.length → (∀ kv ∈ kvs, ∃ q ∈ qs, q.1 = kv.1) → Q (.ref d) (L2.upd H d (.dT kvs)) := by
  obtain ⟨ps, qs, h1, h2, h3, h4, h5, h6⟩ := h
  refine ⟨D, ps, qs, rfl, SqL.of h1, paired_mono (fun _ _ x => x.t) h2, fun g' kvs ng l1 l2 => k g' _ (j.put h6 ng (fun kv hkv => ?_) (by omega))⟩
  obtain ⟨q, hq, e⟩ := l2 kv hkv
  rw [← e]
  exact h3 q hq
theorem PV.cat {D1 D2 : Addr} {n : Int} {H1 Ha Hb0 Hb : Hp} {i1 i2 : Nat} (a : PV D1 H1 n i1 Ha) (s : Same Ha Hb0) (b : PV D2 Hb0 n i2 Hb) (hi : i1 + i2 ≤ 1000) :
    ∃ xs zs, Hb D1 = some (.lst xs) ∧ Hb D2 = some (.lst zs) ∧ xs.length + zs.length ≤ sizeLine ∧ ∀ c, Hb c = none → PV c H1 n (i1 + i2) (L2.upd Hb c (.lst (xs ++ zs))) := by
  obtain ⟨ps, qs, h1, h2, h3, h4, h5, h6⟩ := a
  obtain ⟨ps2, qs2, l1, l2, l3, l4, l5, l6⟩ := b
  have sb := s.trans l6
  refine ⟨_, _, sb _ _ h1, l1, ?_, fun c nc => ?_⟩
  · rw [List.length_map, List.length_map, sizeLine_eq]
    omega
  · have sc : Same Hb (L2.upd Hb c (.lst (ps.map V.ref ++ ps2.map V.ref))) := same_new nc
    have nc1 : H1 c = none := (h6.trans sb).free nc
    refine ⟨ps ++ ps2, qs ++ qs2, ?_, paired_app (paired_mono (fun _ _ x => x.keep (.of (sb.trans sc))) h2) (paired_mono (fun _ _ x => x.keep (.of sc)) l2), fun q hq => (List.mem_append.mp hq).elim (h3 q) (l3 q), ?_, nc1, (h6.trans sb).trans sc⟩
    · rw [upd_same, List.map_append]
    · rw [List.length_append]
      omega
/-- whole numbers below n -/
def Ins (n : Int) (xs : List V) : Prop := ∀ x ∈ xs, ∃ a, x = .int a ∧ Inn n a
theorem Ins.of {n : Int} {os : List Int} (h : ∀ a ∈ os, Inn n a) : Ins n (os.map V.int) := fun x hx => by
  obtain ⟨a, ha, rfl⟩ := List.mem_map.mp hx
  exact ⟨a, rfl, h a ha⟩
theorem Ins.cut {n : Int} {xs : List V} (h : Ins n xs) (lo hi : Option Int) : Ins n (cutV xs lo hi) := fun x hx => h x (List.mem_of_mem_drop (List.mem_of_mem_take hx))
theorem Ins.app {n : Int} {xs ys : List V} (h : Ins n xs) (h' : Ins n ys) : Ins n (xs ++ ys) := fun x hx => (List.mem_append.mp hx).elim (h x) (h' x)
theorem Ins.at {n : Int} {xs : List V} {i : Nat} {x : V} (h : Ins n xs) (e : xs[i]? = some x) : ∃ a, x = .int a ∧ Inn n a := h x (List.mem_of_getElem? e)
end Sw
namespace Sw
open PySem L2
/-! ### nets as data -/
theorem arr_rep {K : PySem.W.Frag} {n : Int} {H : Hp} {x : V} (hn : n ≤ 12) (h : Arr n H x) : ∃ dd as, Rep K H dd x as ∧ (∀ c ∈ as, ∃ v w : Int, H c = some (.tup [.int v, .int w])) ∧ small dd ∧ wt dd ≤ 15 ∧ dep dd ≤ 1 := by
  obtain ⟨t, a, b, rfl, ht, ha, hb⟩ := h
  obtain ⟨a1, a2, a3, _⟩ := int_ok (K := K) (H := H) (i := a) (w := 3) (k := 0) (by have := ha.1; have := ha.2; omega) (by decide) (by decide)
  obtain ⟨b1, b2, b3, _⟩ := int_ok (K := K) (H := H) (i := b) (w := 3) (k := 0) (by have := hb.1; have := hb.2; omega) (by decide) (by decide)
  refine ⟨.tup [.int a, .int b], [t], ?_, fun c hc => ?_, ?_, ?_, by simp [dep, depAll]⟩
  · simp only [Rep, RepAll]
    exact ⟨t, _, [], rfl, ht, ⟨_, _, [], [], rfl, ⟨rfl, rfl⟩, ⟨_, _, [], [], rfl, ⟨rfl, rfl⟩, ⟨rfl, rfl⟩, rfl⟩, rfl⟩, by simp, rfl⟩
  · rw [List.mem_singleton.mp hc]
    exact ⟨a, b, ht⟩
  · simp only [small, smallAll]
    simp only [small] at a2 b2
    exact ⟨a2, b2, trivial⟩
  · simp only [wt, wtAll] at a3 b3 ⊢
    omega
theorem arrs_rep {K : PySem.W.Frag} {n : Int} {H : Hp} (hn : n ≤ 12) : ∀ {xs : List V}, Arrs n H xs → ∃ ds as, RepAll K H ds xs as ∧ (∀ c ∈ as, ∃ v w : Int, H c = some (.tup [.int v, .int w])) ∧ smallAll ds ∧ wtAll ds ≤ xs.length * 17 ∧ depAll ds ≤ 1
  | [], _ => ⟨[], [], by simp [RepAll], fun _ h => absurd h (by simp), by simp [smallAll], by simp [wtAll], by simp [depAll]⟩
  | x :: r, h => by
    obtain ⟨dd, as, h1, h2, h3, h4, h5⟩ := arr_rep (K := K) hn (h x (by simp))
    obtain ⟨ds, bs, l1, l2, l3, l4, l5⟩ := arrs_rep (K := K) (xs := r) hn fun y hy => h y (by simp [hy])
    refine ⟨dd :: ds, as ++ bs, ?_, fun c hc => (List.mem_append.mp hc).elim (h2 c) (l2 c), ?_, ?_, ?_⟩
    · simp only [RepAll]
      exact ⟨x, r, as, bs, rfl, h1, l1, rfl⟩
    · simp only [smallAll]
      exact ⟨h3, l3⟩
    · simp only [wtAll, List.length_cons]
      omega
    · simp only [depAll]
      omega
/-- a net as it stands at a, its arrows at b -/
structure NetAt (n : Int) (H : Hp) (a b : Addr) (ts : List V) : Prop where
  a : H a = some (.tup [.int n, .ref b])
  b : H b = some (.tup ts)
  arr : Arrs n H ts
  len : ts.length ≤ 200
  n1 : 1 ≤ n
  n2 : n ≤ 12
theorem NetAt.keep {n : Int} {H H' : Hp} {a b : Addr} {ts : List V} (N : NetAt n H a b ts) (s : TupS H H') : NetAt n H' a b ts := ⟨s _ _ N.a, s _ _ N.b, N.arr.keep s, N.len, N.n1, N.n2⟩
theorem NetAt.repB {K : PySem.W.Frag} {n : Int} {H : Hp} {a b : Addr} {ts : List V} (N : NetAt n H a b ts) : ∃ ds as, Rep K H (.tup ds) (.ref b) (b :: as) ∧ (∀ c ∈ as, ∃ v w : Int, H c = some (.tup [.int v, .int w])) ∧ small (.tup ds) ∧ wt (.tup ds) ≤ 3403 ∧ dep (.tup ds) ≤ 2 := by
  obtain ⟨ds, as, h1, h2, h3, h4, h5⟩ := arrs_rep (K := K) N.n2 N.arr
  refine ⟨ds, as, ?_, h2, by simp only [small]; exact h3, ?_, by simp only [dep]; omega⟩
  · simp only [Rep]
    refine ⟨b, ts, as, rfl, N.b, h1, fun z => ?_, rfl⟩
    obtain ⟨v, w, e⟩ := h2 b z
    rw [N.b] at e
    cases e
    obtain ⟨t, _, _, e, _⟩ := N.arr (.int v) (by simp)
    cases e
  · have := N.len
    simp only [wt]
    omega
theorem NetAt.rep {K : PySem.W.Frag} {n : Int} {H : Hp} {a b : Addr} {ts : List V} (N : NetAt n H a b ts) : ∃ dd as, Rep K H dd (.ref a) as ∧ (∀ c ∈ as, ∃ zs, H c = some (.tup zs)) ∧ small dd ∧ wt dd ≤ 3500 ∧ dep dd ≤ 3 := by
  obtain ⟨ds, as, h1, h2, h3, h4, h5⟩ := N.repB (K := K)
  obtain ⟨i1, i2, i3, _⟩ := int_ok (K := K) (H := H) (i := n) (w := 3) (k := 0) (by have := N.n1; have := N.n2; omega) (by decide) (by decide)
  refine ⟨.tup [.int n, .tup ds], a :: b :: as, ?_, fun c hc => ?_, ?_, ?_, by simp only [dep, depAll] at h5 ⊢; omega⟩
  · rw [Rep]
    refine ⟨a, _, b :: as, rfl, N.a, ?_, fun z => ?_, rfl⟩
    · rw [RepAll]
      refine ⟨_, _, [], b :: as, rfl, i1, ?_, rfl⟩
      rw [RepAll]
      refine ⟨_, _, b :: as, [], rfl, h1, by simp [RepAll], by simp⟩
    · rcases List.mem_cons.mp z with z | z
      · have e := N.b
        rw [← z, N.a] at e
        cases e
        obtain ⟨t, _, _, e, _⟩ := N.arr (.int n) (by simp)
        cases e
      · obtain ⟨v, w, e⟩ := h2 a z
        rw [N.a] at e
        cases e
  · rcases List.mem_cons.mp hc with z | z
    · rw [z]; exact ⟨_, N.a⟩
    · rcases List.mem_cons.mp z with z | z
      · rw [z]; exact ⟨_, N.b⟩
      · obtain ⟨v, w, e⟩ := h2 c z
        exact ⟨_, e⟩
  · simp only [small, smallAll] at h3 i2 ⊢
    exact ⟨i2, h3, trivial⟩
  · simp only [wt, wtAll] at h4 i3 ⊢
    omega
theorem NetAt.datA {K : PySem.W.Frag} {n : Int} {H : Hp} {p d a b : Addr} {U : Addr → Prop} {ts : List V} (N : NetAt n H a b ts) (D : Dk H p d U) : Dat K U 3500 3 H (.ref a) := by
  obtain ⟨dd, as, h1, h2, h3, h4, h5⟩ := N.rep (K := K)
  refine ⟨dd, as, h1, fun c hc => ?_, h3, h4, h5⟩
  obtain ⟨zs, e⟩ := h2 c hc
  exact D.tup _ _ e
theorem NetAt.datB {K : PySem.W.Frag} {n : Int} {H : Hp} {p d a b : Addr} {U : Addr → Prop} {ts : List V} (N : NetAt n H a b ts) (D : Dk H p d U) : Dat K U 3500 3 H (.ref b) := by
  obtain ⟨ds, as, h1, h2, h3, h4, h5⟩ := N.repB (K := K)
  refine ⟨.tup ds, b :: as, h1, fun c hc => ?_, h3, by omega, by omega⟩
  rcases List.mem_cons.mp hc with z | z
  · rw [z]
    exact D.tup _ _ N.b
  · obtain ⟨v, w, e⟩ := h2 c z
    exact D.tup _ _ e
theorem Arr.dat {K : PySem.W.Frag} {p d : Addr} {U : Addr → Prop} {n : Int} {H : Hp} {x : V} (D : Dk H p d U) (hn : n ≤ 12) (h : Arr n H x) : Dat K U 300 10 H x := by
  obtain ⟨dd, as, h1, h2, h3, h4, h5⟩ := arr_rep (K := K) hn h
  refine ⟨dd, as, h1, fun c hc => ?_, h3, by omega, by omega⟩
  obtain ⟨v, w, e⟩ := h2 c hc
  exact D.tup _ _ e
end Sw
namespace Sw
open PySem L2
abbrev sNet : Stmt := top 18
abbrev nNet : List Str := ["deck", "n", "sort", "order", "found", "every", "v", "turn", "w", "pair"]
theorem scNet : FnScope nNet ["deck", "n"] (defScope sNet) := ⟨rfl, rfl, rfl, by decide +kernel, rfl, by decide +kernel, by decide +kernel⟩
theorem putK_le (c : List (List Key × V)) (k : List Key) (x : V) : (putK c k x).length ≤ c.length + 1 := by
  unfold putK
  split
  · rw [List.length_map]
    omega
  · rw [List.length_append, List.length_singleton]
    omega
/-- the two ends of an arrow of the heap -/
def endsOf (H : Hp) (x : V) : Int × Int := match x with
  | .ref t => (match H t with
    | some (.tup [.int a, .int b]) => (a, b)
    | _ => (0, 0))
  | _ => (0, 0)
theorem endsOf_arr {n : Int} {H : Hp} {x : V} (h : Arr n H x) : ∃ t, x = .ref t ∧ H t = some (.tup [.int (endsOf H x).1, .int (endsOf H x).2]) := by
  obtain ⟨t, a, b, rfl, ht, _⟩ := h
  refine ⟨t, rfl, ?_⟩
  simp only [endsOf, ht]
theorem arr_two (n : Int) (H : Hp) : Arrs n H [] := fun _ h => absurd h (by simp)
section
variable {P : Program} {w : World} {K : PySem.W.Frag} {mg : Str → Option Value} {base : Heap}
def spNet : Sp := fun vs H Q _ => ∃ (p d : Addr) (n : Int), vs = [.ref p, .int n] ∧ Deck H p d 63 ∧ 1 ≤ n ∧ n ≤ 12 ∧ ∀ (a b : Addr) (xs : List V) (H' : Hp), Deck H' p d 63 → Kp p d H H' → H' a = some (.tup [.int n, .ref b]) → H' b = some (.tup xs) → Arrs n H' xs → xs.length ≤ 200 → Q (.ref a) H'
theorem ok_net {f : Addr} {fd : FuncData} (F : Fun K "_law_net" "_law_net" sNet f fd) (B : NoNames mg) (O : Own P w K mg base 1 "_law_draw" ["deck", "many"] spDraw)
    (OP : Own P w K mg base 2 "_law_pick" ["deck", "items"] spPick) (OM : Own P w K mg base 2 "_law_mixed" ["deck", "items"] spMixed) : FnOk P w K mg base CX0 3 f fd ["deck", "n"] spNet := by
  obtain ⟨fD, fdD, GD, mD, kD, bD⟩ := O.ex
  obtain ⟨fP, fdP, GP, mP, kP, bP⟩ := OP.ex
  obtain ⟨fM, fdM, GM, mM, kM, bM⟩ := OM.ex
  refine F.ok scNet (fun vs H Q E h => ?_) (fun cdv A outer s H vs Q E hr h => ?_)
  · obtain ⟨p, d, n, rfl, _⟩ := h
    rfl
  · obtain ⟨p, d, n, rfl, D, n1, n2, k⟩ := h
    have hu := hu_of hr
    have hr1 : Room 1 _ := hr.mono (by decide)
    refine ⟨_, pss_cons (ps_asg (pe_tup (pa_cons (pe_call GD hr1 rfl mD kD bD .nil pass0 (pa_cons (pv 0) (pa_cons pe_int pa_nil)))
          (pa_cons (pe_call GM hr rfl mM kM bM .nil pass0 (pa_cons (pv 0) (pa_cons (pe_listRg rfl (by rfl) B.list (prg_1 (by rfl) B.range (pv 1))) pa_nil)))
          (pa_cons pe_dnewT pa_nil)))) (pg_tup (by rfl) (pgs_cons (pg_name (i := 2) scNet.nd rfl (.inl rfl)) (pgs_cons (pg_name (i := 3) scNet.nd rfl (.inr rfl)) (pgs_cons (pg_name (i := 4) scNet.nd rfl (.inl rfl)) pgs_nil))))) <|
      pss_cons (ps_set (i := 5) scNet.nd rfl (.inl rfl) (pe_lst pa_nil)) <|
      pss_cons (ps_for PassesOwn.never rfl (pi_range1 (by rfl) B.range (pa_cons (pv 1) pa_nil)) (pg_name (i := 6) scNet.nd rfl (.inr rfl))
        (pss_one (ps_set (i := 5) scNet.nd rfl (.inl rfl) (pe_op op_cat (pv 5) (pe_lc (own := [("w", 8)]) (g := gName 8) (tt := tYes) rfl scNet.nd (pi_range1 (by rfl) B.range (pa_cons (pv 1) pa_nil)) (blkOk_by (own := [("w", 8)]) (N := nNet) (sc := defScope sNet) (by decide +kernel))
          (fun _ _ _ _ _ => pg_name (i := 8) scNet.nd rfl (Or.inl rfl)) (fun _ _ _ _ _ => pts_nil) (fun _ _ _ _ _ => pe_tup (pa_cons (pv 6) (pa_cons (pv 8) pa_nil)))))))) <|
      pss_cons (ps_cut (J := NJ p d n H 144) (J' := NJ p d n H 144) (ps_if (pt_cmpR op_in_seq (pv 2) (pe_tup (pa_cons pe_int (pa_cons pe_int pa_nil))) (by with_unfolding_all rfl))
        (pss_one (ps_set (i := 4) scNet.nd rfl (.inl rfl) (pe_callTy (call_dictT hr rfl) (by rfl) B.dict (by decide +kernel) (pa_cons
          (pe_lc (own := [("v", 6), ("w", 8)]) (g := gTup K 2 (gCons (gName 6) (gCons (gName 8) gNil))) (tt := tYes) rfl scNet.nd (pi_zip (by rfl) B.zip (pa_cons (pv 3) (pa_cons (pe_op op_cat (pe_slice sl_list (pv 3) (po_some pe_int) po_none) (pe_slice sl_list (pv 3) po_none (po_some pe_int))) pa_nil)))
            (blkOk_by (own := [("v", 6), ("w", 8)]) (N := nNet) (sc := defScope sNet) (by decide +kernel))
            (fun _ _ _ _ _ => pg_tup rfl (pgs_cons (pg_name (i := 6) scNet.nd rfl (Or.inl rfl)) (pgs_cons (pg_name (i := 8) scNet.nd rfl (Or.inl rfl)) pgs_nil))) (fun _ _ _ _ _ => pts_nil)
            (fun _ _ _ _ _ => pe_tup (pa_cons (pe_tup (pa_cons (pv 6) (pa_cons (pv 8) pa_nil))) (pa_cons pe_bl pa_nil)))) pa_nil)))) pss_nil) ?s4) <|
      pss_cons (ps_cut (J := NJ p d n H 144) (J' := NJ p d n H 144) (ps_if (pt_cmpR op_eq (pv 2) pe_int (nomark _))
        (pss_one (ps_set (i := 4) scNet.nd rfl (.inl rfl) (pe_callTy (call_dictT hr rfl) (by rfl) B.dict (by decide +kernel) (pa_cons
          (pe_lc (own := [("pair", 9)]) (tt := tYes) rfl scNet.nd (pi_list (pv 5)) (blkOk_by (own := [("pair", 9)]) (N := nNet) (sc := defScope sNet) (by decide +kernel))
            (fun _ _ _ _ _ => pg_name (i := 9) scNet.nd rfl (Or.inl rfl)) (fun _ _ _ _ _ => pts_nil)
            (fun _ _ _ _ _ => pe_tup (pa_cons (pv 9) (pa_cons pe_bl pa_nil)))) pa_nil)))) pss_nil) ?s5) <|
      pss_cons (ps_cut (J := NJ p d n H 144) (J' := NJ p d n H 144) (ps_if (pt_cmpR op_eq (pv 2) pe_int (nomark _))
        (pss_one (ps_set (i := 4) scNet.nd rfl (.inl rfl) (pe_callTy (call_dictT hr rfl) (by rfl) B.dict (by decide +kernel) (pa_cons
          (pe_op op_cat (pe_lc (own := [("w", 8)]) (tt := tYes) rfl scNet.nd (pi_list (pe_slice sl_list (pv 3) (po_some pe_int) po_none)) (blkOk_by (own := [("w", 8)]) (N := nNet) (sc := defScope sNet) (by decide +kernel))
            (fun _ _ _ _ _ => pg_name (i := 8) scNet.nd rfl (Or.inl rfl)) (fun _ _ _ _ _ => pts_nil)
            (fun _ _ _ _ _ => pe_tup (pa_cons (pe_tup (pa_cons (pe_ix (r := rIxL K) ix_list (pv 3) pe_int (fun _ _ => rfl)) (pa_cons (pv 8) pa_nil))) (pa_cons pe_bl pa_nil))))
           (pe_lc (own := [("w", 8)]) (tt := tYes) rfl scNet.nd (pi_list (pe_slice sl_list (pv 3) (po_some pe_int) po_none)) (blkOk_by (own := [("w", 8)]) (N := nNet) (sc := defScope sNet) (by decide +kernel))
            (fun _ _ _ _ _ => pg_name (i := 8) scNet.nd rfl (Or.inl rfl)) (fun _ _ _ _ _ => pts_nil)
            (fun _ _ _ _ _ => pe_tup (pa_cons (pe_tup (pa_cons (pv 8) (pa_cons (pe_ix (r := rIxL K) ix_list (pv 3) pe_int (fun _ _ => rfl)) pa_nil))) (pa_cons pe_bl pa_nil))))) pa_nil)))) pss_nil) ?s6) <|
      pss_cons (ps_cut (J := NJ p d n H 144) (J' := NJ p d n H 144) (ps_if (pt_cmpR op_eq (pv 2) pe_int (nomark _))
        (pss_one (ps_set (i := 4) scNet.nd rfl (.inl rfl) (pe_callTy (call_dictT hr rfl) (by rfl) B.dict (by decide +kernel) (pa_cons
          (pe_lc (own := [("v", 6), ("w", 8)]) (g := gTup K 2 (gCons (gName 6) (gCons (gName 8) gNil))) (tt := tYes) rfl scNet.nd (pi_zip (by rfl) B.zip (pa_cons (pv 3) (pa_cons (pe_slice sl_list (pv 3) (po_some pe_int) po_none) pa_nil)))
            (blkOk_by (own := [("v", 6), ("w", 8)]) (N := nNet) (sc := defScope sNet) (by decide +kernel))
            (fun _ _ _ _ _ => pg_tup rfl (pgs_cons (pg_name (i := 6) scNet.nd rfl (Or.inl rfl)) (pgs_cons (pg_name (i := 8) scNet.nd rfl (Or.inl rfl)) pgs_nil))) (fun _ _ _ _ _ => pts_nil)
            (fun _ _ _ _ _ => pe_tup (pa_cons (pe_tup (pa_cons (pv 6) (pa_cons (pv 8) pa_nil))) (pa_cons pe_bl pa_nil)))) pa_nil)))) pss_nil) ?s7) <|
      pss_cons (ps_cut (J := NJ p d n H 144) (J' := NJ p d n H 180) (ps_if (pt_cmpR op_in_seq (pv 2) (pe_tup (pa_cons pe_int (pa_cons pe_int (pa_cons pe_int pa_nil)))) (by with_unfolding_all rfl))
        (pss_one (ps_for PassesOwn.never rfl (pi_range1 (by rfl) B.range (pa_cons (pe_ix ix_list (pe_lst (pa_cons pe_int (pa_cons pe_int (pa_cons pe_int (pa_cons pe_int (pa_cons pe_int (pa_cons pe_int (pa_cons (pv 1) (pa_cons (pe_op op_mul pe_int (pv 1)) pa_nil))))))))) (pv 2) (fun _ _ => rfl)) pa_nil)) (pg_name (i := 7) scNet.nd rfl (.inl rfl))
          (pss_one (ps_dput hu (pv 4) (pe_call GP hr rfl mP kP bP .nil pass0 (pa_cons (pv 0) (pa_cons (pv 5) pa_nil))) pe_bl rfl)))) pss_nil) ?s8) <|
      pss_one (ps_ret (pe_tup (pa_cons (pv 1) (pa_cons (pe_callTy call_tuple_of (by rfl) B.tuple (by decide +kernel) (pa_cons (pe_callB cr_sortedPO (by rfl) B.sorted (by decide +kernel) (pa_cons
        (pe_lock (pe_lc (own := [("v", 6), ("w", 8)]) (g := gTup K 2 (gCons (gName 6) (gCons (gName 8) gNil))) rfl scNet.nd (pi_keys (pv 4)) (blkOk_by (own := [("v", 6), ("w", 8)]) (N := nNet) (sc := defScope sNet) (by decide +kernel))
          (fun _ _ _ _ _ => pg_tup rfl (pgs_cons (pg_name (i := 6) scNet.nd rfl (Or.inl rfl)) (pgs_cons (pg_name (i := 8) scNet.nd rfl (Or.inl rfl)) pgs_nil)))
          (fun _ _ _ _ _ => pts_one (pt_cmpR op_ne (pv 6) (pv 8) (nomark _))) (fun _ _ _ _ _ => pe_tup (pa_cons (pv 6) (pa_cons (pv 8) pa_nil))))) pa_nil)) pa_nil)) pa_nil)))), ?main⟩
    case s4 =>
      rintro DD σ1 H1 j1 kk
      obtain ⟨sort, o, g, e, sv, st, os, es, kvs, rfl, i1, D1, k1, ⟨h1, h2, h3, h4⟩, ⟨g1, g2, g3, g4⟩, e1, e2, e3, e4, e5⟩ := id j1
      refine ⟨_, rfl, by show 2 ≤ sizeLine; decide, fun T nT => ⟨T, _, rfl, .inr (SqT.of upd_same), rfl, rfl, _, rfl, ?_⟩⟩
      have s2 : Same H1 (L2.upd H1 T (.tup [.int 1, .int 2])) := same_new nT
      have j2 := j1.same s2
      refine ite2 (fun _ => ?_) (fun _ => kk _ _ j2)
      have o1 := Ins.of h4
      have ol : (os.map V.int).length ≤ 12 := by
        rw [List.length_map]
        omega
      refine ⟨_, rfl, _, rfl, 1, rfl, o, _, rfl, SqL.of (s2 _ _ h1), fun c1 n1 => ?_⟩
      have t1 : Same (L2.upd H1 T (.tup [.int 1, .int 2])) _ := same_new (o := .lst (cutV (os.map V.int) (some 1) none)) n1
      refine ⟨_, rfl, 1, rfl, o, _, rfl, SqL.of ((s2.trans t1) _ _ h1), fun c2 n2 => ?_⟩
      have t2 := t1.trans (same_new (o := .lst (cutV (os.map V.int) none (some 1))) n2)
      have y1 : (cutV (os.map V.int) (some 1) none).length ≤ (os.map V.int).length := cutV_length _ _ _
      have y2 : (cutV (os.map V.int) none (some 1)).length ≤ (os.map V.int).length := cutV_length _ _ _
      refine ⟨c1, c2, _, _, rfl, rfl, (same_new n2) _ _ upd_same, upd_same, by rw [sizeLine_eq]; omega, fun c3 n3 => ?_⟩
      have oy := (o1.cut (some 1) none).app (o1.cut none (some 1))
      have t3 := t2.trans (same_new (o := .lst (cutV (os.map V.int) (some 1) none ++ cutV (os.map V.int) none (some 1))) n3)
      refine ⟨o, c3, _, _, rfl, SqL.of ((s2.trans t3) _ _ h1), SqL.of upd_same, fun L nL => ?_⟩
      refine lc_it (walk_zip (xs := os.map V.int) (ys := cutV (os.map V.int) (some 1) none ++ cutV (os.map V.int) none (some 1)) rfl) (PV L _ n) (PV.start nL) (fun i Ha hi pv => ?_) ?_ ?_
      · obtain ⟨_, _, _, _, _, _, _, sm⟩ := pv
        exact ⟨SqL.of (sm _ _ ((s2.trans t3) _ _ h1)), SqL.of (sm _ _ upd_same)⟩
      · intro i x Ha Hb hi pv y
        obtain ⟨T2, x1, y1, rfl, nT2, rfl, ex, ey⟩ := y
        obtain ⟨a, rfl, ia⟩ := o1.at ex
        obtain ⟨b, rfl, ib⟩ := oy.at ey
        refine ⟨T2, _, rfl, SqT.of upd_same, rfl, _, _, rfl, _, _, rfl, rfl, ?_⟩
        refine ⟨rfl, ?_⟩
        refine ⟨_, rfl, _, rfl, by show 2 ≤ sizeLine; decide, fun K1 nK => ⟨by show 2 ≤ sizeLine; decide, fun T3 nT3 => ?_⟩⟩
        exact pv.add ((same_new nT2).trans ((same_new nK).trans (same_new nT3))) (by have := Nat.min_le_left (os.map V.int).length (cutV (os.map V.int) (some 1) none ++ cutV (os.map V.int) none (some 1)).length; omega) upd_same ((same_new nT3) _ _ upd_same) ia ib
      · intro Ha pv
        refine PV.dict (K := K) (m' := 144) (Q := fun x H1 => gName 4 x _ H1 DD.nx) pv (j2.same t3) (by have := Nat.min_le_left (os.map V.int).length (cutV (os.map V.int) (some 1) none ++ cutV (os.map V.int) none (some 1)).length; omega) ?_
        intro g' H' j
        exact kk _ _ j
    case s5 =>
      rintro DD σ1 H1 j1 kk
      obtain ⟨sort, o, g, e, sv, st, os, es, kvs, rfl, i1, D1, k1, ⟨h1, h2, h3, h4⟩, ⟨g1, g2, g3, g4⟩, e1, e2, e3, e4, e5⟩ := id j1
      refine ⟨_, rfl, rfl, _, rfl, ?_⟩
      refine ite2 (fun _ => ?_) (fun _ => kk _ _ j1)
      refine ⟨_, rfl, e, rfl, ⟨_, SqL.of e1⟩, fun L nL => ?_⟩
      refine lc_it (walk_list (xs := es)) (PV L _ n) (PV.start nL) (fun i Ha hi pv => ?_) ?_ ?_
      · obtain ⟨_, _, _, _, _, _, _, sm⟩ := pv
        exact SqL.of (sm _ _ e1)
      · rintro i x Ha Hb hi pv ⟨rfl, ex⟩
        have sm := pv.choose_spec.choose_spec.2.2.2.2.2
        obtain ⟨t, a, b, rfl, ht, ia, ib⟩ := Arr.keep (e3 x (List.mem_of_getElem? ex)) (.of sm)
        refine ⟨rfl, ?_⟩
        refine ⟨_, rfl, by show 2 ≤ sizeLine; decide, fun T3 nT3 => ?_⟩
        exact pv.add (same_new nT3) (by omega) upd_same ((same_new nT3) _ _ ht) ia ib
      · intro Ha pv
        refine PV.dict (K := K) (m' := 144) (Q := fun x H1 => gName 4 x _ H1 DD.nx) pv j1 (by omega) ?_
        intro g' H' j
        exact kk _ _ j
    case s6 =>
      rintro DD σ1 H1 j1 kk
      obtain ⟨sort, o, g, e, sv, st, os, es, kvs, rfl, i1, D1, k1, ⟨h1, h2, h3, h4⟩, ⟨g1, g2, g3, g4⟩, e1, e2, e3, e4, e5⟩ := id j1
      refine ⟨_, rfl, rfl, _, rfl, ?_⟩
      refine ite2 (fun _ => ?_) (fun _ => kk _ _ j1)
      have o1 := Ins.of h4
      have ol : (os.map V.int).length ≤ 12 := by
        rw [List.length_map]
        omega
      obtain ⟨f0, os', rfl⟩ : ∃ f0 os', os = f0 :: os' := by
        cases os with
        | nil =>
          simp at h3
          omega
        | cons a r => exact ⟨a, r, rfl⟩
      have i0 : Inn n f0 := h4 f0 (by simp)
      refine ⟨_, rfl, 1, rfl, o, _, rfl, SqL.of h1, fun c1 n1 => ?_⟩
      have oy := o1.cut (some 1) none
      have yl : (cutV ((f0 :: os').map V.int) (some 1) none).length ≤ ((f0 :: os').map V.int).length := cutV_length _ _ _
      have t1 : Same H1 _ := same_new (o := .lst (cutV ((f0 :: os').map V.int) (some 1) none)) n1
      refine ⟨c1, rfl, ⟨_, SqL.of upd_same⟩, fun L nL => ?_⟩
      refine lc_it (walk_list (xs := cutV ((f0 :: os').map V.int) (some 1) none)) (PV L _ n) (PV.start nL) (fun i Ha hi pv => ?_) ?_ ?_
      · obtain ⟨_, _, _, _, _, _, _, sm⟩ := pv
        exact SqL.of (sm _ _ upd_same)
      · rintro i x Ha Hb hi pv ⟨rfl, ex⟩
        have sm := pv.choose_spec.choose_spec.2.2.2.2.2
        obtain ⟨a, rfl, ia⟩ := oy.at ex
        refine ⟨rfl, ?_⟩
        refine ⟨_, rfl, o, _, 0, .int f0, rfl, rfl, SqL.of (sm _ _ (t1 _ _ h1)), at_of (j := 0) rfl rfl, _, rfl, by show 2 ≤ sizeLine; decide, fun K1 nK => ⟨by show 2 ≤ sizeLine; decide, fun T3 nT3 => ?_⟩⟩
        exact pv.add ((same_new nK).trans (same_new nT3)) (by omega) upd_same ((same_new nT3) _ _ upd_same) i0 ia
      · intro Ha pv
        have sm := pv.choose_spec.choose_spec.2.2.2.2.2
        refine ⟨_, rfl, 1, rfl, o, _, rfl, SqL.of (sm _ _ (t1 _ _ h1)), fun c2 n2 => ?_⟩
        have t2 : Same Ha _ := same_new (o := .lst (cutV ((f0 :: os').map V.int) (some 1) none)) n2
        refine ⟨c2, rfl, ⟨_, SqL.of upd_same⟩, fun L2 nL2 => ?_⟩
        refine lc_it (walk_list (xs := cutV ((f0 :: os').map V.int) (some 1) none)) (PV L2 _ n) (PV.start nL2) (fun i Ha hi pv => ?_) ?_ ?_
        · obtain ⟨_, _, _, _, _, _, _, sm⟩ := pv
          exact SqL.of (sm _ _ upd_same)
        · rintro i x Hc Hb hi pv2 ⟨rfl, ex⟩
          have sm2 := pv2.choose_spec.choose_spec.2.2.2.2.2
          obtain ⟨a, rfl, ia⟩ := oy.at ex
          refine ⟨rfl, ?_⟩
          refine ⟨_, rfl, _, rfl, o, _, 0, .int f0, rfl, rfl, SqL.of (sm2 _ _ (t2 _ _ (sm _ _ (t1 _ _ h1)))), at_of (j := 0) rfl rfl, by show 2 ≤ sizeLine; decide, fun K1 nK => ⟨by show 2 ≤ sizeLine; decide, fun T3 nT3 => ?_⟩⟩
          exact pv2.add ((same_new nK).trans (same_new nT3)) (by omega) upd_same ((same_new nT3) _ _ upd_same) ia i0
        · intro Hb pv2
          obtain ⟨xs, zs, x1, x2, x3, x4⟩ := pv.cat t2 pv2 (by omega)
          refine ⟨L, L2, xs, zs, rfl, rfl, x1, x2, x3, fun c3 n3 => ?_⟩
          refine PV.dict (K := K) (m' := 144) (Q := fun x H1 => gName 4 x _ H1 DD.nx) (x4 c3 n3) (j1.same t1) (by omega) ?_
          intro g' H' j
          exact kk _ _ j
    case s7 =>
      rintro DD σ1 H1 j1 kk
      obtain ⟨sort, o, g, e, sv, st, os, es, kvs, rfl, i1, D1, k1, ⟨h1, h2, h3, h4⟩, ⟨g1, g2, g3, g4⟩, e1, e2, e3, e4, e5⟩ := id j1
      refine ⟨_, rfl, rfl, _, rfl, ?_⟩
      refine ite2 (fun _ => ?_) (fun _ => kk _ _ j1)
      have o1 := Ins.of h4
      have ol : (os.map V.int).length ≤ 12 := by
        rw [List.length_map]
        omega
      refine ⟨_, rfl, _, rfl, 1, rfl, o, _, rfl, SqL.of h1, fun c1 n1 => ?_⟩
      have t1 : Same H1 _ := same_new (o := .lst (cutV (os.map V.int) (some 1) none)) n1
      have oy := o1.cut (some 1) none
      refine ⟨o, c1, _, _, rfl, SqL.of (t1 _ _ h1), SqL.of upd_same, fun L nL => ?_⟩
      have j2 := j1
      refine lc_it (walk_zip (xs := os.map V.int) (ys := cutV (os.map V.int) (some 1) none) rfl) (PV L _ n) (PV.start nL) (fun i Ha hi pv => ?_) ?_ ?_
      · obtain ⟨_, _, _, _, _, _, _, sm⟩ := pv
        exact ⟨SqL.of (sm _ _ (t1 _ _ h1)), SqL.of (sm _ _ upd_same)⟩
      · intro i x Ha Hb hi pv y
        obtain ⟨T2, x1, y1, rfl, nT2, rfl, ex, ey⟩ := y
        obtain ⟨a, rfl, ia⟩ := o1.at ex
        obtain ⟨b, rfl, ib⟩ := oy.at ey
        refine ⟨T2, _, rfl, SqT.of upd_same, rfl, _, _, rfl, _, _, rfl, rfl, ?_⟩
        refine ⟨rfl, ?_⟩
        refine ⟨_, rfl, _, rfl, by show 2 ≤ sizeLine; decide, fun K1 nK => ⟨by show 2 ≤ sizeLine; decide, fun T3 nT3 => ?_⟩⟩
        exact pv.add ((same_new nT2).trans ((same_new nK).trans (same_new nT3))) (by have := Nat.min_le_left (os.map V.int).length (cutV (os.map V.int) (some 1) none).length; omega) upd_same ((same_new nT3) _ _ upd_same) ia ib
      · intro Ha pv
        refine PV.dict (K := K) (m' := 144) (Q := fun x H1 => gName 4 x _ H1 DD.nx) pv (j2.same t1) (by have := Nat.min_le_left (os.map V.int).length (cutV (os.map V.int) (some 1) none).length; omega) ?_
        intro g' H' j
        exact kk _ _ j
    case s8 =>
      rintro DD σ1 H1 j1 kk
      obtain ⟨sort, o, g, e, sv, st, os, es, kvs, rfl, i1, D1, k1, ⟨h1, h2, h3, h4⟩, ⟨g1, g2, g3, g4⟩, e1, e2, e3, e4, e5⟩ := id j1
      refine ⟨_, rfl, by show 3 ≤ sizeLine; decide, fun T nT => ⟨T, _, rfl, .inr (SqT.of upd_same), rfl, rfl, _, rfl, ?_⟩⟩
      have j2 := j1.same (same_new (o := .tup [.int 2, .int 6, .int 7]) nT)
      generalize (L2.upd H1 T (.tup [.int 2, .int 6, .int 7])) = H2 at j2
      have j180 : ∀ {i σ' H'}, i ≤ 36 → NJ p d n H (144 + i) σ' H' → NJ p d n H 180 σ' H' := by
        rintro i σ' H' hi ⟨sort, o, g, e, sv, st, os, es, kvs, e0, i1, D1, k1, hh, ⟨g1, g2, g3, g4⟩, ee⟩
        exact ⟨sort, o, g, e, sv, st, os, es, kvs, e0, i1, D1, k1, hh, ⟨g1, g2, by omega, g4⟩, ee⟩
      refine ite2 (fun _ => ?_) (fun _ => kk _ _ (j180 (i := 0) (by decide) j2))
      refine ⟨_, rfl, _, rfl, _, _, rfl, rfl, .inl ⟨by decide, by decide⟩, by show 8 ≤ sizeLine; decide, fun L nL => ?_⟩
      have j3 := j2.same (same_new (o := .lst [.int 0, .int 0, .int 2, .int 0, .int 0, .int 0, .int n, .int (3 * n)]) nL)
      obtain ⟨k0, rfl⟩ := Int.eq_ofNat_of_zero_le i1.1
      have hk0 : k0 < 8 := by
        have := i1.2
        omega
      obtain ⟨m, hm, m0, m1⟩ : ∃ m : Int, [V.int 0, V.int 0, V.int 2, V.int 0, V.int 0, V.int 0, V.int n, V.int (3 * n)][k0]? = some (V.int m) ∧ 0 ≤ m ∧ m ≤ 36 := by
        match k0, hk0 with
        | 0, _ => exact ⟨_, rfl, by omega, by omega⟩
        | 1, _ => exact ⟨_, rfl, by omega, by omega⟩
        | 2, _ => exact ⟨_, rfl, by omega, by omega⟩
        | 3, _ => exact ⟨_, rfl, by omega, by omega⟩
        | 4, _ => exact ⟨_, rfl, by omega, by omega⟩
        | 5, _ => exact ⟨_, rfl, by omega, by omega⟩
        | 6, _ => exact ⟨_, rfl, by omega, by omega⟩
        | 7, _ => exact ⟨_, rfl, by omega, by omega⟩
      refine ⟨_, rfl, L, _, _, _, rfl, rfl, SqL.of upd_same, at_of (j := k0) rfl hm, m, rfl, by omega, by omega, ?_⟩
      refine for_range (lo := 0) (n := m.toNat) (fun i σ H' => NJ p d n H (144 + i) σ H') j3 ?_ ?_
      · intro i σ2 H3 hi j4
        have j5 := j4.turn (x := some (.int (0 + (i : Int))))
        show (sDPut _ _ _) _ _ _
        generalize σ2.set 7 (some (.int (0 + (i : Int)))) = σ3 at j5 ⊢
        obtain ⟨sort, o, g, e, sv, st, os, es, kvs, rfl, i1, D1, k1, hh, ⟨g1, g2, g3, g4⟩, e1, e2, e3, e4, e5⟩ := id j5
        refine ⟨_, rfl, _, rfl, _, rfl, p, d, e, es, rfl, D1, e1, e2, e4, by omega, fun x H4 hx D4 kp => ?_⟩
        obtain ⟨t, a, b, rfl, ht, ia, ib⟩ := (e3 x hx).keep (.kp D1 kp)
        have gp : g ≠ p := fun z => by
          obtain ⟨_, _, y, _⟩ := D1.ex
          rw [← z, g1] at y
          cases y
        have gd : g ≠ d := fun z => by
          obtain ⟨_, _, _, y, _⟩ := D1.ex
          rw [← z, g1] at y
          cases y
        have g5 := kp _ _ g1 gp gd
        refine ⟨g, _, rfl, DPut.t (k := [.inl a, .inl b]) g5 ht (by rw [sizeLine_eq]; omega), ?_⟩
        have ts : TupS H4 (L2.upd H4 g (.dT (putK kvs [.inl a, .inl b] (.bl true)))) := TupS.upd fun xs z => by
          rw [g5] at z
          cases z
        have og : o ≠ g := fun z => by
          rw [z, g1] at hh
          cases hh.1
        have eg : e ≠ g := fun z => by
          rw [z, g1] at e1
          cases e1
        refine ⟨sort, o, g, e, sv, st, os, es, _, rfl, i1, D4.upd gp gd, fun b o hb q1 q2 => ?_, ⟨?_, hh.2⟩, ⟨upd_same, putK_keys g2 ⟨a, b, rfl, ia, ib⟩, ?_, g4⟩, ?_, e2, (e3.keep (.kp D1 kp)).keep ts, e4, e5⟩
        · rw [upd_ne (ne_of_none hb g4)]
          exact kp _ _ (k1 _ _ hb q1 q2) q1 q2
        · rw [upd_ne og]
          exact kp _ _ hh.1 (D1.kne hh.1) hh.2.1
        · have := putK_le kvs [.inl a, .inl b] (.bl true)
          omega
        · rw [upd_ne eg]
          exact kp _ _ e1 (D1.kne e1) e2
      · intro σ2 H3 j4
        exact kk _ _ (j180 (by omega) j4)
    case main =>
      have hN : n.toNat ≤ 12 := by omega
      have eN : ((n.toNat : Nat) : Int) = n := Int.toNat_of_nonneg (by omega)
      refine ⟨_, rfl, p, d, 8, rfl, D, by decide, fun r Ha r0 r1 r2 Da ka => ?_⟩
      refine ⟨_, rfl, _, rfl, n, rfl, RgOk.of_le (by decide) (by omega) (by decide) (by omega), fun q nq => ?_⟩
      have eR : rgV 0 n = ((List.range n.toNat).map fun i => (0 : Int) + (i : Nat)).map V.int := by
        unfold rgV
        rw [List.map_map, Int.sub_zero]
        rfl
      rw [eR]
      refine ⟨p, d, q, _, rfl, Da.same (same_new nq), upd_same, by rw [List.length_map, List.length_range]; omega, fun o os Hb Db kb no ho lo mo => ?_⟩
      rw [List.length_map, List.length_range] at lo
      have mo2 : ∀ a ∈ os, Inn n a := fun a ha => by
        obtain ⟨i, hi, rfl⟩ := List.mem_map.mp (mo a ha)
        have := List.mem_range.mp hi
        exact ⟨by omega, by omega⟩
      have kab : Kp p d H Hb := ka.trans ((Kp.new nq).trans kb)
      have od : o ≠ d := ((Da.same (same_new nq)).ne_none no).2
      refine fun g ng => ⟨by show 3 ≤ sizeLine; decide, fun T nT => ⟨T, _, rfl, SqT.of upd_same, rfl, _, _, rfl, _, _, rfl, _, _, rfl, rfl, ?_⟩⟩
      have s1 : Same Hb (L2.upd Hb g (.dT [])) := same_new ng
      have s2 := s1.trans (same_new (o := .tup [.int r, .ref o, .ref g]) nT)
      refine ⟨by show 0 ≤ sizeLine; exact Nat.zero_le _, fun ev nev => ?_⟩
      have s3 := s2.trans (same_new (o := .lst []) nev)
      have hg : (L2.upd (L2.upd (L2.upd Hb g (.dT [])) T (.tup [.int r, .ref o, .ref g])) ev (.lst [])) g = some (.dT []) := (same_new nev) _ _ ((same_new nT) _ _ upd_same)
      have ng0 : H g = none := kab.free Db ng
      have evd : ev ≠ d := (Db.ne_none (s2.free nev)).2
      have hev : (L2.upd (L2.upd (L2.upd Hb g (.dT [])) T (.tup [.int r, .ref o, .ref g])) ev (.lst [])) ev = some (.lst []) := upd_same
      generalize (L2.upd (L2.upd (L2.upd Hb g (.dT [])) T (.tup [.int r, .ref o, .ref g])) ev (.lst [])) = Hc at s3 hg hev ⊢
      have ho3 := s3 _ _ ho
      refine ⟨_, rfl, n, rfl, by omega, by omega, for_range (lo := 0) (n := n.toNat) (fun i σ H' => ∃ e sv es, σ = [some (.ref p), some (.int n), some (.int r), some (.ref o), some (.ref g), some (.ref e), sv, none, none, none] ∧ Same Hc H' ∧
        H' e = some (.lst es) ∧ e ≠ d ∧ Arrs n H' es ∧ es.length = i * n.toNat) ⟨ev, none, [], rfl, Same.refl _, hev, evd, fun _ h => absurd h (by simp), by simp⟩ ?_ ?_⟩
      · rintro i σ H1 hi ⟨e, sv, es, rfl, sm, he, ed, ae, le⟩
        refine ⟨_, rfl, _, rfl, n, rfl, by omega, by omega, fun L nL => ?_⟩
        have hi12 : i * n.toNat ≤ 12 * 12 := Nat.mul_le_mul (by omega) hN
        refine lc_it walk_range (EV True L H1 n) (EV.start nL) (fun _ _ _ _ => trivial) ?_ ?_
        · rintro j x H2 H3 hj ev2 ⟨rfl, rfl⟩
          refine ⟨rfl, ?_⟩
          refine ⟨_, rfl, _, rfl, by show 2 ≤ sizeLine; decide, fun T3 nT3 => ?_⟩
          exact ev2.add (same_new nT3) (by omega) upd_same ⟨by omega, by omega⟩ ⟨by omega, by omega⟩
        · rintro H2 ⟨acc, h1, h2, h3, h4, h5⟩
          have l2 := h3.2 trivial
          refine ⟨e, L, es, acc, rfl, rfl, h5 _ _ he, h1, by rw [sizeLine_eq]; omega, fun c nc => ?_⟩
          have sc : Same H1 _ := h5.trans (same_new (o := .lst (es ++ acc)) nc)
          refine ⟨c, _, es ++ acc, rfl, sm.trans sc, upd_same, ?_, fun x hx => ?_, ?_⟩
          · exact ((Db.same (s3.trans (sm.trans h5))).ne_none nc).2
          · rcases List.mem_append.mp hx with z | z
            · exact (ae x z).keep (.of sc)
            · exact (h2 x z).keep (.of (same_new nc))
          · rw [List.length_append, l2, le, Nat.succ_mul]
      · rintro σ H1 ⟨e, sv, es, rfl, sm, he, ed, ae, le⟩
        have hi12 : n.toNat * n.toNat ≤ 12 * 12 := Nat.mul_le_mul hN hN
        have hi1 : 1 * 1 ≤ n.toNat * n.toNat := Nat.mul_le_mul (by omega) (by omega)
        refine ⟨⟨r, o, g, e, sv, none, os, es, [], rfl, ⟨r0, r1 (by decide)⟩, Db.same (s3.trans sm), kab.trans (.of (s3.trans sm)), ⟨sm _ _ ho3, od, by omega, mo2⟩, ⟨sm _ _ hg, fun _ h => absurd h (by simp), Nat.zero_le _, ng0⟩, he, ed, ae, ?_, by omega⟩, fun σ' H' j1 => ⟨j1, fun σ' H' j1 => ⟨j1, fun σ' H' j1 => ⟨j1, fun σ' H' j1 => ⟨j1, fun σ' H' j1 => ?_⟩⟩⟩⟩⟩
        · intro z
          rw [z] at le
          simp at le
          try omega
        obtain ⟨sort, o, g, e, sv, st, os, es, kvs, rfl, i1, D1, k1, ⟨h1, h2, h3, h4⟩, ⟨g1, g2, g3, g4⟩, e1, e2, e3, e4, e5⟩ := j1
        have gd : g ≠ d := fun z => by
          obtain ⟨_, _, _, y, _⟩ := D1.ex
          rw [← z, g1] at y
          cases y
        have gp : g ≠ p := fun z => by
          obtain ⟨_, _, y, _⟩ := D1.ex
          rw [← z, g1] at y
          cases y
        refine ⟨_, rfl, g, .dT kvs, g1, trivial, fun ob => ⟨_, rfl, g, ob, rfl, .inr ⟨kvs, upd_same, fun L nL => ?_⟩⟩⟩
        refine lc_it walk_keysT (EV False L (L2.upd H' g (.frz ob (.dT kvs))) n) (EV.start nL) (fun i Ha hi pv => ?_) ?_ ?_
        · obtain ⟨_, _, _, _, _, sm⟩ := pv
          exact sm _ _ upd_same
        · rintro i x H2 H3 hi pv ⟨rfl, k, v, q, hk, rfl, hq⟩
          obtain ⟨a, b, e0, ia, ib⟩ := g2 _ (List.mem_of_getElem? hk)
          have e0 : k = [.inl a, .inl b] := e0
          subst e0
          refine ⟨q, _, rfl, SqT.of hq, rfl, _, _, rfl, _, _, rfl, rfl, ?_⟩
          refine ⟨rfl, ?_⟩
          refine ⟨_, rfl, _, rfl, rfl, _, rfl, ?_⟩
          refine ite2 (fun _ => ?_) (fun _ => pv.skip)
          refine ⟨_, rfl, _, rfl, by show 2 ≤ sizeLine; decide, fun T3 nT3 => ?_⟩
          exact pv.add (same_new nT3) (by omega) upd_same ia ib
        · rintro H2 ⟨acc, a1, a2, ⟨a3, _⟩, a4, a5⟩
          refine ⟨a5 _ _ upd_same, ?_⟩
          have hg2 := a5 _ _ upd_same
          have gL : L ≠ g := fun z => by
            rw [z, upd_same] at a4
            cases a4
          have D2 := ((D1.upd (o := .frz ob (.dT kvs)) gp gd).same a5).upd (o := .dT kvs) gp gd
          have k2 : Kp p d H (L2.upd H2 g (.dT kvs)) := fun b o hb q1 q2 => by
            rw [upd_ne (ne_of_none hb g4)]
            refine a5 _ _ ?_
            rw [upd_ne (ne_of_none hb g4)]
            exact k1 _ _ hb q1 q2
          have a6 : (L2.upd H2 g (.dT kvs)) L = some (.lst acc) := by
            rw [upd_ne gL]
            exact a1
          have a7 : Arrs n (L2.upd H2 g (.dT kvs)) acc := a2.keep (TupS.upd fun xs z => by
            rw [hg2] at z
            cases z)
          generalize (L2.upd H2 g (.dT kvs)) = H3 at D2 k2 a6 a7 ⊢
          refine ⟨L, acc, endsOf H3, rfl, SqL.of a6, fun x hx => endsOf_arr (a7 x hx), fun ys p2 _ stb np2 => ?_⟩
          refine ⟨p2, ys, rfl, .inl ⟨SqL.of upd_same, fun l nl => ⟨by show 2 ≤ sizeLine; decide, fun T nT => ?_⟩⟩⟩
          have sa : Same H3 (L2.upd H3 p2 (.lst ys)) := same_new np2
          have sb := sa.trans (same_new (o := .tup ys) nl)
          have sc := sb.trans (same_new (o := .tup [.int n, .ref l]) nT)
          exact k T l ys _ (D2.same sc) (k2.trans (.of sc)) upd_same ((same_new nT) _ _ upd_same) (fun x hx => (a7 x (stb.perm.mem_iff.mp hx)).keep (.of sc)) (by rw [stb.len]; omega)
end
end Sw
namespace Sw
open PySem L2
abbrev sOnward : Stmt := top 19
abbrev sWalk : Stmt := top 20
abbrev nOnward : List Str := ["net", "found", "v", "w", "stop"]
theorem scOnward : FnScope nOnward ["net"] (defScope sOnward) := ⟨rfl, rfl, rfl, by decide +kernel, rfl, by decide +kernel, by decide +kernel⟩
theorem scWalk : FnScope ["deck", "net", "first", "many", "onward", "found", "turn"] ["deck", "net", "first", "many"] (defScope sWalk) := ⟨rfl, rfl, rfl, by decide +kernel, rfl, by decide +kernel, by decide +kernel⟩
/-- a list of whole numbers below n, at most m -/
def IntsAt (n : Int) (m : Nat) (H : Hp) (l : Addr) : Prop := ∃ os : List Int, H l = some (.lst (os.map V.int)) ∧ (∀ o ∈ os, Inn n o) ∧ os.length ≤ m
theorem IntsAt.ne {n : Int} {m : Nat} {H : Hp} {l f : Addr} {ls : List Addr} (h : IntsAt n m H l) (hf : H f = some (.lst (ls.map V.ref))) (hl : l ∈ ls) : l ≠ f := fun z => by
  obtain ⟨os, e, _⟩ := h
  rw [z, hf] at e
  have e2 := Option.some.inj e
  injection e2 with e3
  match ls, os, hl, e3 with
  | _ :: _, [], _, e3 => cases e3
  | _ :: _, _ :: _, _, e3 => cases e3
/-- the arrows of a net, as pairs -/
def ArsAt (H : Hp) (ts : List V) (ars : List (Int × Int)) : Prop := Paired (fun x (e : Int × Int) => ∃ t, x = V.ref t ∧ H t = some (.tup [.int e.1, .int e.2])) ts ars
theorem ArsAt.len {H : Hp} : ∀ {ts : List V} {ars : List (Int × Int)}, ArsAt H ts ars → ts.length = ars.length
  | _, _, .nil => rfl
  | _, _, .cons _ t => by
    rw [List.length_cons, List.length_cons, ArsAt.len t]
theorem ArsAt.at {H : Hp} : ∀ {ts : List V} {ars : List (Int × Int)} {i : Nat} {x : V}, ArsAt H ts ars → ts[i]? = some x → ∃ e t, ars[i]? = some e ∧ x = .ref t ∧ H t = some (.tup [.int e.1, .int e.2])
  | _, _, i, x, .nil, h => by simp at h
  | _, _, 0, x, .cons (b := e) q t, h => by
    obtain ⟨t', e1, e2⟩ := q
    have h : some _ = some x := h
    cases h
    exact ⟨e, t', rfl, e1, e2⟩
  | _, _, i + 1, x, .cons q t, h => ArsAt.at (i := i) t h
theorem ArsAt.keep {H H' : Hp} {ts : List V} {ars : List (Int × Int)} (h : ArsAt H ts ars) (s : TupS H H') : ArsAt H' ts ars := paired_mono (fun _ _ ⟨t, e, x⟩ => ⟨t, e, s _ _ x⟩) h
/-- every net's arrows are some pairs -/
theorem ArsAt.ex {n : Int} {H : Hp} : ∀ {ts : List V}, Arrs n H ts → ∃ ars, ArsAt H ts ars
  | [], _ => ⟨[], .nil⟩
  | x :: r, h => by
    obtain ⟨t, a, b, rfl, ht, _⟩ := h x (by simp)
    obtain ⟨ars, q⟩ := ArsAt.ex (ts := r) fun y hy => h y (by simp [hy])
    exact ⟨(a, b) :: ars, .cons ⟨t, rfl, ht⟩ q⟩
/-- the stops to which v leads, in the arrows' order -/
def outs (ars : List (Int × Int)) (v : Nat) : List Int := (ars.filter fun e => e.1 == (v : Int)).map (·.2)
theorem outs_mem {ars : List (Int × Int)} {v : Nat} {w : Int} : w ∈ outs ars v ↔ ((v : Int), w) ∈ ars := by
  unfold outs
  constructor
  · intro h
    obtain ⟨e, he, rfl⟩ := List.mem_map.mp h
    obtain ⟨h1, h2⟩ := List.mem_filter.mp he
    have h3 : e.1 = (v : Int) := beq_iff_eq.mp h2
    rw [← h3]
    exact h1
  · intro h
    exact List.mem_map.mpr ⟨_, List.mem_filter.mpr ⟨h, beq_self_eq_true _⟩, rfl⟩
theorem outs_succ {ars : List (Int × Int)} {i : Nat} {e : Int × Int} (h : ars[i]? = some e) (v : Nat) : outs (ars.take (i + 1)) v = outs (ars.take i) v ++ (if e.1 = (v : Int) then [e.2] else []) := by
  unfold outs
  rw [List.take_add_one, h, List.filter_append, List.map_append]
  by_cases q : e.1 = (v : Int)
  · rw [if_pos q]
    simp [q]
  · rw [if_neg q]
    simp [q]
theorem outs_len {ars : List (Int × Int)} {v : Nat} : (outs ars v).length ≤ ars.length := by
  unfold outs
  rw [List.length_map]
  exact List.length_filter_le _ _
section
variable {P : Program} {w : World} {K : PySem.W.Frag} {mg : Str → Option Value} {base : Heap}
def spOnward : Sp := fun vs H Q _ => ∃ (a b : Addr) (n : Int) (ts : List V) (ars : List (Int × Int)), vs = [.ref a] ∧ NetAt n H a b ts ∧ ArsAt H ts ars ∧ ∀ (f : Addr) (ls : List Addr) (H' : Hp), Same H H' → H f = none → H' f = some (.lst (ls.map V.ref)) → (ls.length : Int) = n → (∀ (v : Nat) (l : Addr), ls[v]? = some l → H l = none ∧ H' l = some (.lst ((outs ars v).map V.int))) → Q (.ref f) H'
theorem ok_onward {f : Addr} {fd : FuncData} (F : Fun K "_law_onward" "_law_onward" sOnward f fd) (B : NoNames mg) : FnOk P w K mg base CX0 1 f fd ["net"] spOnward := by
  refine F.ok scOnward (fun vs H Q E h => ?_) (fun cdv A outer s H vs Q E hr h => ?_)
  · obtain ⟨a, b, n, ts, ars, rfl, _⟩ := h
    rfl
  · obtain ⟨a, b, n, ts, ars, rfl, N, AR, k⟩ := h
    refine ⟨_, pss_cons (ps_setLc (i := 1) (own := [("stop", 4)]) (g := gName 4) (tt := tYes) rfl scOnward.nd rfl rfl (sw_true rfl rfl rfl (by decide +kernel)) (pi_range1 (by rfl) B.range (pa_cons (pe_ix ix_tup (pv 0) pe_int (fun _ _ => rfl)) pa_nil)) (blkOk_by (own := [("stop", 4)]) (N := nOnward) (sc := defScope sOnward) (by decide +kernel))
        (fun _ _ _ _ _ => pg_name (i := 4) scOnward.nd rfl (Or.inl rfl)) (fun _ _ _ _ _ => pts_nil) (fun _ _ _ _ _ => pe_lst pa_nil)) <|
      pss_cons (ps_for PassesOwn.never rfl (pi_tup (pe_ix ix_tup (pv 0) pe_int (fun _ _ => rfl))) (pg_tup rfl (pgs_cons (pg_name (i := 2) scOnward.nd rfl (.inl rfl)) (pgs_cons (pg_name (i := 3) scOnward.nd rfl (.inl rfl)) pgs_nil)))
        (pss_one (ps_expr (pe_bm PySem.F.plainAttrs_list PySem.F.slot_list_append PySem.F.type_list_append mt_append (pe_ix ix_list (pv 1) (pv 2) (fun _ _ => rfl)) (pa_cons (pv 3) pa_nil))))) <|
      pss_one (ps_ret (pv 1)), ?_⟩
    have n1 := N.n1
    have n2 := N.n2
    refine ⟨_, rfl, a, _, 0, .int n, rfl, rfl, SqT.of N.a, at_of (j := 0) rfl rfl, n, rfl, by omega, by omega, fun g ng => ?_⟩
    refine lc_it walk_range (fun j H' => ∃ ls : List Addr, H' g = some (.lst (ls.map V.ref)) ∧ ls.length = j ∧ Same H H' ∧ ls.Nodup ∧ ∀ l ∈ ls, H l = none ∧ H' l = some (.lst [])) ⟨[], upd_same, rfl, same_new ng, List.nodup_nil, fun _ h => absurd h (by simp)⟩ (fun _ _ _ _ => trivial) ?_ ?_
    · rintro j x Hb Ha hj ⟨ls, h1, h2, h3, hn, h4⟩ ⟨rfl, rfl⟩
      refine ⟨rfl, ?_⟩
      refine ⟨by show 0 ≤ sizeLine; exact Nat.zero_le _, fun q nq => ?_⟩
      have sq : Same Ha (upd Ha q (.lst [])) := same_new nq
      have gq : g ≠ q := fun z => by
        rw [← z, h1] at nq
        cases nq
      refine ⟨_, sq _ _ h1, by rw [List.length_map, h2, sizeLine_eq]; omega, ls ++ [q], by rw [upd_same, List.map_append]; rfl, by rw [List.length_append, h2]; rfl, fun c o e => ?_, List.nodup_append.mpr ⟨hn, by simp, fun c hc c2 hc2 z => ?_⟩, fun l hl => ?_⟩
      · rw [upd_ne (ne_of_none e ng)]
        exact sq _ _ (h3 _ _ e)
      · rw [List.mem_singleton.mp hc2] at z
        rw [← z, (h4 c hc).2] at nq
        cases nq
      · rcases List.mem_append.mp hl with hl | hl
        · have lg : l ≠ g := IntsAt.ne (n := 0) (m := 0) ⟨[], (h4 l hl).2, fun _ h => absurd h (by simp), Nat.le_refl _⟩ h1 hl
          exact ⟨(h4 l hl).1, by rw [upd_ne lg]; exact sq _ _ (h4 l hl).2⟩
        · rw [List.mem_singleton.mp hl]
          exact ⟨h3.free nq, by rw [upd_ne gq.symm, upd_same]⟩
    · rintro Ha ⟨ls, h1, h2, h3, hn, h4⟩
      have N2 := N.keep (.of h3)
      refine ⟨_, rfl, a, _, 1, .ref b, rfl, rfl, SqT.of N2.a, at_of (j := 1) rfl rfl, b, rfl, ⟨_, SqT.of N2.b⟩, for_it (walk_tup (xs := ts)) (fun i σ H' => (∃ s2 s3, σ = [some (.ref a), some (.ref g), s2, s3, none]) ∧ Same H H' ∧ H' g = some (.lst (ls.map V.ref)) ∧ ∀ (v : Nat) (l : Addr), ls[v]? = some l → H l = none ∧ H' l = some (.lst ((outs (ars.take i) v).map V.int)))
        ⟨⟨_, _, rfl⟩, h3, h1, fun v l hv => h4 l (List.mem_of_getElem? hv)⟩ (fun i σ H' _ h => SqT.of ((N.keep (.of h.2.1)).b)) ?_ ?_⟩
      · rintro i x σ H2 H1 hi ⟨⟨s2, s3, rfl⟩, s1, g1, hl⟩ ⟨rfl, ex⟩
        obtain ⟨e, t, he, rfl, ht0⟩ := AR.at ex
        have ht := s1 _ _ ht0
        obtain ⟨t', v, w', et, ht', hv, hw⟩ := N.arr _ (List.mem_of_getElem? ex)
        cases et
        rw [ht0] at ht'
        have e1 : e.1 = v := by
          injection Option.some.inj ht' with q
          injection q with q1 _
          exact V.int.inj q1
        refine ⟨t, _, rfl, SqT.of ht, rfl, _, _, rfl, _, _, rfl, rfl, ?_⟩
        obtain ⟨jv, hjv0⟩ := Int.eq_ofNat_of_zero_le (show 0 ≤ e.1 by rw [e1]; exact hv.1)
        have hjv : jv < ls.length := by
          have := hv.2
          omega
        have hm : ls[jv]? = some ls[jv] := List.getElem?_eq_getElem hjv
        obtain ⟨l0, c0⟩ := hl _ _ hm
        have lg : ls[jv] ≠ g := fun z => by
          rw [z, g1] at c0
          injection Option.some.inj c0 with q
          have q2 := congrArg List.head? q
          cases hls : ls with
          | nil =>
            rw [hls] at hjv
            exact absurd hjv (Nat.not_lt_zero _)
          | cons u us =>
            rw [hls] at q2
            cases ho : outs (ars.take i) jv with
            | nil =>
              rw [ho] at q2
              cases q2
            | cons y ys =>
              rw [ho] at q2
              injection q2 with q3
              cases q3
        have tl := N.len
        have ol : (outs (ars.take i) jv).length ≤ 200 := Nat.le_trans outs_len (by rw [List.length_take]; have := AR.len; omega)
        refine ⟨_, rfl, _, rfl, g, _, _, .ref ls[jv], rfl, rfl, SqL.of g1, at_of (j := jv) hjv0 (by rw [List.getElem?_map, hm]; rfl), .inl ⟨rfl, _, SqL.of c0⟩, _, rfl, ls[jv], _, _, rfl, rfl, c0, by rw [List.length_map, sizeLine_eq]; omega, ?_⟩
        refine ⟨⟨_, _, rfl⟩, fun c o ec => ?_, by rw [upd_ne lg.symm]; exact g1, fun u l hu => ⟨(hl u l hu).1, ?_⟩⟩
        · rw [upd_ne (ne_of_none ec l0)]
          exact s1 _ _ ec
        · rw [outs_succ he]
          by_cases q : l = ls[jv]
          · have hu2 : u = jv := nd_ix hn hu (by rw [hm, q])
            subst hu2
            rw [q, upd_same, if_pos hjv0, List.map_append]
            rfl
          · have hu2 : ¬ e.1 = (u : Int) := fun z => q (by
              have : u = jv := by omega
              subst this
              rw [hm] at hu
              exact (Option.some.inj hu).symm)
            rw [upd_ne q, if_neg hu2, List.append_nil]
            exact (hl u l hu).2
      · rintro σ H1 ⟨⟨s2, s3, rfl⟩, s1, g1, hl⟩
        refine ⟨_, rfl, k g ls H1 s1 ng g1 (by omega) fun v l hv => ?_⟩
        have q := hl v l hv
        rw [AR.len, List.take_length] at q
        exact q
end
end Sw
namespace Sw
open PySem L2
section
variable {P : Program} {w : World} {K : PySem.W.Frag} {mg : Str → Option Value} {base : Heap}
/-- each thing leads to the next -/
def Chain (ars : List (Int × Int)) (os : List Int) : Prop := ∀ (i : Nat) (v w : Int), os[i]? = some v → os[i + 1]? = some w → (v, w) ∈ ars
theorem Chain.one {ars : List (Int × Int)} {o : Int} : Chain ars [o] := fun i v w _ h => by simp at h
theorem Chain.snoc {ars : List (Int × Int)} {os : List Int} {o z : Int} (h : Chain ars os) (hl : os.getLast? = some o) (hz : (o, z) ∈ ars) : Chain ars (os ++ [z]) := fun i v w h1 h2 => by
  have hlen : i + 1 < (os ++ [z]).length := (List.getElem?_eq_some_iff.mp h2).1
  rw [List.length_append, List.length_singleton] at hlen
  by_cases q : i + 1 < os.length
  · rw [List.getElem?_append_left (by omega)] at h1
    rw [List.getElem?_append_left q] at h2
    exact h i v w h1 h2
  · have q2 : i + 1 = os.length := by omega
    rw [List.getElem?_append_left (by omega)] at h1
    rw [q2, List.getElem?_append_right (Nat.le_refl _), Nat.sub_self] at h2
    rw [List.getLast?_eq_getElem?, show os.length - 1 = i by omega, h1] at hl
    cases hl
    cases h2
    exact hz
def spWalk : Sp := fun vs H Q _ => ∃ (p d a b : Addr) (n first many : Int) (ts : List V) (ars : List (Int × Int)), vs = [.ref p, .ref a, .int first, .int many] ∧ Deck H p d 63 ∧ NetAt n H a b ts ∧ ArsAt H ts ars ∧ Inn n first ∧ (0 ≤ many ∧ many ≤ 1000) ∧
  ∀ (r : Addr) (os : List Int) (H' : Hp), Deck H' p d 63 → Kp p d H H' → H r = none → H' r = some (.tup (os.map V.int)) → os ≠ [] → (os.length : Int) ≤ many + 1 → (∀ o ∈ os, Inn n o) → os[0]? = some first → Chain ars os → ((os.length : Int) = many + 1 ∨ ∃ v : Nat, os.getLast? = some (v : Int) ∧ outs ars v = []) → Q (.ref r) H'
theorem last_of {os : List Int} (h : os ≠ []) : ∃ o ∈ os, atI (os.map V.int) (-1) = some (.int o) ∧ os.getLast? = some o := by
  refine ⟨os.getLast h, List.getLast_mem h, ?_, List.getLast?_eq_some_getLast h⟩
  have e := (List.dropLast_concat_getLast h)
  have q := atI_last (os.dropLast.map V.int) (V.int (os.getLast h))
  have e2 := congrArg (List.map V.int) e
  rw [List.map_append] at e2
  rw [← e2]
  exact q
theorem eqv_nil2 (ns : List Int) : PyData.eqv (.list (ns.map PyData.int)) (.list []) = decide (ns = []) := by
  cases ns with
  | nil => simp [PyData.eqv, PyData.eqvAll]
  | cons a r => simp [PyData.eqv, PyData.eqvAll]
theorem ok_walk {f : Addr} {fd : FuncData} (F : Fun K "_law_walk" "_law_walk" sWalk f fd) (B : NoNames mg) (OP : Own P w K mg base 2 "_law_pick" ["deck", "items"] spPick) (OW : Own P w K mg base 1 "_law_onward" ["net"] spOnward) : FnOk P w K mg base CX0 3 f fd ["deck", "net", "first", "many"] spWalk := by
  obtain ⟨fP, fdP, GP, mP, kP, bP⟩ := OP.ex
  obtain ⟨fW, fdW, GW, mW, kW, bW⟩ := OW.ex
  refine F.ok scWalk (fun vs H Q E h => ?_) (fun cdv A outer s H vs Q E hr h => ?_)
  · obtain ⟨p, d, a, b, n, fi, ma, ts, ars, rfl, _⟩ := h
    rfl
  · obtain ⟨p, d, a, b, n, fi, ma, ts, ars, rfl, D, N, AR, hf, hm, k⟩ := h
    have hr1 : Room 1 _ := hr.mono (by decide)
    refine ⟨_, pss_cons (ps_par (i := 4) (j := 5) rfl scWalk.nd rfl rfl (by decide) rfl rfl (pa_cons (pe_call GW hr1 rfl mW kW bW .nil pass0 (pa_cons (pv 1) pa_nil)) (pa_cons (pe_lst (pa_cons (pv 2) pa_nil)) pa_nil)) (by rfl)) <|
      pss_cons (ps_for PassesOwn.never rfl (pi_range1 (by rfl) B.range (pa_cons (pv 3) pa_nil)) (pg_name (i := 6) scWalk.nd rfl (.inl rfl))
        (pss_cons (ps_if (pt_cmpR (op_eqD hr.units) (pe_ix ix_list (pv 4) (pe_ix ix_list (pv 5) (pe_un un_neg pe_int) (fun _ _ => rfl)) (fun _ _ => rfl)) (pe_lst pa_nil) (nomark _))
          (pss_one (ps_ret (pe_callTy call_tuple_of (by rfl) B.tuple (by decide +kernel) (pa_cons (pv 5) pa_nil)))) pss_nil) <|
        pss_one (ps_expr (pe_bm PySem.F.plainAttrs_list PySem.F.slot_list_append PySem.F.type_list_append mt_append (pv 5)
          (pa_cons (pe_call GP hr rfl mP kP bP .nil pass0 (pa_cons (pv 0) (pa_cons (pe_ix ix_list (pv 4) (pe_ix ix_list (pv 5) (pe_un un_neg pe_int) (fun _ _ => rfl)) (fun _ _ => rfl)) pa_nil))) pa_nil))))) <|
      pss_one (ps_ret (pe_callTy call_tuple_of (by rfl) B.tuple (by decide +kernel) (pa_cons (pv 5) pa_nil))), ?_⟩
    refine ⟨_, rfl, a, b, n, ts, ars, rfl, N, AR, fun g ls H1 s1 ng g1 ll hl => ⟨_, rfl, by show 1 ≤ sizeLine; decide, fun fo nfo => ⟨_, _, rfl, ?_⟩⟩⟩
    have sf : Same H1 (upd H1 fo (.lst [.int fi])) := same_new nfo
    have D1 := (D.same s1).same sf
    have og := D.ne_none ng
    have ofo := (D.same s1).ne_none nfo
    have nf0 : H fo = none := s1.free nfo
    have gf : g ≠ fo := fun z => by
      rw [← z, g1] at nfo
      cases nfo
    have lf : ∀ (v : Nat) (l : Addr), ls[v]? = some l → l ≠ fo := fun v l hl2 z => by
      have e := (hl v l hl2).2
      rw [z, nfo] at e
      cases e
    have lo : ∀ (v : Nat) (l : Addr), ls[v]? = some l → l ≠ p ∧ l ≠ d := fun v l hl2 => D.ne_none (hl v l hl2).1
    have done : ∀ {H' : Hp} {os : List Int}, Deck H' p d 63 → Kp p d H H' → H' fo = some (.lst (os.map V.int)) → os ≠ [] → (os.length : Int) ≤ ma + 1 → (∀ o ∈ os, Inn n o) → os[0]? = some fi → Chain ars os → ((os.length : Int) = ma + 1 ∨ ∃ v : Nat, os.getLast? = some (v : Int) ∧ outs ars v = []) →
        ∃ p' ys, [V.ref fo] = [.ref p'] ∧ ((SqL K H' p' ys ∧ ∀ l, H' l = none → Q (.ref l) (upd H' l (.tup ys))) ∨ (SqT K H' p' ys ∧ Q (.ref p') H')) := fun {H' os} D' k' h1 h2 h3 h4 h5 h6 h7 =>
      ⟨fo, _, rfl, .inl ⟨SqL.of h1, fun l nl => k l os _ (D'.same (same_new nl)) (k'.trans (Kp.new nl)) (k'.free D' nl) upd_same h2 h3 h4 h5 h6 h7⟩⟩
    refine ⟨_, rfl, ma, rfl, by omega, by omega, for_range (lo := 0) (n := ma.toNat) (fun i σ H' => (∃ t, σ = [some (.ref p), some (.ref a), some (.int fi), some (.int ma), some (.ref g), some (.ref fo), t]) ∧ Deck H' p d 63 ∧ Kp p d H H' ∧
      H' g = some (.lst (ls.map V.ref)) ∧ (∀ (v : Nat) (l : Addr), ls[v]? = some l → H' l = some (.lst ((outs ars v).map V.int))) ∧ ∃ os : List Int, H' fo = some (.lst (os.map V.int)) ∧ os ≠ [] ∧ os.length = i + 1 ∧ (∀ o ∈ os, Inn n o) ∧ os[0]? = some fi ∧ Chain ars os)
      ⟨⟨_, rfl⟩, D1, .of (s1.trans sf), sf _ _ g1, fun v l hl2 => sf _ _ (hl v l hl2).2, [fi], upd_same, by simp, rfl, fun o ho => by rw [List.mem_singleton.mp ho]; exact hf, rfl, Chain.one⟩ ?_ ?_⟩
    · rintro i σ H2 hi ⟨⟨t, rfl⟩, D2, k2, g2, l2, os, f2, fne, flen, fin, f0, fch⟩
      obtain ⟨o, ho, eo, elast⟩ := last_of fne
      have hoI := fin o ho
      obtain ⟨jo, rfl⟩ := Int.eq_ofNat_of_zero_le hoI.1
      have hj : jo < ls.length := by
        have := hoI.2
        omega
      have hmem : ls[jo]? = some ls[jo] := List.getElem?_eq_getElem hj
      have e1 := l2 _ _ hmem
      have e3 : (outs ars jo).length ≤ 200 := Nat.le_trans outs_len (by have := AR.len; have := N.len; omega)
      have e2 : ∀ z ∈ outs ars jo, Inn n z := fun z hz => by
        obtain ⟨i0, hi0, ez⟩ := List.getElem_of_mem (outs_mem.mp hz)
        have hlt : i0 < ts.length := by rw [AR.len]; exact hi0
        have hts : ts[i0]? = some ts[i0] := List.getElem?_eq_getElem hlt
        obtain ⟨e0, t0, h0, h00, h000⟩ := AR.at hts
        rw [List.getElem?_eq_getElem hi0, ez] at h0
        cases h0
        obtain ⟨t1, v1, w1, q0, q1, _, q3⟩ := N.arr _ (List.mem_of_getElem? hts)
        rw [h00] at q0
        cases q0
        rw [h000] at q1
        injection Option.some.inj q1 with q5
        injection q5 with _ q6
        injection q6 with q7 _
        have e9 : z = w1 := V.int.inj q7
        rw [e9]
        exact q3
      generalize hqs : outs ars jo = qs at e1 e2 e3
      have at4 : ∀ {H' : Hp}, H' g = some (.lst (ls.map V.ref)) → atI (ls.map V.ref) ((jo : Nat) : Int) = some (.ref ls[jo]) := fun _ => at_of (j := jo) rfl (by rw [List.getElem?_map, List.getElem?_eq_getElem hj]; rfl)
      refine ⟨_, rfl, _, rfl, 1, rfl, fo, _, -1, .int (jo : Int), rfl, rfl, SqL.of f2, eo, g, _, _, .ref ls[jo], rfl, rfl, SqL.of g2, at4 g2, by show 0 ≤ sizeLine; exact Nat.zero_le _, fun e ne => ?_⟩
      have se : Same H2 (upd H2 e (.lst [])) := same_new ne
      refine ⟨.list (qs.map PyData.int), .list [], .lst (SqL.of (se _ _ e1)) (dpInts qs), .lst (SqL.of upd_same) .nil, PySem.W.ke_shaped_ints qs, rfl, _, rfl, ?_⟩
      have D3 := D2.same se
      have k3 := k2.trans (.of se)
      have g3 := se _ _ g2
      have f3 := se _ _ f2
      have e13 := se _ _ e1
      have l3 : ∀ (v : Nat) (l : Addr), ls[v]? = some l → (upd H2 e (.lst [])) l = some (.lst ((outs ars v).map V.int)) := fun v l hl2 => se _ _ (l2 v l hl2)
      generalize (upd H2 e (.lst [])) = H3 at D3 k3 g3 f3 e13 l3 ⊢
      rw [eqv_nil2]
      refine ite2 (fun y => ?_) (fun y => ?_)
      · exact ⟨_, rfl, done D3 k3 f3 fne (by omega) fin f0 fch (.inr ⟨jo, elast, hqs.trans (of_decide_eq_true y)⟩)⟩
      have qne : qs ≠ [] := fun z => y (decide_eq_true z)
      refine ⟨_, rfl, .inl ⟨rfl, _, SqL.of f3⟩, _, rfl, _, rfl, _, rfl, 1, rfl, fo, _, -1, .int (jo : Int), rfl, rfl, SqL.of f3, eo, g, _, _, .ref ls[jo], rfl, rfl, SqL.of g3, at4 g3, ?_⟩
      refine ⟨p, d, ls[jo], _, rfl, D3, e13, (lo _ _ hmem).2, by simpa using qne, by rw [List.length_map]; omega, fun x H4 hx D4 k4 => ?_⟩
      obtain ⟨z, hz, rfl⟩ := List.mem_map.mp hx
      have f4 := k4 _ _ f3 ofo.1 ofo.2
      refine ⟨fo, _, _, rfl, rfl, f4, by rw [List.length_map, flen, sizeLine_eq]; omega, ?_⟩
      refine ⟨⟨_, rfl⟩, D4.upd ofo.1 ofo.2, fun c o e q1 q2 => ?_, by rw [upd_ne gf]; exact k4 _ _ g3 og.1 og.2, fun v l hl2 => ?_, os ++ [z], by rw [upd_same, List.map_append]; rfl, by simp, by rw [List.length_append, flen]; rfl, fun o ho => ?_, by rw [List.getElem?_append_left (by omega)]; exact f0, fch.snoc elast (outs_mem.mp (by rw [hqs]; exact hz))⟩
      · rw [upd_ne (ne_of_none e nf0)]
        exact k4 _ _ (k3 _ _ e q1 q2) q1 q2
      · rw [upd_ne (lf v l hl2)]
        exact k4 _ _ (l3 v l hl2) (lo v l hl2).1 (lo v l hl2).2
      · rcases List.mem_append.mp ho with ho | ho
        · exact fin o ho
        · rw [List.mem_singleton.mp ho]
          exact e2 z hz
    · rintro σ H2 ⟨⟨t, rfl⟩, D2, k2, g2, l2, os, f2, fne, flen, fin, f0, fch⟩
      exact ⟨_, rfl, done D2 k2 f2 fne (by omega) fin f0 fch (.inl (by omega))⟩
end
end Sw
namespace Sw
open PySem L2
/-- a statement kept to what it is to do, for whatever i stands for -/
def tCutI {ι : Type} (J J' : ι → L2.St → Hp → Prop) : TS := fun D σ H => ∃ i, J i σ H ∧ ∀ σ' H', J' i σ' H' → D.nx σ' H'
theorem ps_cutI {ι : Type} {X : Cx} {st : Stmt} {t : TS} (J J' : ι → L2.St → Hp → Prop) (h : PS X st t) (hJ : ∀ i D σ H, J i σ H → (∀ σ' H', J' i σ' H' → D.nx σ' H') → t D σ H) : PS X st (tCutI J J') :=
  ⟨fun pins s σ H D I q => by
    obtain ⟨i, a, b⟩ := q
    exact h.run pins s σ H D I (hJ i D σ H a b)⟩
theorem int_at {os : List Int} {i : Nat} {x : V} (h : (os.map V.int)[i]? = some x) : ∃ z, os[i]? = some z ∧ x = .int z := by
  rw [List.getElem?_map] at h
  cases q : os[i]? with
  | none => rw [q] at h; cases h
  | some z => rw [q] at h; exact ⟨z, rfl, (Option.some.inj h).symm⟩
end Sw
namespace Sw
open PySem L2
/-! ### _law_back -/
theorem outs_inn {n : Int} {H : Hp} {a b : Addr} {ts : List V} {ars : List (Int × Int)} (N : NetAt n H a b ts) (AR : ArsAt H ts ars) {v : Nat} {z : Int} (hz : z ∈ outs ars v) : Inn n z := by
  obtain ⟨i0, hi0, ez⟩ := List.getElem_of_mem (outs_mem.mp hz)
  have hlt : i0 < ts.length := by rw [AR.len]; exact hi0
  have hts : ts[i0]? = some ts[i0] := List.getElem?_eq_getElem hlt
  obtain ⟨e0, t0, h0, h00, h000⟩ := AR.at hts
  rw [List.getElem?_eq_getElem hi0, ez] at h0
  cases h0
  obtain ⟨t1, v1, w1, q0, q1, _, q3⟩ := N.arr _ (List.mem_of_getElem? hts)
  rw [h00] at q0
  cases q0
  rw [h000] at q1
  injection Option.some.inj q1 with q5
  injection q5 with _ q6
  injection q6 with q7 _
  have e9 : z = w1 := V.int.inj q7
  rw [e9]
  exact q3
theorem pig : ∀ (n : Nat) (ks : List Int), ks.Nodup → (∀ k ∈ ks, 0 ≤ k ∧ k < n) → ks.length ≤ n
  | 0, ks, _, h => by
    cases ks with
    | nil => exact Nat.le_refl _
    | cons k r =>
      have := h k (List.mem_cons_self ..)
      omega
  | n + 1, ks, hn, h => by
    have q := pig n (ks.erase (n : Int)) (hn.erase _) fun k hk => by
      have h1 := h k (List.mem_of_mem_erase hk)
      have h2 : k ≠ (n : Int) := fun z => by
        rw [z] at hk
        exact (List.Nodup.mem_erase_iff hn).mp hk |>.1 rfl
      omega
    have e := List.length_erase (a := (n : Int)) (l := ks)
    split at e
    · omega
    · omega
/-- what is known: ways from the first stop -/
structure Ways (ars : List (Int × Int)) (n first : Int) (H : Hp) (kvs : List (Key × V)) : Prop where
  nd : (kvs.map (·.1)).Nodup
  each : ∀ kv ∈ kvs, ∃ (v : Int) (t : Addr) (os : List Int), kv = (.inl v, .ref t) ∧ Inn n v ∧ H t = some (.tup (os.map V.int)) ∧ Chain ars (first :: os) ∧ (first :: os).getLast? = some v ∧ os.length < kvs.length ∧ ∀ o ∈ os, Inn n o
theorem Ways.keep {ars : List (Int × Int)} {n first : Int} {H H' : Hp} {kvs : List (Key × V)} (W : Ways ars n first H kvs) (s : TupS H H') : Ways ars n first H' kvs :=
  ⟨W.nd, fun kv hk => by
    obtain ⟨v, t, os, e, i, h, r⟩ := W.each kv hk
    exact ⟨v, t, os, e, i, s _ _ h, r⟩⟩
theorem Ways.few {ars : List (Int × Int)} {n first : Int} {H : Hp} {kvs : List (Key × V)} (W : Ways ars n first H kvs) (n0 : 0 ≤ n) : kvs.length ≤ n.toNat := by
  have inj : ∀ l : List (Key × V), (∀ kv ∈ l, ∃ (v : Int) (x : V), kv = (.inl v, x) ∧ Inn n v) → (l.map (·.1)).Nodup → ∃ ks : List Int, l.map (·.1) = ks.map Sum.inl ∧ ks.Nodup ∧ ∀ k ∈ ks, 0 ≤ k ∧ k < n.toNat := by
    intro l
    induction l with
    | nil => exact fun _ _ => ⟨[], rfl, List.nodup_nil, fun _ h => absurd h (by simp)⟩
    | cons kv r ih =>
      intro h nd
      rw [List.map_cons] at nd
      obtain ⟨nn, nd⟩ := List.nodup_cons.mp nd
      obtain ⟨ks, e, d, b⟩ := ih (fun x hx => h x (List.mem_cons_of_mem _ hx)) nd
      obtain ⟨v, x, rfl, i⟩ := h kv (List.mem_cons_self ..)
      refine ⟨v :: ks, by rw [List.map_cons, List.map_cons, e], List.nodup_cons.mpr ⟨fun z => nn ?_, d⟩, fun k hk => ?_⟩
      · rw [e]
        exact List.mem_map.mpr ⟨v, z, rfl⟩
      · rcases List.mem_cons.mp hk with rfl | hk
        · exact ⟨i.1, by have := i.2; omega⟩
        · exact b k hk
  obtain ⟨ks, e, d, b⟩ := inj kvs (fun kv hk => by
    obtain ⟨v, t, os, e, i, _⟩ := W.each kv hk
    exact ⟨v, .ref t, e, i⟩) W.nd
  have q := pig n.toNat ks d b
  have l := congrArg List.length e
  rw [List.length_map, List.length_map] at l
  omega
theorem valV_mem {κ : Type} [DecidableEq κ] {kvs : List (κ × V)} {k : κ} {x : V} (h : valV kvs k = some x) : (k, x) ∈ kvs := by
  unfold valV at h
  cases q : kvs.find? fun kv => decide (kv.1 = k) with
  | none => rw [q] at h; cases h
  | some z =>
    rw [q] at h
    have h1 := List.find?_some q
    have h1 := of_decide_eq_true h1
    have h2 := Option.some.inj h
    have : z = (k, x) := by
      rw [← h1, ← h2]
    rw [← this]
    exact List.mem_of_find?_eq_some q
theorem Ways.at {ars : List (Int × Int)} {n first : Int} {H : Hp} {kvs : List (Key × V)} (W : Ways ars n first H kvs) {v : Int} {x : V} (h : valV kvs (.inl v) = some x) : ∃ (t : Addr) (os : List Int), x = .ref t ∧ H t = some (.tup (os.map V.int)) ∧ Chain ars (first :: os) ∧ (first :: os).getLast? = some v ∧ os.length < kvs.length ∧ ∀ o ∈ os, Inn n o := by
  obtain ⟨v', t, os, e, i, h1, h2, h3, h4, h5⟩ := W.each _ (valV_mem h)
  injection e with e1 e2
  have e1 := Sum.inl.inj e1
  subst e1
  exact ⟨t, os, e2, h1, h2, h3, h4, h5⟩
theorem Ways.add {ars : List (Int × Int)} {n first v z : Int} {H : Hp} {kvs : List (Key × V)} {t : Addr} {os : List Int} (W : Ways ars n first H kvs) (hn : valV kvs (.inl z) = none) (hz : Inn n z) (ht : H t = some (.tup ((os ++ [z]).map V.int)))
    (c : Chain ars (first :: os)) (l : (first :: os).getLast? = some v) (hv : (v, z) ∈ ars) (len : os.length < kvs.length) (ho : ∀ o ∈ os, Inn n o) : Ways ars n first H (kvs ++ [(.inl z, .ref t)]) := by
  refine ⟨?_, fun kv hk => ?_⟩
  · rw [List.map_append]
    refine List.nodup_append.mpr ⟨W.nd, by simp, fun a ha b hb e => ?_⟩
    have hb : b = .inl z := by simpa using hb
    rw [hb] at e
    rw [e] at ha
    exact valV_not hn ha
  · rcases List.mem_append.mp hk with hk | hk
    · obtain ⟨v', t', os', e, i, h1, h2, h3, h4, h5⟩ := W.each kv hk
      exact ⟨v', t', os', e, i, h1, h2, h3, by rw [List.length_append]; omega, h5⟩
    · refine ⟨z, t, os ++ [z], List.mem_singleton.mp hk, hz, ht, ?_, ?_, by rw [List.length_append, List.length_append]; simp only [List.length_cons, List.length_nil]; omega, fun o h => ?_⟩
      · have := c.snoc l hv
        rwa [List.cons_append] at this
      · rw [← List.cons_append, List.getLast?_append]
        rfl
      · rcases List.mem_append.mp h with h | h
        · exact ho o h
        · rw [List.mem_singleton.mp h]
          exact hz
theorem Ways.inn {ars : List (Int × Int)} {n first : Int} {H : Hp} {kvs : List (Key × V)} (W : Ways ars n first H kvs) {v : Int} {x : V} (h : valV kvs (.inl v) = some x) : Inn n v := by
  obtain ⟨v', t, os, e, i, _⟩ := W.each _ (valV_mem h)
  injection e with e1 e2
  have e1 := Sum.inl.inj e1
  subst e1
  exact i
theorem cut_tail (x : V) (r : List V) : cutV (x :: r) (some 1) none = r := by
  have e : cutV (x :: r) (some ((1 : Nat) : Int)) none = r := by
    unfold cutV
    rw [HT.sIx_nat, List.length_cons]
    show List.take _ (List.drop (min 1 (r.length + 1)) (x :: r)) = r
    rw [show min 1 (r.length + 1) = 1 by omega, List.drop_one]
    exact List.take_of_length_le (by rw [List.tail_cons]; show r.length ≤ (r.length + 1) - 1; omega)
  exact e
abbrev sBack : Stmt := top 21
abbrev nBack : List Str := ["net", "first", "last", "onward", "known", "waits", "stop", "w"]
theorem scBack : FnScope nBack ["net", "first", "last"] (defScope sBack) := ⟨rfl, rfl, rfl, by decide +kernel, rfl, by decide +kernel, by decide +kernel⟩
section
variable {P : Program} {w : World} {K : PySem.W.Frag} {mg : Str → Option Value} {base : Heap}
def spBack : Sp := fun vs H Q _ => ∃ (a b : Addr) (n first last : Int) (ts : List V) (ars : List (Int × Int)), vs = [.ref a, .int first, .int last] ∧ NetAt n H a b ts ∧ ArsAt H ts ars ∧ Inn n first ∧
  (∀ H', Same H H' → Q .non H') ∧ ∀ (r : Addr) (os : List Int) (H' : Hp), Same H H' → H' r = some (.tup (os.map V.int)) → Chain ars (first :: os) → (first :: os).getLast? = some last → os.length ≤ 12 → (∀ o ∈ os, Inn n o) → Q (.ref r) H'
theorem ok_back {f : Addr} {fd : FuncData} (F : Fun K "_law_back" "_law_back" sBack f fd) (B : NoNames mg) (O : Own P w K mg base 1 "_law_onward" ["net"] spOnward) : FnOk P w K mg base CX0 2 f fd ["net", "first", "last"] spBack := by
  obtain ⟨fO, fdO, GO, mO, kO, bO⟩ := O.ex
  refine F.ok scBack (fun vs H Q E h => ?_) (fun cdv A outer s H vs Q E hr h => ?_)
  · obtain ⟨a, b, n, fi, la, ts, ars, rfl, _⟩ := h
    rfl
  · obtain ⟨a, b, n, fi, la, ts, ars, rfl, N, AR, hfi, k0, k1⟩ := h
    have hu := hu_of hr
    refine ⟨_, pss_cons (ps_par3 (i := 3) (j := 4) (l := 5) rfl scBack.nd rfl rfl rfl (by decide) (by decide) (by decide) rfl rfl rfl (pa_cons (pe_call GO hr rfl mO kO bO .nil pass0 (pa_cons (pv 0) pa_nil))
        (pa_cons (pe_disp (pps_cons (pv 1) (pe_tup pa_nil) pps_nil) (by rfl) (by rfl) (by simp) (by decide)) (pa_cons (pe_lst (pa_cons (pv 1) pa_nil)) pa_nil))) (by rfl)) <|
      pss_cons (ps_while PassesOwn.never (pt_cmpR (op_neNil hr.units0) (pv 5) (pe_lst pa_nil) (nomark _))
        (pss_cons (ps_par (i := 6) (j := 5) rfl scBack.nd rfl rfl (by decide) rfl rfl (pa_cons (pe_ix ix_list (pv 5) pe_int (fun _ _ => rfl)) (pa_cons (pe_slice sl_list (pv 5) (po_some pe_int) po_none) pa_nil)) (by rfl)) <|
        pss_one (ps_for PassesOwn.never rfl (pi_list (pe_ix ix_list (pv 3) (pv 6) (fun _ _ => rfl))) (pg_name (i := 7) scBack.nd rfl (.inl rfl))
          (pss_one (ps_if (pt_cmp (pc_dnotin hu (pv 7) (pv 4)))
            (pss_cons (ps_dput hu (pv 4) (pv 7) (pe_op (r := rCatA K) op_catA (pe_dget hu (pv 4) (pv 6) (fun _ _ => rfl)) (pe_tup (pa_cons (pv 7) pa_nil))) rfl) <|
            pss_one (ps_set (i := 5) scBack.nd rfl (.inl rfl) (pe_op op_cat (pv 5) (pe_lst (pa_cons (pv 7) pa_nil))))) pss_nil))))) <|
      pss_one (ps_ret (pe_dget1 hu (pv 4) (pv 2) ⟨by rfl, by rfl, by rfl, by rfl⟩)), ?_⟩
    have n1 := N.n1
    have n2 := N.n2
    refine ⟨_, rfl, a, b, n, ts, ars, rfl, N, AR, fun g ls H1 s1 ng g1 ll hl => fun kd nkd => ⟨_, rfl, Nat.zero_le _, fun t0 nt0 => ?_⟩⟩
    have kdt : kd ≠ t0 := fun z => by
      rw [z, upd_same] at nt0
      cases nt0
    refine ⟨by rw [upd_ne kdt, upd_same], [(.inl fi, .ref t0)], rfl, by show 1 ≤ 15; decide, _, rfl, by show 1 ≤ sizeLine; decide, fun W0 nW0 => ⟨_, _, _, rfl, ?_⟩⟩
    have w1 : W0 ≠ kd := fun z => by
      rw [z, upd_same] at nW0
      cases nW0
    have w2 : W0 ≠ t0 := fun z => by
      rw [z, upd_ne kdt.symm, upd_same] at nW0
      cases nW0
    have hk : (upd (upd (upd (upd H1 kd (.dK [])) t0 (.tup [])) kd (.dK (mergeK [] [(.inl fi, .ref t0)]))) W0 (.lst [.int fi])) kd = some (.dK [(.inl fi, .ref t0)]) := by
      rw [upd_ne w1.symm, upd_same]
      rfl
    have ht : (upd (upd (upd (upd H1 kd (.dK [])) t0 (.tup [])) kd (.dK (mergeK [] [(.inl fi, .ref t0)]))) W0 (.lst [.int fi])) t0 = some (.tup (([] : List Int).map V.int)) := by
      rw [upd_ne w2.symm, upd_ne kdt.symm, upd_same]
      rfl
    have hW : (upd (upd (upd (upd H1 kd (.dK [])) t0 (.tup [])) kd (.dK (mergeK [] [(.inl fi, .ref t0)]))) W0 (.lst [.int fi])) W0 = some (.lst ([fi].map V.int)) := upd_same
    have kp : Same H1 (upd (upd (upd (upd H1 kd (.dK [])) t0 (.tup [])) kd (.dK (mergeK [] [(.inl fi, .ref t0)]))) W0 (.lst [.int fi])) := fun b o e => by
      have e1 := same_new (o := .tup []) nt0 b o (same_new (o := .dK []) nkd b o e)
      have e2 : (upd (upd (upd H1 kd (.dK [])) t0 (.tup [])) kd (.dK (mergeK [] [(.inl fi, .ref t0)]))) b = some o := by
        rw [upd_ne (ne_of_none e nkd)]
        exact e1
      exact same_new nW0 b o e2
    generalize (upd (upd (upd (upd H1 kd (.dK [])) t0 (.tup [])) kd (.dK (mergeK [] [(.inl fi, .ref t0)]))) W0 (.lst [.int fi])) = H3 at hk ht hW kp ⊢
    have ways : Ways ars n fi H3 [(.inl fi, .ref t0)] := ⟨by simp, fun kv h => ⟨fi, t0, [], List.mem_singleton.mp h, hfi, ht, Chain.one, rfl, by show 0 < 1; decide, fun _ h => absurd h (by simp)⟩⟩
    refine ⟨fun m σ H' => ∃ (kvs : List (Key × V)) (W : List Int) (wa : Addr) (s6 s7 : Option V), σ = [some (.ref a), some (.int fi), some (.int la), some (.ref g), some (.ref kd), some (.ref wa), s6, s7] ∧ Same H1 H' ∧ H' kd = some (.dK kvs) ∧ H' wa = some (.lst (W.map V.int)) ∧ Ways ars n fi H' kvs ∧ (∀ x ∈ W, (valV kvs (.inl x)).isSome = true) ∧ (n.toNat - kvs.length) + W.length = m ∧ m ≤ n.toNat,
      ⟨n.toNat, _, [fi], W0, none, none, rfl, kp, hk, hW, ways, fun x hx => by rw [List.mem_singleton.mp hx]; simp [valV], by show n.toNat - 1 + 1 = n.toNat; omega, Nat.le_refl _⟩, ?_⟩
    rintro m σ H4 ⟨kvs, W, wa, s6, s7, rfl, kp4, hk4, hW4, ways4, kn4, hm, hmn⟩
    refine ⟨_, rfl, Nat.zero_le _, fun e ne => ?_⟩
    have se : Same H4 (upd H4 e (.lst [])) := same_new ne
    refine ⟨wa, e, _, rfl, rfl, SqL.of (se _ _ hW4), SqL.of upd_same, _, rfl, ?_⟩
    have kp5 := kp4.trans se
    have hk5 := se _ _ hk4
    have hW5 := se _ _ hW4
    have ways5 := ways4.keep (.of se)
    generalize (upd H4 e (.lst [])) = H5 at kp5 hk5 hW5 ways5 ⊢
    clear hk4 hW4 ways4 se ne
    refine ite2 (fun y => ?_) (fun y => ?_)
    · cases W with
      | nil => cases y
      | cons x0 W1 =>
      refine ⟨fun σ' H' => ∃ m', m' < m ∧ ∃ (kvs : List (Key × V)) (W : List Int) (wa : Addr) (s6 s7 : Option V), σ' = [some (.ref a), some (.int fi), some (.int la), some (.ref g), some (.ref kd), some (.ref wa), s6, s7] ∧ Same H1 H' ∧ H' kd = some (.dK kvs) ∧ H' wa = some (.lst (W.map V.int)) ∧ Ways ars n fi H' kvs ∧ (∀ x ∈ W, (valV kvs (.inl x)).isSome = true) ∧ (n.toNat - kvs.length) + W.length = m' ∧ m' ≤ n.toNat, fun _ _ h => h, ?_⟩
      have kx := kn4 x0 (List.mem_cons_self ..)
      obtain ⟨xv, hxv⟩ := Option.isSome_iff_exists.mp kx
      have ix := ways5.inn hxv
      obtain ⟨jo, rfl⟩ := Int.eq_ofNat_of_zero_le ix.1
      have hj : jo < ls.length := by
        have := ix.2
        omega
      have hmem : ls[jo]? = some ls[jo] := List.getElem?_eq_getElem hj
      have hlj := (hl _ _ hmem).2
      refine ⟨_, rfl, wa, _, 0, .int (jo : Int), rfl, rfl, SqL.of hW5, at_of (j := 0) rfl rfl, _, rfl, 1, rfl, wa, _, rfl, SqL.of hW5, fun wb nwb => ⟨_, _, rfl, ?_⟩⟩
      rw [List.map_cons, cut_tail]
      have sb : Same H5 (upd H5 wb (.lst (W1.map V.int))) := same_new nwb
      have kp6 := kp5.trans sb
      refine ⟨_, rfl, _, rfl, g, _, _, .ref ls[jo], rfl, rfl, SqL.of (kp6 _ _ g1), at_of (j := jo) rfl (by rw [List.getElem?_map, hmem]; rfl), ls[jo], rfl, ⟨_, SqL.of (kp6 _ _ hlj)⟩, ?_⟩
      have hk6 := sb _ _ hk5
      have hW6 : (upd H5 wb (.lst (W1.map V.int))) wb = some (.lst (W1.map V.int)) := upd_same
      have ways6 := ways5.keep (.of sb)
      generalize (upd H5 wb (.lst (W1.map V.int))) = H6 at kp6 hk6 hW6 ways6 ⊢
      rw [List.length_cons] at hm
      refine for_it (walk_list (xs := (outs ars jo).map V.int)) (fun i σ H' => ∃ (kvs : List (Key × V)) (W : List Int) (wa : Addr) (s7 : Option V), σ = [some (.ref a), some (.int fi), some (.int la), some (.ref g), some (.ref kd), some (.ref wa), some (.int (jo : Int)), s7] ∧ Same H1 H' ∧ H' kd = some (.dK kvs) ∧ H' wa = some (.lst (W.map V.int)) ∧ Ways ars n fi H' kvs ∧ (∀ x ∈ W, (valV kvs (.inl x)).isSome = true) ∧ (valV kvs (.inl (jo : Int))).isSome = true ∧ (n.toNat - kvs.length) + W.length + 1 = m)
        ⟨kvs, W1, wb, s7, rfl, kp6, hk6, hW6, ways6, fun x hx => kn4 x (List.mem_cons_of_mem _ hx), kx, by omega⟩ (fun i σ H' _ h => by obtain ⟨_, _, _, _, _, h, _⟩ := h; exact SqL.of (h _ _ hlj)) ?_ ?_
      · rintro i x σ H8 H7 hi ⟨kvs7, W7, wa7, s7', rfl, kp7, hk7, hW7, ways7, kn7, kx7, hm7⟩ ⟨rfl, ex⟩
        obtain ⟨z, ez, rfl⟩ := int_at ex
        have hz := outs_inn N AR (List.mem_of_getElem? ez)
        have harr := outs_mem.mp (List.mem_of_getElem? ez)
        refine ⟨_, rfl, _, rfl, kd, _, rfl, DGet.k (k := .inl z) hk7, ?_⟩
        cases em : (valV kvs7 (.inl z : Key)).isSome with
        | true => exact ⟨_, rfl, iteF ⟨kvs7, W7, wa7, _, rfl, kp7, hk7, hW7, ways7, kn7, kx7, hm7⟩⟩
        | false =>
          have hnone : valV kvs7 (.inl z : Key) = none := by
            cases q : valV kvs7 (.inl z : Key) with
            | none => rfl
            | some _ => rw [q] at em; cases em
          obtain ⟨xo, hxo⟩ := Option.isSome_iff_exists.mp kx7
          obtain ⟨t, os, rfl, ht7, hc, hlast, hlen, hos⟩ := ways7.at hxo
          have few := ways7.few (by omega)
          refine ⟨_, rfl, iteT ?_⟩
          refine ⟨_, rfl, _, rfl, kd, .ref t, rfl, by rw [← hxo]; exact DGet.k (k := .inl (jo : Int)) hk7, _, rfl, by show 1 ≤ sizeLine; decide, fun T nT => ?_⟩
          have sT : Same H7 (upd H7 T (.tup [.int z])) := same_new nT
          refine ⟨t, T, os.map V.int, [.int z], rfl, rfl, SqT.of (sT _ _ ht7), SqT.of upd_same, by rw [List.length_map, sizeLine_eq]; simp only [List.length_cons, List.length_nil]; omega, ?c1, fun _ q => (nomatch q), ?c2⟩
          case' c1 =>
            intro q
            have eo : os = [] := by simpa using q
            have hR : (upd H7 T (.tup [.int z])) T = some (.tup ((os ++ [z]).map V.int)) := by
              rw [eo]
              exact upd_same
            have sR := sT
            generalize (upd H7 T (.tup [.int z])) = H9 at hR sR ⊢
            generalize T = R at hR ⊢
          case' c2 =>
            intro q _ R nR
            have hR : (upd (upd H7 T (.tup [.int z])) R (.tup (os.map V.int ++ [.int z]))) R = some (.tup ((os ++ [z]).map V.int)) := by
              rw [upd_same, List.map_append]
              rfl
            have sR := sT.trans (same_new (o := .tup (os.map V.int ++ [.int z])) nR)
            generalize (upd (upd H7 T (.tup [.int z])) R (.tup (os.map V.int ++ [.int z]))) = H9 at hR sR ⊢
          all_goals
            have hk9 := sR _ _ hk7
            have wk : wa7 ≠ kd := fun q => by
              rw [q, hk7] at hW7
              cases hW7
            refine ⟨_, rfl, _, rfl, kd, _, rfl, DPut.k (k := .inl z) hk9 (by rw [sizeLine_eq]; omega), ?_⟩
            rw [putK_new _ hnone]
            have hk10 : (upd H9 kd (.dK (kvs7 ++ [(.inl z, .ref R)]))) kd = some (.dK (kvs7 ++ [(.inl z, .ref R)])) := upd_same
            have hW10 : (upd H9 kd (.dK (kvs7 ++ [(.inl z, .ref R)]))) wa7 = some (.lst (W7.map V.int)) := by
              rw [upd_ne wk]
              exact sR _ _ hW7
            have tu : TupS H9 (upd H9 kd (.dK (kvs7 ++ [(.inl z, .ref R)]))) := TupS.upd fun ys q => by
              rw [hk9] at q
              cases q
            have ways10 := ((ways7.keep (.of sR)).add hnone hz hR hc hlast harr hlen hos).keep tu
            have kp10 : Same H1 (upd H9 kd (.dK (kvs7 ++ [(.inl z, .ref R)]))) := fun b o e => by
              rw [upd_ne (ne_of_none e nkd)]
              exact sR _ _ (kp7 _ _ e)
            generalize (upd H9 kd (.dK (kvs7 ++ [(.inl z, .ref R)]))) = HA at hk10 hW10 ways10 kp10 ⊢
            have few10 := ways10.few (by omega)
            rw [List.length_append, List.length_singleton] at few10
            refine ⟨_, rfl, _, rfl, by show 1 ≤ sizeLine; decide, fun q nq => ?_⟩
            have sq : Same HA (upd HA q (.lst [.int z])) := same_new nq
            refine ⟨wa7, q, _, _, rfl, rfl, sq _ _ hW10, upd_same, by rw [List.length_map, sizeLine_eq]; simp only [List.length_cons, List.length_nil]; omega, fun p np => ?_⟩
            have sp := sq.trans (same_new (o := .lst (W7.map V.int ++ [.int z])) np)
            refine ⟨_, W7 ++ [z], p, _, rfl, kp10.trans sp, sp _ _ hk10, by rw [upd_same, List.map_append]; rfl, ways10.keep (.of sp), fun x hx => ?_, ?_, ?_⟩
            · rw [valV_snoc _ _ _ _ hnone]
              split
              · rfl
              · rename_i ne2
                rcases List.mem_append.mp hx with h | h
                · exact kn7 x h
                · exact absurd (by rw [List.mem_singleton.mp h]) ne2
            · rw [valV_snoc _ _ _ _ hnone]
              split
              · rfl
              · exact kx7
            · rw [List.length_append, List.length_append]
              simp only [List.length_cons, List.length_nil]
              omega
      · rintro σ H7 ⟨kvs7, W7, wa7, s7', rfl, kp7, hk7, hW7, ways7, kn7, kx7, hm7⟩
        exact ⟨m - 1, by omega, kvs7, W7, wa7, _, _, rfl, kp7, hk7, hW7, ways7, kn7, by omega, by omega⟩
    · refine ⟨_, rfl, kd, rfl, .inl ⟨_, .inl hk5⟩, _, rfl, _, DGet.k (k := .inl la) hk5, ?_⟩
      have sH := s1.trans kp5
      cases q : valV kvs (.inl la : Key) with
      | none => exact k0 _ sH
      | some x =>
        obtain ⟨t, os, rfl, ht5, hc, hlast, hlen, hos⟩ := ways5.at q
        have few := ways5.few (by omega)
        exact k1 t os _ sH ht5 hc hlast (by omega) hos
end
end Sw
namespace Sw
open PySem L2
/-! ### standings as data: what is wrong first -/
def rowOf (n : Int) : D → Option (List D × D)
  | .tup [.tup ds, s] => if (ds.length : Int) = n + 1 then some (ds, s) else none
  | _ => none
def Twice (ds : List D) (i : Nat) : Prop := ∃ (v : Int) (j : Nat), ds[i]? = some (.int v) ∧ j < i ∧ ds[j]? = some (.int v)
inductive IsErrS (n : Int) : D → D → Prop
  | form {d : D} (h : rowOf n d = none) : IsErrS n d (.str "form")
  | thing {d s x : D} {ds : List D} {i : Nat} (h : rowOf n d = some (ds, s)) (hx : ds[i]? = some x) (hb : isWhole 0 n x = false) (ha : ∀ (j : Nat) (y : D), j < i → ds[j]? = some y → isWhole 0 n y = true) : IsErrS n d (.tup [.str "thing", .int i])
  | twice {d s : D} {ds : List D} {i : Nat} (h : rowOf n d = some (ds, s)) (ha : ∀ (j : Nat) (y : D), ds[j]? = some y → isWhole 0 n y = true) (hb : Twice ds i) (hl : ∀ j, j < i → ¬ Twice ds j) : IsErrS n d (.tup [.str "twice", .int i])
  | stop {d s : D} {ds : List D} (h : rowOf n d = some (ds, s)) (ha : ∀ (j : Nat) (y : D), ds[j]? = some y → isWhole 0 n y = true) (hl : ∀ j, ¬ Twice ds j) (hs : isWhole 0 (n - 1) s = false) : IsErrS n d (.str "stop")
  | fine {d s : D} {ds : List D} (h : rowOf n d = some (ds, s)) (ha : ∀ (j : Nat) (y : D), ds[j]? = some y → isWhole 0 n y = true) (hl : ∀ j, ¬ Twice ds j) (hs : isWhole 0 (n - 1) s = true) : IsErrS n d .non
theorem IsErrS.det {n : Int} {d r r' : D} (h : IsErrS n d r) (h' : IsErrS n d r') : r = r' := by
  cases h with
  | form h =>
    cases h' with
    | form => rfl
    | thing e => rw [h] at e; cases e
    | twice e => rw [h] at e; cases e
    | stop e => rw [h] at e; cases e
    | fine e => rw [h] at e; cases e
  | @thing s x ds i h hx hb ha =>
    cases h' with
    | form e => rw [h] at e; cases e
    | @thing s' x' ds' i' e hx' hb' ha' =>
      rw [h] at e
      cases e
      rcases Nat.lt_trichotomy i i' with l | l | l
      · exact absurd (ha' i x l hx) (by rw [hb]; decide)
      · rw [l]
      · exact absurd (ha i' x' l hx') (by rw [hb']; decide)
    | twice e ha' => rw [h] at e; cases e; exact absurd (ha' i x hx) (by rw [hb]; decide)
    | stop e ha' => rw [h] at e; cases e; exact absurd (ha' i x hx) (by rw [hb]; decide)
    | fine e ha' => rw [h] at e; cases e; exact absurd (ha' i x hx) (by rw [hb]; decide)
  | @twice s ds i h ha hb hl =>
    cases h' with
    | form e => rw [h] at e; cases e
    | @thing s' x' ds' i' e hx' hb' ha' => rw [h] at e; cases e; exact absurd (ha i' x' hx') (by rw [hb']; decide)
    | @twice s' ds' i' e ha' hb' hl' =>
      rw [h] at e
      cases e
      rcases Nat.lt_trichotomy i i' with l | l | l
      · exact absurd hb (hl' i l)
      · rw [l]
      · exact absurd hb' (hl i' l)
    | stop e ha' hl' => rw [h] at e; cases e; exact absurd hb (hl' i)
    | fine e ha' hl' => rw [h] at e; cases e; exact absurd hb (hl' i)
  | @stop s ds h ha hl hs =>
    cases h' with
    | form e => rw [h] at e; cases e
    | @thing s' x' ds' i' e hx' hb' ha' => rw [h] at e; cases e; exact absurd (ha i' x' hx') (by rw [hb']; decide)
    | @twice s' ds' i' e ha' hb' hl' => rw [h] at e; cases e; exact absurd hb' (hl i')
    | stop => rfl
    | fine e ha' hl' hs' => rw [h] at e; cases e; rw [hs] at hs'; cases hs'
  | @fine s ds h ha hl hs =>
    cases h' with
    | form e => rw [h] at e; cases e
    | @thing s' x' ds' i' e hx' hb' ha' => rw [h] at e; cases e; exact absurd (ha i' x' hx') (by rw [hb']; decide)
    | @twice s' ds' i' e ha' hb' hl' => rw [h] at e; cases e; exact absurd hb' (hl i')
    | stop e ha' hl' hs' => rw [h] at e; cases e; rw [hs] at hs'; cases hs'
    | fine => rfl
theorem row_tup {n : Int} {d : D} (h : isT "tuple" d = false) : rowOf n d = none := by
  cases d <;> simp_all [isT, rowOf]
theorem row_pair {n : Int} {d : D} (h : isPair d = false) : rowOf n d = none := by
  cases d with
  | tup ds =>
    match ds, h with
    | [], _ => rfl
    | [_], _ => simp [rowOf]
    | [_, _], h => cases h
    | _ :: _ :: _ :: _, _ => simp [rowOf]
  | _ => rfl
theorem row_no {n : Int} {a b : D} (h : isT "tuple" a = false) : rowOf n (.tup [a, b]) = none := by
  cases a <;> simp_all [isT, rowOf]
theorem row_len {n : Int} {ds : List D} {b : D} : rowOf n (.tup [.tup ds, b]) = if (ds.length : Int) = n + 1 then some (ds, b) else none := rfl
theorem whole_int {lo hi : Int} {d : D} (h : isWhole lo hi d = true) : ∃ i, d = .int i := by
  cases d <;> first | exact ⟨_, rfl⟩ | (cases h)
/-- the first things of a row of whole numbers: a thing that stands among them -/
theorem in_cut {K : PySem.W.Frag} {H : Hp} {ds : List D} {ys : List V} {cs : List Addr} {n : Int} (hds : RepAll K H ds ys cs) (hw : ∀ (j : Nat) (y : D), ds[j]? = some y → isWhole 0 n y = true) {i : Nat} {v : Int} (hi : ds[i]? = some (.int v)) :
    (cutV ys none (some (i : Int))).all flatV = true ∧ (inV (.int v) (cutV ys none (some (i : Int))) = true ↔ Twice ds i) := by
  have hlt : i < ys.length := by
    rw [hds.len]
    exact (List.getElem?_eq_some_iff.mp hi).1
  have ec : cutV ys none (some (i : Int)) = ys.take i := by
    unfold cutV
    rw [HT.sIx_none, HT.sIx_nat, Nat.min_eq_left (Nat.le_of_lt hlt), List.drop_zero, Nat.sub_zero]
  have each : ∀ (j : Nat) (x : V), ys[j]? = some x → ∃ u, ds[j]? = some (.int u) ∧ x = .int u := fun j x hx => by
    obtain ⟨d, bs, h1, h2, _⟩ := hds.at2 hx
    obtain ⟨u, rfl⟩ := whole_int (hw j d h1)
    simp only [Rep] at h2
    exact ⟨u, h1, h2.1⟩
  have mem : ∀ x ∈ ys.take i, ∃ j u, j < i ∧ ds[j]? = some (.int u) ∧ x = .int u := fun x hx => by
    obtain ⟨j, hj, e⟩ := List.getElem_of_mem hx
    rw [List.length_take] at hj
    have hx2 : ys[j]? = some x := by
      rw [List.getElem?_eq_getElem (by omega)]
      rw [List.getElem_take] at e
      rw [e]
    obtain ⟨u, h1, h2⟩ := each j x hx2
    exact ⟨j, u, by omega, h1, h2⟩
  rw [ec]
  refine ⟨List.all_eq_true.mpr fun x hx => ?_, ?_, ?_⟩
  · obtain ⟨j, u, _, _, rfl⟩ := mem x hx
    rfl
  · intro h
    obtain ⟨x, hx, e⟩ := List.any_eq_true.mp h
    obtain ⟨j, u, hj, hu, rfl⟩ := mem x hx
    have e : (u == v) = true := e
    rw [beq_iff_eq.mp e] at hu
    exact ⟨v, j, hi, hj, hu⟩
  · rintro ⟨v', j, h1, hj, h2⟩
    rw [hi] at h1
    cases h1
    obtain ⟨x, bs, h3, h4, _⟩ := hds.at h2
    simp only [Rep] at h4
    obtain ⟨rfl, _⟩ := h4
    refine List.any_eq_true.mpr ⟨.int v, ?_, beq_self_eq_true v⟩
    refine List.mem_of_getElem? (i := j) ?_
    rw [List.getElem?_take_of_lt hj]
    exact h3
def spSt (K : PySem.W.Frag) : Sp := fun vs H Q _ => ∃ (n : Int) (x : V) (d : D) (as : List Addr), vs = [.int n, x] ∧ Rep K H d x as ∧ wt d ≤ 10000000 ∧ 1 ≤ n ∧ n ≤ 12 ∧
  ∀ (r : D) (v : V) (bs : List Addr) (H' : Hp), IsErrS n d r → Same H H' → Rep K H' r v bs → small r → wt r ≤ 100 → dep r ≤ 1 → Q v H'
/-- the answers, each with what it asks -/
theorem err_str {K : PySem.W.Frag} {H : Hp} {z : Str} (h : (reprText z).length ≤ 100) : Rep K H (.str z) (.str z) [] ∧ small (.str z) ∧ wt (.str z) ≤ 100 ∧ dep (.str z) ≤ 1 :=
  ⟨by simp [Rep], by simp only [small], by simp only [wt]; exact h, by simp only [dep]; decide⟩
theorem err_pair {K : PySem.W.Frag} {H : Hp} {p : Addr} {z : Str} {i : Nat} (hz : (reprText z).length ≤ 20) (hi : i ≤ sizeLine) (np : H p = none) : Rep K (upd H p (.tup [.str z, .int i])) (.tup [.str z, .int i]) (.ref p) [p] ∧ small (.tup [.str z, .int i]) ∧ wt (.tup [.str z, .int i]) ≤ 100 ∧ dep (.tup [.str z, .int i]) ≤ 1 := by
  have hw := int_wt hi
  refine ⟨rep_err np, ?_, ?_, ?_⟩
  · simp only [small, smallAll]
    exact ⟨trivial, hw.2, trivial⟩
  · simp only [wt, wtAll]
    omega
  · simp only [dep, depAll]
    decide
end Sw
namespace Sw
open PySem L2
/-! ### runs as data: what is wrong first -/
def runOf : D → Option (List D)
  | .tup ds => if 1 ≤ ds.length ∧ ds.length ≤ 1000 then some ds else none
  | _ => none
def BadStep (ars : List (Int × Int)) (ds : List D) (i : Nat) : Prop := ∃ v w : Int, 0 < i ∧ ds[i - 1]? = some (.int v) ∧ ds[i]? = some (.int w) ∧ (v, w) ∉ ars
inductive IsErrR (n : Int) (ars : List (Int × Int)) : D → D → Prop
  | form {d : D} (h : runOf d = none) : IsErrR n ars d (.str "form")
  | stop {d x : D} {ds : List D} {i : Nat} (h : runOf d = some ds) (hx : ds[i]? = some x) (hb : isWhole 0 (n - 1) x = false) (ha : ∀ (j : Nat) (y : D), j < i → ds[j]? = some y → isWhole 0 (n - 1) y = true) : IsErrR n ars d (.tup [.str "stop", .int i])
  | arrow {d : D} {ds : List D} {i : Nat} (h : runOf d = some ds) (ha : ∀ (j : Nat) (y : D), ds[j]? = some y → isWhole 0 (n - 1) y = true) (hb : BadStep ars ds i) (hl : ∀ j, j < i → ¬ BadStep ars ds j) : IsErrR n ars d (.tup [.str "arrow", .int i])
  | fine {d : D} {ds : List D} (h : runOf d = some ds) (ha : ∀ (j : Nat) (y : D), ds[j]? = some y → isWhole 0 (n - 1) y = true) (hl : ∀ j, ¬ BadStep ars ds j) : IsErrR n ars d .non
theorem IsErrR.det {n : Int} {ars : List (Int × Int)} {d r r' : D} (h : IsErrR n ars d r) (h' : IsErrR n ars d r') : r = r' := by
  cases h with
  | form h =>
    cases h' with
    | form => rfl
    | stop e => rw [h] at e; cases e
    | arrow e => rw [h] at e; cases e
    | fine e => rw [h] at e; cases e
  | @stop x ds i h hx hb ha =>
    cases h' with
    | form e => rw [h] at e; cases e
    | @stop x' ds' i' e hx' hb' ha' =>
      rw [h] at e
      cases e
      rcases Nat.lt_trichotomy i i' with l | l | l
      · exact absurd (ha' i x l hx) (by rw [hb]; decide)
      · rw [l]
      · exact absurd (ha i' x' l hx') (by rw [hb']; decide)
    | arrow e ha' => rw [h] at e; cases e; exact absurd (ha' i x hx) (by rw [hb]; decide)
    | fine e ha' => rw [h] at e; cases e; exact absurd (ha' i x hx) (by rw [hb]; decide)
  | @arrow ds i h ha hb hl =>
    cases h' with
    | form e => rw [h] at e; cases e
    | @stop x' ds' i' e hx' hb' ha' => rw [h] at e; cases e; exact absurd (ha i' x' hx') (by rw [hb']; decide)
    | @arrow ds' i' e ha' hb' hl' =>
      rw [h] at e
      cases e
      rcases Nat.lt_trichotomy i i' with l | l | l
      · exact absurd hb (hl' i l)
      · rw [l]
      · exact absurd hb' (hl i' l)
    | fine e ha' hl' => rw [h] at e; cases e; exact absurd hb (hl' i)
  | @fine ds h ha hl =>
    cases h' with
    | form e => rw [h] at e; cases e
    | @stop x' ds' i' e hx' hb' ha' => rw [h] at e; cases e; exact absurd (ha i' x' hx') (by rw [hb']; decide)
    | @arrow ds' i' e ha' hb' hl' => rw [h] at e; cases e; exact absurd hb' (hl i')
    | fine => rfl
theorem run_tup {d : D} (h : isT "tuple" d = false) : runOf d = none := by
  cases d <;> simp_all [isT, runOf]
theorem run_len {ds : List D} : runOf (.tup ds) = if 1 ≤ ds.length ∧ ds.length ≤ 1000 then some ds else none := rfl
def spRun (K : PySem.W.Frag) : Sp := fun vs H Q _ => ∃ (a b : Addr) (n : Int) (ts : List V) (ars : List (Int × Int)) (x : V) (d : D) (as : List Addr), vs = [.ref a, x] ∧ NetAt n H a b ts ∧ ArsAt H ts ars ∧ Rep K H d x as ∧ wt d ≤ 10000000 ∧
  ∀ (r : D) (v : V) (bs : List Addr) (H' : Hp), IsErrR n ars d r → Same H H' → Rep K H' r v bs → small r → wt r ≤ 100 → dep r ≤ 1 → Q v H'
/-- the pairs made so far, just those of the first i arrows -/
def PX (D : Addr) (H1 : Hp) (ars : List (Int × Int)) (i : Nat) (H : Hp) : Prop := ∃ ps qs, H D = some (.lst (ps.map V.ref)) ∧ Paired (PairH H) ps qs ∧ qs.map (·.1) = (ars.take i).map (fun e => ([.inl e.1, .inl e.2] : List Key)) ∧ H1 D = none ∧ Same H1 H
theorem PX.add {L : Addr} {H1 Ha H2 : Hp} {ars : List (Int × Int)} {i : Nat} {e : Int × Int} {t T : Addr} (h : PX L H1 ars i Ha) (s : Same Ha H2) (hi : i < 1000) (he : ars[i]? = some e) (ht : H2 t = some (.tup [.int e.1, .int e.2])) (hT : H2 T = some (.tup [.ref t, .bl true])) :
    ∃ acc, H2 L = some (.lst acc) ∧ acc.length < sizeLine ∧ PX L H1 ars (i + 1) (upd H2 L (.lst (acc ++ [.ref T]))) := by
  obtain ⟨ps, qs, h1, h2, h3, h4, h5⟩ := h
  have hL := s _ _ h1
  have tsu : TupS H2 (upd H2 L (.lst (ps.map V.ref ++ [.ref T]))) := TupS.upd fun xs z => by
    rw [hL] at z
    cases z
  have hlen : ps.length ≤ i := by
    have e1 := h2.length
    have e2 := congrArg List.length h3
    rw [List.length_map, List.length_map, List.length_take] at e2
    omega
  refine ⟨_, hL, by rw [List.length_map, sizeLine_eq]; omega, ps ++ [T], qs ++ [([.inl e.1, .inl e.2], t, .bl true)], by rw [upd_same, List.map_append]; rfl, (paired_mono (fun _ _ x => x.keep ((TupS.of s).trans tsu)) h2).snoc (b := (([.inl e.1, .inl e.2] : List Key), t, V.bl true)) ⟨tsu _ _ hT, tsu t [.int e.1, .int e.2] ht⟩, ?_, h4, fun c o q => ?_⟩
  · rw [List.map_append, h3, List.take_add_one, he, List.map_append]
    rfl
  · rw [upd_ne (ne_of_none q h4)]
    exact s _ _ (h5 _ _ q)
theorem keys_ars {ars : List (Int × Int)} {kvs : List (List Key × V)} {qs : List PT} (h : qs.map (·.1) = ars.map fun e => ([.inl e.1, .inl e.2] : List Key)) (l2 : ∀ kv ∈ kvs, ∃ q ∈ qs, q.1 = kv.1) (l3 : ∀ q ∈ qs, ∃ kv ∈ kvs, kv.1 = q.1) (v w : Int) :
    (valV kvs ([.inl v, .inl w] : List Key)).isSome = true ↔ (v, w) ∈ ars := by
  rw [← valV_any, List.any_eq_true]
  constructor
  · rintro ⟨kv, hk, e⟩
    have e := of_decide_eq_true e
    obtain ⟨q, hq, e2⟩ := l2 kv hk
    have hm : ([.inl v, .inl w] : List Key) ∈ qs.map (·.1) := List.mem_map.mpr ⟨q, hq, e2.trans e⟩
    rw [h] at hm
    obtain ⟨z, hz, e3⟩ := List.mem_map.mp hm
    injection e3 with a1 a2
    injection a2 with a3 _
    have b1 := Sum.inl.inj a1
    have b2 := Sum.inl.inj a3
    rw [← b1, ← b2]
    exact hz
  · intro hm
    have hm2 : ([.inl v, .inl w] : List Key) ∈ qs.map (·.1) := by
      rw [h]
      exact List.mem_map.mpr ⟨(v, w), hm, rfl⟩
    obtain ⟨q, hq, e⟩ := List.mem_map.mp hm2
    obtain ⟨kv, hk, e2⟩ := l3 q hq
    exact ⟨kv, hk, decide_eq_true (e2.trans e)⟩
end Sw
namespace Sw
open PySem L2
/-! ### is_stop -/
abbrev sStop : Stmt := top 7
theorem scStop : FnScope ["n", "value"] ["n", "value"] (defScope sStop) := ⟨rfl, rfl, rfl, by decide +kernel, rfl, by decide +kernel, by decide +kernel⟩
section
variable {P : Program} {w : World} {K : PySem.W.Frag} {mg : Str → Option Value} {base : Heap}
def isStop (n : Int) (d : D) : Bool := isWhole 0 (n - 1) d
def spStop (K : PySem.W.Frag) : Sp := fun vs H Q _ => ∃ (x : V) (d : D) (as : List Addr) (n : Int), vs = [.int n, x] ∧ Rep K H d x as ∧ Q (.bl (isStop n d)) H
theorem ok_stop {f : Addr} {fd : FuncData} (F : Fun K "is_stop" "is_stop" sStop f fd) (O : Own P w K mg base 1 "is_integer_between" ["value", "least", "most"] (spBetween K)) : FnOk P w K mg base CX0 2 f fd ["n", "value"] (spStop K) := by
  obtain ⟨fB, fdB, GB, mB, kB, bB⟩ := O.ex
  refine F.ok scStop (fun vs H Q E h => ?_) (fun cdv A outer s H vs Q E hr h => ?_)
  · obtain ⟨x, d, as, n, rfl, _⟩ := h
    rfl
  · obtain ⟨x, d, as, n, rfl, hd, k⟩ := h
    refine ⟨_, pss_one (ps_ret (pe_call GB hr rfl mB kB bB .nil pass0 (pa_cons (pv 1) (pa_cons pe_int (pa_cons (pe_op op_sub (pv 0) pe_int) pa_nil))))), ?_⟩
    exact ⟨_, rfl, _, rfl, _, _, rfl, rfl, x, d, as, 0, n - 1, rfl, hd, k⟩
end
end Sw
namespace Sw
open PySem PySem.Spec PyProof.Rows L2
/-! ### tables of sets, of eight places to 512 -/
def orb (m : Nat) : Nat → Nat → List Nat
  | 0, _ => []
  | f + 1, x => x :: orb m f ((x * 5 + 1) % (m + 1))
theorem orb_mem {m : Nat} : ∀ (f b : Nat) {j : Nat}, j ∈ orb m f (lcgN m b) → ∃ c, c < b + f ∧ lcgN m c = j
  | 0, b, j, h => absurd h (by simp [orb])
  | f + 1, b, j, h => by
    rcases List.mem_cons.mp h with z | z
    · exact ⟨b, by omega, z.symm⟩
    · obtain ⟨c, hc, e⟩ := orb_mem f (b + 1) (j := j) z
      exact ⟨c, by omega, e⟩
theorem orb_511 : ((List.range 512).all fun j => (orb 511 512 0).contains j) = true := by decide +kernel
theorem lcg_511 : lcgN 511 512 = 0 := by decide +kernel
structure GoodM (m : Nat) : Prop where
  one : MaskOk m ∨ m = 511
  odd : m % 2 = 1
  le : m ≤ 511
  all : ∀ j, j ≤ m → ∃ b, b ≤ m ∧ lcgN m b = j
  back : lcgN m (m + 1) = 0
theorem good_of {m : Nat} (h : MaskOk m) : GoodM m := ⟨.inl h, mask_odd h, by rcases h with z | z | z <;> omega, fun _ hj => lcg_all h hj, lcg_round h⟩
theorem good_511 : GoodM 511 := by
  refine ⟨.inr rfl, rfl, Nat.le_refl _, fun j hj => ?_, lcg_511⟩
  have h := List.all_eq_true.mp orb_511 j (List.mem_range.mpr (by omega))
  obtain ⟨c, hc, e⟩ := orb_mem 512 0 (List.contains_iff_mem.mp h)
  exact ⟨c, by omega, e⟩
theorem GoodM.again {m : Nat} (g : GoodM m) : ∀ k, lcgN m (m + 1 + k) = lcgN m k
  | 0 => g.back
  | k + 1 => congrArg (fun z => (z * 5 + 1) % (m + 1)) (g.again k)
/-- each place begins a stretch of the way -/
theorem GoodM.starts {m : Nat} (g : GoodM m) (x : Int) {j : Nat} (hj : j ≤ m) : ∃ n, n ≤ m + 12 ∧ runI m (SetTable.bits x) n = j := by
  obtain ⟨a, la, ea⟩ := g.all _ (runI_le m (SetTable.bits x) 12)
  obtain ⟨b, lb, eb⟩ := g.all j hj
  have to : ∀ k, lcgN m (a + k) = j → runI m (SetTable.bits x) (12 + k) = j := fun k z => by
    rw [runI_tail (bits_lt x) k, ← ea, lcgN_add m a k, z]
  by_cases c : a ≤ b
  · exact ⟨12 + (b - a), by omega, to _ (by rw [Nat.add_sub_cancel' c, eb])⟩
  · exact ⟨12 + (m + 1 + b - a), by omega, to _ (by rw [show a + (m + 1 + b - a) = m + 1 + b by omega, g.again b, eb])⟩
theorem GoodM.meets {m : Nat} (g : GoodM m) (x : Int) {j : Nat} (hj : j ≤ m) : ∃ k, k < 10 * SetTable.turns m ∧ way m x k = j := by
  obtain ⟨n, ln, en⟩ := g.starts x hj
  obtain ⟨k, lk, ek⟩ := run_nth m (SetTable.bits x) n
  have lt : SetTable.turns m = m + 15 := rfl
  exact ⟨k, by omega, by show (nth _ _ k).j = j; rw [ek]; exact en⟩
/-- the first place of the way that none has -/
def FirstFree (m : Nat) (l : List Nat) (x : Int) (K : Nat) : Prop := way m x K ∉ l ∧ ∀ k, k < K → way m x k ∈ l
theorem first_of {m : Nat} {l : List Nat} {x : Int} {k : Nat} (h : way m x k ∉ l) : ∃ K, K ≤ k ∧ FirstFree m l x K := by
  obtain ⟨K, a, b, c⟩ := st_least (p := fun z => way m x z ∉ l) k h
  exact ⟨K, a, b, fun k' lk => Classical.byContradiction (c k' lk)⟩
structure TabG (t : SetTable) (hs : List Int) : Prop where
  asc : Ris t.place.toList
  clean : t.dummies = #[]
  size : t.place.size = hs.length
  good : GoodM t.mask
  within : ∀ p ∈ t.place.toList, p ≤ t.mask
  met : ∀ (i : Nat) (x : Int) (j : Nat), hs[i]? = some x → t.place.toList[i]? = some j → ∃ k, way t.mask x k = j ∧ ∀ c, c < k → way t.mask x c ∈ t.place.toList
theorem TabG.free {t : SetTable} {hs : List Int} (T : TabG t hs) (hl : hs.length ≤ t.mask) (x : Int) : ∃ K, K < 10 * SetTable.turns t.mask ∧ FirstFree t.mask t.place.toList x K := by
  have few : t.place.toList.length < t.mask + 1 := by
    have := T.size
    rw [Array.length_toList]
    omega
  obtain ⟨j, lj, nj⟩ := st_missing _ _ few
  obtain ⟨k, lk, ek⟩ := T.good.meets x (Nat.le_of_lt_succ lj)
  obtain ⟨K, lK, F⟩ := first_of (m := t.mask) (l := t.place.toList) (x := x) (k := k) (by rw [ek]; exact nj)
  exact ⟨K, by omega, F⟩
theorem TabG.ahead {t : SetTable} {hs : List Int} (T : TabG t hs) {x : Int} {K i j : Nat} (F : FirstFree t.mask t.place.toList x K) (hi : hs[i]? = some x) (hj : t.place.toList[i]? = some j) : ∃ k, k < K ∧ way t.mask x k = j := by
  obtain ⟨k, e, h⟩ := T.met i x j hi hj
  refine ⟨k, Nat.lt_of_not_le fun c => ?_, e⟩
  rcases Nat.lt_or_eq_of_le c with z | z
  · exact F.1 (h K z)
  · exact F.1 (by rw [z, e]; exact List.mem_of_getElem? hj)
/-- what a table keeps when a place is taken -/
structure TakenG (t t' : SetTable) (n : Nat) : Prop where
  mask : t'.mask = t.mask
  led : t'.led = t.led
  plain : t'.plain = t.plain
  fill : t'.fill = n + 1
theorem TabG.put {t : SetTable} {hs : List Int} (T : TabG t hs) {x : Int} {K : Nat} (F : FirstFree t.mask t.place.toList x K) :
    ∃ p t', t.put (way t.mask x K) = (t', p) ∧ p ≤ hs.length ∧ TabG t' (hs.take p ++ x :: hs.drop p) ∧ TakenG t t' hs.length := by
  obtain ⟨j, ej⟩ : ∃ j, way t.mask x K = j := ⟨_, rfl⟩
  have jm : j ≤ t.mask := by
    rw [← ej]
    have q := nth_in K (runAt t.mask (SetTable.bits x % (t.mask + 1)) (SetTable.bits x)) (m := t.mask) (by
      have h1 : SetTable.bits x % (t.mask + 1) ≤ t.mask := Nat.le_of_lt_succ (Nat.mod_lt _ (Nat.succ_pos _))
      have h2 := runEnd_bd h1
      show SetTable.bits x % (t.mask + 1) + (SetTable.runEnd t.mask (SetTable.bits x % (t.mask + 1)) - SetTable.bits x % (t.mask + 1)) ≤ t.mask
      omega)
    exact Nat.le_trans (Nat.le_add_right _ _) q
  have nj : j ∉ t.place.toList := ej ▸ F.1
  rw [ej]
  have lp : SetTable.below t.place j ≤ hs.length := by
    rw [← T.size]
    exact (below_cut T.asc j).1
  have lq : SetTable.below t.place j ≤ t.place.toList.length := by
    rw [Array.length_toList, T.size]
    exact lp
  have pl := put_place t j
  have sz : (t.put j).1.place.size = hs.length + 1 := by
    rw [← Array.length_toList, pl, len_ins _ lq, Array.length_toList, T.size]
  have keep : ∀ {z : Nat}, z ∈ t.place.toList → z ∈ (t.put j).1.place.toList := fun h => by
    rw [pl]
    exact mem_ins.mpr (.inr h)
  refine ⟨SetTable.below t.place j, (t.put j).1, rfl, lp, ⟨?asc, put_dm T.clean j, ?size, T.good, fun z hz => ?within, fun i y c hi hc => ?met⟩, rfl, rfl, rfl, ?fill⟩
  case asc => exact ris_insert T.asc fun e => nj (List.mem_of_getElem? ((Array.getElem?_toList ..).trans e))
  case size => rw [len_ins _ lp, sz]
  case within =>
    rw [pl, mem_ins] at hz
    rcases hz with rfl | hz
    · exact jm
    · exact T.within _ hz
  case fill =>
    have d := put_dm T.clean j
    show (t.put j).1.place.size + (t.put j).1.dummies.size = _
    rw [sz, d]
    rfl
  case met =>
    show ∃ k, way t.mask y k = c ∧ ∀ c', c' < k → way t.mask y c' ∈ (t.put j).1.place.toList
    have old : ∀ i', hs[i']? = some y → t.place.toList[i']? = some c → ∃ k, way t.mask y k = c ∧ ∀ c', c' < k → way t.mask y c' ∈ (t.put j).1.place.toList := fun i' a b => by
      obtain ⟨k, e, h⟩ := T.met i' y c a b
      exact ⟨k, e, fun c' l => keep (h c' l)⟩
    rw [tins_get hs lp] at hi
    rw [pl, tins_get _ lq] at hc
    by_cases c1 : i < SetTable.below t.place j
    · rw [if_pos c1] at hi hc
      exact old i hi hc
    · rw [if_neg c1] at hi hc
      by_cases c2 : i = SetTable.below t.place j
      · rw [if_pos c2] at hi hc
        cases hi
        cases hc
        exact ⟨K, ej, fun c' l => keep (F.2 c' l)⟩
      · rw [if_neg c2] at hi hc
        exact old _ hi hc
/-! ### all laid anew -/
theorem seat {m : Nat} (g : GoodM m) (owner : Array (Option Nat)) (x : Int) {j : Nat} (hj : j ≤ m) (hf : oAt owner j = none) :
    ∃ K, SetTable.layClean.free m owner (SetTable.turns m) (SetTable.bits x % (m + 1)) (SetTable.bits x) = some (way m x K) ∧ oAt owner (way m x K) = none ∧ ∀ k, k < K → oAt owner (way m x k) ≠ none := by
  obtain ⟨n, ln, en⟩ := g.starts x hj
  have atN : way m x (off m (SetTable.bits x % (m + 1)) (SetTable.bits x) n) = j := by
    have q := nth_off m n (SetTable.bits x % (m + 1)) (SetTable.bits x)
    rw [itL_run] at q
    exact (congrArg SetTable.Probe.j q).trans en
  obtain ⟨K, lK, fK, bK⟩ := st_least (p := fun z => oAt owner (way m x z) = none) _ (by show oAt owner (way m x _) = none; rw [atN]; exact hf)
  have lt : SetTable.turns m = m + 15 := rfl
  refine ⟨K, free_spec m owner _ n _ _ K (by omega) lK (fun k hk => ?_) (by show (oAt owner (way m x K)).isNone = true; rw [fK]; rfl), fK, bK⟩
  have q := bK k hk
  show (oAt owner (way m x k)).isNone = false
  cases z : oAt owner (way m x k) with
  | none => exact absurd z q
  | some _ => rfl
theorem way_in {m : Nat} {x : Int} (K : Nat) : way m x K ≤ m := by
  have h1 : SetTable.bits x % (m + 1) ≤ m := Nat.le_of_lt_succ (Nat.mod_lt _ (Nat.succ_pos _))
  have h2 := runEnd_bd h1
  refine Nat.le_trans (Nat.le_add_right _ _) (nth_in K (runAt m (SetTable.bits x % (m + 1)) (SetTable.bits x)) ?_)
  show SetTable.bits x % (m + 1) + (SetTable.runEnd m (SetTable.bits x % (m + 1)) - SetTable.bits x % (m + 1)) ≤ m
  omega
theorem seat_one {m : Nat} (g : GoodM m) {done : List Int} {owner : Array (Option Nat)} (W : L2.Own m done owner) (hl : done.length ≤ m) (x : Int) :
    ∃ owner', stepF m (some (owner, done.length)) x = some (owner', done.length + 1) ∧ L2.Own m (done ++ [x]) owner' := by
  obtain ⟨ps, lps, hps⟩ := W.ps
  obtain ⟨j, lj, nj⟩ := st_missing ps (m + 1) (by omega)
  have fj : oAt owner j = none := Classical.byContradiction fun z => nj (hps j (by omega) z)
  obtain ⟨K, e, fK, bK⟩ := seat g owner x (Nat.le_of_lt_succ lj) fj
  generalize ew : way m x K = p at e fK
  have lp : p ≤ m := ew ▸ way_in K
  have sp : p < owner.size := by
    rw [W.sz]
    omega
  have here : oAt (owner.setIfInBounds p (some done.length)) p = some done.length := oAt_set_self _ sp
  have else_ : ∀ i, i ≠ p → oAt (owner.setIfInBounds p (some done.length)) i = oAt owner i := fun i h => oAt_set_ne _ h
  have grow : ∀ i, oAt owner i ≠ none → oAt (owner.setIfInBounds p (some done.length)) i ≠ none := fun i h => by
    by_cases c : i = p
    · subst c; rw [here]; exact nofun
    · rw [else_ i c]; exact h
  refine ⟨_, stepF_some e, ?_⟩
  have sw : (owner.setIfInBounds p (some done.length)).size = m + 1 := by
    rw [Array.size_setIfInBounds, W.sz]
  generalize owner.setIfInBounds p (some done.length) = ow at here else_ grow sw
  refine ⟨sw, fun i k hi hk => ?_, fun k hk => ?_, p :: ps, by simp [lps], fun i hi hn => ?_⟩
  · by_cases c : i = p
    · subst c
      rw [here] at hk
      cases hk
      exact ⟨x, K, List.getElem?_concat_length, ew, fun c hc => grow _ (bK c hc)⟩
    · rw [else_ i c] at hk
      obtain ⟨y, k', h1, h2, h3⟩ := W.at_ i k hi hk
      refine ⟨y, k', ?_, h2, fun c hc => grow _ (h3 c hc)⟩
      rw [List.getElem?_append_left (List.getElem?_eq_some_iff.mp h1).1, h1]
  · by_cases c : k = done.length
    · subst c
      exact ⟨p, lp, here⟩
    · obtain ⟨i, hi, e'⟩ := W.all k (by rw [List.length_append, List.length_singleton] at hk; omega)
      refine ⟨i, hi, ?_⟩
      rw [else_ i fun z => ?_]
      · exact e'
      · rw [z, fK] at e'
        cases e'
  · by_cases c : i = p
    · exact c ▸ List.mem_cons_self ..
    · rw [else_ i c] at hn
      exact List.mem_cons_of_mem _ (hps i hi hn)
theorem seat_all {m : Nat} (g : GoodM m) : ∀ (xs done : List Int) (owner : Array (Option Nat)), L2.Own m done owner → done.length + xs.length ≤ m →
    ∃ ow, xs.foldl (stepF m) (some (owner, done.length)) = some (ow, done.length + xs.length) ∧ L2.Own m (done ++ xs) ow
  | [], done, owner, W, _ => ⟨owner, rfl, by rw [List.append_nil]; exact W⟩
  | x :: xs, done, owner, W, hl => by
    rw [List.length_cons] at hl
    obtain ⟨o1, e1, W1⟩ := seat_one g W (by omega) x
    have l1 : (done ++ [x]).length = done.length + 1 := List.length_append
    obtain ⟨o2, e2, W2⟩ := seat_all g xs (done ++ [x]) o1 W1 (by omega)
    refine ⟨o2, ?_, by simpa using W2⟩
    rw [l1] at e2
    rw [List.foldl_cons, e1, e2, List.length_cons]
    congr 2
    omega
/-- the table laid anew for a mask M -/
theorem lay_anew (t : SetTable) {hs : Array Int} {wanted M : Nat} (hw : SetTable.sizeAbove wanted - 1 = M) (g : GoodM M) (hn : hs.size ≤ M) :
    ∃ t' order, t.relaid hs wanted = some (t', order) ∧ order.toList.Perm (List.range hs.size) ∧ TabG t' (order.toList.map fun i => hs.getD i 0) ∧ t'.mask = M ∧ t'.led = t.led ∧ t'.plain = t.plain := by
  obtain ⟨ow, e, W⟩ := seat_all g hs.toList [] (Array.replicate (M + 1) none) (.init M) (by rw [Array.length_toList]; simpa using hn)
  have eo : SetTable.layClean M hs = some ow := by
    rw [layClean_eq]
    exact congrArg (Option.map Prod.fst) e
  rw [List.nil_append] at W
  have er : t.relaid hs wanted = some (tabOf t M ow, ((liveOf M ow).map (·.2)).toArray) := by
    rw [relaid_eq, hw, eo]
    rfl
  obtain ⟨up, sub⟩ := ris_live (fun j => ow.getD j none) (List.range (M + 1)) List.pairwise_lt_range
  change Ris ((liveOf M ow).map (·.1)) at up
  change ∀ x ∈ (liveOf M ow).map (·.1), _ at sub
  have live : ∀ {j k : Nat}, (j, k) ∈ liveOf M ow ↔ j ≤ M ∧ oAt ow j = some k := mem_live W.sz
  have every : ∀ k, k < hs.size → k ∈ (liveOf M ow).map (·.2) := fun k hk => by
    obtain ⟨j, a, b⟩ := W.all k (by simpa using hk)
    exact List.mem_map.mpr ⟨_, live.mpr ⟨a, b⟩, rfl⟩
  have many : (liveOf M ow).length = hs.size := by
    obtain ⟨ps, p1, p2⟩ := W.ps
    have a := nat_nodup_len _ ps (up.imp fun {_ _} z => Nat.ne_of_lt z) fun y hy => by
      obtain ⟨⟨j, k⟩, hq, rfl⟩ := List.mem_map.mp hy
      obtain ⟨b1, b2⟩ := live.mp hq
      exact p2 j b1 (by rw [b2]; exact nofun)
    have b := nat_nodup_len (List.range hs.size) _ List.nodup_range fun k hk => every k (List.mem_range.mp hk)
    rw [List.length_map] at a b
    rw [List.length_range] at b
    have q1 : ps.length = hs.size := by simpa using p1
    have q2 : ps.length ≥ (liveOf M ow).length := a
    exact Nat.le_antisymm (q1 ▸ q2) b
  refine ⟨_, _, er, perm_range _ _ (by rw [← many]; exact List.length_map ..) every, ⟨up, rfl, ?_, g, fun y hy => Nat.le_of_lt_succ (List.mem_range.mp (sub y hy)), fun i x j hi hj => ?_⟩, rfl, rfl, rfl⟩
  · show ((liveOf M ow).map (·.1)).toArray.size = (((liveOf M ow).map (·.2)).map _).length
    simp
  · change (((liveOf M ow).map (·.2)).map fun i => hs.getD i 0)[i]? = some x at hi
    change ((liveOf M ow).map (·.1))[i]? = some j at hj
    rw [List.map_map, List.getElem?_map, Option.map_eq_some_iff] at hi
    obtain ⟨⟨j', k⟩, hq, ex⟩ := hi
    rw [List.getElem?_map, hq] at hj
    obtain rfl : j' = j := Option.some.inj hj
    obtain ⟨b1, b2⟩ := live.mp (List.mem_of_getElem? hq)
    obtain ⟨y, K, c1, c2, c3⟩ := W.at_ _ _ b1 b2
    have exy : y = x := by
      rw [← ex]
      show y = hs.getD k 0
      rw [Array.getD_eq_getD_getElem?, ← Array.getElem?_toList, c1]
      rfl
    subst exy
    refine ⟨K, c2, fun c lc => ?_⟩
    show way M y c ∈ (liveOf M ow).map (·.1)
    cases z : oAt ow (way M y c) with
    | none => exact absurd z (c3 c lc)
    | some k' => exact List.mem_map.mpr ⟨_, live.mpr ⟨way_in c, z⟩, rfl⟩
end Sw
namespace Sw
open PySem PySem.Spec PyProof.Rows L2
section
variable {P : Program} {w : World} {A : Around} {E : Value → Shared → Prop} {s : Shared}
/-! ### sets of tuples of ints, up to 306 -/
structure SetG (P : Program) (w : World) (h : Heap) (a : Addr) (L : List (Addr × List Int)) (es : Array (Int × Value)) (ep : Nat) (t : SetTable) : Prop where
  there : ∃ o, h.get? a = some o ∧ o.ExactSet ∧ o.data = .set es ep t
  rows : es.toList = rowsOf P w L
  tab : TabG t (L.map fun p => thash P w p.2)
  nd : (L.map (·.2)).Nodup
  tup : ∀ p ∈ L, IsT P w h p.2 p.1
  plain : t.plain = true
  led : w.params.followText "set-order" = true ∨ t.led = true
  room : L.length * 5 < t.mask * 3
variable {a : Addr} {L : List (Addr × List Int)} {es : Array (Int × Value)} {ep : Nat} {t : SetTable}
theorem rows_len (h : es.toList = rowsOf P w L) : es.size = L.length := by
  rw [← Array.length_toList, h]
  exact List.length_map ..
theorem SetG.few (R : SetG P w s.heap a L es ep t) : L.length ≤ 306 := by
  have := R.room
  have := R.tab.good.le
  omega
theorem SetG.fits (R : SetG P w s.heap a L es ep t) : t.fits es.size = true := by
  have a1 : t.place.size = L.length := R.tab.size.trans (List.length_map ..)
  have a2 := rows_len R.rows
  have a3 := R.room
  simp only [SetTable.fits, SetTable.fill, R.tab.clean, Bool.and_eq_true, beq_iff_eq, decide_eq_true_eq]
  exact ⟨a1.trans a2.symm, by simp; omega⟩
theorem SetG.row (R : SetG P w s.heap a L es ep t) {i : Nat} {p : Addr × List Int} (h : L[i]? = some p) : es[i]? = some (thash P w p.2, Value.ref p.1) := by
  have z : es.toList[i]? = some (thash P w p.2, Value.ref p.1) := by
    rw [R.rows]
    simp only [rowsOf, List.getElem?_map, h, Option.map_some]
  simpa using z
theorem SetG.stays (R : SetG P w s.heap a L es ep t) : (t.gaveWay = true) = False := by
  have h := R.tab.good.odd
  simp [SetTable.gaveWay, h]
/-- the c-th look at a table for a hash -/
def lookAt (m : Nat) (q : Int) (c : Nat) : SetTable.Probe := nth m (runAt m (SetTable.bits q % (m + 1)) (SetTable.bits q)) c
theorem lookAt_add (m : Nat) (q : Int) (c d : Nat) : nth m (lookAt m q c) d = lookAt m q (c + d) := (nth_add m c _ d).symm
theorem lookAt_dummy (m : Nat) (q : Int) (c : Nat) : (lookAt m q c).dummy = none := by
  induction c with
  | zero => rfl
  | succ c ih =>
    rw [← lookAt_add m q c 1]
    show (adv m (lookAt m q c)).dummy = none
    unfold adv
    split <;> exact ih
theorem look_on (R : SetG P w s.heap a L es ep t) {x : Addr} {k : List Int} (hx : IsT P w s.heap k x) (hu : A.units < cLine) {ad : Bool} {K : Nat} (lK : K < 10 * SetTable.turns t.mask) (F : FirstFree t.mask t.place.toList (thash P w k) K)
    {Q : SetFound → Shared → Prop} (yes : k ∈ L.map (·.2) → ∀ r : Option Nat, (ad = false → r.isSome = true) → Q (.there r) s) (no : k ∉ L.map (·.2) → Q (.free (way t.mask (thash P w k) K) false) s) :
    ∀ (f c : Nat) (stand : Option SetTable.Probe), stand.getD (t.probeStart (thash P w k)) = lookAt t.mask (thash P w k) c → c ≤ K → K < f + c →
      (∀ (i : Nat) (p : Addr × List Int), L[i]? = some p → p.2 = k → ∃ d, c ≤ d ∧ d < K ∧ t.place.toList[i]? = some (way t.mask (thash P w k) d)) →
      wpAny (model P w) A (setSearchFrom a (.ref x) (thash P w k) ad f stand) Q E s
  | 0, c, _, _, lc, lf, _ => absurd lf (by omega)
  | f + 1, c, stand, est, lc, lf, still => by
    generalize eq : thash P w k = q at *
    obtain ⟨ob, obAt, obEx, obDat⟩ := R.there
    rw [setSearchFrom_succ]
    refine wpAny_bind (wpAny_setState_of obAt obDat R.fits ?_)
    dsimp only
    refine wp_if_neg (by rw [R.stays]; exact id) ?_
    try refine wpAny_bind (wpAny_pure ?_)
    have place : ∀ d, (nth t.mask (lookAt t.mask q c) d).j = way t.mask q (c + d) := fun d => congrArg SetTable.Probe.j (lookAt_add t.mask q c d)
    have hash : ∀ (i : Nat) (p : Addr × List Int), L[i]? = some p → (es[i]?.map (·.1)).getD 0 = thash P w p.2 := fun i p hp => by
      rw [R.row hp]
      rfl
    have answer := go_spec t R.tab.asc R.tab.clean (fun i => (es[i]?.map (·.1)).getD 0) q (10 * SetTable.turns t.mask) (K - c) _ (lookAt_dummy t.mask q c) (by omega)
      (fun d hd => by rw [place d]; exact F.2 _ (by omega)) (by rw [place, Nat.add_sub_cancel' lc]; exact F.1)
    rw [← est] at answer
    rcases answer with ⟨d, i, ld, hi, hh, before, pr⟩ | ⟨before, pr⟩
    case inr =>
      rw [est, place, Nat.add_sub_cancel' lc, ← est] at pr
      have pr' : t.probe (fun i => (es[i]?.map (·.1)).getD 0) q (stand.getD (t.probeStart q)) = some (.empty (way t.mask q K) none) := pr
      rw [pr']
      dsimp only
      refine wpAny_pure (no fun mem => ?_)
      obtain ⟨p, hp, ek⟩ := List.mem_map.mp mem
      obtain ⟨i, hi⟩ := List.mem_iff_getElem?.mp hp
      obtain ⟨d, cd, dK, hd⟩ := still i p hi ek
      refine before (d - c) i (by omega) ?_ ?_
      · rw [est, place, Nat.add_sub_cancel' cd]
        exact hd
      · show (es[i]?.map (·.1)).getD 0 = q
        rw [hash i p hi, ek, eq]
    case inl =>
      have en : nth t.mask (stand.getD (t.probeStart q)) (d + 1) = lookAt t.mask q (c + (d + 1)) := by rw [est]; exact lookAt_add ..
      have ej : (nth t.mask (stand.getD (t.probeStart q)) d).j = way t.mask q (c + d) := by rw [est]; exact place d
      rw [en, ej] at pr
      rw [ej] at hi
      have pr' : t.probe (fun i => (es[i]?.map (·.1)).getD 0) q (stand.getD (t.probeStart q)) = some (.candidate (way t.mask q (c + d)) i (lookAt t.mask q (c + (d + 1)))) := pr
      rw [pr']
      dsimp only
      have il : i < L.length := by
        have a1 := (List.getElem?_eq_some_iff.mp hi).1
        have a2 : t.place.size = L.length := R.tab.size.trans (List.length_map ..)
        rw [Array.length_toList, a2] at a1
        exact a1
      obtain ⟨p, hp⟩ : ∃ p, L[i]? = some p := ⟨_, List.getElem?_eq_getElem il⟩
      have mp := List.mem_of_getElem? hp
      have live : t.slot (way t.mask q (c + d)) = .live i := slot_live R.tab.asc hi
      have go : wpAny (model P w) A (searchRest a (.ref x) q ad f es t (way t.mask q (c + d)) i (lookAt t.mask q (c + (d + 1)))) Q E s := by
        unfold searchRest
        rw [R.row hp]
        dsimp only
        refine wpAny_bind (wpAny_holding (wpAny_eqBool_tuple hu (R.tup p mp) hx ?_))
        refine wpAny_bind (wpAny_setState_of obAt obDat R.fits ?_)
        dsimp only
        by_cases same : p.2 = k
        · have inL : k ∈ L.map (·.2) := List.mem_map.mpr ⟨p, mp, same⟩
          cases ad with
          | true =>
            refine wp_if_pos (by simp [same]) ?_
            exact wpAny_pure (yes inL none nofun)
          | false =>
            refine wp_if_neg (by simp) ?_
            try refine wpAny_bind (wpAny_pure ?_)
            rw [sameMem]
            dsimp only
            simp only [if_true, live, R.row hp]
            refine wpAny_bind (wpAny_isSame_ref_self (wpAny_bind (wpAny_pure ?_)))
            simp only [if_true]
            refine wp_if_pos (by simp [same]) ?_
            exact wpAny_pure (yes inL _ fun _ => rfl)
        · refine wp_if_neg (by simp [same]) ?_
          try refine wpAny_bind (wpAny_pure ?_)
          rw [sameMem]
          dsimp only
          simp only [if_true, live, R.row hp]
          refine wpAny_bind (wpAny_isSame_ref_self (wpAny_bind (wpAny_pure ?_)))
          simp only [if_true]
          refine wp_if_neg (by simp [same]) ?_
          subst eq
          refine look_on R hx hu lK F yes no f (c + (d + 1)) _ rfl (by omega) (by omega) fun i' p' hi' ek => ?_
          obtain ⟨d', cd, dK, hd⟩ := still i' p' hi' ek
          refine ⟨d', Nat.lt_of_not_le fun z => ?_, dK, hd⟩
          have z : d' ≤ c + d := z
          rcases Nat.lt_or_eq_of_le z with z | z
          · refine before (d' - c) i' (by omega) ?_ ?_
            · rw [est, place, Nat.add_sub_cancel' cd]
              exact hd
            · show (es[i']?.map (·.1)).getD 0 = thash P w k
              rw [hash i' p' hi', ek]
          · rw [z] at hd
            have l2 := slot_live R.tab.asc hd
            rw [live] at l2
            injection l2 with l2
            rw [← l2, hp] at hi'
            cases hi'
            exact same ek
      by_cases led : t.led = true
      · refine wp_if_neg (by simp [led]) ?_
        try refine wpAny_bind (wpAny_pure ?_)
        exact go
      · refine wp_if_pos (by simp [led]) ?_
        refine wpAny_bind (seen_tup hx (fun y hy => ?_) ?_)
        · obtain ⟨e, he, rfl⟩ := List.mem_map.mp hy
          have he2 : e ∈ es.toList := by
            have z : e ∈ es ∧ e.1 = q := by simpa using he
            simpa using z.1
          rw [R.rows] at he2
          obtain ⟨p2, hp2, rfl⟩ := List.mem_map.mp he2
          exact ⟨_, _, rfl, R.tup p2 hp2⟩
        · refine wp_if_neg (by decide) ?_
          try refine wpAny_bind (wpAny_pure ?_)
          exact go
/-- a look for a tuple, to add it or to ask for it -/
theorem look_for (R : SetG P w s.heap a L es ep t) {x : Addr} {k : List Int} (hx : IsT P w s.heap k x) (hu : A.units < cLine) {ad : Bool}
    {Q : SetFound → Shared → Prop} (yes : k ∈ L.map (·.2) → ∀ r : Option Nat, (ad = false → r.isSome = true) → Q (.there r) s)
    (no : ∀ K, k ∉ L.map (·.2) → FirstFree t.mask t.place.toList (thash P w k) K → Q (.free (way t.mask (thash P w k) K) false) s) :
    wpAny (model P w) A (setSearch a (.ref x) (thash P w k) ad) Q E s := by
  have a1 := R.room
  have a2 := R.tab.good.le
  obtain ⟨K, lK, F⟩ := R.tab.free (by rw [List.length_map]; omega) (thash P w k)
  have a3 : SetTable.turns t.mask = t.mask + 15 := rfl
  refine look_on R hx hu lK F yes (fun n => no K n F) 100000 0 none rfl (Nat.zero_le _) (by omega) fun i p hp ek => ?_
  have h1 : (L.map fun p => thash P w p.2)[i]? = some (thash P w k) := by rw [List.getElem?_map, hp, ← ek]; rfl
  have il : i < t.place.toList.length := by
    rw [Array.length_toList, R.tab.size]
    exact (List.getElem?_eq_some_iff.mp h1).1
  obtain ⟨d, ld, ed⟩ := R.tab.ahead F h1 (List.getElem?_eq_getElem il)
  exact ⟨d, Nat.zero_le _, ld, by rw [ed]; exact List.getElem?_eq_getElem il⟩
end
end Sw
namespace Sw
open PySem PySem.Spec PyProof.Rows L2
section
variable {P : Program} {w : World} {A : Around} {E : Value → Shared → Prop} {s : Shared}
variable {a : Addr} {L : List (Addr × List Int)} {es : Array (Int × Value)} {ep : Nat} {t : SetTable}
theorem grow_512 : SetTable.sizeAbove (SetTable.grown 77) = 512 := by decide +kernel
/-- a set is laid anew in a greater table -/
theorem set_greater {o : Obj} (oAt : s.heap.get? a = some o) (oEx : o.ExactSet) (oDat : o.data = .set es ep t) (rows : es.toList = rowsOf P w L) (fit : t.fits es.size = true)
    (nd : (L.map (·.2)).Nodup) (tup : ∀ p ∈ L, IsT P w s.heap p.2 p.1) (pl : t.plain = true) (ld : w.params.followText "set-order" = true ∨ t.led = true) {wanted M : Nat}
    (hw : SetTable.sizeAbove wanted - 1 = M) (g : GoodM M) (room : L.length * 5 < M * 3) {Q : Unit → Shared → Prop}
    (then_ : ∀ h' L' es' ep' t', Heap.SameBut a s.heap h' → SetG P w h' a L' es' ep' t' → L'.Perm L → Q () { s with heap := h' }) : wpAny (model P w) A (setRelay a wanted) Q E s := by
  have size := rows_len rows
  have top := g.le
  obtain ⟨t', order, er, pm, T, eM, eL, eP⟩ := lay_anew t (hs := es.map (·.1)) hw g (by rw [Array.size_map, size]; omega)
  rw [Array.size_map, size] at pm
  obtain ⟨L', r1, r2, r3⟩ := order_rows L es order rows pm
  rw [← r3] at T
  have size' : (order.filterMap (es[·]?)).size = es.size := by rw [rows_len r1, r2.length_eq, size]
  rw [setRelay_eq]
  refine wpAny_bind (wpAny_setState_of oAt oDat fit ?_)
  dsimp only
  refine wp_if_neg (by have := sizeLine_eq; omega) ?_
  try refine wpAny_bind (wpAny_pure ?_)
  rw [er]
  dsimp only
  refine wpAny_bind (wp_if_neg (by simp [size']) ?_)
  try refine wpAny_bind (wpAny_pure ?_)
  refine wpAny_pure ?_
  dsimp only
  have keep : Heap.SameBut a s.heap (s.heap.update a (Obj.putSet (order.filterMap (es[·]?)) t')) := .update ..
  refine wpAny_storeSet_of oAt oDat (then_ _ L' _ (ep + 1) t' keep ⟨⟨_, store_at oAt oDat, ⟨oEx.1, oEx.2.1, oEx.2.2⟩, rfl⟩, r1, T, ?_, fun p hp => ?_, eP.trans pl, eL ▸ ld, ?_⟩ r2) ?_
  · exact (r2.map _).nodup_iff.mpr nd
  · exact isT_same (tup p (r2.mem_iff.mp hp)) oAt oDat keep
  · rw [r2.length_eq, eM]
    exact room
  · have := sizeLine_eq
    omega
/-- a tuple comes to a set -/
theorem set_adds (R : SetG P w s.heap a L es ep t) {x : Addr} {k : List Int} (hx : IsT P w s.heap k x) (hu : A.units < cLine) (few : L.length + 1 ≤ 306) {Q : Bool → Shared → Prop}
    (then_ : ∀ b h' L' es' ep' t', Heap.SameBut a s.heap h' → SetG P w h' a L' es' ep' t' → (k ∈ L.map (·.2) → L' = L) → (k ∉ L.map (·.2) → L'.Perm ((x, k) :: L)) → Q b { s with heap := h' }) :
    wpAny (model P w) A (setAddHashed a (.ref x) (thash P w k)) Q E s := by
  obtain ⟨ob, obAt, obEx, obDat⟩ := R.there
  have size := rows_len R.rows
  have room := R.room
  unfold setAddHashed
  refine wpAny_holding ?_
  show wpAny _ _ (setAddHashedIn a (.ref x) (thash P w k) (99999 + 1)) _ _ _
  rw [setAddHashedIn_succ]
  refine wpAny_bind (wpAny_setState_of obAt obDat R.fits ?_)
  dsimp only
  refine wp_if_neg (by unfold byScan Value.scannable; simp) ?_
  try refine wpAny_bind (wpAny_pure ?_)
  refine wpAny_bind (look_for R hx hu (fun inL r _ => ?_) fun K outL F => ?_)
  · dsimp only
    exact wpAny_pure (then_ false s.heap L es ep t (.refl a s.heap) R (fun _ => rfl) fun z => absurd inL z)
  dsimp only
  refine wpAny_bind (wpAny_setState_of obAt obDat R.fits ?_)
  dsimp only
  obtain ⟨p, t1, ep1, lp, T1, G1⟩ := R.tab.put F
  rw [ep1]
  dsimp only
  have pl1 : t1.plain = true := G1.plain.trans R.plain
  first
    | (refine wpAny_bind ?_; refine wp_if_pos pl1 ?_; refine hashBy_tup hx ?_)
    | refine wp_if_pos pl1 (wpAny_bind (hashBy_tup hx ?_))
  simp only [if_true]
  have rows1 : (SetTable.insertAt es p (thash P w k, Value.ref x)).toList = rowsOf P w (L.take p ++ (x, k) :: L.drop p) := by
    rw [rows_put, SetTable.toList_insertAt, R.rows]
  have pm := put_perm L p (x, k)
  have hs1 : (L.take p ++ (x, k) :: L.drop p).map (fun q => thash P w q.2) = (L.map fun q => thash P w q.2).take p ++ thash P w k :: (L.map fun q => thash P w q.2).drop p := by simp
  rw [← hs1] at T1
  have size1 := rows_len rows1
  rw [pm.length_eq, List.length_cons] at size1
  generalize SetTable.insertAt es p (thash P w k, Value.ref x) = es1 at rows1 size1 ⊢
  generalize L.take p ++ (x, k) :: L.drop p = L1 at pm rows1 T1
  have nd1 : (L1.map (·.2)).Nodup := (pm.map _).nodup_iff.mpr (List.nodup_cons.mpr ⟨outL, R.nd⟩)
  refine wpAny_bind (wpAny_storeSet_of obAt obDat ?_ (by have := sizeLine_eq; omega))
  have keep : Heap.SameBut a s.heap (s.heap.update a (Obj.putSet es1 t1)) := .update ..
  have at1 := store_at (es' := es1) (t' := t1) obAt obDat
  generalize s.heap.update a (Obj.putSet es1 t1) = h1 at keep at1 ⊢
  have tup1 : ∀ q ∈ L1, IsT P w h1 q.2 q.1 := fun q hq => by
    rcases List.mem_cons.mp (pm.mem_iff.mp hq) with rfl | hq
    · exact isT_same hx obAt obDat keep
    · exact isT_same (R.tup q hq) obAt obDat keep
  have ld1 : w.params.followText "set-order" = true ∨ t1.led = true := G1.led ▸ R.led
  have len1 : L1.length = L.length + 1 := pm.length_eq
  have ts : t1.place.size = L1.length := T1.size.trans (List.length_map ..)
  have full : t1.tooFull = decide ((L.length + 1) * 5 ≥ t.mask * 3) := by
    unfold SetTable.tooFull
    rw [G1.fill, G1.mask, List.length_map]
  by_cases hf : t1.tooFull = true
  · first
      | (refine wpAny_bind ?_; refine wp_if_pos (by simp [hf]) ?_)
      | (refine wp_if_pos (by simp [hf]) ?_; refine wpAny_bind ?_)
    have hf' : (L.length + 1) * 5 ≥ t.mask * 3 := by
      rw [full] at hf
      exact of_decide_eq_true hf
    rw [size]
    have fit1 : t1.fits es1.size = true := by
      simp only [SetTable.fits, G1.fill, Bool.and_eq_true, beq_iff_eq, decide_eq_true_eq, List.length_map, G1.mask]
      have := R.tab.good.odd
      exact ⟨by omega, by omega⟩
    have next : ∀ M, SetTable.sizeAbove (SetTable.grown (L.length + 1)) = M + 1 → GoodM M → (L.length + 1) * 5 < M * 3 →
        wpAny (model P w) A (setRelay a (SetTable.grown (L.length + 1))) (fun _ s' => wpAny (model P w) A (pure true) Q E s') E { s with heap := h1 } := fun M e g r => by
      refine set_greater (s := { s with heap := h1 }) at1 ⟨obEx.1, obEx.2.1, obEx.2.2⟩ rfl rows1 fit1 nd1 tup1 pl1 ld1 (M := M) (by omega) g (by omega) fun h2 L2 es2 ep2 t2 k2 R2 pm2 => ?_
      exact wpAny_pure (then_ true h2 L2 es2 ep2 t2 (keep.trans k2) R2 (fun z => absurd z outL) fun _ => pm2.trans pm)
    rcases R.tab.good.one with (e | e | e) | e
    · have l4 : L.length = 4 := by rw [e] at hf' room; omega
      exact next 31 (by rw [l4]; exact size_20) (good_of (.inr (.inl rfl))) (by omega)
    · have l18 : L.length = 18 := by rw [e] at hf' room; omega
      exact next 127 (by rw [l18]; exact size_76) (good_of (.inr (.inr rfl))) (by omega)
    · have l76 : L.length = 76 := by rw [e] at hf' room; omega
      exact next 511 (by rw [l76]; exact grow_512) good_511 (by omega)
    · rw [e] at hf'
      omega
  · first
      | refine wp_if_neg (by simp [hf]) ?_
      | (refine wpAny_bind ?_; refine wp_if_neg (by simp [hf]) ?_; refine wpAny_pure ?_)
    refine wpAny_pure (then_ true h1 L1 es1 (ep + 1) t1 keep ⟨⟨_, at1, ⟨obEx.1, obEx.2.1, obEx.2.2⟩, rfl⟩, rows1, T1, nd1, tup1, pl1, ld1, ?_⟩ (fun z => absurd z outL) fun _ => pm)
    rw [full, decide_eq_true_eq] at hf
    rw [G1.mask]
    omega
theorem SetG.keep {h h' : Heap} (R : SetG P w h a L es ep t) (ha : ∀ o, h.get? a = some o → h'.get? a = some o) (ht : ∀ p ∈ L, IsT P w h' p.2 p.1) : SetG P w h' a L es ep t := by
  obtain ⟨o, h1, h2⟩ := R.there
  exact ⟨⟨o, ha o h1, h2⟩, R.rows, R.tab, R.nd, ht, R.plain, R.led, R.room⟩
/-- the object of a set just made -/
abbrev newSetO (w : World) : Obj := { cls := .type "set", dict := none, data := .set #[] 0 (.fresh 0 0 (!w.params.followText "set-order")) }
theorem setG_new {h : Heap} (ho : h.get? a = some (newSetO w)) : SetG P w h a [] #[] 0 (.fresh 0 0 (!w.params.followText "set-order")) where
  there := ⟨_, ho, ⟨rfl, rfl, rfl⟩, rfl⟩
  rows := rfl
  tab := ⟨.nil, rfl, rfl, good_of (.inl rfl), nofun, fun i x j hi => by simp at hi⟩
  nd := .nil
  tup := nofun
  plain := rfl
  led := by
    cases e : w.params.followText "set-order"
    · exact .inr rfl
    · exact .inl rfl
  room := by
    show 0 * 5 < 7 * 3
    omega
/-- set.update, item by item -/
theorem set_takes {I : Addr} {fp wr : List Addr} {G : Array GenState → Array GenState → Prop} {n : Nat} {Pv : Nat → Value → Prop} {St : Nat → Shared → Prop} {R : Result → Shared → Prop}
    (W : WalksS P w A.in1 I fp wr G n Pv St) (S : Addr) (hSf : S ∉ fp) (ks : List (Addr × List Int)) (hn : n = ks.length) (few : ks.length ≤ 306) (each : ∀ i v, Pv i v → ∃ p, ks[i]? = some p ∧ v = .ref p.1)
    (h0 : Heap) (hk : ∀ p ∈ ks, IsT P w h0 p.2 p.1) (hS0 : h0.get? S = none) (hw0 : ∀ b ∈ wr, h0.get? b = none) (hu : A.in1.units < cLine) :
    ∀ (k i : Nat) (s : Shared), i + k = n → St i s → (∀ b o, h0.get? b = some o → s.heap.get? b = some o) → (∃ L es ep t, SetG P w s.heap S L es ep t ∧ Got ks i L) →
      (∀ s' L es ep t, Moved (S :: wr) G s s' → SetG P w s'.heap S L es ep t → Got ks n L → (∀ b o, h0.get? b = some o → s'.heap.get? b = some o) → R (.ok (.ret .none)) s') →
      codeAny (model P w) A (.builtin "set.update.loop" ⟨[.ref S, .ref I], []⟩) R s := by
  have outW : S ∉ wr := fun z => hSf (W.sub S z)
  have more : ∀ b ∈ wr, b ∈ S :: wr := fun _ z => .tail _ z
  have old : ∀ {s1 s2 : Shared}, Moved wr G s1 s2 → (∀ b o, h0.get? b = some o → s1.heap.get? b = some o) → ∀ b o, h0.get? b = some o → s2.heap.get? b = some o := fun mv k1 b o e =>
    mv.heap b o (fun z => by rw [hw0 b z] at e; cases e) (k1 b o e)
  intro k
  induction k with
  | zero =>
    rintro i s rfl st k0 ⟨L, es, ep, t, R1, g⟩ out
    refine codeAny_builtin F.entry_set_update_loop ?_
    rw [Around.under_plainId F.plain_set_update_loop _]
    show wpAny _ A.in1 (pyNext (.ref I) >>= _) _ _ s
    refine wpAny_bind (W.done s _ _ st fun s' mv => ?_)
    show wpAny _ A.in1 (ret Value.none) _ _ s'
    have k1 := old mv k0
    exact wpAny_pure (out s' L es ep t (mv.mono more) (R1.keep (fun o e => mv.heap S o outW e) fun p hp => isT_keep (hk p (List.mem_of_mem_take (g.sub p hp))) k1) g k1)
  | succ k ih =>
    rintro i s ei st k0 ⟨L, es, ep, t, R1, g⟩ out
    refine codeAny_builtin F.entry_set_update_loop ?_
    rw [Around.under_plainId F.plain_set_update_loop _]
    show wpAny _ A.in1 (pyNext (.ref I) >>= _) _ _ s
    refine wpAny_bind (W.item i s _ _ (by omega) st fun v s1 pv st1 mv => ?_)
    obtain ⟨p, hp, rfl⟩ := each i v pv
    have k1 := old mv k0
    have R2 : SetG P w s1.heap S L es ep t := R1.keep (fun o e => mv.heap S o outW e) fun q hq => isT_keep (hk q (List.mem_of_mem_take (g.sub q hq))) k1
    have hx : IsT P w s1.heap p.2 p.1 := isT_keep (hk p (List.mem_of_getElem? hp)) k1
    show wpAny _ A.in1 (holding [Value.ref p.1] (setAdd S (.ref p.1)) >>= _) _ _ s1
    refine wpAny_bind (wpAny_holding ?_)
    unfold setAdd
    refine wpAny_holding (wpAny_bind (wpAny_pyHash_tuple hu hx ?_))
    refine set_adds (s := { s1 with toks := s1.toks + (p.2.length + 1) }) R2 hx hu (by have := g.len; have := (List.getElem?_eq_some_iff.mp hp).1; omega) fun b h2 L2 es2 ep2 t2 sb R3 c1 c2 => ?_
    have g2 : Got ks (i + 1) L2 := by
      by_cases c : p.2 ∈ L.map (·.2)
      · exact (c1 c) ▸ g.same hp c
      · exact g.more hp (c2 c)
    have k2 : ∀ b o, h0.get? b = some o → h2.get? b = some o := fun b o e => by
      rw [sb.2 b fun z => by rw [z, hS0] at e; cases e]
      exact k1 b o e
    refine wpAny_pure ⟨plainId_quiet F.plain_set_update_loop _, ih (i + 1) _ (by omega) (W.frame _ s1 _ _ st1 (Nat.le_add_right _ _) fun b hb o e => ?_) k2 ⟨L2, es2, ep2, t2, R3, g2⟩ fun s3 L3 es3 ep3 t3 m3 R4 g3 k3 => ?_⟩
    · rw [sb.2 b fun z => hSf (z ▸ hb)]
      exact e
    · refine out s3 L3 es3 ep3 t3 (.trans W.gtrans ((mv.mono more).then_heap (Nat.le_add_right _ _) fun b o hb e => ?_) m3) R4 g3 k3
      rw [sb.2 b fun z => hb (z ▸ .head _)]
      exact e
end
end Sw
namespace Sw
open PySem PySem.Spec PyProof.Rows L2
section
variable {P : Program} {w : World} {A : Around} {E : Value → Shared → Prop} {s : Shared}
set_option maxRecDepth 100000 in
set_option maxHeartbeats 3200000 in
/-- set(xs), xs a list of tuples of ints -/
theorem made_list {l : Addr} {items : Array Value} (ks : List (Addr × List Int)) {Q : Value → Shared → Prop} (calm : A.handled = none) (src : s.heap.IsList l items) (refs : items.toList = ks.map fun p => Value.ref p.1)
    (tups : ∀ p ∈ ks, IsT P w s.heap p.2 p.1) (few : ks.length ≤ 306) (hu : A.units + 3 < cLine)
    (then_ : ∀ (h' : Heap) (tk : Nat) L es ep t, SetG P w h' s.heap.objs.size L es ep t → Got ks ks.length L → (∀ b o, s.heap.get? b = some o → h'.get? b = some o) → Q (.ref s.heap.objs.size) { s with heap := h', toks := tk }) :
    wpAny (model P w) A (call (.type "set") [.ref l]) Q E s := by
  have size : items.size = ks.length := by
    rw [← Array.length_toList, refs, List.length_map]
  obtain ⟨mc, mt, mro_⟩ := F.called_set.mro
  have made_ := F.called_set.made
  have sub_ := F.called_set.sub
  refine wpAny_call (codeAny_of_tree ?_)
  show wpAny _ _ (callAny (.type "set") _) _ _ _
  refine wpAny_pure ⟨Code.quiet_builtin _ (by decide +kernel), ?_⟩
  refine codeAny_builtin F.entry_type_call ?_
  rw [Around.under_plain (weight_type_call_type "set" [.ref l] []) rfl]
  have nt := F.called_set.notType
  have cc := F.called_set.canCreate
  have tc := F.typeCall_set_1 (.ref l)
  repeat (any_goals (first | assumption | wp_step))
  refine codeAny_mono (code_set_led1 (.ref l) (E := E) (Q₁ := fun v s1 => v = .ref s.heap.objs.size ∧ s1 = { s with heap := s.heap.push (newSetO w) }) ⟨rfl, rfl⟩) fun r s1 hr => ?_
  rcases r with e | fl
  · exact hr
  rcases fl with _ | _ | _ | v
  all_goals first | exact hr.elim | skip
  obtain ⟨rfl, rfl⟩ := hr
  have here : (s.heap.push (newSetO w)).get? s.heap.objs.size = some (newSetO w) := Heap.get?_push_size _ rfl
  have ty : Shared.TypeIs { s with heap := s.heap.push (newSetO w) } (.ref s.heap.objs.size) "set" := ⟨_, here, rfl⟩
  have il := F.called_set.init.lookup
  have ib := F.called_set.init.bind (.ref s.heap.objs.size)
  repeat (any_goals (first | assumption | wp_step))
  refine codeAny_mono (codeAny_call_builtin (R := wants (fun v s2 => v = .none ∧ ∃ h' tk L es ep t, s2 = { s with heap := h', toks := tk } ∧ SetG P w h' s.heap.objs.size L es ep t ∧ Got ks ks.length L ∧
      (∀ b o, s.heap.get? b = some o → h'.get? b = some o)) E) F.called_set.init.plain F.entry_set_init (check_set_init_1 ty ?_)) fun r2 s2 hr2 => ?_
  · obtain ⟨⟨oc, od, odt, osl⟩, src1, src2, nl, src3⟩ := src
    simp only at src2 src3
    subst src2; subst src3
    have src4 : (s.heap.push (newSetO w)).get? l = some { cls := .type "list", dict := od, data := .seq items nl, slots := osl } := Heap.get?_push_of_some _ src1
    have u1 := F.sub_list_set
    have u2 := F.sub_list_frozenset
    have u3 : (Value.type "list" == Value.type "dict") = false := by decide
    have src5 : (s.heap.push (newSetO w)).IsList l items := ⟨_, src4, rfl, nl, rfl⟩
    unfold Builtin.«set.__init__» noKeywords Builtin.Frozenset.updateFrom
    generalize ePI : pyIter = PI
    wp_walk
    subst ePI
    refine wpAny_pyIter_list src5 ?_
    refine wpAny_bind (wpAny_runValue ?_)
    have ll : l < s.heap.objs.size := Heap.lt_size src1
    have calm3 : A.in1.in1.in1.handled = none := by simp [calm]
    have sz1 : (s.heap.push (newSetO w)).objs.size = s.heap.objs.size + 1 := Heap.size_push ..
    have ne1 : l ≠ (s.heap.push (newSetO w)).objs.size := by
      rw [sz1]
      exact Nat.ne_of_lt (Nat.lt_succ_of_lt ll)
    have ne2 : s.heap.objs.size ∉ [(s.heap.push (newSetO w)).objs.size, l] := by
      rw [sz1]
      simp only [List.mem_cons, List.not_mem_nil, or_false, not_or]
      exact ⟨Nat.ne_of_lt (Nat.lt_succ_self _), Nat.ne_of_gt ll⟩
    have each : ∀ (i : Nat) (v : Value), items[i]? = some v → ∃ p, ks[i]? = some p ∧ v = .ref p.1 := fun i v hv => by
      have q : (ks.map fun p => Value.ref p.1)[i]? = some v := by
        rw [← refs]
        simpa using hv
      rw [List.getElem?_map, Option.map_eq_some_iff] at q
      obtain ⟨p, h1, h2⟩ := q
      exact ⟨p, h1, h2.symm⟩
    have none_of : ∀ b, s.heap.objs.size ≤ b → s.heap.get? b = none := fun b hb => by
      cases q : s.heap.get? b with
      | none => rfl
      | some o => exact absurd (Heap.lt_size q) (Nat.not_lt_of_le hb)
    refine set_takes (Walks.list calm3 _ l ne1 items).toS s.heap.objs.size ne2 ks size few each s.heap tups (none_of _ (Nat.le_refl _)) (fun b hb => none_of b ?_) hu (items.size - 0) 0 _ (by omega)
      ⟨⟨_, Heap.get?_push_size _ rfl, rfl, rfl⟩, src5.push _⟩ (fun b o e => Heap.get?_push_of_some _ (Heap.get?_push_of_some _ e)) ⟨[], #[], 0, _, setG_new (Heap.get?_push_of_some _ here), .zero ks⟩ ?_
    · rw [List.mem_singleton.mp hb, sz1]
      exact Nat.le_succ _
    · rintro ⟨h', g2, d2, tk2, os2⟩ L es ep t mv R g k
      obtain rfl : g2 = s.gens := mv.gens
      obtain rfl : d2 = s.drawn := mv.drawn
      obtain rfl : os2 = s.os := mv.os
      show wpAny _ _ _ _ _ _
      refine wpAny_pure ?_
      show wpAny _ _ (ret Value.none) _ _ _
      rw [size] at g
      exact wpAny_pure ⟨rfl, h', tk2, L, es, ep, t, rfl, R, g, k⟩
  · rcases r2 with e | fl
    · exact hr2
    rcases fl with _ | _ | _ | v
    all_goals first | exact hr2.elim | skip
    obtain ⟨rfl, h', tk, L, es, ep, t, rfl, R, g, k⟩ := hr2
    repeat (any_goals (first | assumption | wp_step))
    exact then_ _ _ _ _ _ _ R g k
set_option maxRecDepth 100000 in
set_option maxHeartbeats 3200000 in
/-- set(xs), xs a tuple of tuples of ints -/
theorem made_tuple {l : Addr} {items : Array Value} (ks : List (Addr × List Int)) {Q : Value → Shared → Prop} (calm : A.handled = none) (src : s.heap.IsTuple l items) (refs : items.toList = ks.map fun p => Value.ref p.1)
    (tups : ∀ p ∈ ks, IsT P w s.heap p.2 p.1) (few : ks.length ≤ 306) (hu : A.units + 3 < cLine)
    (then_ : ∀ (h' : Heap) (tk : Nat) L es ep t, SetG P w h' s.heap.objs.size L es ep t → Got ks ks.length L → (∀ b o, s.heap.get? b = some o → h'.get? b = some o) → Q (.ref s.heap.objs.size) { s with heap := h', toks := tk }) :
    wpAny (model P w) A (call (.type "set") [.ref l]) Q E s := by
  have size : items.size = ks.length := by
    rw [← Array.length_toList, refs, List.length_map]
  obtain ⟨mc, mt, mro_⟩ := F.called_set.mro
  have made_ := F.called_set.made
  have sub_ := F.called_set.sub
  refine wpAny_call (codeAny_of_tree ?_)
  show wpAny _ _ (callAny (.type "set") _) _ _ _
  refine wpAny_pure ⟨Code.quiet_builtin _ (by decide +kernel), ?_⟩
  refine codeAny_builtin F.entry_type_call ?_
  rw [Around.under_plain (weight_type_call_type "set" [.ref l] []) rfl]
  have nt := F.called_set.notType
  have cc := F.called_set.canCreate
  have tc := F.typeCall_set_1 (.ref l)
  repeat (any_goals (first | assumption | wp_step))
  refine codeAny_mono (code_set_led1 (.ref l) (E := E) (Q₁ := fun v s1 => v = .ref s.heap.objs.size ∧ s1 = { s with heap := s.heap.push (newSetO w) }) ⟨rfl, rfl⟩) fun r s1 hr => ?_
  rcases r with e | fl
  · exact hr
  rcases fl with _ | _ | _ | v
  all_goals first | exact hr.elim | skip
  obtain ⟨rfl, rfl⟩ := hr
  have here : (s.heap.push (newSetO w)).get? s.heap.objs.size = some (newSetO w) := Heap.get?_push_size _ rfl
  have ty : Shared.TypeIs { s with heap := s.heap.push (newSetO w) } (.ref s.heap.objs.size) "set" := ⟨_, here, rfl⟩
  have il := F.called_set.init.lookup
  have ib := F.called_set.init.bind (.ref s.heap.objs.size)
  repeat (any_goals (first | assumption | wp_step))
  refine codeAny_mono (codeAny_call_builtin (R := wants (fun v s2 => v = .none ∧ ∃ h' tk L es ep t, s2 = { s with heap := h', toks := tk } ∧ SetG P w h' s.heap.objs.size L es ep t ∧ Got ks ks.length L ∧
      (∀ b o, s.heap.get? b = some o → h'.get? b = some o)) E) F.called_set.init.plain F.entry_set_init (check_set_init_1 ty ?_)) fun r2 s2 hr2 => ?_
  · obtain ⟨⟨oc, od, odt, osl⟩, src1, src2, nl, src3⟩ := src
    simp only at src2 src3
    subst src2; subst src3
    have src4 : (s.heap.push (newSetO w)).get? l = some { cls := .type "tuple", dict := od, data := .seq items nl, slots := osl } := Heap.get?_push_of_some _ src1
    have u1 := F.sub_tuple_set
    have u2 := F.sub_tuple_frozenset
    have u3 : (Value.type "tuple" == Value.type "dict") = false := by decide
    have src5 : (s.heap.push (newSetO w)).IsTuple l items := ⟨_, src4, rfl, nl, rfl⟩
    unfold Builtin.«set.__init__» noKeywords Builtin.Frozenset.updateFrom
    generalize ePI : pyIter = PI
    wp_walk
    subst ePI
    refine wpAny_pyIter_tuple src5 ?_
    refine wpAny_bind (wpAny_runValue ?_)
    have ll : l < s.heap.objs.size := Heap.lt_size src1
    have calm3 : A.in1.in1.in1.handled = none := by simp [calm]
    have sz1 : (s.heap.push (newSetO w)).objs.size = s.heap.objs.size + 1 := Heap.size_push ..
    have ne1 : l ≠ (s.heap.push (newSetO w)).objs.size := by
      rw [sz1]
      exact Nat.ne_of_lt (Nat.lt_succ_of_lt ll)
    have ne2 : s.heap.objs.size ∉ [(s.heap.push (newSetO w)).objs.size, l] := by
      rw [sz1]
      simp only [List.mem_cons, List.not_mem_nil, or_false, not_or]
      exact ⟨Nat.ne_of_lt (Nat.lt_succ_self _), Nat.ne_of_gt ll⟩
    have each : ∀ (i : Nat) (v : Value), items[i]? = some v → ∃ p, ks[i]? = some p ∧ v = .ref p.1 := fun i v hv => by
      have q : (ks.map fun p => Value.ref p.1)[i]? = some v := by
        rw [← refs]
        simpa using hv
      rw [List.getElem?_map, Option.map_eq_some_iff] at q
      obtain ⟨p, h1, h2⟩ := q
      exact ⟨p, h1, h2.symm⟩
    have none_of : ∀ b, s.heap.objs.size ≤ b → s.heap.get? b = none := fun b hb => by
      cases q : s.heap.get? b with
      | none => rfl
      | some o => exact absurd (Heap.lt_size q) (Nat.not_lt_of_le hb)
    refine set_takes (Walks.tuple calm3 _ l ne1 items).toS s.heap.objs.size ne2 ks size few each s.heap tups (none_of _ (Nat.le_refl _)) (fun b hb => none_of b ?_) hu (items.size - 0) 0 _ (by omega)
      ⟨⟨_, Heap.get?_push_size _ rfl, rfl, rfl⟩, src5.push _⟩ (fun b o e => Heap.get?_push_of_some _ (Heap.get?_push_of_some _ e)) ⟨[], #[], 0, _, setG_new (Heap.get?_push_of_some _ here), .zero ks⟩ ?_
    · rw [List.mem_singleton.mp hb, sz1]
      exact Nat.le_succ _
    · rintro ⟨h', g2, d2, tk2, os2⟩ L es ep t mv R g k
      obtain rfl : g2 = s.gens := mv.gens
      obtain rfl : d2 = s.drawn := mv.drawn
      obtain rfl : os2 = s.os := mv.os
      show wpAny _ _ _ _ _ _
      refine wpAny_pure ?_
      show wpAny _ _ (ret Value.none) _ _ _
      rw [size] at g
      exact wpAny_pure ⟨rfl, h', tk2, L, es, ep, t, rfl, R, g, k⟩
  · rcases r2 with e | fl
    · exact hr2
    rcases fl with _ | _ | _ | v
    all_goals first | exact hr2.elim | skip
    obtain ⟨rfl, h', tk, L, es, ep, t, rfl, R, g, k⟩ := hr2
    repeat (any_goals (first | assumption | wp_step))
    exact then_ _ _ _ _ _ _ R g k
end
end Sw
namespace Sw
open PySem PySem.Spec PyProof.Rows L2
section
variable {P : Program} {w : World} {A : Around} {E : Value → Shared → Prop} {s : Shared}
variable {a : Addr} {L : List (Addr × List Int)} {es : Array (Int × Value)} {ep : Nat} {t : SetTable}
/-- is a tuple in a set? -/
theorem asked_in (R : SetG P w s.heap a L es ep t) {x : Addr} {k : List Int} (hx : IsT P w s.heap k x) (hu : A.units + 3 < cLine) {Q : Bool → Shared → Prop}
    (then_ : ∀ tk, Q (decide (k ∈ L.map (·.2))) { s with toks := tk }) : wpAny (model P w) A (contains (.ref a) (.ref x)) Q E s := by
  obtain ⟨ob, obAt, obEx, obDat⟩ := R.there
  have ty : s.TypeIs (.ref a) "set" := ⟨ob, obAt, obEx.1⟩
  unfold contains
  try with_reducible refine wpAny_holding ?_
  refine wpAny_bind (wpAny_specialOf ty F.slot_set_contains.lookup ?_)
  show wpAny _ _ (if (some (Value.builtin "set.__contains__") == some Value.none) = true then _ else _) Q E s
  rw [if_neg (by simp [beq_builtin_none])]
  refine wpAny_bind (wpAny_callSpecialUnlessNone?_slot (name := Str.ofString "__contains__") ty F.slot_set_contains ?_)
  refine wpAny_call_entry F.slot_set_contains ty entry_set_contains ?_ (F.args_set_contains_2 _ _)
  unfold Builtin.«frozenset.__contains__» Builtin.Frozenset.oneOther
  simp only [List.isEmpty_nil, bind_assoc]
  unfold Builtin.Frozenset.addrOf Builtin.Frozenset.withSetAsKey setContains
  refine wpAny_bind (wpAny_pure ?_)
  try dsimp only
  refine wpAny_bind (wpAny_pure ?_)
  try dsimp only
  refine wpAny_bind (wpAny_tryCatch (wpAny_holding ?_))
  refine wpAny_bind (wpAny_pyHash_tuple (by show A.units + 1 < cLine; omega) hx ?_)
  unfold setFind
  show wpAny _ _ (setFindIn a (.ref x) _ (99999 + 1) >>= _) _ _ _
  unfold setFindIn
  have R1 : SetG P w ({ s with toks := s.toks + (k.length + 1) } : Shared).heap a L es ep t := R
  refine wpAny_bind (wpAny_bind (wpAny_setState_of (s := { s with toks := s.toks + (k.length + 1) }) obAt obDat R1.fits ?_))
  dsimp only
  refine wp_if_neg (by unfold byScan Value.scannable; simp) ?_
  try refine wpAny_bind (wpAny_pure ?_)
  refine wpAny_bind (look_for R1 hx (by show A.units + 1 < cLine; omega) (fun inL r hr => ?_) fun K outL F => ?_)
  · have hr := hr rfl
    dsimp only
    refine wpAny_pure (wpAny_pure ?_)
    show wpAny _ _ (ret (Value.bool r.isSome)) _ _ _
    rw [hr]
    refine wpAny_pure ⟨_, rfl, wpAny_truthy_bool ?_⟩
    have := then_ (s.toks + (k.length + 1))
    rw [decide_eq_true inL] at this
    exact this
  · dsimp only
    refine wpAny_pure (wpAny_pure ?_)
    show wpAny _ _ (ret (Value.bool (Option.isSome (none : Option Nat)))) _ _ _
    refine wpAny_pure ⟨_, rfl, wpAny_truthy_bool ?_⟩
    have := then_ (s.toks + (k.length + 1))
    rw [decide_eq_false outL] at this
    exact this
end
/-! ### over the layer -/
/-- the set at a, without the tuples themselves -/
structure SetG0 (P : Program) (w : World) (h : Heap) (a : Addr) (L : List (Addr × List Int)) : Prop where
  ex : ∃ (es : Array (Int × Value)) (ep : Nat) (t : SetTable), (∃ o, h.get? a = some o ∧ o.ExactSet ∧ o.data = .set es ep t) ∧ es.toList = rowsOf P w L ∧ TabG t (L.map fun p => thash P w p.2) ∧ (L.map (·.2)).Nodup ∧ t.plain = true ∧
    (w.params.followText "set-order" = true ∨ t.led = true) ∧ L.length * 5 < t.mask * 3
def SetGO (P : Program) (w : World) (a : Addr) (L : List (Addr × List Int)) : HO := .ext fun h => SetG0 P w h a L
section
variable {P : Program} {w : World} {h : Heap} {a : Addr} {L : List (Addr × List Int)} {es : Array (Int × Value)} {ep : Nat} {t : SetTable}
theorem SetG.bare (R : SetG P w h a L es ep t) : SetG0 P w h a L := ⟨es, ep, t, R.there, R.rows, R.tab, R.nd, R.plain, R.led, R.room⟩
theorem SetG0.full (R : SetG0 P w h a L) (ht : ∀ p ∈ L, IsT P w h p.2 p.1) : ∃ es ep t, SetG P w h a L es ep t := by
  obtain ⟨es, ep, t, h1, h2, h3, h4, h5, h6, h7⟩ := R.ex
  exact ⟨es, ep, t, h1, h2, h3, h4, ht, h5, h6, h7⟩
theorem setGO_new {H : Hp} (R : SetG0 P w h a L) : ObjOk P w H h a (SetGO P w a L) := by
  have ⟨es, ep, t, ⟨o, ho, r⟩, q⟩ := R.ex
  refine ⟨R, ⟨o, ho⟩, fun h1 h2 p k => ?_⟩
  have ⟨es', ep', t', ⟨o', ho', r'⟩, q'⟩ := SetG0.ex p
  exact ⟨es', ep', t', ⟨o', k o' ho', r'⟩, q'⟩
end
section
variable {X : Cx}
/-- set(xs), xs a list or a tuple of tuples of ints -/
def rSetG (K : PySem.W.Frag) (P : Program) (w : World) : List V → Hp → VK → Prop := fun xs H Q => ∃ (l : Addr) (ks : List (Addr × List Int)), xs = [V.ref l] ∧ (SqL K H l (ks.map fun p => V.ref p.1) ∨ SqT K H l (ks.map fun p => V.ref p.1)) ∧
  (∀ p ∈ ks, SqT K H p.1 (p.2.map V.int)) ∧ ks.length ≤ 306 ∧ ∀ a L, H a = none → (∀ p ∈ L, p ∈ ks) → (∀ p ∈ ks, p.2 ∈ L.map (·.2)) → Q (.ref a) (upd H a (SetGO P w a L))
theorem cr_setG (hc : X.calm = true) (hu : X.A.units + 64 < cLine) : CallR X (.type "set") (rSetG X.K X.prog X.w) := by
  intro pins s σ H xs us Q I r h
  obtain ⟨l, ks, rfl, hl, hk, few, q⟩ := h
  rw [Vals.ref1 r]
  have hn : H s.heap.objs.size = none := I.hok.fresh (Nat.le_refl _)
  have fin : ∀ (h' : Heap) (tk : Nat) L es ep t, SetG X.prog X.w h' s.heap.objs.size L es ep t → Got ks ks.length L → (∀ b o, s.heap.get? b = some o → h'.get? b = some o) → EP X pins σ Q (.ref s.heap.objs.size) { s with heap := h', toks := tk } := fun h' tk L es ep t R g k =>
    ⟨.ref s.heap.objs.size, upd H s.heap.objs.size (SetGO X.prog X.w s.heap.objs.size L), I.laid (t' := tk) k (Nat.le_refl _) (setGO_new R.bare), rfl, q _ L hn (fun p hp => List.mem_of_mem_take (g.sub p hp)) fun p hp => g.all p (by rw [List.take_length]; exact hp)⟩
  rcases hl with hl | hl
  · obtain ⟨its, rv, pl, _⟩ := I.list hl
    exact made_list ks (I.ok.hd hc) pl.isList (by simpa using refs_of_vals rv) (fun p hp => I.isT (hk p hp)) few (by omega) fin
  · obtain ⟨its, rv, pl, _⟩ := I.tuple hl
    exact made_tuple ks (I.ok.hd hc) pl (by simpa using refs_of_vals rv) (fun p hp => I.isT (hk p hp)) few (by omega) fin
/-- k in found, k not in found -/
def rInG (K : PySem.W.Frag) (P : Program) (w : World) (neg : Bool) : V → V → Hp → VK → Prop := fun x y H Q => ∃ (b a : Addr) (k : List Int) (L : List (Addr × List Int)), x = V.ref b ∧ y = V.ref a ∧ SqT K H b (k.map V.int) ∧ H a = some (SetGO P w a L) ∧
  (∀ p ∈ L, SqT K H p.1 (p.2.map V.int)) ∧ Q (.bl (if neg then !decide (k ∈ L.map (·.2)) else decide (k ∈ L.map (·.2)))) H
theorem or_inG (hu : X.A.units + 64 < cLine) : OpR X (compareOp .In) (rInG X.K X.prog X.w false) := by
  intro pins s σ H x y v u Q I rx ry h
  obtain ⟨b, a, k, L, rfl, rfl, hb, ha, ht, q⟩ := h
  cases rx
  cases ry
  obtain ⟨es, ep, t, R⟩ := (show SetG0 X.prog X.w s.heap a L from (I.hok a _ ha).1).full fun p hp => I.isT (ht p hp)
  show wpAny _ _ (do return Value.bool (← contains (.ref a) (.ref b)) : Sem Value) _ _ s
  exact wpAny_bind (asked_in R (I.isT hb) (by omega) fun tk => wpAny_pure (show EP X pins σ Q (Value.bool (decide (k ∈ L.map (fun p : Addr × List Int => p.2)))) _ from ⟨.bl (decide (k ∈ L.map (fun p : Addr × List Int => p.2))), H, I.tok tk, rfl, q⟩))
theorem or_notInG (hu : X.A.units + 64 < cLine) : OpR X (compareOp .NotIn) (rInG X.K X.prog X.w true) := by
  intro pins s σ H x y v u Q I rx ry h
  obtain ⟨b, a, k, L, rfl, rfl, hb, ha, ht, q⟩ := h
  cases rx
  cases ry
  obtain ⟨es, ep, t, R⟩ := (show SetG0 X.prog X.w s.heap a L from (I.hok a _ ha).1).full fun p hp => I.isT (ht p hp)
  show wpAny _ _ (do return Value.bool (!(← contains (.ref a) (.ref b))) : Sem Value) _ _ s
  exact wpAny_bind (asked_in R (I.isT hb) (by omega) fun tk => wpAny_pure (show EP X pins σ Q (Value.bool (!decide (k ∈ L.map (fun p : Addr × List Int => p.2)))) _ from ⟨.bl (!decide (k ∈ L.map (fun p : Addr × List Int => p.2))), H, I.tok tk, rfl, q⟩))
end
end Sw
namespace Sw
open PySem L2
/-- arrows as a set takes them -/
theorem ArsAt.ks {H : Hp} : ∀ {ts : List V} {ars : List (Int × Int)}, ArsAt H ts ars → ∃ ks : List (Addr × List Int), ts = ks.map (fun p => V.ref p.1) ∧ (∀ p ∈ ks, H p.1 = some (.tup (p.2.map V.int))) ∧ ks.map (·.2) = ars.map fun e => [e.1, e.2]
  | _, _, .nil => ⟨[], rfl, nofun, rfl⟩
  | _, _, .cons (b := e) h r => by
    obtain ⟨t, rfl, ht⟩ := h
    obtain ⟨ks, e1, e2, e3⟩ := ArsAt.ks r
    refine ⟨(t, [e.1, e.2]) :: ks, by rw [List.map_cons, e1], fun p hp => ?_, by rw [List.map_cons, List.map_cons, e3]⟩
    rcases List.mem_cons.mp hp with rfl | hp
    · exact ht
    · exact e2 p hp
theorem set_arrows {ks L : List (Addr × List Int)} {ars : List (Int × Int)} (ek : ks.map (·.2) = ars.map fun e => [e.1, e.2]) (sub : ∀ p ∈ L, p ∈ ks) (all : ∀ p ∈ ks, p.2 ∈ L.map (·.2)) (v w : Int) : [v, w] ∈ L.map (·.2) ↔ (v, w) ∈ ars := by
  have e1 : [v, w] ∈ L.map (·.2) ↔ [v, w] ∈ ks.map (·.2) := by
    constructor
    · intro h
      obtain ⟨p, hp, e⟩ := List.mem_map.mp h
      exact List.mem_map.mpr ⟨p, sub p hp, e⟩
    · intro h
      obtain ⟨p, hp, e⟩ := List.mem_map.mp h
      exact e ▸ all p hp
  rw [e1, ek]
  constructor
  · intro h
    obtain ⟨⟨v', w'⟩, hp, e⟩ := List.mem_map.mp h
    simp only [List.cons.injEq, and_true] at e
    obtain ⟨rfl, rfl⟩ := e
    exact hp
  · exact fun h => List.mem_map.mpr ⟨_, h, rfl⟩
abbrev sRun : Stmt := top 9
abbrev nRun : List Str := ["net", "value", "n", "arrows", "spot", "stop", "known"]
theorem scRun : FnScope nRun ["net", "value"] (defScope sRun) := ⟨rfl, rfl, rfl, by decide +kernel, rfl, by decide +kernel, by decide +kernel⟩
section
variable {P : Program} {w : World} {K : PySem.W.Frag} {mg : Str → Option Value} {base : Heap}
theorem ok_run {f : Addr} {fd : FuncData} (F : Fun K "run_error" "run_error" sRun f fd) (B : NoNames mg) (bs : mg "set" = none) (t : Tok) (mM : mg "MAX_RUN" = some (.int 1000 t)) (O : Own P w K mg base 2 "is_stop" ["n", "value"] (spStop K)) :
    FnOk P w K mg base CX0 3 f fd ["net", "value"] (spRun K) := by
  obtain ⟨fT, fdT, GT, mT, kT, bT⟩ := O.ex
  refine F.ok scRun (fun vs H Q E h => ?_) (fun cdv A outer s H vs Q E hr h => ?_)
  · obtain ⟨a, b, n, ts, ars, x, d, as, rfl, _⟩ := h
    rfl
  · obtain ⟨a, b, n, ts, ars, x, d, as, rfl, N, AR, hd, hw, k⟩ := h
    refine ⟨_, pss_cons (ps_asg (pv 0) (pg_tup (by rfl) (pgs_cons (pg_name (i := 2) scRun.nd rfl (.inl rfl)) (pgs_cons (pg_name (i := 3) scRun.nd rfl (.inl rfl)) pgs_nil)))) <|
      pss_cons (ps_if (PW.pt (pw_or (pt_not (pt_val (pe_isi (i := 1) (TN := "tuple") rfl (Or.inl rfl) (by decide) (by decide) B.isi B.tuple rfl rfl (by decide +kernel) (by decide) (by decide))))
        (pw_or1 (pt_not (pt_chain op_le op_le pe_int (pe_callB call_len_seq (by rfl) B.len PySem.boot_len (pa_cons (pv 1) pa_nil)) (pe_glob (v := .int 1000) rfl mM ⟨_, rfl⟩)))))) (pss_one (ps_ret pe_str)) pss_nil) <|
      pss_cons (ps_for PassesOwn.never rfl (pi_enumT (by rfl) B.enumerate (pa_cons (pv 1) pa_nil)) (pg_tup rfl (pgs_cons (pg_name (i := 4) scRun.nd rfl (.inl rfl)) (pgs_cons (pg_name (i := 5) scRun.nd rfl (.inl rfl)) pgs_nil)))
        (pss_one (ps_if (pt_not (pt_val (pe_call GT hr rfl mT kT bT .nil pass0 (pa_cons (pv 2) (pa_cons (pv 5) pa_nil))))) (pss_one (ps_ret (pe_tup (pa_cons pe_str (pa_cons (pv 4) pa_nil))))) pss_nil))) <|
      pss_cons (ps_set (i := 6) scRun.nd rfl (.inl rfl) (pe_callTy (cr_setG rfl hr.units) (by rfl) bs (by decide +kernel) (pa_cons (pv 3) pa_nil))) <|
      pss_cons (ps_for PassesOwn.never rfl (pi_range2 (by rfl) B.range (pa_cons pe_int (pa_cons (pe_callB call_len_seq (by rfl) B.len PySem.boot_len (pa_cons (pv 1) pa_nil)) pa_nil))) (pg_name (i := 4) scRun.nd rfl (.inl rfl))
        (pss_one (ps_if (pt_cmpR (or_notInG hr.units) (pe_tup (pa_cons (pe_ix ix_tup (pv 1) (pe_op op_sub (pv 4) pe_int) (fun _ _ => rfl)) (pa_cons (pe_ix ix_tup (pv 1) (pv 4) (fun _ _ => rfl)) pa_nil))) (pv 6) (by with_unfolding_all rfl))
          (pss_one (ps_ret (pe_tup (pa_cons pe_str (pa_cons (pv 4) pa_nil))))) pss_nil))) <|
      pss_one (ps_ret pe_non), ?_⟩
    have kform : runOf d = none → Q (.str "form") H := fun hf => by
      obtain ⟨q1, q2, q3, q4⟩ := err_str (K := K) (H := H) (z := "form") (by decide +kernel)
      exact k _ _ _ H (.form hf) (Same.refl H) q1 q2 q3 q4
    refine ⟨_, rfl, a, _, rfl, SqT.of N.a, rfl, _, _, rfl, _, [], rfl, rfl, ?_⟩
    refine ⟨_, rfl, x, d, as, "tuple", rfl, by decide, hd, _, rfl, ?_⟩
    cases e : isT "tuple" d with
    | false =>
      refine iteT (iteT ?_)
      exact kform (run_tup e)
    | true =>
      refine iteF ?_
      obtain ⟨ds, rfl⟩ := tup_of e
      simp only [Rep] at hd
      obtain ⟨p, ys, cs, rfl, hp, ra, nap, rfl⟩ := hd
      have hl := ra.len
      have hsz : ys.length ≤ sizeLine := by
        simp only [wt] at hw
        have h2 := wt_len ds
        rw [hl, sizeLine_eq]
        omega
      refine ⟨_, rfl, p, ys, rfl, .inr (SqT.of hp), _, _, rfl, rfl, _, rfl, ?_⟩
      by_cases c1 : (1 : Int) ≤ (ys.length : Int)
      case neg =>
        rw [decide_eq_false c1]
        refine iteF ⟨_, rfl, ?_⟩
        refine iteT ?_
        refine kform ?_
        rw [run_len, if_neg (by rw [← hl]; omega)]
      case pos =>
      rw [decide_eq_true c1]
      refine iteT ⟨_, _, rfl, rfl, _, rfl, ?_⟩
      by_cases c2 : (ys.length : Int) ≤ 1000
      case neg =>
        rw [decide_eq_false c2]
        refine iteT ?_
        refine kform ?_
        rw [run_len, if_neg (by rw [← hl]; omega)]
      case pos =>
      rw [decide_eq_true c2]
      refine iteF ?_
      have hf : runOf (.tup ds) = some ds := by
        rw [run_len, if_pos (by rw [← hl]; omega)]
      refine ⟨_, rfl, p, ys, rfl, SqT.of hp, for_it walk_te (fun i σ H' => (∃ s4 s5, σ = [some (.ref a), some (.ref p), some (.int n), some (.ref b), s4, s5, none]) ∧ Same H H' ∧ ∀ (j : Nat) (y : D), j < i → ds[j]? = some y → isWhole 0 (n - 1) y = true)
        ⟨⟨_, _, rfl⟩, Same.refl H, fun j y h => absurd h (Nat.not_lt_zero _)⟩ (fun i σ H' _ h => SqT.of (h.2.1 _ _ hp)) ?_ ?_⟩
      · rintro i x σ1 H1 H2 hi ⟨⟨s4, s5, rfl⟩, s1, q⟩ ⟨T, x1, x2, rfl, nT, rfl, e1, e2⟩
        obtain rfl : V.int (i : Nat) = x1 := Option.some.inj e1
        refine ⟨T, [.int (i : Nat), x2], rfl, .inl (.inl upd_same), rfl, _, [x2], rfl, x2, [], rfl, rfl, ?_⟩
        have s2 : Same H (upd H1 T (.tup [.int (i : Nat), x2])) := s1.trans (same_new nT)
        obtain ⟨d2, b2, hd2, hr2, _⟩ := ra.at2 e2
        refine ⟨_, rfl, _, rfl, x2, d2, b2, n, rfl, hr2.same s2, _, rfl, ?_⟩
        cases ea : isStop n d2 with
        | true =>
          refine iteF ⟨⟨_, _, rfl⟩, s2, fun j y hj hy => ?_⟩
          rcases Nat.lt_succ_iff_lt_or_eq.mp hj with z | z
          · exact q j y z hy
          · subst z
            rw [hd2] at hy
            cases hy
            exact ea
        | false =>
          refine iteT ⟨_, rfl, by show 2 ≤ sizeLine; decide, fun p2 np2 => ?_⟩
          obtain ⟨q1, q2, q3, q4⟩ := err_pair (K := K) (z := "stop") (i := i) (by decide +kernel) (Nat.le_trans (Nat.le_of_lt hi) hsz) np2
          exact k _ _ _ _ (.stop hf hd2 ea q) (s2.trans (same_new np2)) q1 q2 q3 q4
      · rintro σ H1 ⟨⟨s4, s5, rfl⟩, s1, q⟩
        have qa : ∀ (j : Nat) (y : D), ds[j]? = some y → isWhole 0 (n - 1) y = true := fun j y hy => q j y (by rw [hl]; exact (List.getElem?_eq_some_iff.mp hy).1) hy
        have N1 := N.keep (.of s1)
        have AR1 := AR.keep (.of s1)
        obtain ⟨ks, ek1, ek2, ek3⟩ := AR1.ks
        have lk : ks.length ≤ 306 := by
          have := N.len
          rw [ek1, List.length_map] at this
          omega
        refine ⟨_, rfl, b, ks, rfl, .inr (by rw [← ek1]; exact SqT.of N1.b), fun p hp => SqT.of (ek2 p hp), lk, fun g L ng sub all => ?_⟩
        have mem := set_arrows ek3 sub all
        have sg : Same H (upd H1 g (SetGO P w g L)) := s1.trans (same_new ng)
        have tups : ∀ p ∈ L, (upd H1 g (SetGO P w g L)) p.1 = some (.tup (p.2.map V.int)) := fun p hp => same_new ng _ _ (ek2 p (sub p hp))
        have small62 : (ys.length : Int) < 2 ^ 62 := by
          rw [sizeLine_eq] at hsz
          omega
        refine ⟨_, rfl, p, ys, rfl, .inr (SqT.of (sg _ _ hp)), 1, (ys.length : Int), rfl, ⟨by decide, by decide, by omega, small62⟩, for_range (lo := 1) (n := ((ys.length : Int) - 1).toNat)
          (fun i σ H' => (∃ s4 s5, σ = [some (.ref a), some (.ref p), some (.int n), some (.ref b), s4, s5, some (.ref g)]) ∧ Same (upd H1 g (SetGO P w g L)) H' ∧ ∀ j, j < i + 1 → ¬ BadStep ars ds j) ⟨⟨_, _, rfl⟩, Same.refl _, fun j hj hb => ?_⟩ ?_ ?_⟩
        · obtain ⟨_, _, h0, _⟩ := hb
          omega
        · rintro i σ H2 hi ⟨⟨s4, s5, rfl⟩, s2', ql⟩
          have hi1 : i + 1 < ys.length := by omega
          have hi0 : i < ys.length := by omega
          have y1 : ys[i + 1]? = some ys[i + 1] := List.getElem?_eq_getElem hi1
          have y0 : ys[i]? = some ys[i] := List.getElem?_eq_getElem hi0
          obtain ⟨dd1, b1, hd1, r1, _⟩ := ra.at2 y1
          obtain ⟨dd0, b0, hd0, r0, _⟩ := ra.at2 y0
          obtain ⟨v1, rfl⟩ := whole_int (qa _ _ hd1)
          obtain ⟨v0, rfl⟩ := whole_int (qa _ _ hd0)
          simp only [Rep] at r1 r0
          have hp2 := SqT.of (K := K) (s2' _ _ (sg _ _ hp))
          refine ⟨_, rfl, _, rfl, _, _, rfl, rfl, p, ys, _, _, rfl, rfl, hp2, at_of (j := i) (by omega) y0, _, rfl, _, rfl, p, ys, _, _, rfl, rfl, hp2, at_of (j := i + 1) (by omega) y1, by show 2 ≤ sizeLine; decide, fun c nc => ?_⟩
          rw [r0.1, r1.1]
          have s3' : Same H2 (upd H2 c (.tup [.int v0, .int v1])) := same_new nc
          refine ⟨_, rfl, c, g, [v0, v1], L, rfl, rfl, SqT.of upd_same, s3' _ _ (s2' _ _ upd_same), fun p hp => SqT.of (s3' _ _ (s2' _ _ (tups p hp))), _, rfl, ?_⟩
          refine ite2 (fun z => ?_) (fun z => ?_)
          · refine ⟨_, rfl, by show 2 ≤ sizeLine; decide, fun p2 np2 => ?_⟩
            have no : (v0, v1) ∉ ars := fun y => by
              have y := (mem v0 v1).mpr y
              simp [y] at z
            have ei : (1 : Int) + (i : Int) = ((i + 1 : Nat) : Int) := by omega
            rw [ei]
            obtain ⟨q1, q2, q3, q4⟩ := err_pair (K := K) (z := "arrow") (i := i + 1) (by decide +kernel) (by omega) np2
            exact k _ _ _ _ (.arrow hf qa ⟨v0, v1, Nat.succ_pos i, hd0, hd1, no⟩ ql) (((sg.trans s2').trans s3').trans (same_new np2)) q1 q2 q3 q4
          · refine ⟨⟨_, _, rfl⟩, s2'.trans s3', fun j hj hb => ?_⟩
            rcases Nat.lt_succ_iff_lt_or_eq.mp hj with y | y
            · exact ql j y hb
            · subst y
              obtain ⟨v, w', _, h1, h2, h3⟩ := hb
              rw [show i + 1 - 1 = i from rfl, hd0] at h1
              rw [hd1] at h2
              cases h1
              cases h2
              have no : ¬ [v0, v1] ∈ L.map (·.2) := fun y => h3 ((mem v0 v1).mp y)
              simp [no] at z
        · rintro σ H2 ⟨⟨s4, s5, rfl⟩, s2', ql⟩
          refine k .non .non [] H2 (.fine hf qa fun j hb => ?_) (sg.trans s2') (by simp [Rep]) (by simp only [small]) (by simp only [wt]; decide) (by simp only [dep]; decide)
          obtain ⟨v, w', h0, _, h2, _⟩ := id hb
          have hj : j < ds.length := (List.getElem?_eq_some_iff.mp h2).1
          exact ql j (by omega) hb
end
end Sw
namespace Sw
open PySem L2
abbrev sPair : Stmt := top 5
theorem scPair : FnScope ["value"] ["value"] (defScope sPair) := ⟨rfl, rfl, rfl, by decide +kernel, rfl, by decide +kernel, by decide +kernel⟩
section
variable {P : Program} {w : World} {K : PySem.W.Frag} {mg : Str → Option Value} {base : Heap}
theorem ok_pair {f : Addr} {fd : FuncData} (F : Fun K "is_pair" "is_pair" sPair f fd) (B : NoNames mg) : FnOk P w K mg base CX0 1 f fd ["value"] (spPair K) := by
  refine F.ok scPair (fun vs H Q E h => ?_) (fun cdv A outer s H vs Q E hr h => ?_)
  · obtain ⟨x, d, as, rfl, _⟩ := h
    rfl
  · obtain ⟨x, d, as, rfl, hd, k⟩ := h
    refine ⟨_, pss_one (ps_ret (pe_and (pe_isi (i := 0) (TN := "tuple") rfl (Or.inl rfl) (by decide) (by decide) B.isi B.tuple rfl rfl (by decide +kernel) (by decide) (by decide))
      (pe_one (pe_cmpR op_eq (pe_callB call_len_seq (by rfl) B.len PySem.boot_len (pa_cons (pv 0) pa_nil)) pe_int (nomark _))))), ?_⟩
    refine ⟨_, rfl, x, d, as, "tuple", rfl, by decide, hd, _, rfl, ?_⟩
    have no : isT "tuple" d = false → isPair d = false := fun e => by cases d <;> simp_all [isT, isPair]
    have yes : isT "tuple" d = true → ∃ ds, d = .tup ds := fun e => by cases d <;> first | exact ⟨_, rfl⟩ | (simp_all [isT])
    cases e : isT "tuple" d with
    | false =>
      refine iteF ?_
      rw [no e] at k
      exact k
    | true =>
      refine iteT ?_
      obtain ⟨ds, rfl⟩ := yes e
      simp only [Rep] at hd
      obtain ⟨a, xs, bs, rfl, ha, ra, na, rfl⟩ := hd
      refine ⟨_, rfl, a, xs, rfl, .inr (SqT.of ha), rfl, ?_⟩
      have hl := ra.len
      have ep : isPair (.tup ds) = decide (V.int (xs.length : Int) = V.int 2) := by
        match ds, hl with
        | [], hl => rw [hl]; rfl
        | [_], hl => rw [hl]; rfl
        | [_, _], hl => rw [hl]; rfl
        | _ :: _ :: _ :: r, hl =>
          rw [hl]
          show false = _
          refine (decide_eq_false fun z => ?_).symm
          have z2 : ((_ : Nat) : Int) = 2 := V.int.inj z
          simp only [List.length_cons] at z2
          omega
      rw [ep] at k
      exact k
end
end Sw
namespace Sw
open PySem L2
abbrev sBetween : Stmt := top 4
theorem scBetween : FnScope ["value", "least", "most"] ["value", "least", "most"] (defScope sBetween) := ⟨rfl, rfl, rfl, by decide +kernel, rfl, by decide +kernel, by decide +kernel⟩
section
variable {P : Program} {w : World} {K : PySem.W.Frag} {mg : Str → Option Value} {base : Heap}
theorem ok_between {f : Addr} {fd : FuncData} (F : Fun K "is_integer_between" "is_integer_between" sBetween f fd) (B : NoNames mg) : FnOk P w K mg base CX0 1 f fd ["value", "least", "most"] (spBetween K) := by
  refine F.ok scBetween (fun vs H Q E h => ?_) (fun cdv A outer s H vs Q E hr h => ?_)
  · obtain ⟨x, d, as, lo, hi, rfl, _⟩ := h
    rfl
  · obtain ⟨x, d, as, lo, hi, rfl, hd, k⟩ := h
    refine ⟨_, pss_cons (ps_if (PW.pt (pw_or (pt_val (pe_isi (i := 0) (TN := "bool") rfl (Or.inl rfl) (by decide) (by decide) B.isi B.bool rfl rfl (by decide +kernel) (by decide) (by decide)))
        (pw_or1 (pt_not (pt_val (pe_isi (i := 0) (TN := "int") rfl (Or.inl rfl) (by decide) (by decide) B.isi B.int rfl rfl (by decide +kernel) (by decide) (by decide))))))) (pss_one (ps_ret pe_bl)) pss_nil)
      (pss_one (ps_ret (pe_chain op_le op_le (pv 1) (pv 0) (pv 2)))), ?_⟩
    refine ⟨_, rfl, x, d, as, "bool", rfl, by decide, hd, _, rfl, ?_⟩
    have no : isT "bool" d = true → isWhole lo hi d = false := fun e => by cases d <;> simp_all [isT, isWhole]
    have no2 : isT "bool" d = false → isT "int" d = false → isWhole lo hi d = false := fun e e2 => by cases d <;> simp_all [isT, isWhole]
    have yes : isT "bool" d = false → isT "int" d = true → ∃ i, d = .int i := fun e e2 => by cases d <;> first | exact ⟨_, rfl⟩ | (simp_all [isT])
    cases e1 : isT "bool" d with
    | true =>
      refine iteT (iteT ?_)
      rw [no e1] at k
      exact k
    | false =>
      refine iteF ⟨_, rfl, x, d, as, "int", rfl, by decide, hd, _, rfl, ?_⟩
      cases e2 : isT "int" d with
      | false =>
        refine iteT ?_
        rw [no2 e1 e2] at k
        exact k
      | true =>
        refine iteF ?_
        obtain ⟨i, rfl⟩ := yes e1 e2
        simp only [Rep] at hd
        obtain ⟨rfl, rfl⟩ := hd
        refine ⟨_, rfl, _, rfl, _, _, rfl, rfl, _, rfl, ?_⟩
        refine ite2 (fun z => ?_) (fun z => ?_)
        · refine ⟨_, rfl, _, _, rfl, rfl, ?_⟩
          simp only [isWhole] at k
          rw [z] at k
          exact k
        · simp only [isWhole] at k
          rw [Bool.eq_false_iff.mpr z] at k
          exact k
end
end Sw
namespace Sw
open PySem L2
/-! ### journeys as data: what is wrong first -/
/-- a run, as whole numbers -/
structure RunOk (n : Int) (ars : List (Int × Int)) (os : List Int) : Prop where
  ne : 1 ≤ os.length
  len : os.length ≤ 1000
  each : ∀ o ∈ os, Inn n o
  ch : Chain ars os
theorem wholes {n : Int} : ∀ {ds : List D}, (∀ y ∈ ds, isWhole 0 (n - 1) y = true) → ∃ os : List Int, ds = os.map D.int ∧ ∀ o ∈ os, Inn n o
  | [], _ => ⟨[], rfl, fun _ h => absurd h (by simp)⟩
  | d :: ds, h => by
    obtain ⟨os, rfl, q⟩ := wholes (ds := ds) fun y hy => h y (List.mem_cons_of_mem _ hy)
    have h1 := h d (List.mem_cons_self ..)
    cases d with
    | int i =>
      simp only [isWhole, Bool.and_eq_true, decide_eq_true_eq] at h1
      refine ⟨i :: os, rfl, fun o ho => ?_⟩
      rcases List.mem_cons.mp ho with rfl | ho
      · exact ⟨h1.1, by omega⟩
      · exact q o ho
    | _ => simp [isWhole] at h1
theorem map_at {os : List Int} {i : Nat} {v : Int} : (os.map D.int)[i]? = some (.int v) ↔ os[i]? = some v := by
  rw [List.getElem?_map]
  cases os[i]? with
  | none => simp
  | some z => simp
theorem fine_iff {n : Int} {ars : List (Int × Int)} {d : D} : IsErrR n ars d .non ↔ ∃ os : List Int, d = .tup (os.map D.int) ∧ RunOk n ars os := by
  constructor
  · intro h
    cases h with
    | @fine ds h ha hl =>
      cases d with
      | tup es =>
        rw [run_len] at h
        by_cases c : 1 ≤ es.length ∧ es.length ≤ 1000
        · rw [if_pos c] at h
          cases h
          obtain ⟨os, rfl, q⟩ := wholes (ds := ds) fun y hy => by
            obtain ⟨j, hj⟩ := List.getElem?_of_mem hy
            exact ha j y hj
          rw [List.length_map] at c
          refine ⟨os, rfl, c.1, c.2, q, fun i v w h1 h2 => Classical.byContradiction fun no => hl (i + 1) ⟨v, w, Nat.succ_pos i, ?_, map_at.mpr h2, no⟩⟩
          exact map_at.mpr h1
        · rw [if_neg c] at h
          cases h
      | _ => simp [runOf] at h
  · rintro ⟨os, rfl, R⟩
    refine .fine (ds := os.map D.int) (by rw [run_len, if_pos (by rw [List.length_map]; exact ⟨R.ne, R.len⟩)]) (fun j y hy => ?_) fun j ⟨v, w, h0, h1, h2, no⟩ => ?_
    · rw [List.getElem?_map] at hy
      cases q : os[j]? with
      | none => rw [q] at hy; cases hy
      | some z =>
        rw [q] at hy
        cases hy
        have := R.each z (List.mem_of_getElem? q)
        obtain ⟨a, b⟩ := this
        simp only [isWhole, Bool.and_eq_true, decide_eq_true_eq]
        exact ⟨a, by omega⟩
    · have h1 := map_at.mp h1
      have h2 := map_at.mp h2
      have e : j - 1 + 1 = j := by omega
      exact no (R.ch (j - 1) v w h1 (by rw [e]; exact h2))
def BigT : Int := 10 ^ 30
/-- a leg -/
def LegIs (n : Int) (ars : List (Int × Int)) (d : D) (os : List Int) (t : Int) : Prop := d = .tup [.tup (os.map D.int), .int t] ∧ RunOk n ars os ∧ 1 ≤ t ∧ t ≤ BigT ∧ (t = 1 ∨ os[0]? = os.getLast?)
def LegOk (n : Int) (ars : List (Int × Int)) (d : D) : Prop := ∃ os t, LegIs n ars d os t
def legsOf : D → Option (List D)
  | .tup ds => if ds.length ≤ 500 then some ds else none
  | _ => none
theorem legs_tup {d : D} (h : isT "tuple" d = false) : legsOf d = none := by
  cases d <;> simp_all [isT, legsOf]
theorem legs_len {ds : List D} : legsOf (.tup ds) = if ds.length ≤ 500 then some ds else none := rfl
def ApartAt (ds : List D) (i : Nat) : Prop := 0 < i ∧ ∃ (os os' : List Int) (t t' v w : Int), ds[i - 1]? = some (.tup [.tup (os.map D.int), .int t]) ∧ ds[i]? = some (.tup [.tup (os'.map D.int), .int t']) ∧ os.getLast? = some v ∧ os'[0]? = some w ∧ v ≠ w
inductive IsErrJ (n : Int) (ars : List (Int × Int)) : D → D → Prop
  | form {d : D} (h : legsOf d = none) : IsErrJ n ars d (.str "form")
  | leg {d x : D} {ds : List D} {i : Nat} (h : legsOf d = some ds) (hx : ds[i]? = some x) (hb : ¬ LegOk n ars x) (ha : ∀ (j : Nat) (y : D), j < i → ds[j]? = some y → LegOk n ars y) : IsErrJ n ars d (.tup [.str "leg", .int i])
  | apart {d : D} {ds : List D} {i : Nat} (h : legsOf d = some ds) (ha : ∀ (j : Nat) (y : D), ds[j]? = some y → LegOk n ars y) (hb : ApartAt ds i) (hl : ∀ j, j < i → ¬ ApartAt ds j) : IsErrJ n ars d (.tup [.str "apart", .int i])
  | fine {d : D} {ds : List D} (h : legsOf d = some ds) (ha : ∀ (j : Nat) (y : D), ds[j]? = some y → LegOk n ars y) (hl : ∀ j, ¬ ApartAt ds j) : IsErrJ n ars d .non
theorem IsErrJ.det {n : Int} {ars : List (Int × Int)} {d r r' : D} (h : IsErrJ n ars d r) (h' : IsErrJ n ars d r') : r = r' := by
  cases h with
  | form h =>
    cases h' with
    | form => rfl
    | leg e => rw [h] at e; cases e
    | apart e => rw [h] at e; cases e
    | fine e => rw [h] at e; cases e
  | @leg x ds i h hx hb ha =>
    cases h' with
    | form e => rw [h] at e; cases e
    | @leg x' ds' i' e hx' hb' ha' =>
      rw [h] at e
      cases e
      rcases Nat.lt_trichotomy i i' with l | l | l
      · exact absurd (ha' i x l hx) hb
      · rw [l]
      · exact absurd (ha i' x' l hx') hb'
    | apart e ha' => rw [h] at e; cases e; exact absurd (ha' i x hx) hb
    | fine e ha' => rw [h] at e; cases e; exact absurd (ha' i x hx) hb
  | @apart ds i h ha hb hl =>
    cases h' with
    | form e => rw [h] at e; cases e
    | @leg x' ds' i' e hx' hb' ha' => rw [h] at e; cases e; exact absurd (ha i' x' hx') hb'
    | @apart ds' i' e ha' hb' hl' =>
      rw [h] at e
      cases e
      rcases Nat.lt_trichotomy i i' with l | l | l
      · exact absurd hb (hl' i l)
      · rw [l]
      · exact absurd hb' (hl i' l)
    | fine e ha' hl' => rw [h] at e; cases e; exact absurd hb (hl' i)
  | @fine ds h ha hl =>
    cases h' with
    | form e => rw [h] at e; cases e
    | @leg x' ds' i' e hx' hb' ha' => rw [h] at e; cases e; exact absurd (ha i' x' hx') hb'
    | @apart ds' i' e ha' hb' hl' => rw [h] at e; cases e; exact absurd hb' (hl i')
    | fine => rfl
theorem repAll_ints {K : PySem.W.Frag} {H : Hp} : ∀ {os : List Int} {ys : List V} {cs : List Addr}, RepAll K H (os.map D.int) ys cs → ys = os.map V.int
  | [], ys, cs, h => by
    simp only [List.map_nil, RepAll] at h
    exact h.1
  | o :: os, ys, cs, h => by
    simp only [List.map_cons, RepAll] at h
    obtain ⟨x, r, b1, c1, rfl, h1, h2, rfl⟩ := h
    simp only [Rep] at h1
    rw [h1.1, repAll_ints h2]
    rfl
theorem pair_of {d : D} (h : isPair d = true) : ∃ x y, d = .tup [x, y] := two_of h
abbrev sIsLeg : Stmt := top 12
abbrev nIsLeg : List Str := ["net", "value", "run", "times", "most"]
theorem scIsLeg : FnScope nIsLeg ["net", "value"] (defScope sIsLeg) := ⟨rfl, rfl, rfl, by decide +kernel, rfl, by decide +kernel, by decide +kernel⟩
section
variable {P : Program} {w : World} {K : PySem.W.Frag} {mg : Str → Option Value} {base : Heap}
def spLeg (K : PySem.W.Frag) : Sp := fun vs H Q _ => ∃ (a b : Addr) (n : Int) (ts : List V) (ars : List (Int × Int)) (x : V) (d : D) (as : List Addr), vs = [.ref a, x] ∧ NetAt n H a b ts ∧ ArsAt H ts ars ∧ Rep K H d x as ∧ wt d ≤ 10000000 ∧
  ∀ (c : Bool) (H' : Hp), (c = true ↔ LegOk n ars d) → Same H H' → Q (.bl c) H'
theorem ok_isLeg {f : Addr} {fd : FuncData} (F : Fun K "is_leg" "is_leg" sIsLeg f fd) (B : NoNames mg) (t : Tok) (mT : mg "MAX_TIMES" = some (.int (10 ^ 30) t)) (O1 : Own P w K mg base 1 "is_pair" ["value"] (spPair K))
    (O2 : Own P w K mg base 3 "run_error" ["net", "value"] (spRun K)) (O3 : Own P w K mg base 1 "is_integer_between" ["value", "least", "most"] (spBetween K)) : FnOk P w K mg base CX0 4 f fd ["net", "value"] (spLeg K) := by
  obtain ⟨fP, fdP, GP, mP, kP, bP⟩ := O1.ex
  obtain ⟨fR, fdR, GR, mR, kR, bR⟩ := O2.ex
  obtain ⟨fB, fdB, GB, mB, kB, bB⟩ := O3.ex
  refine F.ok scIsLeg (fun vs H Q E h => ?_) (fun cdv A outer s H vs Q E hr h => ?_)
  · obtain ⟨a, b, n, ts, ars, x, d, as, rfl, _⟩ := h
    rfl
  · obtain ⟨a, b, n, ts, ars, x, d, as, rfl, N, AR, hd, hw, k⟩ := h
    have hr1 : Room 1 _ := hr.mono (by decide)
    refine ⟨_, pss_cons (ps_if (pt_not (pt_val (pe_call GP hr1 rfl mP kP bP .nil pass0 (pa_cons (pv 1) pa_nil)))) (pss_one (ps_ret pe_bl)) pss_nil) <|
      pss_cons (ps_asg (pv 1) (pg_tup (by rfl) (pgs_cons (pg_name (i := 2) scIsLeg.nd rfl (.inl rfl)) (pgs_cons (pg_name (i := 3) scIsLeg.nd rfl (.inl rfl)) pgs_nil)))) <|
      pss_cons (ps_if (pt_cmpR op_notN (pe_call GR hr rfl mR kR bR .nil pass0 (pa_cons (pv 0) (pa_cons (pv 2) pa_nil))) pe_non (nomark _)) (pss_one (ps_ret pe_bl)) pss_nil) <|
      pss_cons (ps_set (i := 4) scIsLeg.nd rfl (.inl rfl) (pe_ifExp (pt_cmpR op_eq (pe_ix ix_tup (pv 2) pe_int (fun _ _ => rfl)) (pe_ix ix_tup (pv 2) (pe_un un_neg pe_int) (fun _ _ => rfl)) (nomark _)) (pe_glob (v := .int (10 ^ 30)) rfl mT ⟨_, rfl⟩) pe_int)) <|
      pss_one (ps_ret (pe_call GB hr1 rfl mB kB bB .nil pass0 (pa_cons (pv 3) (pa_cons pe_int (pa_cons (pv 4) pa_nil))))), ?_⟩
    have no : ¬ LegOk n ars d → Q (.bl false) H := fun hn => k false H ⟨fun z => (nomatch z), fun z => absurd z hn⟩ (Same.refl H)
    refine ⟨_, rfl, x, d, as, rfl, hd, _, rfl, ?_⟩
    cases e : isPair d with
    | false =>
      refine iteT (no fun ⟨os, t, hl, _⟩ => ?_)
      rw [hl] at e
      cases e
    | true =>
      refine iteF ?_
      obtain ⟨d1, d2, rfl⟩ := pair_of e
      simp only [Rep, RepAll] at hd
      obtain ⟨p, xs, bs, rfl, hp, ⟨y, r, c1, c2, rfl, h1, ⟨z, r2, e1, e2, rfl, h2, ⟨rfl, rfl⟩, rfl⟩, rfl⟩, nap, rfl⟩ := hd
      have w1 : wt d1 ≤ 10000000 := by
        simp only [wt, wtAll] at hw
        omega
      refine ⟨_, rfl, p, _, rfl, SqT.of hp, rfl, _, _, rfl, _, [], rfl, rfl, ?_⟩
      refine ⟨_, rfl, _, rfl, a, b, n, ts, ars, y, d1, c1, rfl, N, AR, h1, w1, fun r v bs H1 ir s1 rr _ _ _ => ?_⟩
      refine ⟨rfl, _, rfl, ?_⟩
      by_cases er : r = .non
      · subst er
        simp only [Rep] at rr
        rw [rr.1]
        refine iteF ?_
        obtain ⟨os, rfl, RO⟩ := fine_iff.mp ir
        simp only [Rep] at h1
        obtain ⟨q, ys, cs, rfl, hq, ra, naq, rfl⟩ := h1
        have ey := repAll_ints ra
        subst ey
        have hq1 := s1 _ _ hq
        have ne : os ≠ [] := fun z => by
          have := RO.ne
          rw [z] at this
          cases this
        obtain ⟨lo, lm, la, le⟩ := last_of ne
        obtain ⟨fo, hfo⟩ : ∃ fo, os[0]? = some fo := ⟨os[0]'(List.length_pos_iff.mpr ne), List.getElem?_eq_getElem _⟩
        have hfo2 : (os.map V.int)[0]? = some (.int fo) := by
          rw [List.getElem?_map, hfo]
          rfl
        refine ⟨_, rfl, q, _, 0, .int fo, rfl, rfl, SqT.of hq1, at_of (j := 0) rfl hfo2, _, rfl, 1, rfl, q, _, -1, .int lo, rfl, rfl, SqT.of hq1, la, rfl, _, rfl, ?_⟩
        have ends : os[0]? = os.getLast? ↔ fo = lo := by
          rw [hfo, le]
          simp
        refine ite2 (fun z => ?_) (fun z => ?_)
        · have z : fo = lo := by simpa using z
          refine ⟨_, rfl, _, rfl, _, _, _, 1, 10 ^ 30, rfl, h2.same s1, k _ _ ?_ s1⟩
          constructor
          · intro hw2
            cases d2 with
            | int t2 =>
              simp only [isWhole, Bool.and_eq_true, decide_eq_true_eq] at hw2
              exact ⟨os, t2, rfl, RO, hw2.1, hw2.2, .inr (ends.mpr z)⟩
            | _ => simp [isWhole] at hw2
          · rintro ⟨os', t2, hl, R', h1', h2', _⟩
            have ht : d2 = .int t2 := by
              injection hl with hl
              injection hl with _ hl
              injection hl
            rw [ht]
            simp only [isWhole, Bool.and_eq_true, decide_eq_true_eq]
            exact ⟨h1', h2'⟩
        · have z : ¬ fo = lo := by simpa using z
          refine ⟨_, rfl, _, rfl, _, _, _, 1, 1, rfl, h2.same s1, k _ _ ?_ s1⟩
          constructor
          · intro hw2
            cases d2 with
            | int t2 =>
              simp only [isWhole, Bool.and_eq_true, decide_eq_true_eq] at hw2
              exact ⟨os, t2, rfl, RO, hw2.1, Int.le_trans hw2.2 (by decide), .inl (by omega)⟩
            | _ => simp [isWhole] at hw2
          · rintro ⟨os', t2, hl, R', h1', h2', h3'⟩
            injection hl with hl
            injection hl with hl0 hl
            injection hl with hl _
            subst hl
            injection hl0 with hl0
            have eo : os = os' := by
              have := congrArg (List.map fun x => match x with | .int i => i | _ => 0) hl0
              simpa [List.map_map, Function.comp_def] using this
            subst eo
            rcases h3' with h3' | h3'
            · simp only [isWhole, Bool.and_eq_true, decide_eq_true_eq]
              exact ⟨h1', by omega⟩
            · exact absurd (ends.mp h3') z
      · have vn : v ≠ .non := fun z => by
          rw [z] at rr
          cases r with
          | non => exact er rfl
          | bl => simp [Rep] at rr
          | int => simp [Rep] at rr
          | str => simp [Rep] at rr
          | tup => simp only [Rep] at rr; obtain ⟨_, _, _, rr, _⟩ := rr; cases rr
          | lst => simp only [Rep] at rr; obtain ⟨_, _, _, rr, _⟩ := rr; cases rr
          | dct => simp only [Rep] at rr; obtain ⟨_, rr, _⟩ := rr; cases rr
          | exc => simp only [Rep] at rr; obtain ⟨_, _, _, rr, _⟩ := rr; cases rr
        rw [decide_eq_false vn]
        refine iteT (k false _ ⟨fun z => (nomatch z), fun ⟨os, t2, hl, R', _⟩ => ?_⟩ s1)
        injection hl with hl
        injection hl with hl _
        exact absurd (ir.det (fine_iff.mpr ⟨os, hl, R'⟩)) er
end
end Sw
namespace Sw
open PySem L2
theorem leg_rep {K : PySem.W.Frag} {H : Hp} {os : List Int} {t : Int} {v : V} {bs : List Addr} (h : Rep K H (.tup [.tup (os.map D.int), .int t]) v bs) : ∃ q r, v = .ref q ∧ H q = some (.tup [.ref r, .int t]) ∧ H r = some (.tup (os.map V.int)) := by
  simp only [Rep, RepAll] at h
  obtain ⟨p, xs, bs, rfl, hp, ⟨y, r, c1, c2, rfl, ⟨q, ys, cs, rfl, hq, ra, _, rfl⟩, ⟨z, r2, e1, e2, rfl, ⟨rfl, rfl⟩, ⟨rfl, rfl⟩, rfl⟩, rfl⟩, nap, rfl⟩ := h
  exact ⟨p, q, rfl, hp, by rw [hq, repAll_ints ra]⟩
theorem ints_inj {os os' : List Int} (h : os.map D.int = os'.map D.int) : os = os' := by
  have := congrArg (List.map fun x => match x with | .int i => i | _ => 0) h
  simpa [List.map_map, Function.comp_def] using this
theorem leg_inj {os os' : List Int} {t t' : Int} (h : (D.tup [.tup (os.map D.int), .int t]) = .tup [.tup (os'.map D.int), .int t']) : os = os' := by
  injection h with h
  injection h with h _
  injection h with h
  exact ints_inj h
theorem apart_of {ds : List D} {i : Nat} {os os' : List Int} {t t' fo lo : Int} (h0 : ds[i]? = some (.tup [.tup (os.map D.int), .int t])) (h1 : ds[i + 1]? = some (.tup [.tup (os'.map D.int), .int t'])) (l : os.getLast? = some lo) (f : os'[0]? = some fo) : ApartAt ds (i + 1) ↔ fo ≠ lo := by
  constructor
  · rintro ⟨_, os1, os2, t1, t2, v, w, e1, e2, e3, e4, ne⟩ z
    rw [show i + 1 - 1 = i from rfl, h0] at e1
    rw [h1] at e2
    have e1 := leg_inj (Option.some.inj e1)
    have e2 := leg_inj (Option.some.inj e2)
    subst e1 e2
    rw [l] at e3
    rw [f] at e4
    cases e3
    cases e4
    exact ne z.symm
  · intro z
    exact ⟨Nat.succ_pos i, os, os', t, t', lo, fo, h0, h1, l, f, fun q => z q.symm⟩
theorem RunOk.first {n : Int} {ars : List (Int × Int)} {os : List Int} (R : RunOk n ars os) : ∃ fo, os[0]? = some fo ∧ (os.map V.int)[0]? = some (.int fo) := by
  have h : 0 < os.length := R.ne
  refine ⟨os[0], List.getElem?_eq_getElem h, ?_⟩
  rw [List.getElem?_map, List.getElem?_eq_getElem h]
  rfl
theorem RunOk.nil {n : Int} {ars : List (Int × Int)} {os : List Int} (R : RunOk n ars os) : os ≠ [] := fun z => by
  have := R.ne
  rw [z] at this
  cases this
abbrev sJourney : Stmt := top 11
abbrev nJourney : List Str := ["net", "value", "spot", "leg", "ahead", "run"]
theorem scJourney : FnScope nJourney ["net", "value"] (defScope sJourney) := ⟨rfl, rfl, rfl, by decide +kernel, rfl, by decide +kernel, by decide +kernel⟩
section
variable {P : Program} {w : World} {K : PySem.W.Frag} {mg : Str → Option Value} {base : Heap}
def spJn (K : PySem.W.Frag) : Sp := fun vs H Q _ => ∃ (a b : Addr) (n : Int) (ts : List V) (ars : List (Int × Int)) (x : V) (d : D) (as : List Addr), vs = [.ref a, x] ∧ NetAt n H a b ts ∧ ArsAt H ts ars ∧ Rep K H d x as ∧ wt d ≤ 10000000 ∧
  ∀ (r : D) (v : V) (bs : List Addr) (H' : Hp), IsErrJ n ars d r → Same H H' → Rep K H' r v bs → small r → wt r ≤ 100 → dep r ≤ 1 → Q v H'
theorem ok_journey {f : Addr} {fd : FuncData} (F : Fun K "journey_error" "journey_error" sJourney f fd) (B : NoNames mg) (t : Tok) (mM : mg "MAX_LEGS" = some (.int 500 t)) (O : Own P w K mg base 4 "is_leg" ["net", "value"] (spLeg K)) :
    FnOk P w K mg base CX0 5 f fd ["net", "value"] (spJn K) := by
  obtain ⟨fT, fdT, GT, mT, kT, bT⟩ := O.ex
  refine F.ok scJourney (fun vs H Q E h => ?_) (fun cdv A outer s H vs Q E hr h => ?_)
  · obtain ⟨a, b, n, ts, ars, x, d, as, rfl, _⟩ := h
    rfl
  · obtain ⟨a, b, n, ts, ars, x, d, as, rfl, N, AR, hd, hw, k⟩ := h
    refine ⟨_, pss_cons (ps_if (PW.pt (pw_or (pt_not (pt_val (pe_isi (i := 1) (TN := "tuple") rfl (Or.inl rfl) (by decide) (by decide) B.isi B.tuple rfl rfl (by decide +kernel) (by decide) (by decide))))
        (pw_or1 (pt_cmpR op_gt (pe_callB call_len_seq (by rfl) B.len PySem.boot_len (pa_cons (pv 1) pa_nil)) (pe_glob (v := .int 500) rfl mM ⟨_, rfl⟩) (nomark _))))) (pss_one (ps_ret pe_str)) pss_nil) <|
      pss_cons (ps_for PassesOwn.never rfl (pi_enumT (by rfl) B.enumerate (pa_cons (pv 1) pa_nil)) (pg_tup rfl (pgs_cons (pg_name (i := 2) scJourney.nd rfl (.inl rfl)) (pgs_cons (pg_name (i := 3) scJourney.nd rfl (.inl rfl)) pgs_nil)))
        (pss_one (ps_if (pt_not (pt_val (pe_call GT hr rfl mT kT bT .nil pass0 (pa_cons (pv 0) (pa_cons (pv 3) pa_nil))))) (pss_one (ps_ret (pe_tup (pa_cons pe_str (pa_cons (pv 2) pa_nil))))) pss_nil))) <|
      pss_cons (ps_for PassesOwn.never rfl (pi_range2 (by rfl) B.range (pa_cons pe_int (pa_cons (pe_callB call_len_seq (by rfl) B.len PySem.boot_len (pa_cons (pv 1) pa_nil)) pa_nil))) (pg_name (i := 2) scJourney.nd rfl (.inl rfl))
        (pss_cons (ps_par (i := 4) (j := 5) rfl scJourney.nd rfl rfl (by decide) rfl rfl (pa_cons (pe_ix ix_tup (pe_ix ix_tup (pv 1) (pe_op op_sub (pv 2) pe_int) (fun _ _ => rfl)) pe_int (fun _ _ => rfl)) (pa_cons (pe_ix ix_tup (pe_ix ix_tup (pv 1) (pv 2) (fun _ _ => rfl)) pe_int (fun _ _ => rfl)) pa_nil)) (by rfl)) <|
        pss_one (ps_if (pt_cmpR op_ne (pe_ix ix_tup (pv 5) pe_int (fun _ _ => rfl)) (pe_ix ix_tup (pv 4) (pe_un un_neg pe_int) (fun _ _ => rfl)) (nomark _))
          (pss_one (ps_ret (pe_tup (pa_cons pe_str (pa_cons (pv 2) pa_nil))))) pss_nil))) <|
      pss_one (ps_ret pe_non), ?_⟩
    have kform : legsOf d = none → Q (.str "form") H := fun hf => by
      obtain ⟨q1, q2, q3, q4⟩ := err_str (K := K) (H := H) (z := "form") (by decide +kernel)
      exact k _ _ _ H (.form hf) (Same.refl H) q1 q2 q3 q4
    refine ⟨_, rfl, x, d, as, "tuple", rfl, by decide, hd, _, rfl, ?_⟩
    cases e : isT "tuple" d with
    | false =>
      refine iteT (iteT ?_)
      exact kform (legs_tup e)
    | true =>
      refine iteF ?_
      obtain ⟨ds, rfl⟩ := tup_of e
      simp only [Rep] at hd
      obtain ⟨p, ys, cs, rfl, hp, ra, nap, rfl⟩ := hd
      have hl := ra.len
      have hwds : ∀ y ∈ ds, wt y ≤ 10000000 := fun y hy => by
        have := wt_mem hy
        simp only [wt] at hw
        omega
      have hsz : ys.length ≤ sizeLine := by
        simp only [wt] at hw
        have h2 := wt_len ds
        rw [hl, sizeLine_eq]
        omega
      refine ⟨_, rfl, p, ys, rfl, .inr (SqT.of hp), _, _, rfl, rfl, _, rfl, ?_⟩
      by_cases c2 : (500 : Int) < (ys.length : Int)
      case pos =>
        rw [decide_eq_true c2]
        refine iteT ?_
        refine kform ?_
        rw [legs_len, if_neg (by rw [← hl]; omega)]
      case neg =>
      rw [decide_eq_false c2]
      refine iteF ?_
      have hf : legsOf (.tup ds) = some ds := by
        rw [legs_len, if_pos (by rw [← hl]; omega)]
      refine ⟨_, rfl, p, ys, rfl, SqT.of hp, for_it walk_te (fun i σ H' => (∃ s4 s5, σ = [some (.ref a), some (.ref p), s4, s5, none, none]) ∧ Same H H' ∧ ∀ (j : Nat) (y : D), j < i → ds[j]? = some y → LegOk n ars y)
        ⟨⟨_, _, rfl⟩, Same.refl H, fun j y h => absurd h (Nat.not_lt_zero _)⟩ (fun i σ H' _ h => SqT.of (h.2.1 _ _ hp)) ?_ ?_⟩
      · rintro i x σ1 H1 H2 hi ⟨⟨s4, s5, rfl⟩, s1, q⟩ ⟨T, x1, x2, rfl, nT, rfl, e1, e2⟩
        obtain rfl : V.int (i : Nat) = x1 := Option.some.inj e1
        refine ⟨T, [.int (i : Nat), x2], rfl, .inl (.inl upd_same), rfl, _, [x2], rfl, x2, [], rfl, rfl, ?_⟩
        have s2 : Same H (upd H1 T (.tup [.int (i : Nat), x2])) := s1.trans (same_new nT)
        obtain ⟨d2, b2, hd2, hr2, _⟩ := ra.at2 e2
        refine ⟨_, rfl, _, rfl, a, b, n, ts, ars, x2, d2, b2, rfl, N.keep (.of s2), AR.keep (.of s2), hr2.same s2, hwds d2 (List.mem_of_getElem? hd2), fun c H3 ic s23 => ⟨_, rfl, ?_⟩⟩
        have s3 := s2.trans s23
        cases c with
        | true =>
          refine iteF ⟨⟨_, _, rfl⟩, s3, fun j y hj hy => ?_⟩
          rcases Nat.lt_succ_iff_lt_or_eq.mp hj with z | z
          · exact q j y z hy
          · subst z
            rw [hd2] at hy
            cases hy
            exact ic.mp rfl
        | false =>
          refine iteT ⟨_, rfl, by show 2 ≤ sizeLine; decide, fun p2 np2 => ?_⟩
          obtain ⟨q1, q2, q3, q4⟩ := err_pair (K := K) (z := "leg") (i := i) (by decide +kernel) (Nat.le_trans (Nat.le_of_lt hi) hsz) np2
          exact k _ _ _ _ (.leg hf hd2 (fun z => by have := ic.mpr z; cases this) q) (s3.trans (same_new np2)) q1 q2 q3 q4
      · rintro σ H1 ⟨⟨s4, s5, rfl⟩, s1, q⟩
        have qa : ∀ (j : Nat) (y : D), ds[j]? = some y → LegOk n ars y := fun j y hy => q j y (by rw [hl]; exact (List.getElem?_eq_some_iff.mp hy).1) hy
        have small62 : (ys.length : Int) < 2 ^ 62 := by
          rw [sizeLine_eq] at hsz
          omega
        refine ⟨_, rfl, p, ys, rfl, .inr (SqT.of (s1 _ _ hp)), 1, (ys.length : Int), rfl, ⟨by decide, by decide, by omega, small62⟩, for_range (lo := 1) (n := ((ys.length : Int) - 1).toNat)
          (fun i σ H' => (∃ s4 s5 s6 s7, σ = [some (.ref a), some (.ref p), s4, s5, s6, s7]) ∧ Same H H' ∧ ∀ j, j < i + 1 → ¬ ApartAt ds j) ⟨⟨_, _, _, _, rfl⟩, s1, fun j hj hb => ?_⟩ ?_ ?_⟩
        · obtain ⟨h0, _⟩ := hb
          omega
        · rintro i σ H2 hi ⟨⟨s4, s5, s6, s7, rfl⟩, s2', ql⟩
          have hi1 : i + 1 < ys.length := by omega
          have hi0 : i < ys.length := by omega
          have y1 : ys[i + 1]? = some ys[i + 1] := List.getElem?_eq_getElem hi1
          have y0 : ys[i]? = some ys[i] := List.getElem?_eq_getElem hi0
          obtain ⟨dd1, b1, hd1, r1, _⟩ := ra.at2 y1
          obtain ⟨dd0, b0, hd0, r0, _⟩ := ra.at2 y0
          obtain ⟨os1, t1, rfl, R1, _⟩ := qa _ _ hd1
          obtain ⟨os0, t0, rfl, R0, _⟩ := qa _ _ hd0
          obtain ⟨q1, z1, v1, l1, m1⟩ := leg_rep (r1.same s2')
          obtain ⟨q0, z0, v0, l0, m0⟩ := leg_rep (r0.same s2')
          rw [v1] at y1
          rw [v0] at y0
          obtain ⟨fo, f1, f2⟩ := R1.first
          obtain ⟨lo, _, la, le⟩ := last_of R0.nil
          have hp2 := SqT.of (K := K) (s2' _ _ hp)
          refine ⟨_, rfl, _, rfl, _, _, rfl, rfl, p, ys, _, _, rfl, rfl, hp2, at_of (j := i) (by omega) y0, q0, _, 0, .ref z0, rfl, rfl, SqT.of l0, at_of (j := 0) rfl rfl, _, rfl, _, rfl, p, ys, _, _, rfl, rfl, hp2, at_of (j := i + 1) (by omega) y1, q1, _, 0, .ref z1, rfl, rfl, SqT.of l1, at_of (j := 0) rfl rfl, _, _, rfl, ?_⟩
          refine ⟨_, rfl, z1, _, 0, .int fo, rfl, rfl, SqT.of m1, at_of (j := 0) rfl f2, _, rfl, 1, rfl, z0, _, -1, .int lo, rfl, rfl, SqT.of m0, la, rfl, _, rfl, ?_⟩
          have ap := apart_of hd0 hd1 le f1
          refine ite2 (fun z => ?_) (fun z => ?_)
          · have z : fo ≠ lo := by simpa using z
            refine ⟨_, rfl, by show 2 ≤ sizeLine; decide, fun p2 np2 => ?_⟩
            have ei : (1 : Int) + (i : Int) = ((i + 1 : Nat) : Int) := by omega
            rw [ei]
            obtain ⟨g1, g2, g3, g4⟩ := err_pair (K := K) (z := "apart") (i := i + 1) (by decide +kernel) (by omega) np2
            exact k _ _ _ _ (.apart hf qa (ap.mpr z) ql) (s2'.trans (same_new np2)) g1 g2 g3 g4
          · have z : fo = lo := by simpa using z
            refine ⟨⟨_, _, _, _, rfl⟩, s2', fun j hj hb => ?_⟩
            rcases Nat.lt_succ_iff_lt_or_eq.mp hj with y | y
            · exact ql j y hb
            · subst y
              exact ap.mp hb z
        · rintro σ H2 ⟨⟨s4, s5, s6, s7, rfl⟩, s2', ql⟩
          refine k .non .non [] H2 (.fine hf qa fun j hb => ?_) s2' (by simp [Rep]) (by simp only [small]) (by simp only [wt]; decide) (by simp only [dep]; decide)
          obtain ⟨h0, _, _, _, _, _, _, _, h2, _⟩ := id hb
          have hj : j < ds.length := (List.getElem?_eq_some_iff.mp h2).1
          exact ql j (by omega) hb
end
end Sw
namespace Sw
open PySem L2
section
variable {P : Program} {w : World} {K : PySem.W.Frag} {mg : Str → Option Value} {base : Heap}
/-- _law_draw of any number up to 10 ** 30 -/
def spDrawX : Sp := fun vs H Q _ => ∃ (p d : Addr) (m : Int), vs = [.ref p, .int m] ∧ Deck H p d 63 ∧ m ≤ BigT ∧ ∀ (r : Int) (H' : Hp), 0 ≤ r → (1 ≤ m → r < m) → (m < 2 → r = 0) → Deck H' p d 63 → Kp p d H H' → Q (.int r) H'
theorem ok_drawX {f : Addr} {fd : FuncData} (F : Fun K "_law_draw" "_law_draw" sDraw f fd) (B : NoNames mg) : FnOk P w K mg base CX0 1 f fd ["deck", "many"] spDrawX := by
  refine F.ok scDraw (fun vs H Q E h => ?_) (fun cdv A outer s H vs Q E hr h => ?_)
  · obtain ⟨p, d, m, rfl, _⟩ := h
    rfl
  · obtain ⟨p, d, m, rfl, D, hm, k⟩ := h
    have hu := hu_of hr
    refine ⟨_, pss_cons (ps_if (pt_cmpR op_lt (pv 1) pe_int (nomark _)) (pss_one (ps_ret pe_int)) pss_nil)
      (pss_cons (ps_if (pt_cmpR (op_neD hr.units) (pe_dget hu (pv 0) pe_str (fun _ _ => rfl)) (pe_lst pa_nil) (nomark _))
        (pss_cons (ps_set (i := 2) scDraw.nd rfl (.inl rfl) (pe_bm0 PySem.F.plainAttrs_list PySem.F.slot_list_pop PySem.F.type_list_pop mt_pop (pe_dget hu (pv 0) pe_str (fun _ _ => rfl))))
        (pss_cons (ps_if (pt_cmpR op_ge (pv 2) (pv 1) (nomark _)) (pss_one (ps_expr (pe_bm PySem.F.plainAttrs_list PySem.F.slot_list_append PySem.F.type_list_append mt_append (pe_dget hu (pv 0) pe_str (fun _ _ => rfl)) (pa_cons (pe_op op_fdivW (pv 2) (pv 1)) pa_nil)))) pss_nil)
        (pss_one (ps_ret (pe_op op_mod (pe_callTy call_int1 (by rfl) B.int (by decide +kernel) (pa_cons (pv 2) pa_nil)) (pv 1)))))) pss_nil)
      (pss_cons (ps_set (i := 3) scDraw.nd rfl (.inl rfl) (pe_op op_mod (pe_callTy call_int1 (by rfl) B.int (by decide +kernel) (pa_cons (pe_op op_add (pe_op op_mul (pe_dget hu (pv 0) pe_str (fun _ _ => rfl)) pe_int) pe_int) pa_nil)) pe_int))
      (pss_cons (ps_dput hu (pv 0) pe_str (pv 3) rfl)
      (pss_cons (ps_set (i := 4) scDraw.nd rfl (.inl rfl) (pe_op op_mod (pe_callTy call_int1 (by rfl) B.int (by decide +kernel) (pa_cons (pe_op op_add (pe_op op_add (pe_op op_mul (pv 3) (pv 3)) (pe_op op_mul pe_int (pv 3))) pe_int) pa_nil)) pe_int))
      (pss_one (ps_ret (pe_op op_mod (pe_callTy call_int1 (by rfl) B.int (by decide +kernel) (pa_cons (pe_op op_fdiv (pv 4) pe_int) pa_nil)) (pv 1)))))))), ?_⟩
    obtain ⟨ns, st, hp, hd, hl, hn, hs1, hs2⟩ := id D.ex
    refine ⟨_, rfl, _, _, rfl, rfl, _, rfl, ?_⟩
    refine ite2 (fun z => ?_) (fun z => ?_)
    · have z : m < 2 := of_decide_eq_true z
      exact k 0 H (by decide) (fun _ => by omega) (fun _ => rfl) D .refl
    have z : ¬ m < 2 := fun q => z (decide_eq_true q)
    refine ⟨_, rfl, p, _, rfl, dget_deep hp, by show 0 ≤ sizeLine; exact Nat.zero_le _, fun e ne => ?_⟩
    have se : Same H (upd H e (.lst [])) := same_new ne
    refine ⟨.list (ns.map PyData.int), .list [], .lst (SqL.of (se _ _ hd)) (dpInts ns), .lst (SqL.of upd_same) .nil, PySem.W.ke_shaped_ints ns, rfl, _, rfl, ?_⟩
    rw [eqv_nil]
    refine ite2 (fun y => ?_) (fun y => ?_)
    · obtain ⟨n, ms, rfl, hlast, hdrop⟩ := last_ints (of_decide_eq_true y)
      have hn0 : 0 ≤ n := hn n (by simp)
      refine ⟨_, rfl, p, _, rfl, dget_deep (se _ _ hp), .inl ⟨rfl, _, SqL.of (se _ _ hd)⟩, d, _, _, rfl, rfl, se _ _ hd, hlast, ?_⟩
      rw [hdrop]
      have hpd := D.ne
      have h1 : (upd (upd H e (.lst [])) d (.lst (ms.map V.int))) p = some (.dK (deckL d st)) := by
        rw [upd_ne hpd]
        exact se _ _ hp
      have h2 : (upd (upd H e (.lst [])) d (.lst (ms.map V.int))) d = some (.lst (ms.map V.int)) := upd_same
      have h3 : Kp p d H (upd (upd H e (.lst [])) d (.lst (ms.map V.int))) := fun b o e n1 n2 => by
        rw [upd_ne n2]
        exact se _ _ e
      have hl' : ms.length + 1 ≤ 63 := by simpa using hl
      have hn' : ∀ x ∈ ms, 0 ≤ x := fun x hx => hn x (by simp [hx])
      generalize (upd (upd H e (.lst [])) d (.lst (ms.map V.int))) = H1 at h1 h2 h3 ⊢
      have D1 : Deck H1 p d 63 := ⟨ms, st, h1, h2, by omega, hn', hs1, hs2⟩
      refine ⟨_, rfl, _, rfl, _, _, rfl, rfl, _, rfl, ?_⟩
      refine ite2 (fun x => ?_) (fun x => ?_)
      · have x : m ≤ n := of_decide_eq_true x
        refine ⟨_, rfl, p, _, rfl, dget_deep h1, .inl ⟨rfl, _, SqL.of h2⟩, _, rfl, _, rfl, _, _, rfl, rfl, wide_div (b := 110) (by omega) (by unfold BigT at hm; omega) (by decide) (by decide), d, _, _, rfl, rfl, h2, ?_, ?_⟩
        · rw [List.length_map, sizeLine_eq]
          omega
        refine ⟨_, rfl, .inl ⟨_, rfl, _, rfl, _, _, rfl, rfl, by show 0 < m; omega, ?_⟩⟩
        refine k _ _ (Int.emod_nonneg _ (by omega)) (fun _ => Int.emod_lt_of_pos _ (by omega)) (fun y => absurd y (by omega)) ⟨ms ++ [n / m], st, ?_, ?_, ?_, ?_, hs1, hs2⟩ (h3.trans fun b o e n1 n2 => ?_)
        · rw [upd_ne hpd]
          exact h1
        · rw [upd_same, List.map_append]
          rfl
        · simp
          omega
        · intro x hx
          rcases List.mem_append.mp hx with q | q
          · exact hn' x q
          · rw [List.mem_singleton.mp q]
            exact Int.ediv_nonneg hn0 (by omega)
        · rw [upd_ne n2]
          exact e
      · refine ⟨_, rfl, .inl ⟨_, rfl, _, rfl, _, _, rfl, rfl, by show 0 < m; omega, ?_⟩⟩
        exact k _ _ (Int.emod_nonneg _ (by omega)) (fun _ => Int.emod_lt_of_pos _ (by omega)) (fun y => absurd y (by omega)) D1 h3
    · have D1 := D.same se
      generalize (upd H e (.lst [])) = H1 at se D1
      obtain ⟨ns, st, hp, hd, hl, hn, hs1, hs2⟩ := id D1.ex
      refine ⟨_, rfl, p, _, rfl, dget_state hp, _, _, rfl, rfl, .inl ⟨by omega, by omega⟩, _, _, rfl, rfl, ?_⟩
      refine .inl ⟨_, rfl, _, _, rfl, rfl, (by show (0 : Int) < 2305843009213693951; decide), ?_⟩
      dsimp only
      have o1 : 0 ≤ (st * 1181783497276652981 + 88172645463325) % 2305843009213693951 := Int.emod_nonneg _ (by decide)
      have o2 : (st * 1181783497276652981 + 88172645463325) % 2305843009213693951 < 2305843009213693951 := Int.emod_lt_of_pos _ (by decide)
      generalize (st * 1181783497276652981 + 88172645463325) % 2305843009213693951 = one at o1 o2 ⊢
      refine ⟨_, rfl, _, rfl, p, _, rfl, dput_state one hp, ?_⟩
      refine ⟨_, rfl, _, rfl, _, _, rfl, rfl, .inl ⟨by omega, by omega⟩, _, rfl, _, _, rfl, rfl, .inl ⟨by decide, by decide⟩, _, _, rfl, rfl, _, _, rfl, rfl, ?_⟩
      refine .inl ⟨_, rfl, _, _, rfl, rfl, (by show (0 : Int) < 2305843009213693921; decide), ?_⟩
      dsimp only
      generalize (one * one + 374761393 * one + 11) % 2305843009213693921 = two
      refine ⟨_, rfl, _, _, rfl, rfl, ⟨by decide, by decide⟩, ?_⟩
      refine .inl ⟨_, rfl, _, rfl, _, _, rfl, rfl, by show 0 < m; omega, ?_⟩
      refine k _ _ (Int.emod_nonneg _ (by omega)) (fun _ => Int.emod_lt_of_pos _ (by omega)) (fun y => absurd y (by omega)) ⟨ns, one, upd_same, ?_, hl, hn, o1, by omega⟩ (fun b o e n1 n2 => ?_)
      · rw [upd_ne (D1.ne).symm]
        exact hd
      · rw [upd_ne n1]
        exact se _ _ e
end
end Sw
namespace Sw
open PySem L2
/-! ### _law_journey -/
theorem Chain.app {ars : List (Int × Int)} {os bs : List Int} {v : Int} (h : Chain ars os) (hl : os.getLast? = some v) (h2 : Chain ars (v :: bs)) : Chain ars (os ++ bs) := fun i x y e1 e2 => by
  by_cases q : i + 1 < os.length
  · rw [List.getElem?_append_left (by omega)] at e1
    rw [List.getElem?_append_left q] at e2
    exact h i x y e1 e2
  · have ne : os.length ≠ 0 := fun z => by
      have : os = [] := List.length_eq_zero_iff.mp z
      rw [this] at hl
      cases hl
    rw [List.getElem?_append_right (by omega)] at e2
    rw [List.getLast?_eq_getElem?] at hl
    by_cases q2 : i + 1 = os.length
    · rw [List.getElem?_append_left (by omega)] at e1
      rw [show os.length - 1 = i by omega, e1] at hl
      cases hl
      rw [q2, Nat.sub_self] at e2
      exact h2 0 _ y rfl (by simpa using e2)
    · rw [List.getElem?_append_right (by omega)] at e1
      refine h2 (i - os.length + 1) x y ?_ ?_
      · simpa using e1
      · rw [List.getElem?_cons_succ, show i - os.length + 1 = i + 1 - os.length by omega]
        exact e2
/-- a leg, as it lies -/
def LegAt (n : Int) (ars : List (Int × Int)) (H : Hp) (x : V) (l : List Int × Int) : Prop := ∃ q ru, x = .ref q ∧ H q = some (.tup [.ref ru, .int l.2]) ∧ H ru = some (.tup (l.1.map V.int)) ∧ RunOk n ars l.1 ∧ l.1.length ≤ 16 ∧ 1 ≤ l.2 ∧ l.2 ≤ BigT ∧ (l.2 = 1 ∨ l.1[0]? = l.1.getLast?)
def LegsAt (n : Int) (ars : List (Int × Int)) (H : Hp) (xs : List V) (ls : List (List Int × Int)) : Prop := Paired (LegAt n ars H) xs ls
theorem LegAt.keep {n : Int} {ars : List (Int × Int)} {H H' : Hp} {x : V} {l : List Int × Int} (h : LegAt n ars H x l) (s : TupS H H') : LegAt n ars H' x l := by
  obtain ⟨q, ru, e, h1, h2, r⟩ := h
  exact ⟨q, ru, e, s _ _ h1, s _ _ h2, r⟩
theorem LegsAt.keep {n : Int} {ars : List (Int × Int)} {H H' : Hp} {xs : List V} {ls : List (List Int × Int)} (h : LegsAt n ars H xs ls) (s : TupS H H') : LegsAt n ars H' xs ls := paired_mono (fun _ _ x => x.keep s) h
def Meets (ls : List (List Int × Int)) : Prop := ∀ i l l', ls[i]? = some l → ls[i + 1]? = some l' → l'.1[0]? = l.1.getLast?
def EndsAt (ls : List (List Int × Int)) (here : Int) : Prop := ∀ l, ls.getLast? = some l → l.1.getLast? = some here
theorem Meets.snoc {ls : List (List Int × Int)} {here : Int} {l : List Int × Int} (m : Meets ls) (e : EndsAt ls here) (h : l.1[0]? = some here) : Meets (ls ++ [l]) := fun i x y e1 e2 => by
  have hlen : i + 1 < (ls ++ [l]).length := (List.getElem?_eq_some_iff.mp e2).1
  rw [List.length_append, List.length_singleton] at hlen
  by_cases q : i + 1 < ls.length
  · rw [List.getElem?_append_left (by omega)] at e1
    rw [List.getElem?_append_left q] at e2
    exact m i x y e1 e2
  · have q2 : i + 1 = ls.length := by omega
    rw [List.getElem?_append_left (by omega)] at e1
    rw [q2, List.getElem?_append_right (Nat.le_refl _), Nat.sub_self] at e2
    cases e2
    have el : ls.getLast? = some x := by
      rw [List.getLast?_eq_getElem?, show ls.length - 1 = i by omega]
      exact e1
    rw [e x el]
    exact h
section
variable (p d a b : Addr) (n many : Int) (ts : List V) (ars : List (Int × Int)) (H0 : Hp)
/-- the states of a turn -/
structure JCore (i : Nat) (fo : Addr) (here : Int) (H : Hp) (xs : List V) (ls : List (List Int × Int)) : Prop where
  D : Deck H p d 63
  kp : Kp p d H0 H
  nf : H0 fo = none
  f : H fo = some (.lst xs)
  fd : fo ≠ d
  legs : LegsAt n ars H xs ls
  meets : Meets ls
  ends : EndsAt ls here
  here : Inn n here
  len : xs.length = i
def JN (i : Nat) (σ : L2.St) (H : Hp) : Prop := ∃ fo here xs ls s5 s6 s7 s8, σ = [some (.ref p), some (.ref a), some (.int many), some (.ref fo), some (.int here), s5, s6, s7, s8] ∧ JCore p d n ars H0 i fo here H xs ls
def JRun (m : Nat) (i : Nat) (σ : L2.St) (H : Hp) : Prop := ∃ fo here xs ls s5 ru os s7 s8, σ = [some (.ref p), some (.ref a), some (.int many), some (.ref fo), some (.int here), s5, some (.ref ru), s7, s8] ∧ JCore p d n ars H0 i fo here H xs ls ∧ H ru = some (.tup (os.map V.int)) ∧ RunOk n ars os ∧ os.length ≤ m ∧ os[0]? = some here
def JTim (q : Bool) (i : Nat) (σ : L2.St) (H : Hp) : Prop := ∃ fo here xs ls s5 ru os s7 t, σ = [some (.ref p), some (.ref a), some (.int many), some (.ref fo), some (.int here), s5, some (.ref ru), s7, some (.int t)] ∧ JCore p d n ars H0 i fo here H xs ls ∧ H ru = some (.tup (os.map V.int)) ∧ RunOk n ars os ∧ os.length ≤ 16 ∧ os[0]? = some here ∧ 1 ≤ t ∧ t ≤ BigT ∧ (q = true → t = 1 ∨ os[0]? = os.getLast?)
end
theorem JCore.keep {p d : Addr} {n : Int} {ars : List (Int × Int)} {H0 : Hp} {i : Nat} {fo : Addr} {here : Int} {H H' : Hp} {xs : List V} {ls : List (List Int × Int)} (J : JCore p d n ars H0 i fo here H xs ls) (D' : Deck H' p d 63) (k : Kp p d H H') : JCore p d n ars H0 i fo here H' xs ls :=
  ⟨D', J.kp.trans k, J.nf, k _ _ J.f (J.D.kne J.f) J.fd, J.fd, J.legs.keep (.kp J.D k), J.meets, J.ends, J.here, J.len⟩
theorem JCore.same {p d : Addr} {n : Int} {ars : List (Int × Int)} {H0 : Hp} {i : Nat} {fo : Addr} {here : Int} {H H' : Hp} {xs : List V} {ls : List (List Int × Int)} (J : JCore p d n ars H0 i fo here H xs ls) (s : Same H H') : JCore p d n ars H0 i fo here H' xs ls := J.keep (J.D.same s) (.of s)
abbrev sLJourney : Stmt := top 22
abbrev nLJourney : List Str := ["deck", "net", "many", "found", "here", "turn", "run", "back", "times"]
theorem scLJourney : FnScope nLJourney ["deck", "net", "many"] (defScope sLJourney) := ⟨rfl, rfl, rfl, by decide +kernel, rfl, by decide +kernel, by decide +kernel⟩
section
variable {P : Program} {w : World} {K : PySem.W.Frag} {mg : Str → Option Value} {base : Heap}
def spLJourney : Sp := fun vs H Q _ => ∃ (p d a b : Addr) (n many : Int) (ts : List V) (ars : List (Int × Int)), vs = [.ref p, .ref a, .int many] ∧ Deck H p d 63 ∧ NetAt n H a b ts ∧ ArsAt H ts ars ∧ (0 ≤ many ∧ many ≤ 1000) ∧
  ∀ (r : Addr) (xs : List V) (ls : List (List Int × Int)) (H' : Hp), Deck H' p d 63 → Kp p d H H' → H' r = some (.tup xs) → LegsAt n ars H' xs ls → Meets ls → (xs.length : Int) = many → Q (.ref r) H'
theorem ok_lJourney {f : Addr} {fd : FuncData} (F : Fun K "_law_journey" "_law_journey" sLJourney f fd) (B : NoNames mg) (OD : Own P w K mg base 1 "_law_draw" ["deck", "many"] spDrawX) (OP : Own P w K mg base 2 "_law_pick" ["deck", "items"] spPick)
    (OW : Own P w K mg base 3 "_law_walk" ["deck", "net", "first", "many"] spWalk) (OB : Own P w K mg base 2 "_law_back" ["net", "first", "last"] spBack) : FnOk P w K mg base CX0 4 f fd ["deck", "net", "many"] spLJourney := by
  obtain ⟨fD, fdD, GD, mD, kD, bD⟩ := OD.ex
  obtain ⟨fP, fdP, GP, mP, kP, bP⟩ := OP.ex
  obtain ⟨fW, fdW, GW, mW, kW, bW⟩ := OW.ex
  obtain ⟨fB, fdB, GB, mB, kB, bB⟩ := OB.ex
  refine F.ok scLJourney (fun vs H Q E h => ?_) (fun cdv A outer s H vs Q E hr h => ?_)
  · obtain ⟨p, d, a, b, n, many, ts, ars, rfl, _⟩ := h
    rfl
  · obtain ⟨p, d, a, b, n, many, ts, ars, rfl, D0, N, AR, hm, k⟩ := h
    have hr1 : Room 1 _ := hr.mono (by decide)
    have hr2 : Room 2 _ := hr.mono (by decide)
    have b4 : (4 : Int) ≤ BigT := by decide
    have n1 := N.n1
    have n2 := N.n2
    have p30 : ((10 : Int) ^ ((30 : Int)).toNat) = BigT := rfl
    have b12 : (12 : Int) ≤ BigT := by decide
    refine ⟨_, pss_cons (ps_par (i := 3) (j := 4) rfl scLJourney.nd rfl rfl (by decide) rfl rfl (pa_cons (pe_lst pa_nil) (pa_cons (pe_call GD hr1 rfl mD kD bD .nil pass0 (pa_cons (pv 0) (pa_cons (pe_ix ix_tup (pv 1) pe_int (fun _ _ => rfl)) pa_nil))) pa_nil)) (by rfl)) <|
      pss_cons (ps_for PassesOwn.never rfl (pi_range1 (by rfl) B.range (pa_cons (pv 2) pa_nil)) (pg_name (i := 5) scLJourney.nd rfl (.inl rfl))
        (pss_cons (ps_cutI (JN p d a n many ars H) (JRun p d a n many ars H 4) (ps_set (i := 6) scLJourney.nd rfl (.inl rfl) (pe_call GW hr rfl mW kW bW .nil pass0 (pa_cons (pv 0) (pa_cons (pv 1) (pa_cons (pv 4) (pa_cons (pe_call GD hr1 rfl mD kD bD .nil pass0 (pa_cons (pv 0) (pa_cons pe_int pa_nil))) pa_nil)))))) ?c0) <|
        pss_cons (ps_cutI (JRun p d a n many ars H 4) (JRun p d a n many ars H 16) (ps_if (pt_cmpR op_gt (pe_call GD hr1 rfl mD kD bD .nil pass0 (pa_cons (pv 0) (pa_cons pe_int pa_nil))) pe_int (nomark _))
          (pss_cons (ps_set (i := 7) scLJourney.nd rfl (.inl rfl) (pe_call GB hr2 rfl mB kB bB .nil pass0 (pa_cons (pv 1) (pa_cons (pe_ix ix_tup (pv 6) (pe_un un_neg pe_int) (fun _ _ => rfl)) (pa_cons (pe_ix ix_tup (pv 6) pe_int (fun _ _ => rfl)) pa_nil))))) <|
          pss_one (ps_set (i := 6) scLJourney.nd rfl (.inl rfl) (pe_ifExp (pt_cmpR op_notN (pv 7) pe_non (nomark _)) (pe_op (r := rCatA K) op_catA (pv 6) (pv 7)) (pe_slice sl_tupA (pv 6) po_none (po_some pe_int))))) pss_nil) ?c1) <|
        pss_cons (ps_cutI (JRun p d a n many ars H 16) (JTim p d a n many ars H false) (ps_set (i := 8) scLJourney.nd rfl (.inl rfl) (pe_call GP hr2 rfl mP kP bP .nil pass0 (pa_cons (pv 0) (pa_cons (pe_lst (pa_cons pe_int (pa_cons pe_int (pa_cons pe_int (pa_cons (pe_op op_pow pe_int pe_int)
          (pa_cons (pe_op op_add (pe_call GD hr1 rfl mD kD bD .nil pass0 (pa_cons (pv 0) (pa_cons (pe_op op_pow pe_int pe_int) pa_nil))) pe_int) (pa_cons (pe_op op_sub (pe_op op_pow pe_int pe_int) pe_int) pa_nil))))))) pa_nil)))) ?c2) <|
        pss_cons (ps_cutI (JTim p d a n many ars H false) (JTim p d a n many ars H true) (ps_set (i := 8) scLJourney.nd rfl (.inl rfl) (pe_ifExp (pt_cmpR op_eq (pe_ix ix_tup (pv 6) pe_int (fun _ _ => rfl)) (pe_ix ix_tup (pv 6) (pe_un un_neg pe_int) (fun _ _ => rfl)) (nomark _)) (pv 8) pe_int)) ?c3) <|
        pss_cons (ps_expr (pe_bm PySem.F.plainAttrs_list PySem.F.slot_list_append PySem.F.type_list_append mt_append (pv 3) (pa_cons (pe_tup (pa_cons (pv 6) (pa_cons (pv 8) pa_nil))) pa_nil))) <|
        pss_one (ps_set (i := 4) scLJourney.nd rfl (.inl rfl) (pe_ix ix_tup (pv 6) (pe_un un_neg pe_int) (fun _ _ => rfl))))) <|
      pss_one (ps_ret (pe_callTy call_tuple_of (by rfl) B.tuple (by decide +kernel) (pa_cons (pv 3) pa_nil))), ?_⟩
    case c0 =>
      rintro i D σ H1 ⟨fo, here, xs, ls, s5, s6, s7, s8, rfl, J⟩ nx
      refine ⟨_, rfl, _, rfl, _, rfl, _, rfl, p, d, 4, rfl, J.D, b4, fun r H2 r0 r1 r2 D2 k2 => ?_⟩
      have J2 := J.keep D2 k2
      have t2 := TupS.kp D0 J2.kp
      have r1 := r1 (by decide)
      refine ⟨p, d, a, b, n, here, r, ts, ars, rfl, D2, N.keep t2, AR.keep t2, J.here, ⟨r0, by omega⟩, fun ru os H3 D3 k3 nru hru ne len each h0 ch _ => nx _ _ ?_⟩
      exact ⟨fo, here, xs, ls, _, ru, os, _, _, rfl, J2.keep D3 k3, hru, ⟨List.length_pos_iff.mpr ne, by omega, each, ch⟩, by omega, h0⟩
    case c1 =>
      rintro i D σ H1 ⟨fo, here, xs, ls, s5, ru, os, s7, s8, rfl, J, hru, RO, len, h0⟩ nx
      refine ⟨_, rfl, p, d, 3, rfl, J.D, by decide, fun r H2 r0 r1 r2 D2 k2 => ⟨_, _, rfl, rfl, _, rfl, ?_⟩⟩
      have J2 := J.keep D2 k2
      have hru2 := TupS.kp J.D k2 _ _ hru
      have t2 := TupS.kp D0 J2.kp
      obtain ⟨lo, lm, la, le⟩ := last_of RO.nil
      have h0' : (os.map V.int)[0]? = some (.int here) := by
        rw [List.getElem?_map, h0]
        rfl
      refine ite2 (fun _ => ?_) (fun _ => nx _ _ ⟨fo, here, xs, ls, _, ru, os, _, _, rfl, J2, hru2, RO, by omega, h0⟩)
      refine ⟨_, rfl, _, rfl, 1, rfl, ru, _, -1, .int lo, rfl, rfl, SqT.of hru2, la, _, rfl, ru, _, 0, .int here, rfl, rfl, SqT.of hru2, at_of (j := 0) rfl h0', a, b, n, lo, here, ts, ars, rfl, N.keep t2, AR.keep t2, RO.each lo lm, fun H3 s3 => ?_, fun r bs H3 s3 hr3 ch lst lb each => ?_⟩
      · have J3 := J2.same s3
        have hru3 := s3 _ _ hru2
        refine ⟨_, rfl, rfl, _, rfl, ?_⟩
        refine iteF ⟨_, rfl, 1, rfl, ru, _, rfl, SqT.of hru3, fun wh => ?_, fun nwh q nq => ?_⟩
        · have wh2 := wh.2
          rw [show (some (1 : Int)) = some ((1 : Nat) : Int) from rfl, HT.sIx_nat, List.length_map] at wh2
          refine nx _ _ ⟨fo, here, xs, ls, _, ru, os, _, _, rfl, J3, hru3, RO, by omega, h0⟩
        · have sq : Same H3 (upd H3 q (.tup (cutV (os.map V.int) none (some 1)))) := same_new nq
          have ec : cutV (os.map V.int) none (some 1) = [here].map V.int := by
            unfold cutV
            rw [show (some (1 : Int)) = some ((1 : Nat) : Int) from rfl, HT.sIx_nat, HT.sIx_none, List.drop_zero, Nat.sub_zero]
            cases os with
            | nil => cases h0
            | cons o r =>
              have e := Option.some.inj h0
              subst e
              rw [List.map_cons, List.length_cons, show min 1 ((r.map V.int).length + 1) = 1 by omega]
              rfl
          refine nx _ _ ⟨fo, here, xs, ls, _, q, [here], _, _, rfl, J3.same sq, by rw [upd_same, ec], ⟨Nat.le_refl 1, by show 1 ≤ 1000; decide, fun o ho => by rw [List.mem_singleton.mp ho]; exact J.here, Chain.one⟩, by show 1 ≤ 16; decide, rfl⟩
      · have J3 := J2.same s3
        have hru3 := s3 _ _ hru2
        refine ⟨_, rfl, rfl, _, rfl, ?_⟩
        have lb2 : (os ++ bs).length ≤ 16 := by
          rw [List.length_append]
          omega
        have RO2 : RunOk n ars (os ++ bs) := ⟨by rw [List.length_append]; have := RO.ne; omega, by omega, fun o ho => (List.mem_append.mp ho).elim (RO.each o) (each o), RO.ch.app le ch⟩
        have h02 : (os ++ bs)[0]? = some here := by
          rw [List.getElem?_append_left (by have := RO.ne; omega)]
          exact h0
        refine iteT ⟨_, rfl, _, rfl, ru, r, os.map V.int, bs.map V.int, rfl, rfl, SqT.of hru3, SqT.of hr3, by rw [List.length_map, List.length_map, sizeLine_eq]; omega, fun z => ?_, fun _ z => ?_, fun _ _ q nq => ?_⟩
        · have := RO.nil
          exact absurd (by simpa using z) this
        · have eb : bs = [] := by simpa using z
          exact nx _ _ ⟨fo, here, xs, ls, _, ru, os, _, _, rfl, J3, hru3, RO, by omega, h0⟩
        · refine nx _ _ ⟨fo, here, xs, ls, _, q, os ++ bs, _, _, rfl, J3.same (same_new nq), by rw [upd_same, List.map_append], RO2, lb2, h02⟩
    case c2 =>
      rintro i D σ H1 ⟨fo, here, xs, ls, s5, ru, os, s7, s8, rfl, J, hru, RO, len, h0⟩ nx
      refine ⟨_, rfl, 10, 30, rfl, rfl, ⟨by decide, by decide, by decide⟩, _, rfl, 10, 30, rfl, rfl, ⟨by decide, by decide, by decide⟩, p, d, BigT, rfl, J.D, Int.le_refl _, fun r H2 r0 r1 r2 D2 k2 => ?_⟩
      have r1 := r1 (by decide)
      have J2 := J.keep D2 k2
      have hru2 := TupS.kp J.D k2 _ _ hru
      refine ⟨_, _, rfl, rfl, 10, 30, rfl, rfl, ⟨by decide, by decide, by decide⟩, _, _, rfl, rfl, by show 6 ≤ sizeLine; decide, fun L nL => ?_⟩
      have sL : Same H2 (upd H2 L (.lst [.int 1, .int 2, .int 5, .int BigT, .int (r + 1), .int (BigT - 1)])) := same_new nL
      refine ⟨p, d, L, _, rfl, D2.same sL, upd_same, (D2.ne_none nL).2, fun z => (nomatch z), by show 6 < 1000000; decide, fun x H3 hx D3 k3 => nx _ _ ?_⟩
      have J3 := (J2.same sL).keep D3 k3
      have hru3 := TupS.kp (D2.same sL) k3 _ _ (sL _ _ hru2)
      obtain ⟨t, rfl, q1, q2⟩ : ∃ t : Int, x = .int t ∧ 1 ≤ t ∧ t ≤ BigT := by
        simp only [List.mem_cons, List.not_mem_nil, or_false] at hx
        rcases hx with rfl | rfl | rfl | rfl | rfl | rfl
        · exact ⟨_, rfl, by decide, by decide⟩
        · exact ⟨_, rfl, by decide, by decide⟩
        · exact ⟨_, rfl, by decide, by decide⟩
        · exact ⟨BigT, rfl, by decide, Int.le_refl _⟩
        · exact ⟨_, rfl, by omega, by omega⟩
        · exact ⟨BigT - 1, rfl, by decide, by decide⟩
      exact ⟨fo, here, xs, ls, _, ru, os, _, t, rfl, J3, hru3, RO, len, h0, q1, q2, fun z => (nomatch z)⟩
    case c3 =>
      rintro i D σ H1 ⟨fo, here, xs, ls, s5, ru, os, s7, t, rfl, J, hru, RO, len, h0, q1, q2, _⟩ nx
      obtain ⟨lo, lm, la, le⟩ := last_of RO.nil
      have h0' : (os.map V.int)[0]? = some (.int here) := by
        rw [List.getElem?_map, h0]
        rfl
      refine ⟨_, rfl, ru, _, 0, .int here, rfl, rfl, SqT.of hru, at_of (j := 0) rfl h0', _, rfl, 1, rfl, ru, _, -1, .int lo, rfl, rfl, SqT.of hru, la, rfl, _, rfl, ?_⟩
      refine ite2 (fun z => ?_) (fun z => ?_)
      · have z : here = lo := by simpa using z
        exact ⟨_, rfl, nx _ _ ⟨fo, here, xs, ls, _, ru, os, _, t, rfl, J, hru, RO, len, h0, q1, q2, fun _ => .inr (by rw [h0, le, z])⟩⟩
      · exact nx _ _ ⟨fo, here, xs, ls, _, ru, os, _, 1, rfl, J, hru, RO, len, h0, by decide, by decide, fun _ => .inl rfl⟩
    refine ⟨Nat.zero_le _, fun fo nfo => ?_⟩
    have sf : Same H (upd H fo (.lst [])) := same_new nfo
    have D1 := D0.same sf
    refine ⟨_, rfl, _, rfl, a, _, 0, .int n, rfl, rfl, SqT.of (sf _ _ N.a), at_of (j := 0) rfl rfl, p, d, n, rfl, D1, by omega, fun r H1 r0 r1 r2 D2 k2 => ⟨_, _, rfl, ?_⟩⟩
    have r1 := r1 (by omega)
    have ofo := D0.ne_none nfo
    have hf1 := k2 _ _ upd_same ofo.1 ofo.2
    refine ⟨_, rfl, many, rfl, by omega, by omega, for_range (lo := 0) (n := many.toNat) (fun i σ H' => JN p d a n many ars H i σ H')
      ⟨fo, r, [], [], none, none, none, none, rfl, ⟨D2, (Kp.of sf).trans k2, nfo, hf1, ofo.2, .nil, fun _ _ _ z => (nomatch z), fun _ z => (nomatch z), ⟨r0, r1⟩, rfl⟩⟩ ?_ ?_⟩
    · rintro i σ H2 hi ⟨fo, here, xs, ls, s5, s6, s7, s8, rfl, J⟩
      refine ⟨i, ⟨fo, here, xs, ls, _, _, _, _, rfl, J⟩, fun σ1 H3 h1 => ⟨i, h1, fun σ2 H4 h2 => ⟨i, h2, fun σ3 H5 h3 => ⟨i, h3, fun σ4 H6 h4 => ?_⟩⟩⟩⟩
      obtain ⟨fo, here, xs, ls, s5, ru, os, s7, t, rfl, J, hru, RO, len, h0, q1, q2, q3⟩ := h4
      obtain ⟨lo, lm, la, le⟩ := last_of RO.nil
      refine ⟨_, rfl, .inl ⟨rfl, _, SqL.of J.f⟩, _, rfl, _, rfl, by show 2 ≤ sizeLine; decide, fun T nT => ?_⟩
      have sT : Same H6 (upd H6 T (.tup [.ref ru, .int t])) := same_new nT
      have JT := J.same sT
      have hruT := sT _ _ hru
      have hT : (upd H6 T (.tup [.ref ru, .int t])) T = some (.tup [.ref ru, .int t]) := upd_same
      generalize (upd H6 T (.tup [.ref ru, .int t])) = H7 at JT hruT hT ⊢
      refine ⟨fo, xs, _, rfl, rfl, JT.f, by rw [JT.len, sizeLine_eq]; omega, ?_⟩
      have tu : TupS H7 (upd H7 fo (.lst (xs ++ [.ref T]))) := TupS.upd fun zs z => by
        rw [JT.f] at z
        cases z
      have hru8 := tu _ _ hruT
      refine ⟨_, rfl, 1, rfl, ru, _, -1, .int lo, rfl, rfl, SqT.of hru8, la, ?_⟩
      refine ⟨fo, lo, xs ++ [.ref T], ls ++ [(os, t)], _, _, _, _, rfl, ⟨JT.D.upd (JT.D.kne JT.f) JT.fd, fun c o e z1 z2 => ?_, JT.nf, upd_same, JT.fd, (JT.legs.keep tu).snoc (b := (os, t)) ⟨T, ru, rfl, tu _ _ hT, hru8, RO, len, q1, q2, q3 rfl⟩, JT.meets.snoc JT.ends h0, fun l hl => ?_, RO.each lo lm, by rw [List.length_append, JT.len]; rfl⟩⟩
      · rw [upd_ne (ne_of_none e JT.nf)]
        exact JT.kp _ _ e z1 z2
      · rw [List.getLast?_append] at hl
        have hl : some (os, t) = some l := hl
        cases hl
        exact le
    · rintro σ H2 ⟨fo, here, xs, ls, s5, s6, s7, s8, rfl, J⟩
      refine ⟨_, rfl, fo, _, rfl, .inl ⟨SqL.of J.f, fun l nl => ?_⟩⟩
      have sl : Same H2 (upd H2 l (.tup xs)) := same_new nl
      exact k l xs ls _ (J.D.same sl) (J.kp.trans (.of sl)) upd_same (J.legs.keep (.of sl)) J.meets (by rw [J.len]; omega)
end
end Sw
namespace Sw
open PySem L2
/-! ### _law_odd of journeys -/
section
variable (K : PySem.W.Frag) (W : Addr → Prop) (p d a ru : Addr) (lg : V) (t n : Int) (os : List Int) (H0 : Hp)
def SO0 : SH := fun σ H => ∃ o6 o7, WOk W H ∧ σ = [some (.ref p), some (.ref a), some lg, some (.ref ru), some (.int t), some (.int n), o6, o7] ∧ Deck H p d 63 ∧ Kp p d H0 H ∧ H ru = some (.tup (os.map V.int))
def SOL (m : Nat) : SH := fun σ H => ∃ L xs o7, WOk W H ∧ σ = [some (.ref p), some (.ref a), some lg, some (.ref ru), some (.int t), some (.int n), some (.ref L), o7] ∧ Deck H p d 63 ∧ Kp p d H0 H ∧ H ru = some (.tup (os.map V.int)) ∧ H L = some (.lst xs) ∧ L ≠ d ∧ H0 L = none ∧ xs.length = m ∧ ∀ x ∈ xs, Dat K (fun c => UW p d W c ∧ c ≠ L) 500 10 H x
end
theorem Dat.newL {K : PySem.W.Frag} {U V' : Addr → Prop} {w k : Nat} {H : Hp} {x : V} {L : Addr} (h : Dat K U w k H x) (nL : H L = none) (o : ∀ a, U a → a ≠ L → V' a) : Dat K V' w k H x := by
  obtain ⟨dd, as, h1, h2, h3⟩ := h
  refine ⟨dd, as, h1, fun c hc => o c (h2 c hc) fun z => ?_, h3⟩
  obtain ⟨y, e⟩ := h1.tracked c hc
  rw [z, nL] at e
  cases e
/-- what all of these tell -/
structure SOk (p d : Addr) (W : Addr → Prop) (ru : Addr) (t n : Int) (os : List Int) (S : SH) : Prop where
  sk : SK p d W S
  r3 : ∀ σ H, S σ H → σ[3]? = some (some (.ref ru)) ∧ H ru = some (.tup (os.map V.int))
  r4 : ∀ σ H, S σ H → σ[4]? = some (some (.int t))
  r5 : ∀ σ H, S σ H → σ[5]? = some (some (.int n))
  r0 : ∀ σ H, S σ H → σ[0]? = some (some (.ref p))
  each : ∀ o ∈ os, 0 ≤ o ∧ o < 14
  len : os.length ≤ 16
  ne : os ≠ []
  t1 : 1 ≤ t
  t2 : t ≤ BigT
  n1 : 1 ≤ n
  n2 : n ≤ 12
section
variable {K : PySem.W.Frag} {W : Addr → Prop} {p d a ru : Addr} {lg : V} {t n : Int} {os : List Int} {H0 : Hp}
theorem SO0.ok (each : ∀ o ∈ os, 0 ≤ o ∧ o < 14) (len : os.length ≤ 16) (ne : os ≠ []) (t1 : 1 ≤ t) (t2 : t ≤ BigT) (n1 : 1 ≤ n) (n2 : n ≤ 12) : SOk p d W ru t n os (SO0 W p d a ru lg t n os H0) := by
  refine ⟨⟨fun σ H h => ?_, fun σ H h => ?_, fun σ H H' h D' k => ?_⟩, fun σ H h => ?_, fun σ H h => ?_, fun σ H h => ?_, fun σ H h => ?_, each, len, ne, t1, t2, n1, n2⟩ <;> obtain ⟨o6, o7, wk, rfl, D, kp, hr⟩ := h
  · exact wk
  · exact D
  · exact ⟨o6, o7, wk.kp k D', rfl, D', kp.trans k, k _ _ hr (D.tne hr).1 (D.tne hr).2⟩
  · exact ⟨rfl, hr⟩
  · rfl
  · rfl
  · rfl
theorem SOL.ok {m : Nat} (each : ∀ o ∈ os, 0 ≤ o ∧ o < 14) (len : os.length ≤ 16) (ne : os ≠ []) (t1 : 1 ≤ t) (t2 : t ≤ BigT) (n1 : 1 ≤ n) (n2 : n ≤ 12) : SOk p d W ru t n os (SOL K W p d a ru lg t n os H0 m) := by
  refine ⟨⟨fun σ H h => ?_, fun σ H h => ?_, fun σ H H' h D' k => ?_⟩, fun σ H h => ?_, fun σ H h => ?_, fun σ H h => ?_, fun σ H h => ?_, each, len, ne, t1, t2, n1, n2⟩ <;> obtain ⟨L, xs, o7, wk, rfl, D, kp, hr, hL, nd, n0, lx, dx⟩ := h
  · exact wk
  · exact D
  · exact ⟨L, xs, o7, wk.kp k D', rfl, D', kp.trans k, k _ _ hr (D.tne hr).1 (D.tne hr).2, k _ _ hL (D.kne hL) nd, nd, n0, lx, fun x hx => (dx x hx).keep (fun c hc => hc.1.1) k⟩
  · exact ⟨rfl, hr⟩
  · rfl
  · rfl
  · rfl
variable {X : Cx} {S : SH} {e : Expr} {k : Nat}
theorem klc {es : List Expr} {w w' m : Nat} (ha : PE X e (tK X.K p d W S w' k)) (hr : PA X es (tKl X.K p d W S w k m)) (hw : w' ≤ w := by decide) (hs : starEach (e :: es) X.env = (false, eval e X.env) :: starEach es X.env := by rfl) : PA X (e :: es) (tKl X.K p d W S w k (m + 1)) := kl_cons ha hr hw (Nat.le_refl _) hs
theorem o_run (O : SOk p d W ru t n os S) (h : PE X e (tVar 3)) : PE X e (tIT p d S 16) :=
  pe_weak h fun σ H Q q => ⟨_, (O.r3 σ H q.1).1, q.2 ru os H (O.r3 σ H q.1).2 (fun o ho => by have := O.each o ho; omega) O.len q.1 .refl⟩
theorem o_n (O : SOk p d W ru t n os S) (h : PE X e (tVar 5)) : PE X e (tI p d S) :=
  pe_weak h fun σ H Q q => ⟨_, O.r5 σ H q.1, q.2 n H (by have := O.n1; have := O.n2; omega) q.1 .refl⟩
theorem o_t (O : SOk p d W ru t n os S) (h : PE X e (tVar 4)) : PE X e (tK X.K p d W S 32 k) :=
  k_at h fun σ H Q s q => by
    have h1 := O.t1
    have h2 := O.t2
    have e31 : (10 : Nat) ^ 31 = 10 * 10 ^ 30 := rfl
    have eb : BigT = ((10 ^ 30 : Nat) : Int) := rfl
    have e30 : (0 : Nat) < 10 ^ 30 := by decide
    obtain ⟨i1, i2, i3, i4⟩ := int_ok (K := X.K) (H := H) (i := t) (w := 31) (k := k) (by
      rw [eb] at h2
      rw [e31]
      omega) (by decide) (by decide)
    exact ⟨_, O.r4 σ H s, q _ _ i1 i2 i3 i4⟩
theorem o_first (O : SOk p d W ru t n os S) (h : PE X e (tOp (rIxT X.K) (tVar 3) (tC (.int 0)))) : PE X e (tI p d S) :=
  pe_weak h fun σ H Q q => by
    have hl : 0 < os.length := List.length_pos_iff.mpr O.ne
    have e0 : os[0]? = some os[0] := List.getElem?_eq_getElem hl
    have := O.each os[0] (List.getElem_mem hl)
    exact ⟨_, (O.r3 σ H q.1).1, ru, _, 0, .int os[0], rfl, rfl, SqT.of (O.r3 σ H q.1).2, at_of (j := 0) rfl (by rw [List.getElem?_map, e0]; rfl), q.2 _ H (by omega) q.1 .refl⟩
theorem o_last (O : SOk p d W ru t n os S) (h : PE X e (tOp (rIxT X.K) (tVar 3) (tUn (rU fun i => .int (-i)) (tC (.int 1))))) : PE X e (tI p d S) :=
  pe_weak h fun σ H Q q => by
    obtain ⟨lo, lm, la, le⟩ := last_of O.ne
    have := O.each lo lm
    exact ⟨_, (O.r3 σ H q.1).1, 1, rfl, ru, _, -1, .int lo, rfl, rfl, SqT.of (O.r3 σ H q.1).2, la, q.2 _ H (by omega) q.1 .refl⟩
theorem odd_read {m m' : Nat} (O : ∀ m, SOk p d W ru t n os (SOL K W p d a ru lg t n os H0 m)) (hm : m + m' ≤ 100) : ∀ (D : Ends) (σ : L2.St) (H : Hp), SOL K W p d a ru lg t n os H0 m σ H → (∀ σ' H', SOL K W p d a ru lg t n os H0 (m + m') σ' H' → D.nx σ' H') →
    tAsg (tOp rCat (tVar 6) (tLst (tKl K p d W (SOL K W p d a ru lg t n os H0 m) 500 10 m'))) (gName 6) D σ H := by
  rintro D σ H hs nx
  obtain ⟨L, xs, o7, _, rfl, _⟩ := id hs
  refine ⟨_, rfl, hs, fun ys H1 ly dy s1 k1 => ⟨by rw [ly, sizeLine_eq]; omega, fun c nc => ?_⟩⟩
  obtain ⟨L', xs', o7', wk1, e, D1, kp1, hr1, hL1, nd1, n01, lx1, dx1⟩ := s1
  cases e
  have sc : Same H1 (upd H1 c (.lst ys)) := same_new nc
  have D2 := D1.same sc
  refine ⟨L, c, xs', ys, rfl, rfl, sc _ _ hL1, upd_same, by rw [lx1, ly, sizeLine_eq]; omega, fun q nq => nx _ _ ?_⟩
  have sq1 : Same (upd H1 c (.lst ys)) (upd (upd H1 c (.lst ys)) q (.lst (xs' ++ ys))) := same_new nq
  have sq := sc.trans sq1
  refine ⟨q, xs' ++ ys, _, wk1.kp (.of sq) (D1.same sq), rfl, D1.same sq, kp1.trans (.of sq), sq _ _ hr1, upd_same, (D2.ne_none nq).2, (kp1.trans (.of sc)).free D2 nq, by rw [List.length_append, lx1, ly], fun x hx => ?_⟩
  rcases List.mem_append.mp hx with h | h
  · exact (((dx1 x h).keep (fun c hc => hc.1.1) (.of sc)).newL nq fun a ha n => ⟨ha.1, n⟩).keep (fun c hc => hc.1.1) (.of sq1)
  · exact (((dy x h).kp (.of sc)).newL nq fun a ha n => ⟨ha, n⟩).keep (fun c hc => hc.1.1) (.of sq1)
end
end Sw
namespace Sw
open PySem L2
abbrev sOddJ : Stmt := top 26
abbrev nOddJ : List Str := ["deck", "net", "leg", "run", "times", "n", "odd", "own"]
theorem scOddJ : FnScope nOddJ ["deck", "net", "leg"] (defScope sOddJ) := ⟨rfl, rfl, rfl, by decide +kernel, rfl, by decide +kernel, by decide +kernel⟩
section
variable {P : Program} {w : World} {K : PySem.W.Frag} {mg : Str → Option Value} {base : Heap}
def spOddJ (K : PySem.W.Frag) : Sp := fun vs H Q _ => ∃ (p d a b : Addr) (n : Int) (ts : List V) (ars : List (Int × Int)) (x : V) (l : List Int × Int) (W : Addr → Prop), vs = [.ref p, .ref a, x] ∧ Deck H p d 63 ∧ WOk W H ∧ NetAt n H a b ts ∧ LegAt n ars H x l ∧
  ∀ (y : V) (H' : Hp), Dat K (UW p d W) 500 10 H' y → Deck H' p d 63 → Kp p d H H' → Q y H'
theorem ok_oddJ {f : Addr} {fd : FuncData} (F : Fun K "_law_odd" "_law_odd" sOddJ f fd) (B : NoNames mg) (OD : Own P w K mg base 1 "_law_draw" ["deck", "many"] spDrawX) (OP : Own P w K mg base 2 "_law_pick" ["deck", "items"] spPick) : FnOk P w K mg base CX0 3 f fd ["deck", "net", "leg"] (spOddJ K) := by
  obtain ⟨fD, fdD, GD, mD, kD, bD⟩ := OD.ex
  obtain ⟨fP, fdP, GP, mP, kP, bP⟩ := OP.ex
  refine F.ok scOddJ (fun vs H Q E h => ?_) (fun cdv A outer s H vs Q E hr h => ?_)
  · obtain ⟨p, d, a, b, n, ts, ars, x, l, W, rfl, _⟩ := h
    rfl
  · obtain ⟨p, d, a, b, n, ts, ars, x, l, W, rfl, D0, W0, N, LA, k⟩ := h
    obtain ⟨lq, ru, rfl, hlq, hru, RO, len16, t1, t2, _⟩ := LA
    obtain ⟨os, t⟩ := l
    dsimp only at hlq hru RO len16 t1 t2
    have hr1 : Room 1 _ := hr.mono (by decide)
    have n1 := N.n1
    have n2 := N.n2
    have each : ∀ o ∈ os, 0 ≤ o ∧ o < 14 := fun o ho => by
      have := RO.each o ho
      exact ⟨this.1, by have := this.2; omega⟩
    have O0 : SOk p d W ru t n os (SO0 W p d a ru (.ref lq) t n os H) := SO0.ok each len16 RO.nil t1 t2 n1 n2
    have OL : ∀ m, SOk p d W ru t n os (SOL K W p d a ru (.ref lq) t n os H m) := fun m => SOL.ok each len16 RO.nil t1 t2 n1 n2
    have b12 : (12 : Int) ≤ BigT := by decide
    have p30 : ∀ (σ : L2.St) (H : Hp) (Q : VK), Q (.int (10 ^ 30)) H → tOp (rI CPow fun i j => .int (i ^ j.toNat)) (tC (.int 10)) (tC (.int 30)) σ H Q := fun σ H Q q =>
      ⟨10, 30, rfl, rfl, ⟨by decide, by decide, by decide⟩, q⟩
    have neg1 : ∀ (σ : L2.St) (H : Hp) (Q : VK), Q (.int (-1)) H → tUn (rU fun i => .int (-i)) (tC (.int 1)) σ H Q := fun σ H Q q => ⟨1, rfl, q⟩
    have rN : ∀ (σ : L2.St) (H : Hp) (Q : Option Int → Hp → Prop), Q none H → tNoPart σ H Q := fun σ H Q q => q
    have r1 : ∀ (σ : L2.St) (H : Hp) (Q : Option Int → Hp → Prop), Q (some 1) H → tPart (tC (.int 1)) σ H Q := fun σ H Q q => ⟨1, rfl, q⟩
    have rm1 : ∀ (σ : L2.St) (H : Hp) (Q : Option Int → Hp → Prop), Q (some (-1)) H → tPart (tUn (rU fun i => .int (-i)) (tC (.int 1))) σ H Q := fun σ H Q q => ⟨1, rfl, -1, rfl, q⟩
    refine ⟨_, pss_cons (ps_asg (pe_tup (pa_cons (pv 2) (pa_cons (pe_ix ix_tup (pv 1) pe_int (fun _ _ => rfl)) pa_nil)))
        (pg_tup (by rfl) (pgs_cons (pg_tup (by rfl) (pgs_cons (pg_name (i := 3) scOddJ.nd rfl (.inl rfl)) (pgs_cons (pg_name (i := 4) scOddJ.nd rfl (.inl rfl)) pgs_nil))) (pgs_cons (pg_name (i := 5) scOddJ.nd rfl (.inl rfl)) pgs_nil)))) <|
      pss_cons (ps_cut (J := SO0 W p d a ru (.ref lq) t n os H) (J' := SOL K W p d a ru (.ref lq) t n os H 8) (ps_set (i := 6) scOddJ.nd rfl (.inl rfl) (pe_lst
        (klc (p := p) (d := d) (S := SO0 W p d a ru (.ref lq) t n os H) (w := 500) (k := 10) (k_tup O0.sk (ks_cons (k_it O0.sk (o_run O0 (pv 3))) (ks_cons (k_int (i := 0) (w := 1) pe_int (fun _ _ _ q => q)) ks_nil))) <|
        klc (k_tup O0.sk (ks_cons (k_it O0.sk (o_run O0 (pv 3))) (ks_cons (k_int (i := -1) (w := 1) (pe_un un_neg pe_int) neg1) ks_nil))) <|
        klc (k_tup O0.sk (ks_cons (k_it O0.sk (o_run O0 (pv 3))) (ks_cons (k_int (i := 10 ^ 30 + 1) (w := 39) (pe_op op_add (pe_op op_pow pe_int pe_int) pe_int) (fun σ H Q q => p30 σ H _ ⟨_, _, rfl, rfl, q⟩)) ks_nil))) <|
        klc (k_tup O0.sk (ks_cons (k_it O0.sk (o_run O0 (pv 3))) (ks_cons (k_bl (pe_cmpR op_eq (pv 4) pe_int (nomark _)) (fun σ H Q s q => ⟨_, O0.r4 σ H s, rfl, q _⟩)) ks_nil))) <|
        klc (k_tup O0.sk (ks_cons (k_it O0.sk (o_run O0 (pv 3))) (ks_cons (k_int (i := 2) (w := 1) pe_int (fun _ _ _ q => q)) ks_nil))) <|
        klc (k_tup O0.sk (ks_cons (k_it O0.sk (o_run O0 (pv 3))) (ks_cons (k_non pe_non) ks_nil))) <|
        klc (k_tup O0.sk (ks_cons (k_it O0.sk (o_run O0 (pv 3))) (ks_cons (k_tup O0.sk (ks_cons (k_int (i := 1) (w := 1) pe_int (fun _ _ _ q => q)) ks_nil)) ks_nil))) <|
        klc (k_tup O0.sk (ks_cons (k_it O0.sk (o_run O0 (pv 3))) (ks_cons (k_lst O0.sk (ks_cons (k_int (i := 1) (w := 1) pe_int (fun _ _ _ q => q)) ks_nil)) ks_nil))) <|
        kl_nil))) ?c0) <|
      pss_cons (ps_cut (J := SOL K W p d a ru (.ref lq) t n os H 8) (J' := SOL K W p d a ru (.ref lq) t n os H (8 + 8)) (ps_set (i := 6) scOddJ.nd rfl (.inl rfl) (pe_op op_cat (pv 6) (pe_lst
        (klc (p := p) (d := d) (S := SOL K W p d a ru (.ref lq) t n os H 8) (w := 500) (k := 10) (k_tup (OL 8).sk (ks_cons (k_it (OL 8).sk (it_cat (OL 8).sk (o_run (OL 8) (pv 3)) (it_one (OL 8).sk (o_n (OL 8) (pv 5))))) (ks_cons (k_int (i := 1) (w := 1) pe_int (fun _ _ _ q => q)) ks_nil))) <|
        klc (k_tup (OL 8).sk (ks_cons (k_it (OL 8).sk (it_cat (OL 8).sk (o_run (OL 8) (pv 3)) (o_run (OL 8) (pv 3)))) (ks_cons (k_int (i := 1) (w := 1) pe_int (fun _ _ _ q => q)) ks_nil))) <|
        klc (k_tup (OL 8).sk (ks_cons (k_it (OL 8).sk (it_rev (OL 8).sk (o_run (OL 8) (pv 3)))) (ks_cons (k_int (i := 1) (w := 1) pe_int (fun _ _ _ q => q)) ks_nil))) <|
        klc (k_tup (OL 8).sk (ks_cons (k_tup (OL 8).sk ks_nil) (ks_cons (k_int (i := 1) (w := 1) pe_int (fun _ _ _ q => q)) ks_nil))) <|
        klc (k_tup (OL 8).sk (ks_cons (k_gen (w := 100) (pe_callTy call_list_of (by rfl) B.list (by decide +kernel) (pa_cons (pv 3) pa_nil)) ?lst) (ks_cons (k_int (i := 1) (w := 1) pe_int (fun _ _ _ q => q)) ks_nil))) <|
        klc (k_lst (OL 8).sk (ks_cons (k_it (OL 8).sk (o_run (OL 8) (pv 3))) (ks_cons (o_t (OL 8) (pv 4)) ks_nil))) <|
        klc (k_tup (OL 8).sk (ks_cons (k_it (OL 8).sk (o_run (OL 8) (pv 3))) ks_nil)) <|
        klc (k_it (OL 8).sk (o_run (OL 8) (pv 3))) <|
        kl_nil)))) (odd_read OL (by decide))) <|
      pss_cons (ps_cut (J := SOL K W p d a ru (.ref lq) t n os H 16) (J' := SOL K W p d a ru (.ref lq) t n os H (16 + 8)) (ps_set (i := 6) scOddJ.nd rfl (.inl rfl) (pe_op op_cat (pv 6) (pe_lst
        (klc (p := p) (d := d) (S := SOL K W p d a ru (.ref lq) t n os H 16) (w := 500) (k := 10) (k_tup (OL 16).sk (ks_cons (k_it (OL 16).sk (o_run (OL 16) (pv 3))) (ks_cons (o_t (OL 16) (pv 4)) (ks_cons (k_int (i := 1) (w := 1) pe_int (fun _ _ _ q => q)) ks_nil)))) <|
        klc (k_tup (OL 16).sk (ks_cons (o_t (OL 16) (pv 4)) (ks_cons (k_it (OL 16).sk (o_run (OL 16) (pv 3))) ks_nil))) <|
        klc (k_non pe_non) <|
        klc (k_int (i := 0) (w := 1) pe_int (fun _ _ _ q => q)) <|
        klc (k_tup (OL 16).sk (ks_cons (k_I (o_first (OL 16) (pe_ix ix_tup (pv 3) pe_int (fun _ _ => rfl)))) (ks_cons (k_int (i := 1) (w := 1) pe_int (fun _ _ _ q => q)) ks_nil))) <|
        klc (k_tup (OL 16).sk (ks_cons (k_tup (OL 16).sk (ks_cons (k_true pe_bl) ks_nil)) (ks_cons (k_int (i := 1) (w := 1) pe_int (fun _ _ _ q => q)) ks_nil))) <|
        klc (k_tup (OL 16).sk (ks_cons (k_it (OL 16).sk (it_cat (OL 16).sk (o_run (OL 16) (pv 3)) (it_one (OL 16).sk (o_last (OL 16) (pe_ix ix_tup (pv 3) (pe_un un_neg pe_int) (fun _ _ => rfl)))))) (ks_cons (k_int (i := 1) (w := 1) pe_int (fun _ _ _ q => q)) ks_nil))) <|
        klc (k_dct (OL 16).sk) <|
        kl_nil)))) (odd_read OL (by decide))) <|
      pss_cons (ps_cut (J := SOL K W p d a ru (.ref lq) t n os H 24) (J' := SOL K W p d a ru (.ref lq) t n os H 25) (ps_expr (pe_bm PySem.F.plainAttrs_list PySem.F.slot_list_append PySem.F.type_list_append mt_append (pv 6)
        (pa_cons (pe_tup (pa_cons (pe_tup (pa_cons (pv 5) pa_nil)) (pa_cons pe_int pa_nil))) pa_nil))) ?c3) <|
      pss_cons (ps_cut (J := SOL K W p d a ru (.ref lq) t n os H 25) (J' := SOL K W p d a ru (.ref lq) t n os H 29) (ps_set (i := 6) scOddJ.nd rfl (.inl rfl) (pe_op op_cat (pe_op op_cat (pv 6) (pe_op op_rep (pe_lst
        (klc (p := p) (d := d) (S := SOL K W p d a ru (.ref lq) t n os H 25) (w := 500) (k := 10) (k_tup (OL 25).sk (ks_cons (k_cat1 (OL 25).sk (it_cut (OL 25).sk (o_run (OL 25) (pv 3)) po_none (po_some (pe_un un_neg pe_int)) rN rm1) (k_bl (pe_cmpR op_eq (pe_ix ix_tup (pv 3) (pe_un un_neg pe_int) (fun _ _ => rfl)) pe_int (nomark _)) ?lastb)) (ks_cons (k_int (i := 1) (w := 1) pe_int (fun _ _ _ q => q)) ks_nil))) kl_nil)) pe_int)) (pe_lst
        (klc (p := p) (d := d) (S := SOL K W p d a ru (.ref lq) t n os H 25) (w := 500) (k := 10) (k_tup (OL 25).sk (ks_cons (k_cat1 (OL 25).sk (o_run (OL 25) (pv 3)) (k_lst (OL 25).sk (ks_cons (k_int (i := 0) (w := 1) pe_int (fun _ _ _ q => q)) ks_nil))) (ks_cons (k_int (i := 1) (w := 1) pe_int (fun _ _ _ q => q)) ks_nil))) <|
        klc (k_tup (OL 25).sk (ks_cons (k_cat1 (OL 25).sk (o_run (OL 25) (pv 3)) (k_non pe_non)) (ks_cons (k_int (i := 1) (w := 1) pe_int (fun _ _ _ q => q)) ks_nil))) <|
        kl_nil)))) ?c4) <|
      pss_cons (ps_cut (J := SOL K W p d a ru (.ref lq) t n os H 29) (J' := SOL K W p d a ru (.ref lq) t n os H (29 + 3)) (ps_set (i := 6) scOddJ.nd rfl (.inl rfl) (pe_op op_cat (pv 6) (pe_lst
        (klc (p := p) (d := d) (S := SOL K W p d a ru (.ref lq) t n os H 29) (w := 500) (k := 10) (k_tup (OL 29).sk (ks_cons (k_tup (OL 29).sk (ks_cons (k_int (i := 0) (w := 1) pe_int (fun _ _ _ q => q)) (ks_cons (k_true pe_bl) ks_nil))) (ks_cons (k_int (i := 1) (w := 1) pe_int (fun _ _ _ q => q)) ks_nil))) <|
        klc (k_tup (OL 29).sk (ks_cons (k_gen (w := 150) (pe_callTy call_tuple_of (by rfl) B.tuple (by decide +kernel) (pa_cons (pe_lc (own := [("own", 7)]) (g := gName 7) (tt := tYes) rfl scOddJ.nd (pi_tup (pv 3)) (blkOk_by (own := [("own", 7)]) (N := nOddJ) (sc := defScope sOddJ) (by decide +kernel))
          (fun _ _ _ _ _ => pg_name (i := 7) scOddJ.nd rfl (Or.inl rfl)) (fun _ _ _ _ _ => pts_nil) (fun _ _ _ _ _ => pe_ifExp (pt_cmpR op_lt (pv 7) pe_int (nomark _)) (pe_cmpR op_eq (pv 7) pe_int (nomark _)) (pv 7))) pa_nil)) ?comp) (ks_cons (k_int (i := 1) (w := 1) pe_int (fun _ _ _ q => q)) ks_nil))) <|
        klc (k_tup (OL 29).sk (ks_cons (k_cat1 (OL 29).sk (it_cut (OL 29).sk (o_run (OL 29) (pv 3)) po_none (po_some pe_int) rN r1) (k_dct (OL 29).sk)) (ks_cons (k_int (i := 1) (w := 1) pe_int (fun _ _ _ q => q)) ks_nil))) <|
        kl_nil)))) (odd_read OL (by decide))) <|
      pss_one (ps_ret (pe_call GP hr rfl mP kP bP .nil pass0 (pa_cons (pv 0) (pa_cons (pe_op op_cat (pv 6) (pe_lst
        (klc (p := p) (d := d) (S := SOL K W p d a ru (.ref lq) t n os H 32) (w := 500) (k := 10) (k_tup (OL 32).sk (ks_cons (k_tup (OL 32).sk (ks_cons (k_int (i := -1) (w := 1) (pe_un un_neg pe_int) neg1) ks_nil)) (ks_cons (k_int (i := 1) (w := 1) pe_int (fun _ _ _ q => q)) ks_nil))) <|
        klc (k_tup (OL 32).sk (ks_cons (k_it (OL 32).sk (it_cut (OL 32).sk (o_run (OL 32) (pv 3)) po_none (po_some pe_int) rN r1)) (ks_cons (k_int (i := 10 ^ 30) (w := 39) (pe_op op_pow pe_int pe_int) p30) ks_nil))) <|
        klc (k_tup (OL 32).sk (ks_cons (k_tup (OL 32).sk (ks_cons (k_I (pe_weak (pe_call GD hr1 rfl mD kD bD .nil pass0 (pa_cons (pv 0) (pa_cons (pv 5) pa_nil))) ?drw)) ks_nil)) (ks_cons (k_int (i := 1) (w := 1) pe_int (fun _ _ _ q => q)) ks_nil))) <|
        klc (k_tup (OL 32).sk (ks_cons (k_tup (OL 32).sk (ks_cons (k_lst (OL 32).sk (ks_cons (k_int (i := 0) (w := 1) pe_int (fun _ _ _ q => q)) ks_nil)) ks_nil)) (ks_cons (k_int (i := 1) (w := 1) pe_int (fun _ _ _ q => q)) ks_nil))) <|
        klc (k_tup (OL 32).sk (ks_cons (k_tup (OL 32).sk (ks_cons (k_dct (OL 32).sk) ks_nil)) (ks_cons (k_int (i := 1) (w := 1) pe_int (fun _ _ _ q => q)) ks_nil))) <|
        kl_nil))) pa_nil)))), ?_⟩
    case c0 =>
      rintro D σ H1 hs nx
      obtain ⟨o6, o7, _, rfl, _⟩ := id hs
      refine ⟨hs, fun ys H2 ly dy s1 k1 => ⟨by rw [ly, sizeLine_eq]; omega, fun c nc => nx _ _ ?_⟩⟩
      obtain ⟨o6', o7', wk1, e, D1, kp1, hr1⟩ := s1
      cases e
      have sc : Same H2 (upd H2 c (.lst ys)) := same_new nc
      exact ⟨c, ys, _, wk1.kp (.of sc) (D1.same sc), rfl, D1.same sc, kp1.trans (.of sc), sc _ _ hr1, upd_same, (D1.ne_none nc).2, kp1.free D1 nc, ly, fun x hx => ((dy x hx).newL nc fun a ha n => ⟨ha, n⟩).keep (fun c hc => hc.1.1) (.of sc)⟩
    case lst =>
      intro σ H1 Q s q
      obtain ⟨g3, gr⟩ := (OL 8).r3 σ H1 s
      refine ⟨_, g3, ru, _, rfl, .inr (SqT.of gr), fun l nl => ?_⟩
      have sl : Same H1 (upd H1 l (.lst (os.map V.int))) := same_new nl
      obtain ⟨r1, r2, r3, r4⟩ := ints_all (K := K) (H := upd H1 l (.lst (os.map V.int))) (is := os) fun o ho => by have := each o ho; omega
      refine q _ _ ⟨.lst (os.map D.int), [l], by simp only [Rep]; exact ⟨l, _, [], rfl, upd_same, r1, by simp, rfl⟩, fun b hb => by rw [List.mem_singleton.mp hb]; exact ⟨((OL 8).sk.dk _ _ s).ne_none nl, ((OL 8).sk.wk _ _ s).free _ nl⟩, by simp only [small]; exact r2, by simp only [wt]; omega, by simp only [dep]; omega⟩ ((OL 8).sk.same s sl) (.of sl)
    case c3 =>
      rintro D σ H1 ⟨L, xs, o7, wk1, rfl, D1, kp1, hr1, hL, nd, n0, lx, dx⟩ nx
      refine ⟨_, rfl, .inl ⟨rfl, _, SqL.of hL⟩, _, rfl, by show 1 ≤ sizeLine; decide, fun T1 nT1 => ⟨by show 2 ≤ sizeLine; decide, fun T2 nT2 => ?_⟩⟩
      have sT1 : Same H1 (upd H1 T1 (.tup [.int n])) := same_new nT1
      have sT2 : Same (upd H1 T1 (.tup [.int n])) (upd (upd H1 T1 (.tup [.int n])) T2 (.tup [.ref T1, .int 1])) := same_new nT2
      have sT := sT1.trans sT2
      have rT : Dat K (fun c => UW p d W c ∧ c ≠ L) 500 10 (upd (upd H1 T1 (.tup [.int n])) T2 (.tup [.ref T1, .int 1])) (.ref T2) := by
        obtain ⟨i1, i2, i3, i4⟩ := int_ok (K := K) (H := upd H1 T1 (.tup [.int n])) (i := n) (w := 3) (k := 0) (by omega) (by decide) (by decide)
        obtain ⟨j1, j2, j3, j4⟩ := int_ok (K := K) (H := upd H1 T1 (.tup [.int n])) (i := 1) (w := 3) (k := 0) (by decide) (by decide) (by decide)
        have q1 : Rep K (upd H1 T1 (.tup [.int n])) (.tup [.int n]) (.ref T1) [T1] := rep_newT (by simp [RepAll, Rep]) nT1
        have q2 : RepAll K (upd H1 T1 (.tup [.int n])) [.tup [.int n], .int 1] [.ref T1, .int 1] [T1] := by
          rw [RepAll]
          refine ⟨_, _, [T1], [], rfl, q1, ?_, rfl⟩
          rw [RepAll]
          exact ⟨_, _, [], [], rfl, by simp [Rep], by simp [RepAll], rfl⟩
        have lT : ∀ {c : Addr} {zs : List V}, (upd (upd H1 T1 (.tup [.int n])) T2 (.tup [.ref T1, .int 1])) c = some (.tup zs) → c ≠ L := fun h z => by
          have := sT _ _ hL
          rw [← z, h] at this
          cases this
        refine ⟨.tup [.tup [.int n], .int 1], [T2, T1], rep_newT q2 nT2, fun b hb => ?_, ?_, ?_, ?_⟩
        · have DT := D1.same sT
          simp only [List.mem_cons, List.not_mem_nil, or_false] at hb
          rcases hb with rfl | rfl
          · exact ⟨⟨DT.tne upd_same, (wk1.kp (.of sT) DT).tup _ _ upd_same⟩, lT upd_same⟩
          · exact ⟨⟨DT.tne (sT2 _ _ upd_same), (wk1.kp (.of sT) DT).tup _ _ (sT2 _ _ upd_same)⟩, lT (sT2 _ _ upd_same)⟩
        · simp only [small, smallAll] at i2 j2 ⊢
          exact ⟨⟨i2, trivial⟩, j2, trivial⟩
        · simp only [wt, wtAll] at i3 j3 ⊢
          omega
        · simp only [dep, depAll]
          decide
      have D2 := D1.same sT
      have wk2 := wk1.kp (.of sT) D2
      have kp2 := kp1.trans (.of sT)
      have hr2 := sT _ _ hr1
      have hL2 := sT _ _ hL
      have dx2 : ∀ x ∈ xs, Dat K (fun c => UW p d W c ∧ c ≠ L) 500 10 (upd (upd H1 T1 (.tup [.int n])) T2 (.tup [.ref T1, .int 1])) x := fun x hx => (dx x hx).keep (fun c hc => hc.1.1) (.of sT)
      generalize (upd (upd H1 T1 (.tup [.int n])) T2 (.tup [.ref T1, .int 1])) = H2 at rT D2 wk2 kp2 hr2 hL2 dx2 ⊢
      refine ⟨L, xs, _, rfl, rfl, hL2, by rw [lx, sizeLine_eq]; omega, nx _ _ ?_⟩
      have lru : ru ≠ L := fun z => by
        rw [z, hL2] at hr2
        cases hr2
      have keep : ∀ x, Dat K (fun c => UW p d W c ∧ c ≠ L) 500 10 H2 x → Dat K (fun c => UW p d W c ∧ c ≠ L) 500 10 (upd H2 L (.lst (xs ++ [.ref T2]))) x := fun x ⟨dd, as, g1, g2, g3⟩ => ⟨dd, as, g1.keep fun b hb y e => by
        rw [upd_ne (g2 b hb).2]
        exact e, g2, g3⟩
      refine ⟨L, xs ++ [.ref T2], _, ?wkL, rfl, D2.upd (D2.kne hL2) nd, fun b o e q1 q2 => ?_, by rw [upd_ne lru]; exact hr2, upd_same, nd, n0, by rw [List.length_append, lx]; rfl, fun x hx => ?_⟩
      · refine ⟨fun c e => ?_, fun c zs e => ?_⟩
        · by_cases q : c = L
          · rw [q, upd_same] at e
            cases e
          · rw [upd_ne q] at e
            exact wk2.free c e
        · by_cases q : c = L
          · rw [q, upd_same] at e
            cases e
          · rw [upd_ne q] at e
            exact wk2.tup c zs e
      · rw [upd_ne (ne_of_none e n0)]
        exact kp2 _ _ e q1 q2
      · rcases List.mem_append.mp hx with h | h
        · exact keep x (dx2 x h)
        · rw [List.mem_singleton.mp h]
          exact keep _ rT
    case c4 =>
      rintro D σ H1 hs nx
      obtain ⟨L, xs, o7, _, rfl, _⟩ := id hs
      refine ⟨_, rfl, hs, fun ys1 H2 ly dy s1 k1 => ⟨by rw [ly, sizeLine_eq]; omega, fun c1 nc1 => ⟨c1, 2, ys1, rfl, rfl, upd_same, by decide, by decide, by rw [ly, sizeLine_eq]; show 1 * 2 ≤ 16777216; decide, fun c2 nc2 => ?_⟩⟩⟩
      have e1 : Same H2 (upd H2 c1 (.lst ys1)) := same_new nc1
      have e2 : Same (upd H2 c1 (.lst ys1)) (upd (upd H2 c1 (.lst ys1)) c2 (.lst (List.replicate (2 : Int).toNat ys1).flatten)) := same_new nc2
      have s2 := (OL 25).sk.same s1 (e1.trans e2)
      have dy2 : ∀ x ∈ (List.replicate (2 : Int).toNat ys1).flatten, Dat K (UW p d W) 500 10 (upd (upd H2 c1 (.lst ys1)) c2 (.lst (List.replicate (2 : Int).toNat ys1).flatten)) x := fun x hx => by
        obtain ⟨l, hl, hx⟩ := List.mem_flatten.mp hx
        rw [List.eq_of_mem_replicate hl] at hx
        exact (dy x hx).kp (.of (e1.trans e2))
      have l2 : (List.replicate (2 : Int).toNat ys1).flatten.length = 2 := by
        match ys1, ly with
        | [y], _ => rfl
      have h2 : (upd (upd H2 c1 (.lst ys1)) c2 (.lst (List.replicate (2 : Int).toNat ys1).flatten)) c2 = some (.lst (List.replicate (2 : Int).toNat ys1).flatten) := upd_same
      have k2 : Kp p d H1 (upd (upd H2 c1 (.lst ys1)) c2 (.lst (List.replicate (2 : Int).toNat ys1).flatten)) := k1.trans (.of (e1.trans e2))
      generalize (List.replicate (2 : Int).toNat ys1).flatten = zs1 at s2 dy2 l2 h2 k2 ⊢
      generalize (upd (upd H2 c1 (.lst ys1)) c2 (.lst zs1)) = H3 at s2 dy2 h2 k2 ⊢
      obtain ⟨L', xs', o7', wk3, e, D3, kp3, hr3, hL3, nd3, n03, lx3, dx3⟩ := id s2
      cases e
      refine ⟨L, c2, xs', zs1, rfl, rfl, hL3, h2, by rw [lx3, l2, sizeLine_eq]; omega, fun c3 nc3 => ?_⟩
      have e3 : Same H3 (upd H3 c3 (.lst (xs' ++ zs1))) := same_new nc3
      have s3 := (OL 25).sk.same s2 e3
      have D3' := D3.same e3
      refine ⟨s3, fun ws H4 lw dw s4 k4 => ⟨by rw [lw, sizeLine_eq]; omega, fun c4 nc4 => ?_⟩⟩
      obtain ⟨L'', xs'', o7'', wk4, e, D4, kp4, hr4, _, _, _, _, _⟩ := s4
      cases e
      have h3 : (upd H3 c3 (.lst (xs' ++ zs1))) c3 = some (.lst (xs' ++ zs1)) := upd_same
      have h4 := k4 _ _ h3 (D3.ne_none nc3).1 (D3.ne_none nc3).2
      have e4 : Same H4 (upd H4 c4 (.lst ws)) := same_new nc4
      have D5 := D4.same e4
      refine ⟨c3, c4, xs' ++ zs1, ws, rfl, rfl, e4 _ _ h4, upd_same, by rw [List.length_append, lx3, l2, lw, sizeLine_eq]; omega, fun c5 nc5 => nx _ _ ?_⟩
      have e5 : Same (upd H4 c4 (.lst ws)) (upd (upd H4 c4 (.lst ws)) c5 (.lst (xs' ++ zs1 ++ ws))) := same_new nc5
      have go : ∀ x, Dat K (UW p d W) 500 10 H4 x → Dat K (fun c => UW p d W c ∧ c ≠ c5) 500 10 (upd (upd H4 c4 (.lst ws)) c5 (.lst (xs' ++ zs1 ++ ws))) x := fun x h => ((h.kp (.of e4)).newL nc5 fun a ha n => ⟨ha, n⟩).keep (fun c hc => hc.1.1) (.of e5)
      refine ⟨c5, _, _, wk4.kp (.of (e4.trans e5)) (D5.same e5), rfl, D5.same e5, kp4.trans (.of (e4.trans e5)), e5 _ _ (e4 _ _ hr4), upd_same, (D5.ne_none nc5).2, (kp4.trans (.of e4)).free D5 nc5, by rw [List.length_append, List.length_append, lx3, l2, lw], fun x hx => ?_⟩
      rcases List.mem_append.mp hx with h | h
      · rcases List.mem_append.mp h with h | h
        · exact go x (((dx3 x h).keep (fun c hc => hc.1.1) (.of e3)).keep (fun c hc => hc.1.1) k4 |> fun ⟨dd, as, g1, g2, g3⟩ => ⟨dd, as, g1, fun a ha => (g2 a ha).1, g3⟩)
        · exact go x (((dy2 x h).kp (.of e3)).kp k4)
      · exact go x (dw x h)
    case lastb =>
      intro σ H1 Q s q
      obtain ⟨g3, gr⟩ := (OL 25).r3 σ H1 s
      obtain ⟨lo, lm, la, le⟩ := last_of RO.nil
      exact ⟨_, g3, 1, rfl, ru, _, -1, .int lo, rfl, rfl, SqT.of gr, la, rfl, q _⟩
    case comp =>
      intro σ H1 Q s q
      obtain ⟨g3, gr⟩ := (OL 29).r3 σ H1 s
      obtain ⟨L0, xs0, o70, _, rfl, _⟩ := id s
      refine ⟨_, g3, ru, rfl, ⟨_, SqT.of gr⟩, fun D nD => ?_⟩
      refine lc_it (walk_tup (xs := os.map V.int)) (fun i H' => ∃ xs : List V, H' D = some (.lst xs) ∧ xs.length = i ∧ (∀ x ∈ xs, ∀ H2 : Hp, Dat K (UW p d W) 5 0 H2 x) ∧ Same H1 H') ⟨[], upd_same, rfl, fun _ h => absurd h (by simp), same_new nD⟩ (fun i H' _ h => by obtain ⟨_, _, _, _, h⟩ := h; exact SqT.of (h _ _ gr)) ?_ ?_
      · rintro i x Hb Ha hi ⟨xs, h1, h2, h3, h4⟩ ⟨rfl, ex⟩
        obtain ⟨z, ez, rfl⟩ := int_at ex
        have hz := each z (List.mem_of_getElem? ez)
        rw [List.length_map] at hi
        have fin : ∀ v : V, (∀ H' : Hp, Dat K (UW p d W) 5 0 H' v) → ∃ acc, Ha D = some (.lst acc) ∧ acc.length < sizeLine ∧ ∃ xs : List V, (upd Ha D (.lst (acc ++ [v]))) D = some (.lst xs) ∧ xs.length = i + 1 ∧ (∀ x ∈ xs, ∀ H2 : Hp, Dat K (UW p d W) 5 0 H2 x) ∧ Same H1 (upd Ha D (.lst (acc ++ [v]))) := fun v hv =>
          ⟨xs, h1, by rw [h2, sizeLine_eq]; omega, xs ++ [v], upd_same, by rw [List.length_append, h2]; rfl, fun x hx => by
            rcases List.mem_append.mp hx with h | h
            · exact h3 x h
            · rw [List.mem_singleton.mp h]
              exact hv, fun b o e => by
            rw [upd_ne (ne_of_none e nD)]
            exact h4 _ _ e⟩
        have blD : ∀ (b : Bool) (H' : Hp), Dat K (UW p d W) 5 0 H' (.bl b) := fun b H' => ⟨.bl b, [], by simp [Rep], fun _ h => absurd h (by simp), by simp only [small], by simp only [wt]; omega, by simp only [dep]; omega⟩
        refine ⟨rfl, _, rfl, _, _, rfl, rfl, _, rfl, ?_⟩
        refine ite2 (fun _ => ?_) (fun _ => ?_)
        · exact ⟨_, rfl, rfl, fin _ (blD _)⟩
        · exact ⟨_, rfl, fin _ fun H' => by
            obtain ⟨i1, i2, i3, i4⟩ := int_ok (K := K) (H := H') (i := z) (w := 3) (k := 0) (by omega) (by decide) (by decide)
            exact ⟨_, [], i1, fun _ h => absurd h (by simp), i2, by omega, i4⟩⟩
      · rintro Ha ⟨xs, h1, h2, h3, h4⟩
        rw [List.length_map] at h2
        have sa := (OL 29).sk.same s h4
        refine ⟨D, xs, rfl, .inl ⟨SqL.of h1, fun T nT => ?_⟩⟩
        have dT := Dat.newTup (fun x hx => h3 x hx Ha) nT ⟨(OL 29).sk.dk _ _ sa |>.ne_none nT, ((OL 29).sk.wk _ _ sa).free _ nT⟩
        exact q _ _ (dT.le (by rw [h2]; have : os.length * (5 + 2) ≤ 16 * 7 := Nat.mul_le_mul_right 7 len16; omega) (by omega)) ((OL 29).sk.same sa (same_new nT)) (.of (h4.trans (same_new nT)))
    case drw =>
      rintro σ H1 Q ⟨s, q⟩
      exact ⟨_, (OL 32).r0 σ H1 s, _, (OL 32).r5 σ H1 s, p, d, n, rfl, (OL 32).sk.dk _ _ s, by omega, fun r H2 r0 r1 r2 D2 k2 => q r H2 (by have := r1 (by omega); omega) ((OL 32).sk.keep _ _ _ s D2 k2) k2⟩
    refine ⟨_, rfl, _, rfl, a, _, 0, .int n, rfl, rfl, SqT.of N.a, at_of (j := 0) rfl rfl, by show 2 ≤ sizeLine; decide, fun T nT => ?_⟩
    have sT : Same H (upd H T (.tup [.ref lq, .int n])) := same_new nT
    refine ⟨T, _, rfl, SqT.of upd_same, rfl, _, _, rfl, lq, _, rfl, SqT.of (sT _ _ hlq), rfl, _, _, rfl, _, [], rfl, rfl, _, [], rfl, rfl, ?_⟩
    refine ⟨⟨none, none, W0.kp (.of sT) (D0.same sT), rfl, D0.same sT, .of sT, sT _ _ hru⟩, fun σ1 J1 h1 => ⟨h1, fun σ2 J2 h2 => ⟨h2, fun σ3 J3 h3 => ⟨h3, fun σ4 J4 h4 => ⟨h4, fun σ5 J5 h5 => ⟨h5, fun σ6 J6 h6 => ?_⟩⟩⟩⟩⟩⟩
    obtain ⟨L, xs, o7, _, rfl, _⟩ := id h6
    refine ⟨_, rfl, _, rfl, h6, fun ys H2 ly dy s2 k2 => ⟨by rw [ly, sizeLine_eq]; omega, fun c nc => ?_⟩⟩
    obtain ⟨L', xs', o7', _, e, D2, kp2, hr2, hL2, nd2, n02, lx2, dx2⟩ := s2
    cases e
    have sc : Same H2 (upd H2 c (.lst ys)) := same_new nc
    refine ⟨L, c, xs', ys, rfl, rfl, sc _ _ hL2, upd_same, by rw [lx2, ly, sizeLine_eq]; omega, fun q nq => ?_⟩
    have sq := sc.trans (same_new (o := .lst (xs' ++ ys)) nq)
    refine ⟨p, d, q, _, rfl, D2.same sq, upd_same, ((D2.same sc).ne_none nq).2, fun z => ?_, by rw [List.length_append, lx2, ly]; omega, fun x H4 hx D4 k4 => k x H4 ?_ D4 ((kp2.trans (.of sq)).trans k4)⟩
    · have := congrArg List.length z
      rw [List.length_append, lx2] at this
      simp at this
    · rcases List.mem_append.mp hx with h | h
      · obtain ⟨dd, as, g1, g2, g3⟩ := ((dx2 x h).keep (fun c hc => hc.1.1) (.of sq)).keep (fun c hc => hc.1.1) k4
        exact ⟨dd, as, g1, fun a ha => (g2 a ha).1, g3⟩
      · exact ((dy x h).kp (.of sq)).kp k4
end
end Sw
namespace Sw
open PySem L2
/-! ### _law_spoilt of journeys -/
theorem paired_atJ {α β : Type} {F : α → β → Prop} : ∀ {l : List α} {m : List β} {i : Nat} {a : α}, Paired F l m → l[i]? = some a → ∃ b, m[i]? = some b ∧ F a b
  | _, _, i, a, .nil, h => by simp at h
  | _, _, 0, a, .cons h t, e => by
    obtain rfl := Option.some.inj e
    exact ⟨_, rfl, h⟩
  | _, _, i + 1, a, .cons h t, e => paired_atJ (i := i) t (by simpa using e)
theorem LegAt.rep {K : PySem.W.Frag} {n : Int} {ars : List (Int × Int)} {H : Hp} {x : V} {l : List Int × Int} (n2 : n ≤ 12) (h : LegAt n ars H x l) : ∃ dd as, Rep K H dd x as ∧ (∀ c ∈ as, ∃ zs v, H c = some (.tup zs) ∧ V.int v ∈ zs) ∧ small dd ∧ wt dd ≤ 150 ∧ dep dd ≤ 3 := by
  obtain ⟨q, ru, rfl, h1, h2, R, len, t1, t2, _⟩ := h
  obtain ⟨os, t⟩ := l
  dsimp only at h1 h2 R len t1 t2
  obtain ⟨r1, r2, r3, r4⟩ := ints_all (K := K) (H := H) (is := os) fun o ho => by
    obtain ⟨a1, a2⟩ := R.each o ho
    omega
  have e31 : (10 : Nat) ^ 31 = 10 * 10 ^ 30 := rfl
  have eb : BigT = ((10 ^ 30 : Nat) : Int) := rfl
  have e30 : (0 : Nat) < 10 ^ 30 := by decide
  obtain ⟨i1, i2, i3, i4⟩ := int_ok (K := K) (H := H) (i := t) (w := 31) (k := 0) (by
    rw [eb] at t2
    rw [e31]
    omega) (by decide) (by decide)
  refine ⟨.tup [.tup (os.map D.int), .int t], [q, ru], ?_, fun b hb => ?_, ?_, ?_, ?_⟩
  · rw [Rep]
    refine ⟨q, _, [ru], rfl, h1, ?_, ?_, rfl⟩
    · rw [RepAll]
      refine ⟨_, _, [ru], [], rfl, ?_, ?_, rfl⟩
      · rw [Rep]
        exact ⟨ru, _, [], rfl, h2, r1, by simp, rfl⟩
      · rw [RepAll]
        exact ⟨_, _, [], [], rfl, i1, by simp [RepAll], rfl⟩
    · intro z
      have e := List.mem_singleton.mp z
      rw [e] at h1
      have h3 := HO.tup.inj (Option.some.inj (h1.symm.trans h2))
      cases os with
      | nil => cases h3
      | cons o r => cases (List.cons.inj h3).1
  · simp only [List.mem_cons, List.not_mem_nil, or_false] at hb
    rcases hb with rfl | rfl
    · exact ⟨_, t, h1, by simp⟩
    · obtain ⟨fo, f1, f2⟩ := R.first
      exact ⟨_, fo, h2, List.mem_of_getElem? f2⟩
  · simp only [small, smallAll] at i2 ⊢
    exact ⟨r2, i2, trivial⟩
  · simp only [wt, wtAll] at i3 ⊢
    omega
  · simp only [dep, depAll]
    omega
theorem legs_rep {K : PySem.W.Frag} {n : Int} {ars : List (Int × Int)} {H : Hp} (n2 : n ≤ 12) : ∀ {xs : List V} {ls : List (List Int × Int)}, LegsAt n ars H xs ls → ∃ ds as, RepAll K H ds xs as ∧ (∀ c ∈ as, ∃ zs v, H c = some (.tup zs) ∧ V.int v ∈ zs) ∧ smallAll ds ∧ wtAll ds ≤ xs.length * 152 ∧ depAll ds ≤ 3
  | _, _, .nil => ⟨[], [], by simp [RepAll], fun _ h => absurd h (by simp), by simp [smallAll], by simp [wtAll], by simp [depAll]⟩
  | _, _, .cons h t => by
    obtain ⟨dd, as, h1, h2, h3, h4, h5⟩ := h.rep (K := K) n2
    obtain ⟨ds, bs, l1, l2, l3, l4, l5⟩ := legs_rep (K := K) n2 t
    refine ⟨dd :: ds, as ++ bs, ?_, fun c hc => (List.mem_append.mp hc).elim (h2 c) (l2 c), ?_, ?_, ?_⟩
    · simp only [RepAll]
      exact ⟨_, _, as, bs, rfl, h1, l1, rfl⟩
    · simp only [smallAll]
      exact ⟨h3, l3⟩
    · simp only [wtAll, List.length_cons, Nat.succ_mul]
      omega
    · simp only [depAll]
      omega
theorem LegAt.dat {K : PySem.W.Frag} {W : Addr → Prop} {p d : Addr} {n : Int} {ars : List (Int × Int)} {H : Hp} {x : V} {l : List Int × Int} (D0 : Deck H p d 63) (wk : WOk W H) (n2 : n ≤ 12) (h : LegAt n ars H x l) : Dat K (UW p d W) 150 3 H x := by
  obtain ⟨dd, as, h1, h2, h3, h4, h5⟩ := h.rep (K := K) n2
  exact ⟨dd, as, h1, fun c hc => by
    obtain ⟨zs, v, e, _⟩ := h2 c hc
    exact ⟨D0.tne e, wk.tup _ _ e⟩, h3, h4, h5⟩
/-- a journey -/
theorem jour_dat {K : PySem.W.Frag} {W : Addr → Prop} {p d jr : Addr} {n : Int} {ars : List (Int × Int)} {H : Hp} {jx : List V} {ls : List (List Int × Int)} (D0 : Deck H p d 63) (wk : WOk W H) (n2 : n ≤ 12) (hj : H jr = some (.tup jx)) (h : LegsAt n ars H jx ls) : Dat K (UW p d W) (jx.length * 152 + 3) 4 H (.ref jr) := by
  obtain ⟨ds, as, l1, l2, l3, l4, l5⟩ := legs_rep (K := K) n2 h
  refine ⟨.tup ds, jr :: as, ?_, fun c hc => ?_, by simp only [small]; exact l3, by simp only [wt]; omega, by simp only [dep]; omega⟩
  · simp only [Rep]
    refine ⟨jr, _, as, rfl, hj, l1, fun z => ?_, rfl⟩
    obtain ⟨zs, v, e, hv⟩ := l2 jr z
    rw [hj] at e
    cases e
    obtain ⟨l, _, hl⟩ := paired_memL h hv
    obtain ⟨_, _, e, _⟩ := hl
    cases e
  · rcases List.mem_cons.mp hc with z | z
    · rw [z]
      exact ⟨D0.tne hj, wk.tup _ _ hj⟩
    · obtain ⟨zs, v, e, _⟩ := l2 c z
      exact ⟨D0.tne e, wk.tup _ _ e⟩
theorem Dat.newLst {K : PySem.W.Frag} {T : Addr} {U : Addr → Prop} {w k : Nat} {H : Hp} {xs : List V} (h : ∀ x ∈ xs, Dat K U w k H x) (nT : H T = none) (o : U T) : Dat K U (xs.length * (w + 2) + 3) (k + 1) (upd H T (.lst xs)) (.ref T) := by
  obtain ⟨ds, as, l1, l2, l3, l4, l5⟩ := dats_rep h
  refine ⟨.lst ds, T :: as, ?_, fun c hc => ?_, by simp only [small]; exact l3, by simp only [wt]; omega, by simp only [dep]; omega⟩
  · simp only [Rep]
    exact ⟨T, _, as, rfl, upd_same, l1.same (same_new nT), nmem l1 nT, rfl⟩
  · rcases List.mem_cons.mp hc with z | z
    · rw [z]; exact o
    · exact l2 c z
theorem cutV_mem {xs : List V} {lo hi : Option Int} {x : V} (h : x ∈ cutV xs lo hi) : x ∈ xs := by
  unfold cutV at h
  exact List.mem_of_mem_drop (List.mem_of_mem_take h)
theorem offDk {W : Addr → Prop} {H : Hp} {p d : Addr} (D : Deck H p d 63) (wk : WOk W H) : Dk H p d (UW p d W) := ⟨D, fun _ h => h.1, fun _ h => ⟨D.ne_none h, wk.free _ h⟩, fun _ _ h => ⟨D.tne h, wk.tup _ _ h⟩⟩
theorem legs_dat {K : PySem.W.Frag} {W : Addr → Prop} {p d : Addr} {n : Int} {ars : List (Int × Int)} {H : Hp} {xs : List V} {ls : List (List Int × Int)} (D : Deck H p d 63) (wk : WOk W H) (n2 : n ≤ 12) (h : LegsAt n ars H xs ls) : ∀ x ∈ xs, Dat K (UW p d W) 150 3 H x := fun x hx => by
  obtain ⟨l, _, hl⟩ := paired_memL h hx
  exact hl.dat D wk n2
abbrev sSpoiltJ : Stmt := top 27
abbrev nSpoiltJ : List Str := ["deck", "net", "journey", "found", "sort", "spot", "other", "leg"]
theorem scSpoiltJ : FnScope nSpoiltJ ["deck", "net", "journey"] (defScope sSpoiltJ) := ⟨rfl, rfl, rfl, by decide +kernel, rfl, by decide +kernel, by decide +kernel⟩
/-- what stands in all states -/
structure SCore (K : PySem.W.Frag) (W : Addr → Prop) (p d a b jr : Addr) (n : Int) (ts : List V) (ars : List (Int × Int)) (jx : List V) (ls : List (List Int × Int)) (H0 H : Hp) : Prop where
  D : Deck H p d 63
  wk : WOk W H
  kp : Kp p d H0 H
  net : NetAt n H a b ts
  j : H jr = some (.tup jx)
  legs : LegsAt n ars H jx ls
theorem SCore.keep {K : PySem.W.Frag} {W : Addr → Prop} {p d a b jr : Addr} {n : Int} {ts : List V} {ars : List (Int × Int)} {jx : List V} {ls : List (List Int × Int)} {H0 H H' : Hp} (C : SCore K W p d a b jr n ts ars jx ls H0 H) (D' : Deck H' p d 63) (k : Kp p d H H') : SCore K W p d a b jr n ts ars jx ls H0 H' :=
  ⟨D', C.wk.kp k D', C.kp.trans k, C.net.keep (.kp C.D k), TupS.kp C.D k _ _ C.j, C.legs.keep (.kp C.D k)⟩
theorem SCore.same {K : PySem.W.Frag} {W : Addr → Prop} {p d a b jr : Addr} {n : Int} {ts : List V} {ars : List (Int × Int)} {jx : List V} {ls : List (List Int × Int)} {H0 H H' : Hp} (C : SCore K W p d a b jr n ts ars jx ls H0 H) (s : Same H H') : SCore K W p d a b jr n ts ars jx ls H0 H' := C.keep (C.D.same s) (.of s)
def SQ0 (K : PySem.W.Frag) (W : Addr → Prop) (p d a b jr : Addr) (n : Int) (ts : List V) (ars : List (Int × Int)) (jx : List V) (ls : List (List Int × Int)) (H0 : Hp) : SH := fun σ H => ∃ (fo : Addr) (srt spot oth : Int), σ = [some (.ref p), some (.ref a), some (.ref jr), some (.ref fo), some (.int srt), some (.int spot), some (.int oth), none] ∧ SCore K W p d a b jr n ts ars jx ls H0 H ∧ H fo = some (.lst jx) ∧ fo ≠ d ∧ 0 ≤ spot ∧ spot ≤ jx.length ∧ 0 ≤ oth ∧ oth ≤ jx.length
def SQ (K : PySem.W.Frag) (W : Addr → Prop) (p d a b jr : Addr) (n : Int) (ts : List V) (ars : List (Int × Int)) (jx : List V) (ls : List (List Int × Int)) (H0 : Hp) (m : Nat) : SH := fun σ H => ∃ (fo : Addr) (srt spot oth : Int) (xs : List V) (lg : V) (l : List Int × Int), σ = [some (.ref p), some (.ref a), some (.ref jr), some (.ref fo), some (.int srt), some (.int spot), some (.int oth), some lg] ∧ SCore K W p d a b jr n ts ars jx ls H0 H ∧ H fo = some (.lst xs) ∧ fo ≠ d ∧ xs.length ≤ m ∧ (∀ x ∈ xs, Dat K (UW p d W) 500 10 H x) ∧ LegAt n ars H lg l
theorem SQ.sk {K : PySem.W.Frag} {W : Addr → Prop} {p d a b jr : Addr} {n : Int} {ts : List V} {ars : List (Int × Int)} {jx : List V} {ls : List (List Int × Int)} {H0 : Hp} {m : Nat} : SK p d W (SQ K W p d a b jr n ts ars jx ls H0 m) := by
  refine ⟨fun σ H h => ?_, fun σ H h => ?_, fun σ H H' h D' k => ?_⟩ <;> obtain ⟨fo, srt, spot, oth, xs, lg, l, rfl, C, hf, nd, lx, dx, la⟩ := h
  · exact C.wk
  · exact C.D
  · exact ⟨fo, srt, spot, oth, xs, lg, l, rfl, C.keep D' k, k _ _ hf (C.D.kne hf) nd, nd, lx, fun x hx => (dx x hx).kp k, la.keep (.kp C.D k)⟩
section
variable {P : Program} {w : World} {K : PySem.W.Frag} {mg : Str → Option Value} {base : Heap}
def spSpoiltJ (K : PySem.W.Frag) : Sp := fun vs H Q _ => ∃ (p d a b jr : Addr) (n : Int) (ts : List V) (ars : List (Int × Int)) (jx : List V) (ls : List (List Int × Int)) (W : Addr → Prop), vs = [.ref p, .ref a, .ref jr] ∧ Deck H p d 63 ∧ WOk W H ∧ NetAt n H a b ts ∧ H jr = some (.tup jx) ∧ LegsAt n ars H jx ls ∧ jx.length ≤ 10 ∧
  ∀ (y : V) (H' : Hp), Dat K (UW p d W) 50000 14 H' y → Deck H' p d 63 → Kp p d H H' → Q y H'
theorem ok_spoiltJ {f : Addr} {fd : FuncData} (F : Fun K "_law_spoilt" "_law_spoilt" sSpoiltJ f fd) (B : NoNames mg) (OD : Own P w K mg base 1 "_law_draw" ["deck", "many"] spDrawX) (OP : Own P w K mg base 2 "_law_pick" ["deck", "items"] spPick) (OO : Own P w K mg base 3 "_law_odd" ["deck", "net", "leg"] (spOddJ K)) : FnOk P w K mg base CX0 4 f fd ["deck", "net", "journey"] (spSpoiltJ K) := by
  obtain ⟨fD, fdD, GD, mD, kD, bD⟩ := OD.ex
  obtain ⟨fP, fdP, GP, mP, kP, bP⟩ := OP.ex
  obtain ⟨fO, fdO, GO, mO, kO, bO⟩ := OO.ex
  refine F.ok scSpoiltJ (fun vs H Q E h => ?_) (fun cdv A outer s H vs Q E hr h => ?_)
  · obtain ⟨p, d, a, b, jr, n, ts, ars, jx, ls, W, rfl, _⟩ := h
    rfl
  · obtain ⟨p, d, a, b, jr, n, ts, ars, jx, ls, W, rfl, D0, W0, N, hj, LS, lj, k⟩ := h
    have hr1 : Room 1 _ := hr.mono (by decide)
    have hr2 : Room 2 _ := hr.mono (by decide)
    have n1 := N.n1
    have n2 := N.n2
    have b20 : (20 : Int) ≤ BigT := by decide
    have C0 : SCore K W p d a b jr n ts ars jx ls H H := ⟨D0, W0, .refl, N, hj, LS⟩
    have O86 := SQ.sk (K := K) (W := W) (p := p) (d := d) (a := a) (b := b) (jr := jr) (n := n) (ts := ts) (ars := ars) (jx := jx) (ls := ls) (H0 := H) (m := 86)
    refine ⟨_, pss_cons (ps_par (i := 3) (j := 4) rfl scSpoiltJ.nd rfl rfl (by decide) rfl rfl (pa_cons (pe_callTy call_list_of (by rfl) B.list (by decide +kernel) (pa_cons (pv 2) pa_nil)) (pa_cons (pe_call GD hr1 rfl mD kD bD .nil pass0 (pa_cons (pv 0) (pa_cons pe_int pa_nil))) pa_nil)) (by rfl)) <|
      pss_cons (ps_par (i := 5) (j := 6) rfl scSpoiltJ.nd rfl rfl (by decide) rfl rfl (pa_cons (pe_call GD hr1 rfl mD kD bD .nil pass0 (pa_cons (pv 0) (pa_cons (pe_op op_add (pe_callB call_len_seq (by rfl) B.len PySem.boot_len (pa_cons (pv 3) pa_nil)) pe_int) pa_nil)))
        (pa_cons (pe_call GD hr1 rfl mD kD bD .nil pass0 (pa_cons (pv 0) (pa_cons (pe_op op_add (pe_callB call_len_seq (by rfl) B.len PySem.boot_len (pa_cons (pv 3) pa_nil)) pe_int) pa_nil))) pa_nil)) (by rfl)) <|
      pss_cons (ps_cut (J := SQ0 K W p d a b jr n ts ars jx ls H) (J' := SQ K W p d a b jr n ts ars jx ls H 10) (ps_set (i := 7) scSpoiltJ.nd rfl (.inl rfl) (pe_ifExp (pt_cmpR op_lt (pv 5) (pe_callB call_len_seq (by rfl) B.len PySem.boot_len (pa_cons (pv 3) pa_nil)) (nomark _)) (pe_ix ix_list (pv 3) (pv 5) (fun _ _ => rfl))
        (pe_tup (pa_cons (pe_tup (pa_cons (pe_call GD hr1 rfl mD kD bD .nil pass0 (pa_cons (pv 0) (pa_cons (pe_ix ix_tup (pv 1) pe_int (fun _ _ => rfl)) pa_nil))) pa_nil)) (pa_cons pe_int pa_nil))))) ?c0) <|
      pss_cons (ps_cut (J := SQ K W p d a b jr n ts ars jx ls H 10) (J' := SQ K W p d a b jr n ts ars jx ls H 21) (ps_if (pt_cmpR op_lt (pv 4) pe_int (nomark _))
        (pss_one (ps_set (i := 3) scSpoiltJ.nd rfl (.inl rfl) (pe_op op_cat (pe_op op_cat (pe_slice sl_list (pv 3) po_none (po_some (pv 5))) (pe_lst (pa_cons (pe_call GO hr rfl mO kO bO .nil pass0 (pa_cons (pv 0) (pa_cons (pv 1) (pa_cons (pv 7) pa_nil)))) pa_nil)))
          (pe_slice sl_list (pv 3) (po_some (pe_op op_add (pv 5) (pe_call GD hr1 rfl mD kD bD .nil pass0 (pa_cons (pv 0) (pa_cons pe_int pa_nil))))) po_none)))) pss_nil) ?c1) <|
      pss_cons (ps_cut (J := SQ K W p d a b jr n ts ars jx ls H 21) (J' := SQ K W p d a b jr n ts ars jx ls H 43) (ps_if (pt_cmpR op_in_seq (pv 4) (pe_tup (pa_cons pe_int (pa_cons pe_int (pa_cons pe_int pa_nil)))) (by with_unfolding_all rfl))
        (pss_one (ps_set (i := 3) scSpoiltJ.nd rfl (.inl rfl) (pe_op op_cat (pe_op op_cat (pe_slice sl_list (pv 3) po_none (po_some (pv 6))) (pe_lst (pa_cons (pe_tup (pa_cons (pe_tup (pa_cons (pe_call GD hr1 rfl mD kD bD .nil pass0 (pa_cons (pv 0) (pa_cons (pe_ix ix_tup (pv 1) pe_int (fun _ _ => rfl)) pa_nil))) pa_nil)) (pa_cons pe_int pa_nil))) pa_nil)))
          (pe_slice sl_list (pv 3) (po_some (pv 6)) po_none)))) pss_nil) ?c2) <|
      pss_cons (ps_cut (J := SQ K W p d a b jr n ts ars jx ls H 43) (J' := SQ K W p d a b jr n ts ars jx ls H 86) (ps_if (pt_cmpR op_eq (pv 4) pe_int (nomark _))
        (pss_one (ps_set (i := 3) scSpoiltJ.nd rfl (.inl rfl) (pe_op op_cat (pe_slice sl_list (pv 3) po_none (po_some (pv 5))) (pe_slice sl_list (pv 3) (po_some (pe_op op_add (pv 5) pe_int)) po_none)))) pss_nil) ?c3) <|
      pss_cons (ps_cut (J := SQ K W p d a b jr n ts ars jx ls H 86) (J' := SQ K W p d a b jr n ts ars jx ls H 86) (ps_if (pt_cmpR op_eq (pv 4) pe_int (nomark _))
        (pss_one (ps_set (i := 3) scSpoiltJ.nd rfl (.inl rfl) (pe_revL (pv 3)))) pss_nil) ?c4) <|
      pss_cons (ps_if (pt_cmpR op_eq (pv 4) pe_int (nomark _)) (pss_one (ps_ret (pe_call GP hr2 rfl mP kP bP .nil pass0 (pa_cons (pv 0) (pa_cons (pe_lst
        (klc (p := p) (d := d) (S := SQ K W p d a b jr n ts ars jx ls H 86) (w := 40000) (k := 13) (k_gen (w := 1600) (pe_callTy call_list_of (by rfl) B.list (by decide +kernel) (pa_cons (pv 2) pa_nil)) ?i0) <|
        klc (k_gen (w := 150) (pv 7) ?i1) <|
        klc (k_non pe_non) <|
        klc (k_int (i := 0) (w := 1) pe_int (fun _ _ _ q => q)) <|
        klc (k_dct O86) <|
        klc (k_str (w := 10) pe_str) <|
        klc (k_true pe_bl) <|
        klc (k_tup O86 (ks_cons (k_gen (w := 1600) (pv 2) ?i2) ks_nil)) <|
        klc (k_gen (w := 3500) (pv 1) ?i3) <|
        klc (k_gen (w := 150) (pe_ix ix_tup (pv 7) pe_int (fun _ _ => rfl)) ?i4) <|
        klc (k_gen (w := 39000) (pe_op (r := rCatA K) op_catA (pv 2) (pe_tup (pa_cons (pv 1) pa_nil))) ?i5) <|
        kl_nil)) pa_nil))))) pss_nil) <|
      pss_one (ps_ret (pe_callTy call_tuple_of (by rfl) B.tuple (by decide +kernel) (pa_cons (pv 3) pa_nil))), ?_⟩
    case c0 =>
      rintro D σ H1 ⟨fo, srt, spot, oth, rfl, C, hf, nd, s0, s1, o0, o1⟩ nx
      have dl := legs_dat (K := K) C.D C.wk n2 C.legs
      refine ⟨_, rfl, _, rfl, fo, jx, rfl, .inl (SqL.of hf), _, _, rfl, rfl, _, rfl, ?_⟩
      refine ite2 (fun z => ?_) (fun _ => ?_)
      · have z : spot < (jx.length : Int) := by simpa using z
        obtain ⟨sp, rfl⟩ := Int.eq_ofNat_of_zero_le s0
        have hsp : sp < jx.length := by omega
        have ex : jx[sp]? = some jx[sp] := List.getElem?_eq_getElem hsp
        obtain ⟨l, _, la⟩ := paired_atJ C.legs ex
        refine ⟨_, rfl, _, rfl, fo, jx, _, jx[sp], rfl, rfl, SqL.of hf, at_of (j := sp) rfl ex, nx _ _ ⟨fo, srt, sp, oth, jx, _, l, rfl, C, hf, nd, lj, fun x hx => (dl x hx).le (by decide) (by decide), la⟩⟩
      · refine ⟨_, rfl, _, rfl, a, _, 0, .int n, rfl, rfl, SqT.of C.net.a, at_of (j := 0) rfl rfl, p, d, n, rfl, C.D, by omega, fun r H2 r0 r1 r2 D2 k2 => ?_⟩
        have r1 := r1 (by omega)
        have C2 := C.keep D2 k2
        have hf2 := k2 _ _ hf (C.D.kne hf) nd
        refine ⟨by show 1 ≤ sizeLine; decide, fun T1 nT1 => ⟨by show 2 ≤ sizeLine; decide, fun T2 nT2 => nx _ _ ?_⟩⟩
        have e1 : Same H2 (upd H2 T1 (.tup [.int r])) := same_new nT1
        have e2 : Same (upd H2 T1 (.tup [.int r])) (upd (upd H2 T1 (.tup [.int r])) T2 (.tup [.ref T1, .int 1])) := same_new nT2
        have e12 := e1.trans e2
        exact ⟨fo, srt, spot, oth, jx, _, ([r], 1), rfl, C2.same e12, e12 _ _ hf2, nd, lj, fun x hx => (((dl x hx).kp k2).kp (.of e12)).le (by decide) (by decide), T2, T1, rfl, upd_same, e2 _ _ upd_same, ⟨Nat.le_refl 1, by show 1 ≤ 1000; decide, fun o ho => by rw [List.mem_singleton.mp ho]; exact ⟨r0, r1⟩, Chain.one⟩, by show 1 ≤ 16; decide, by show (1 : Int) ≤ 1; decide, by show (1 : Int) ≤ BigT; decide, .inl rfl⟩
    case c1 =>
      rintro D σ H1 ⟨fo, srt, spot, oth, xs, lg, l, rfl, C, hf, nd, lx, dx, la⟩ nx
      refine ⟨_, rfl, _, _, rfl, rfl, _, rfl, ?_⟩
      refine ite2 (fun _ => ?_) (fun _ => nx _ _ ⟨fo, srt, spot, oth, xs, lg, l, rfl, C, hf, nd, by omega, dx, la⟩)
      refine ⟨_, rfl, _, rfl, spot, rfl, fo, xs, rfl, SqL.of hf, fun c1 nc1 => ?_⟩
      have e1 : Same H1 (upd H1 c1 (.lst (cutV xs none (some spot)))) := same_new nc1
      have oc1 := C.D.ne_none nc1
      have CA := C.same e1
      have hfA := e1 _ _ hf
      have laA := la.keep (.of e1)
      have dxA : ∀ x ∈ xs, Dat K (UW p d W) 500 10 (upd H1 c1 (.lst (cutV xs none (some spot)))) x := fun x hx => (dx x hx).kp (.of e1)
      have hc1 : (upd H1 c1 (.lst (cutV xs none (some spot)))) c1 = some (.lst (cutV xs none (some spot))) := upd_same
      generalize (upd H1 c1 (.lst (cutV xs none (some spot)))) = HA at CA hfA laA dxA hc1 ⊢
      refine ⟨_, rfl, _, rfl, _, rfl, p, d, a, b, n, ts, ars, lg, l, W, rfl, CA.D, CA.wk, CA.net, laA, fun y HB dy DB kB => ⟨by show 1 ≤ sizeLine; decide, fun c2 nc2 => ?_⟩⟩
      have CB := CA.keep DB kB
      have npf := CA.D.kne hfA
      have hfB := kB _ _ hfA npf nd
      have hc1B := kB _ _ hc1 oc1.1 oc1.2
      have laB := laA.keep (.kp CA.D kB)
      have dxB : ∀ x ∈ xs, Dat K (UW p d W) 500 10 HB x := fun x hx => (dxA x hx).kp kB
      have e2 : Same HB (upd HB c2 (.lst [y])) := same_new nc2
      have l1 := cutV_length xs none (some spot)
      refine ⟨c1, c2, _, _, rfl, rfl, e2 _ _ hc1B, upd_same, by simp only [List.length_cons, List.length_nil]; rw [sizeLine_eq]; omega, fun c3 nc3 => ?_⟩
      have e3 := e2.trans (same_new (o := .lst (cutV xs none (some spot) ++ [y])) nc3)
      have oc3 := (CB.D.same e2).ne_none nc3
      have CC := CB.same e3
      have hc3 : (upd (upd HB c2 (.lst [y])) c3 (.lst (cutV xs none (some spot) ++ [y]))) c3 = some (.lst (cutV xs none (some spot) ++ [y])) := upd_same
      refine ⟨_, rfl, _, rfl, _, rfl, p, d, 2, rfl, CC.D, by omega, fun r HD r0 r1 r2 DD kD => ⟨_, _, rfl, rfl, _, rfl, fo, xs, rfl, SqL.of (kD _ _ (e3 _ _ hfB) npf nd), fun c4 nc4 => ?_⟩⟩
      have CD := CC.keep DD kD
      have e4 : Same HD (upd HD c4 (.lst (cutV xs (some (spot + r)) none))) := same_new nc4
      have l2 := cutV_length xs (some (spot + r)) none
      refine ⟨c3, c4, _, _, rfl, rfl, e4 _ _ (kD _ _ hc3 oc3.1 oc3.2), upd_same, by rw [List.length_append, sizeLine_eq]; simp only [List.length_cons, List.length_nil]; omega, fun c5 nc5 => nx _ _ ?_⟩
      have e5 := e4.trans (same_new (o := .lst (cutV xs none (some spot) ++ [y] ++ cutV xs (some (spot + r)) none)) nc5)
      have kAll : Kp p d HB _ := ((Kp.of e3).trans kD).trans (.of e5)
      refine ⟨c5, srt, spot, oth, _, lg, l, rfl, CD.same e5, upd_same, ((CD.D.same e4).ne_none nc5).2, by rw [List.length_append, List.length_append]; simp only [List.length_cons, List.length_nil]; omega, fun x hx => ?_, laB.keep (.kp CB.D kAll)⟩
      rcases List.mem_append.mp hx with hx | hx
      · rcases List.mem_append.mp hx with hx | hx
        · exact (dxB x (cutV_mem hx)).kp kAll
        · rw [List.mem_singleton.mp hx]
          exact dy.kp kAll
      · exact (dxB x (cutV_mem hx)).kp kAll
    case c2 =>
      rintro D σ H1 ⟨fo, srt, spot, oth, xs, lg, l, rfl, C, hf, nd, lx, dx, la⟩ nx
      refine ⟨_, rfl, by show 3 ≤ sizeLine; decide, fun T nT => ?_⟩
      have eT : Same H1 (upd H1 T (.tup [.int 1, .int 2, .int 3])) := same_new nT
      have CT := C.same eT
      have hfT := eT _ _ hf
      have laT := la.keep (.of eT)
      have dxT : ∀ x ∈ xs, Dat K (UW p d W) 500 10 (upd H1 T (.tup [.int 1, .int 2, .int 3])) x := fun x hx => (dx x hx).kp (.of eT)
      refine ⟨T, _, rfl, .inr (SqT.of upd_same), rfl, rfl, _, rfl, ?_⟩
      generalize (upd H1 T (.tup [.int 1, .int 2, .int 3])) = H2 at CT hfT laT dxT ⊢
      refine ite2 (fun _ => ?_) (fun _ => nx _ _ ⟨fo, srt, spot, oth, xs, lg, l, rfl, CT, hfT, nd, by omega, dxT, laT⟩)
      refine ⟨_, rfl, _, rfl, oth, rfl, fo, xs, rfl, SqL.of hfT, fun c1 nc1 => ?_⟩
      have e1 : Same H2 (upd H2 c1 (.lst (cutV xs none (some oth)))) := same_new nc1
      have oc1 := CT.D.ne_none nc1
      have CA := CT.same e1
      have hfA := e1 _ _ hfT
      have laA := laT.keep (.of e1)
      have dxA : ∀ x ∈ xs, Dat K (UW p d W) 500 10 (upd H2 c1 (.lst (cutV xs none (some oth)))) x := fun x hx => (dxT x hx).kp (.of e1)
      have hc1 : (upd H2 c1 (.lst (cutV xs none (some oth)))) c1 = some (.lst (cutV xs none (some oth))) := upd_same
      generalize (upd H2 c1 (.lst (cutV xs none (some oth)))) = HA at CA hfA laA dxA hc1 ⊢
      have npf := CA.D.kne hfA
      refine ⟨_, rfl, _, rfl, a, _, 0, .int n, rfl, rfl, SqT.of CA.net.a, at_of (j := 0) rfl rfl, p, d, n, rfl, CA.D, by omega, fun r HB r0 r1 r2 DB kB => ⟨by show 1 ≤ sizeLine; decide, fun T1 nT1 => ⟨by show 2 ≤ sizeLine; decide, fun T2 nT2 => ⟨by show 1 ≤ sizeLine; decide, fun c2 nc2 => ?_⟩⟩⟩⟩
      have r1 := r1 (by omega)
      have CB := CA.keep DB kB
      have f1 : Same HB (upd HB T1 (.tup [.int r])) := same_new nT1
      have f2 : Same (upd HB T1 (.tup [.int r])) (upd (upd HB T1 (.tup [.int r])) T2 (.tup [.ref T1, .int 1])) := same_new nT2
      have LT : LegAt n ars (upd (upd HB T1 (.tup [.int r])) T2 (.tup [.ref T1, .int 1])) (.ref T2) ([r], 1) := ⟨T2, T1, rfl, upd_same, f2 _ _ upd_same, ⟨Nat.le_refl 1, by show 1 ≤ 1000; decide, fun o ho => by rw [List.mem_singleton.mp ho]; exact ⟨r0, r1⟩, Chain.one⟩, by show 1 ≤ 16; decide, by show (1 : Int) ≤ 1; decide, by show (1 : Int) ≤ BigT; decide, .inl rfl⟩
      have f12 := f1.trans f2
      have CT2 := CB.same f12
      have dyT := (LT.dat (K := K) CT2.D CT2.wk n2).le (w' := 500) (k' := 10) (by decide) (by decide)
      have kT2 : Kp p d HA (upd (upd HB T1 (.tup [.int r])) T2 (.tup [.ref T1, .int 1])) := kB.trans (.of f12)
      generalize (upd (upd HB T1 (.tup [.int r])) T2 (.tup [.ref T1, .int 1])) = HC at LT CT2 dyT kT2 nc2 ⊢
      have hfC := kT2 _ _ hfA npf nd
      have hc1C := kT2 _ _ hc1 oc1.1 oc1.2
      have laC := laA.keep (.kp CA.D kT2)
      have dxC : ∀ x ∈ xs, Dat K (UW p d W) 500 10 HC x := fun x hx => (dxA x hx).kp kT2
      have e2 : Same HC (upd HC c2 (.lst [.ref T2])) := same_new nc2
      have l1 := cutV_length xs none (some oth)
      refine ⟨c1, c2, _, _, rfl, rfl, e2 _ _ hc1C, upd_same, by simp only [List.length_cons, List.length_nil]; rw [sizeLine_eq]; omega, fun c3 nc3 => ?_⟩
      have e3 := e2.trans (same_new (o := .lst (cutV xs none (some oth) ++ [.ref T2])) nc3)
      have hc3 : (upd (upd HC c2 (.lst [.ref T2])) c3 (.lst (cutV xs none (some oth) ++ [.ref T2]))) c3 = some (.lst (cutV xs none (some oth) ++ [.ref T2])) := upd_same
      refine ⟨_, rfl, _, rfl, oth, rfl, fo, xs, rfl, SqL.of (e3 _ _ hfC), fun c4 nc4 => ?_⟩
      have e4 := same_new (o := .lst (cutV xs (some oth) none)) nc4
      have l2 := cutV_length xs (some oth) none
      refine ⟨c3, c4, _, _, rfl, rfl, e4 _ _ hc3, upd_same, by rw [List.length_append, sizeLine_eq]; simp only [List.length_cons, List.length_nil]; omega, fun c5 nc5 => nx _ _ ?_⟩
      have e5 := (e3.trans e4).trans (same_new (o := .lst (cutV xs none (some oth) ++ [.ref T2] ++ cutV xs (some oth) none)) nc5)
      refine ⟨c5, srt, spot, oth, _, lg, l, rfl, CT2.same e5, upd_same, ((CT2.D.same (e3.trans e4)).ne_none nc5).2, by rw [List.length_append, List.length_append]; simp only [List.length_cons, List.length_nil]; omega, fun x hx => ?_, laC.keep (.of e5)⟩
      rcases List.mem_append.mp hx with hx | hx
      · rcases List.mem_append.mp hx with hx | hx
        · exact (dxC x (cutV_mem hx)).kp (.of e5)
        · rw [List.mem_singleton.mp hx]
          exact dyT.kp (.of e5)
      · exact (dxC x (cutV_mem hx)).kp (.of e5)
    case c3 =>
      rintro D σ H1 ⟨fo, srt, spot, oth, xs, lg, l, rfl, C, hf, nd, lx, dx, la⟩ nx
      refine ⟨_, rfl, rfl, _, rfl, ?_⟩
      refine ite2 (fun _ => ?_) (fun _ => nx _ _ ⟨fo, srt, spot, oth, xs, lg, l, rfl, C, hf, nd, by omega, dx, la⟩)
      refine ⟨_, rfl, _, rfl, spot, rfl, fo, xs, rfl, SqL.of hf, fun c1 nc1 => ?_⟩
      have e1 : Same H1 (upd H1 c1 (.lst (cutV xs none (some spot)))) := same_new nc1
      refine ⟨_, rfl, _, rfl, _, _, rfl, rfl, _, rfl, fo, xs, rfl, SqL.of (e1 _ _ hf), fun c2 nc2 => ?_⟩
      have e2 := same_new (o := .lst (cutV xs (some (spot + 1)) none)) nc2
      have l1 := cutV_length xs none (some spot)
      have l2 := cutV_length xs (some (spot + 1)) none
      refine ⟨c1, c2, _, _, rfl, rfl, e2 _ _ upd_same, upd_same, by rw [sizeLine_eq]; omega, fun c5 nc5 => nx _ _ ?_⟩
      have e5 := (e1.trans e2).trans (same_new (o := .lst (cutV xs none (some spot) ++ cutV xs (some (spot + 1)) none)) nc5)
      refine ⟨c5, srt, spot, oth, _, lg, l, rfl, C.same e5, upd_same, ((C.D.same (e1.trans e2)).ne_none nc5).2, by rw [List.length_append]; omega, fun x hx => ?_, la.keep (.of e5)⟩
      rcases List.mem_append.mp hx with hx | hx
      · exact (dx x (cutV_mem hx)).kp (.of e5)
      · exact (dx x (cutV_mem hx)).kp (.of e5)
    case c4 =>
      rintro D σ H1 ⟨fo, srt, spot, oth, xs, lg, l, rfl, C, hf, nd, lx, dx, la⟩ nx
      refine ⟨_, rfl, rfl, _, rfl, ?_⟩
      refine ite2 (fun _ => ?_) (fun _ => nx _ _ ⟨fo, srt, spot, oth, xs, lg, l, rfl, C, hf, nd, lx, dx, la⟩)
      refine ⟨_, rfl, fo, xs, rfl, SqL.of hf, fun c nc => nx _ _ ?_⟩
      have sc : Same H1 (upd H1 c (.lst xs.reverse)) := same_new nc
      exact ⟨c, srt, spot, oth, _, lg, l, rfl, C.same sc, upd_same, (C.D.ne_none nc).2, by rw [List.length_reverse]; exact lx, fun x hx => (dx x (List.mem_reverse.mp hx)).kp (.of sc), la.keep (.of sc)⟩
    case i0 =>
      intro σ H1 Q s q
      obtain ⟨fo, srt, spot, oth, xs, lg, l, rfl, C, hf, nd, lx, dx, la⟩ := id s
      refine ⟨_, rfl, jr, _, rfl, .inr (SqT.of C.j), fun c nc => ?_⟩
      have hd := Dat.newLst (legs_dat (K := K) C.D C.wk n2 C.legs) nc ⟨C.D.ne_none nc, C.wk.free _ nc⟩
      exact q _ _ (hd.le (by omega) (by decide)) (O86.same s (same_new nc)) (.of (same_new nc))
    case i1 =>
      intro σ H1 Q s q
      obtain ⟨fo, srt, spot, oth, xs, lg, l, rfl, C, hf, nd, lx, dx, la⟩ := id s
      exact ⟨_, rfl, q _ H1 ((la.dat C.D C.wk n2).le (by decide) (by decide)) s .refl⟩
    case i2 =>
      intro σ H1 Q s q
      obtain ⟨fo, srt, spot, oth, xs, lg, l, rfl, C, hf, nd, lx, dx, la⟩ := id s
      exact ⟨_, rfl, q _ H1 ((jour_dat C.D C.wk n2 C.j C.legs).le (by omega) (by decide)) s .refl⟩
    case i3 =>
      intro σ H1 Q s q
      obtain ⟨fo, srt, spot, oth, xs, lg, l, rfl, C, hf, nd, lx, dx, la⟩ := id s
      exact ⟨_, rfl, q _ H1 ((C.net.datA (offDk C.D C.wk)).le (by decide) (by decide)) s .refl⟩
    case i4 =>
      intro σ H1 Q s q
      obtain ⟨fo, srt, spot, oth, xs, lg, l, rfl, C, hf, nd, lx, dx, la⟩ := id s
      obtain ⟨lq, ru, rfl, g1, g2, R, len, _⟩ := la
      obtain ⟨r1, r2, r3, r4⟩ := ints_all (K := K) (H := H1) (is := l.1) fun o ho => by
        obtain ⟨a1, a2⟩ := R.each o ho
        omega
      exact ⟨_, rfl, lq, _, 0, .ref ru, rfl, rfl, SqT.of g1, at_of (j := 0) rfl rfl, q _ H1 ⟨.tup (l.1.map D.int), [ru], by rw [Rep]; exact ⟨ru, _, [], rfl, g2, r1, by simp, rfl⟩, fun c hc => by rw [List.mem_singleton.mp hc]; exact ⟨C.D.tne g2, C.wk.tup _ _ g2⟩, by simp only [small]; exact r2, by simp only [wt]; omega, by simp only [dep]; omega⟩ s .refl⟩
    case i5 =>
      intro σ H1 Q s q
      obtain ⟨fo, srt, spot, oth, xs, lg, l, rfl, C, hf, nd, lx, dx, la⟩ := id s
      refine ⟨_, rfl, _, rfl, by show 1 ≤ sizeLine; decide, fun T nT => ?_⟩
      have sT : Same H1 (upd H1 T (.tup [.ref a])) := same_new nT
      have dN := C.net.datA (K := K) (offDk C.D C.wk)
      have dL := legs_dat (K := K) C.D C.wk n2 C.legs
      refine ⟨jr, T, jx, _, rfl, rfl, SqT.of (sT _ _ C.j), SqT.of upd_same, by simp only [List.length_cons, List.length_nil]; rw [sizeLine_eq]; omega, fun z => ?_, fun _ z => (nomatch z), fun _ _ c nc => ?_⟩
      · have hd := Dat.newTup (U := UW p d W) (xs := [.ref a]) (fun x hx => by rw [List.mem_singleton.mp hx]; exact dN) nT ⟨C.D.ne_none nT, C.wk.free _ nT⟩
        exact q _ _ (hd.le (by show 1 * (3500 + 2) + 3 ≤ 39000; decide) (by decide)) (O86.same s sT) (.of sT)
      · have hall : ∀ x ∈ jx ++ [.ref a], Dat K (UW p d W) 3500 3 (upd H1 T (.tup [.ref a])) x := fun x hx => by
          rcases List.mem_append.mp hx with h | h
          · exact ((dL x h).kp (.of sT)).le (by decide) (by decide)
          · rw [List.mem_singleton.mp h]
            exact dN.kp (.of sT)
        have hd := Dat.newTup hall nc ⟨(C.D.same sT).ne_none nc, (C.wk.kp (.of sT) (C.D.same sT)).free _ nc⟩
        have hlen : (jx ++ [V.ref a]).length ≤ 11 := by
          rw [List.length_append]
          simp only [List.length_cons, List.length_nil]
          omega
        have hm : (jx ++ [V.ref a]).length * (3500 + 2) ≤ 11 * 3502 := Nat.mul_le_mul_right 3502 hlen
        exact q _ _ (hd.le (by omega) (by decide)) (O86.same s (sT.trans (same_new nc))) (.of (sT.trans (same_new nc)))
    refine ⟨_, rfl, jr, _, rfl, .inr (SqT.of hj), fun fo nfo => ?_⟩
    have e1 : Same H (upd H fo (.lst jx)) := same_new nfo
    have ofo := D0.ne_none nfo
    have C1 := C0.same e1
    refine ⟨_, rfl, p, d, 8, rfl, C1.D, by omega, fun srt H1 _ _ _ D1 k1 => ⟨_, _, rfl, ?_⟩⟩
    have C2 := C1.keep D1 k1
    have hf2 := k1 _ _ upd_same ofo.1 ofo.2
    have ll : (jx.length : Int) ≤ 10 := by omega
    refine ⟨_, rfl, _, rfl, fo, jx, rfl, .inl (SqL.of hf2), _, _, rfl, rfl, p, d, _, rfl, C2.D, by omega, fun spot H2 s0 s1 _ D2 k2 => ?_⟩
    have C3 := C2.keep D2 k2
    have hf3 := k2 _ _ hf2 ofo.1 ofo.2
    have s1 := s1 (by omega)
    refine ⟨_, rfl, _, rfl, fo, jx, rfl, .inl (SqL.of hf3), _, _, rfl, rfl, p, d, _, rfl, C3.D, by omega, fun oth H3 o0 o1 _ D3 k3 => ⟨_, _, rfl, ?_⟩⟩
    have C4 := C3.keep D3 k3
    have hf4 := k3 _ _ hf3 ofo.1 ofo.2
    have o1 := o1 (by omega)
    refine ⟨⟨fo, srt, spot, oth, rfl, C4, hf4, ofo.2, s0, by omega, o0, by omega⟩, fun σ1 J1 h1 => ⟨h1, fun σ2 J2 h2 => ⟨h2, fun σ3 J3 h3 => ⟨h3, fun σ4 J4 h4 => ⟨h4, fun σ5 J5 h5 => ?_⟩⟩⟩⟩⟩
    obtain ⟨fo, srt, spot, oth, xs, lg, l, rfl, C, hf, nd, lx, dx, la⟩ := id h5
    refine ⟨_, rfl, rfl, _, rfl, ?_⟩
    refine ite2 (fun _ => ?_) (fun _ => ?_)
    · refine ⟨_, rfl, h5, fun ys J6 ly dy s6 k6 => ⟨by rw [ly, sizeLine_eq]; omega, fun c nc => ?_⟩⟩
      have C6 := C.keep (O86.dk _ _ s6) k6
      have sc := same_new (o := .lst ys) nc
      refine ⟨p, d, c, _, rfl, C6.D.same sc, upd_same, (C6.D.ne_none nc).2, (fun z => by rw [z] at ly; cases ly), by omega, fun x J7 hx D7 k7 => k x J7 ((((dy x hx).kp (.of sc)).kp k7).le (by decide) (by decide)) D7 (C6.kp.trans ((Kp.of sc).trans k7))⟩
    · refine ⟨_, rfl, fo, xs, rfl, .inl ⟨SqL.of hf, fun T nT => ?_⟩⟩
      have hd := Dat.newTup dx nT ⟨C.D.ne_none nT, C.wk.free _ nT⟩
      have hm : xs.length * (500 + 2) ≤ 86 * 502 := Nat.mul_le_mul_right 502 lx
      exact k _ _ (hd.le (by omega) (by decide)) (C.D.same (same_new nT)) (C.kp.trans (.of (same_new nT)))
end
end Sw
namespace Sw
open PySem RZ
section
variable {prog : Program} {w : World} {A : Around} {E : Value → Shared → Prop} {s : Shared}
abbrev IsZ (h : Heap) (z TI TO : Addr) (f0 f1 : Value) : Prop :=
  h.get? z = some { cls := .type "zip", dict := none, data := .fields #[f0, f1, .bool false, .ref TI, .ref TO], slots := #[] }
theorem wpAny_loadIfAlive {M : Model} {a : Addr} {Q : Option Obj → Shared → Prop} (h : Q (s.heap.get? a) s) : wpAny M A (loadIfAlive a) Q E s :=
  fun Γ p hΓ => by
    unfold loadIfAlive
    rw [Sem.wp_loadIfAlive, Sem.wp_pure]
    exact h
theorem owned_free {z TI TO : Addr} {f0 : Value} {b1 : Bool} {Q : Bool → Shared → Prop} (hz : IsZ s.heap z TI TO f0 (.bool b1)) (hf : f0 = .none ∨ ∃ T : Nat, f0 = rawInt T)
    (hQ : ∀ (r b' : Bool) (h' : Heap), IsZ h' z TI TO f0 (.bool b') → h'.objs.size = s.heap.objs.size → (∀ c o, c ≠ z → s.heap.get? c = some o → h'.get? c = some o) → Q r { s with heap := h' }) :
    wpAny (model prog w) A (Builtin.SmallTypes.ownedTupleIsFree (.ref z)) Q E s := by
  unfold Builtin.SmallTypes.ownedTupleIsFree
  refine wpAny_bind (wpAny_field hz rfl (x := f0) rfl ?_)
  have same := fun r => hQ r b1 s.heap hz rfl fun _ _ _ e => e
  rcases hf with rfl | ⟨T, rfl⟩
  · exact wpAny_pure (same true)
  · refine wpAny_bind (wpAny_loadIfAlive ?_)
    cases s.heap.get? ((T : Int).toNat) with
    | none => exact wpAny_pure (same true)
    | some o =>
      refine wpAny_bind (wpAny_field hz rfl (x := .bool b1) rfl ?_)
      cases b1 with
      | true => exact wpAny_pure (same false)
      | false =>
        refine wpAny_bind (wpAny_setField_rec hz (by simp) fun h1 hz1 hs1 => wpAny_pure ?_)
        exact hQ false true h1 hz1 hs1.1 fun c o c1 e => hs1.extBut _ _ c1 e
theorem zipN_item {z TI TO i1 i2 l1 l2 : Addr} {k1 k2 : Nat} {xs ys : Array Value} {x y a b f0 : Value} {b1 : Bool} {Q : Value → Shared → Prop} (D : ZipApart z TI TO i1 i2 l1 l2)
    (hz : IsZ s.heap z TI TO f0 (.bool b1)) (hf : f0 = .none ∨ ∃ T : Nat, f0 = rawInt T) (hTI : IsPair s.heap TI (.ref i1) (.ref i2)) (hTO : IsPair s.heap TO a b)
    (h1 : s.heap.IsTupleIter i1 l1 k1) (h2 : s.heap.IsTupleIter i2 l2 k2) (hl1 : s.heap.IsTuple l1 xs) (hl2 : s.heap.IsTuple l2 ys) (hx : xs[k1]? = some x) (hy : ys[k2]? = some y)
    (hQ : ∀ h' f0' b1' a' b', IsZ h' z TI TO f0' (.bool b1') → (f0' = .none ∨ ∃ T : Nat, f0' = rawInt T) → IsPair h' TO a' b' → h'.IsTupleIter i1 l1 (k1 + 1) → h'.IsTupleIter i2 l2 (k2 + 1) → IsPair h' s.heap.objs.size x y →
      (∀ c o, c ≠ z → c ≠ TO → c ≠ i1 → c ≠ i2 → s.heap.get? c = some o → h'.get? c = some o) → Q (.ref s.heap.objs.size) { s with heap := h' }) :
    wpAny (model prog w) A (Builtin.«zip.__next__» ⟨[.ref z], []⟩) (fun fin s' => ∃ v, fin = .done (.ret v) ∧ Q v s') E s := by
  show wpAny _ _ (field (.ref z) 2 >>= _) _ _ _
  refine wpAny_bind (wpAny_field hz rfl (x := .bool false) rfl ?_)
  show wpAny _ _ (field (.ref z) 3 >>= _) _ _ _
  refine wpAny_bind (wpAny_field hz rfl (x := .ref TI) rfl ?_)
  refine wpAny_bind (wpAny_seqItems hTI rfl ?_)
  show wpAny _ _ (Builtin.SmallTypes.ownedTupleIsFree (.ref z) >>= _) _ _ _
  refine wpAny_bind (owned_free hz hf fun r b0 h₀ hz₀ sz₀ hk₀ => ?_)
  have hTI₀ : IsPair h₀ TI (.ref i1) (.ref i2) := hk₀ _ _ D.TIz hTI
  have hTO₀ : IsPair h₀ TO a b := hk₀ _ _ D.TOz hTO
  have h1₀ : h₀.IsTupleIter i1 l1 k1 := h1.at fun o e => hk₀ _ o D.i1z e
  have h2₀ : h₀.IsTupleIter i2 l2 k2 := h2.at fun o e => hk₀ _ o D.i2z e
  have hl1₀ : h₀.IsTuple l1 xs := by
    obtain ⟨o, e, r⟩ := hl1
    exact ⟨o, hk₀ _ _ D.l1z e, r⟩
  have hl2₀ : h₀.IsTuple l2 ys := by
    obtain ⟨o, e, r⟩ := hl2
    exact ⟨o, hk₀ _ _ D.l2z e, r⟩
  cases r with
  | false =>
    simp only [if_false, Bool.false_eq_true]
    refine wpAny_bind ?_
    rw [← Array.forIn_toList]
    simp only [List.forIn_cons, List.forIn_nil]
    refine wpAny_bind (wpAny_bind (wpAny_holding ?_))
    show wpAny _ _ (Builtin.SmallTypes.nextOf (.ref i1) >>= _) _ _ _
    refine wpAny_bind (nextOf_tuple_item h1₀ hl1₀ hx fun h₂ h1₂ hs₂ => wpAny_pure (wpAny_pure ?_))
    refine wpAny_bind (wpAny_bind (wpAny_holding ?_))
    show wpAny _ _ (Builtin.SmallTypes.nextOf (.ref i2) >>= _) _ _ _
    refine wpAny_bind (nextOf_tuple_item (h2₀.extBut hs₂.extBut D.i12.symm) (hl2₀.extBut hs₂.extBut D.l2i1) hy fun h₃ h2₃ hs₃ => wpAny_pure (wpAny_pure (wpAny_pure ?_)))
    show wpAny _ _ (newTuple [x, y] >>= _) _ _ _
    refine wpAny_bind (wpAny_newTuple ?_)
    have hsz : h₃.objs.size = s.heap.objs.size := by rw [hs₃.1, hs₂.1]; exact sz₀
    have hk₃ : ∀ c o, c ≠ z → c ≠ i1 → c ≠ i2 → s.heap.get? c = some o → h₃.get? c = some o := fun c o c1 c3 c4 e => hs₃.extBut _ _ c4 (hs₂.extBut _ _ c3 (hk₀ _ _ c1 e))
    have hz₃ : IsZ h₃ z TI TO f0 (.bool b0) := hs₃.extBut _ _ D.i2z.symm (hs₂.extBut _ _ D.i1z.symm hz₀)
    have h1₃ : h₃.IsTupleIter i1 l1 (k1 + 1) := h1₂.extBut hs₃.extBut D.i12
    refine wpAny_pure ⟨_, rfl, ?_⟩
    show Q (.ref h₃.objs.size) _
    have hT : IsPair (h₃.push { cls := .type "tuple", data := .seq #[x, y] }) h₃.objs.size x y := Heap.get?_push_size _ rfl
    rw [hsz] at hT ⊢
    exact hQ _ f0 b0 a b (Heap.get?_push_of_some _ hz₃) hf (Heap.get?_push_of_some _ (hk₃ _ _ D.TOz D.TOi1 D.TOi2 hTO)) (h1₃.at fun o e => Heap.get?_push_of_some _ e) (h2₃.at fun o e => Heap.get?_push_of_some _ e) hT fun c o c1 c2 c3 c4 e => Heap.get?_push_of_some _ (hk₃ c o c1 c3 c4 e)
  | true =>
    simp only [if_true]
    refine wpAny_bind (wpAny_rule ?_)
    refine wpAny_bind (wpAny_field (s := { s with heap := h₀ }) hz₀ rfl (x := .ref TO) rfl ?_)
    refine wpAny_bind (wpAny_setField_rec (s := { s with heap := h₀ }) hz₀ (by simp) fun h₁ hz₁ hs₁ => ?_)
    replace hz₁ : IsZ h₁ z TI TO .ellipsis (.bool b0) := hz₁
    refine wpAny_bind ?_
    simp only [List.zipIdx_cons, List.zipIdx_nil, List.forIn_cons, List.forIn_nil]
    refine wpAny_bind (wpAny_bind (wpAny_onRaise ?_))
    show wpAny _ _ (Builtin.SmallTypes.nextOf (.ref i1) >>= _) _ _ _
    refine wpAny_bind (nextOf_tuple_item (h1₀.extBut hs₁.extBut D.i1z) (hl1₀.extBut hs₁.extBut D.l1z) hx fun h₂ h1₂ hs₂ => wpAny_pure ?_)
    have hTO₂ : IsPair h₂ TO a b := hs₂.extBut _ _ D.TOi1 (hs₁.extBut _ _ D.TOz hTO₀)
    refine wpAny_bind (wpAny_seqItems hTO₂ rfl ?_)
    refine wpAny_bind (wpAny_updateSeq_pair hTO₂ fun h₃ hTO₃ hs₃ => ?_)
    replace hTO₃ : IsPair h₃ TO x b := hTO₃
    refine wpAny_bind (wpAny_letGo (wpAny_pure ?_))
    refine wpAny_bind (wpAny_bind (wpAny_onRaise ?_))
    show wpAny _ _ (Builtin.SmallTypes.nextOf (.ref i2) >>= _) _ _ _
    refine wpAny_bind (nextOf_tuple_item (((h2₀.extBut hs₁.extBut D.i2z).extBut hs₂.extBut D.i12.symm).extBut hs₃.extBut D.TOi2.symm)
      (((hl2₀.extBut hs₁.extBut D.l2z).extBut hs₂.extBut D.l2i1).extBut hs₃.extBut D.l2TO) hy fun h₄ h2₄ hs₄ => wpAny_pure ?_)
    have hTO₄ : IsPair h₄ TO x b := hs₄.extBut _ _ D.TOi2 hTO₃
    refine wpAny_bind (wpAny_seqItems hTO₄ rfl ?_)
    refine wpAny_bind (wpAny_updateSeq_pair hTO₄ fun h₅ hTO₅ hs₅ => ?_)
    replace hTO₅ : IsPair h₅ TO x y := hTO₅
    refine wpAny_bind (wpAny_letGo (wpAny_pure (wpAny_pure ?_)))
    refine wpAny_bind (wpAny_seqItems hTO₅ rfl ?_)
    refine wpAny_bind (wpAny_newTuple ?_)
    have hsz : h₅.objs.size = s.heap.objs.size := by rw [hs₅.1, hs₄.1, hs₃.1, hs₂.1, hs₁.1]; exact sz₀
    have hz₅ : IsZ h₅ z TI TO .ellipsis (.bool b0) := hs₅.extBut _ _ D.TOz.symm (hs₄.extBut _ _ D.i2z.symm (hs₃.extBut _ _ D.TOz.symm (hs₂.extBut _ _ D.i1z.symm hz₁)))
    have hk₅ : ∀ c o, c ≠ z → c ≠ TO → c ≠ i1 → c ≠ i2 → s.heap.get? c = some o → h₅.get? c = some o := fun c o c1 c2 c3 c4 e =>
      hs₅.extBut _ _ c2 (hs₄.extBut _ _ c4 (hs₃.extBut _ _ c2 (hs₂.extBut _ _ c3 (hs₁.extBut _ _ c1 (hk₀ _ _ c1 e)))))
    have h1₅ : h₅.IsTupleIter i1 l1 (k1 + 1) := ((h1₂.extBut hs₃.extBut D.TOi1.symm).extBut hs₄.extBut D.i12).extBut hs₅.extBut D.TOi1.symm
    have h2₅ : h₅.IsTupleIter i2 l2 (k2 + 1) := h2₄.extBut hs₅.extBut D.TOi2.symm
    have hzlt : z < h₅.objs.size := Heap.lt_size hz₅
    show wpAny _ _ (Builtin.SmallTypes.ownedTupleHandOut (.ref z) (.ref h₅.objs.size) >>= _) _ _ _
    refine wpAny_bind ?_
    unfold Builtin.SmallTypes.ownedTupleHandOut
    have hz₆ : IsZ (h₅.push { cls := .type "tuple", data := .seq #[x, y] }) z TI TO .ellipsis (.bool b0) := Heap.get?_push_of_some _ hz₅
    refine wpAny_bind (wpAny_setField_rec hz₆ (by simp) fun h₇ hz₇ hs₇ => ?_)
    replace hz₇ : IsZ h₇ z TI TO (rawInt h₅.objs.size) (.bool b0) := hz₇
    refine wpAny_setField_rec hz₇ (by simp) fun h₈ hz₈ hs₈ => ?_
    replace hz₈ : IsZ h₈ z TI TO (rawInt h₅.objs.size) (.bool false) := hz₈
    have up : ∀ c o, c ≠ z → h₅.get? c = some o → h₈.get? c = some o := fun c o c1 e => hs₈.extBut _ _ c1 (hs₇.extBut _ _ c1 (Heap.get?_push_of_some _ e))
    have hT₈ : IsPair h₈ h₅.objs.size x y := hs₈.extBut _ _ (Nat.ne_of_gt hzlt) (hs₇.extBut _ _ (Nat.ne_of_gt hzlt) (Heap.get?_push_size _ rfl))
    rw [hsz] at hz₈ hT₈
    refine wpAny_pure ⟨_, rfl, ?_⟩
    show Q (.ref h₅.objs.size) _
    rw [hsz]
    exact hQ h₈ _ _ _ _ hz₈ (.inr ⟨_, rfl⟩) (up _ _ D.TOz hTO₅) (h1₅.at fun o e => up _ o D.i1z e) (h2₅.at fun o e => up _ o D.i2z e) hT₈ fun c o c1 c2 c3 c4 e => up c o c1 (hk₅ c o c1 c2 c3 c4 e)
theorem zipN_end {z TI TO i1 i2 l1 l2 : Addr} {k1 k2 : Nat} {xs ys : Array Value} {a b f0 : Value} {b1 : Bool} {Q : Fin → Shared → Prop} (hh : A.handled = none) (D : ZipApart z TI TO i1 i2 l1 l2)
    (hz : IsZ s.heap z TI TO f0 (.bool b1)) (hf : f0 = .none ∨ ∃ T : Nat, f0 = rawInt T) (hTI : IsPair s.heap TI (.ref i1) (.ref i2)) (hTO : IsPair s.heap TO a b)
    (h1 : s.heap.IsTupleIter i1 l1 k1) (h2 : s.heap.IsTupleIter i2 l2 k2) (hl1 : s.heap.IsTuple l1 xs) (hl2 : s.heap.IsTuple l2 ys) (hend : xs[k1]? = none ∨ ys[k2]? = none)
    (hE : ∀ h' e, (∀ c o, c ≠ z → c ≠ TO → c ≠ i1 → c ≠ i2 → s.heap.get? c = some o → h'.get? c = some o) → (∃ o, h'.get? e = some o ∧ o.cls = .type "StopIteration") → E (.ref e) { s with heap := h' }) :
    wpAny (model prog w) A (Builtin.«zip.__next__» ⟨[.ref z], []⟩) Q E s := by
  show wpAny _ _ (field (.ref z) 2 >>= _) _ _ _
  refine wpAny_bind (wpAny_field hz rfl (x := .bool false) rfl ?_)
  show wpAny _ _ (field (.ref z) 3 >>= _) _ _ _
  refine wpAny_bind (wpAny_field hz rfl (x := .ref TI) rfl ?_)
  refine wpAny_bind (wpAny_seqItems hTI rfl ?_)
  show wpAny _ _ (Builtin.SmallTypes.ownedTupleIsFree (.ref z) >>= _) _ _ _
  refine wpAny_bind (owned_free hz hf fun r b0 h₀ hz₀ sz₀ hk₀ => ?_)
  have hTO₀ : IsPair h₀ TO a b := hk₀ _ _ D.TOz hTO
  have h1₀ : h₀.IsTupleIter i1 l1 k1 := h1.at fun o e => hk₀ _ o D.i1z e
  have h2₀ : h₀.IsTupleIter i2 l2 k2 := h2.at fun o e => hk₀ _ o D.i2z e
  have hl1₀ : h₀.IsTuple l1 xs := by
    obtain ⟨o, e, r⟩ := hl1
    exact ⟨o, hk₀ _ _ D.l1z e, r⟩
  have hl2₀ : h₀.IsTuple l2 ys := by
    obtain ⟨o, e, r⟩ := hl2
    exact ⟨o, hk₀ _ _ D.l2z e, r⟩
  cases r with
  | false =>
    simp only [if_false, Bool.false_eq_true]
    refine wpAny_bind ?_
    rw [← Array.forIn_toList]
    simp only [List.forIn_cons, List.forIn_nil]
    refine wpAny_bind (wpAny_bind (wpAny_holding ?_))
    show wpAny _ _ (Builtin.SmallTypes.nextOf (.ref i1) >>= _) _ _ _
    cases hx : xs[k1]? with
    | none => exact wpAny_bind (nextOf_tuple_end hh h1₀ hl1₀ hx fun h₂ e hs₂ he => hE h₂ e (fun c o c1 _ c3 _ x => hs₂ _ _ c3 (hk₀ _ _ c1 x)) he)
    | some x =>
      have hy : ys[k2]? = none := by rcases hend with h | h; rw [hx] at h; cases h; exact h
      refine wpAny_bind (nextOf_tuple_item h1₀ hl1₀ hx fun h₂ h1₂ hs₂ => wpAny_pure (wpAny_pure ?_))
      refine wpAny_bind (wpAny_bind (wpAny_holding ?_))
      show wpAny _ _ (Builtin.SmallTypes.nextOf (.ref i2) >>= _) _ _ _
      exact wpAny_bind (nextOf_tuple_end hh (h2₀.extBut hs₂.extBut D.i12.symm) (hl2₀.extBut hs₂.extBut D.l2i1) hy fun h₃ e hs₃ he => hE h₃ e (fun c o c1 _ c3 c4 x => hs₃ _ _ c4 (hs₂.extBut _ _ c3 (hk₀ _ _ c1 x))) he)
  | true =>
    simp only [if_true]
    refine wpAny_bind (wpAny_rule ?_)
    refine wpAny_bind (wpAny_field (s := { s with heap := h₀ }) hz₀ rfl (x := .ref TO) rfl ?_)
    refine wpAny_bind (wpAny_setField_rec (s := { s with heap := h₀ }) hz₀ (by simp) fun h₁ hz₁ hs₁ => ?_)
    replace hz₁ : IsZ h₁ z TI TO .ellipsis (.bool b0) := hz₁
    refine wpAny_bind ?_
    simp only [List.zipIdx_cons, List.zipIdx_nil, List.forIn_cons, List.forIn_nil]
    refine wpAny_bind (wpAny_bind (wpAny_onRaise ?_))
    show wpAny _ _ (Builtin.SmallTypes.nextOf (.ref i1) >>= _) _ _ _
    cases hx : xs[k1]? with
    | none =>
      refine wpAny_bind (nextOf_tuple_end hh (h1₀.extBut hs₁.extBut D.i1z) (hl1₀.extBut hs₁.extBut D.l1z) hx fun h₂ e hs₂ he => ?_)
      obtain ⟨oe, hoe, hce⟩ := he
      have hz₂ : IsZ h₂ z TI TO .ellipsis (.bool b0) := hs₂ _ _ D.i1z.symm hz₁
      have hez : e ≠ z := fun x => by subst x; rw [hz₂] at hoe; cases hoe; simp at hce
      refine wpAny_setField_rec hz₂ (by simp) fun h₃ _ hs₃ => hE h₃ e (fun c o c1 _ c3 _ x => hs₃.extBut _ _ c1 (hs₂ _ _ c3 (hs₁.extBut _ _ c1 (hk₀ _ _ c1 x)))) ⟨oe, hs₃.extBut _ _ hez hoe, hce⟩
    | some x =>
      have hy : ys[k2]? = none := by rcases hend with h | h; rw [hx] at h; cases h; exact h
      refine wpAny_bind (nextOf_tuple_item (h1₀.extBut hs₁.extBut D.i1z) (hl1₀.extBut hs₁.extBut D.l1z) hx fun h₂ h1₂ hs₂ => wpAny_pure ?_)
      have hTO₂ : IsPair h₂ TO a b := hs₂.extBut _ _ D.TOi1 (hs₁.extBut _ _ D.TOz hTO₀)
      refine wpAny_bind (wpAny_seqItems hTO₂ rfl ?_)
      refine wpAny_bind (wpAny_updateSeq_pair hTO₂ fun h₃ hTO₃ hs₃ => ?_)
      refine wpAny_bind (wpAny_letGo (wpAny_pure ?_))
      refine wpAny_bind (wpAny_bind (wpAny_onRaise ?_))
      show wpAny _ _ (Builtin.SmallTypes.nextOf (.ref i2) >>= _) _ _ _
      refine wpAny_bind (nextOf_tuple_end hh (((h2₀.extBut hs₁.extBut D.i2z).extBut hs₂.extBut D.i12.symm).extBut hs₃.extBut D.TOi2.symm)
        (((hl2₀.extBut hs₁.extBut D.l2z).extBut hs₂.extBut D.l2i1).extBut hs₃.extBut D.l2TO) hy fun h₄ e hs₄ he => ?_)
      obtain ⟨oe, hoe, hce⟩ := he
      have hz₄ : IsZ h₄ z TI TO .ellipsis (.bool b0) := hs₄ _ _ D.i2z.symm (hs₃.extBut _ _ D.TOz.symm (hs₂.extBut _ _ D.i1z.symm hz₁))
      have hez : e ≠ z := fun x => by subst x; rw [hz₄] at hoe; cases hoe; simp at hce
      refine wpAny_setField_rec hz₄ (by simp) fun h₅ _ hs₅ => hE h₅ e (fun c o c1 c2 c3 c4 x => hs₅.extBut _ _ c1 (hs₄ _ _ c4 (hs₃.extBut _ _ c2 (hs₂.extBut _ _ c3 (hs₁.extBut _ _ c1 (hk₀ _ _ c1 x)))))) ⟨oe, hs₅.extBut _ _ hez hoe, hce⟩
theorem next_zipN {z TI TO i1 i2 l1 l2 : Addr} {k1 k2 : Nat} {xs ys : Array Value} {x y a b f0 : Value} {b1 : Bool} {Q : Option Value → Shared → Prop} (D : ZipApart z TI TO i1 i2 l1 l2)
    (hz : IsZ s.heap z TI TO f0 (.bool b1)) (hf : f0 = .none ∨ ∃ T : Nat, f0 = rawInt T) (hTI : IsPair s.heap TI (.ref i1) (.ref i2)) (hTO : IsPair s.heap TO a b)
    (h1 : s.heap.IsTupleIter i1 l1 k1) (h2 : s.heap.IsTupleIter i2 l2 k2) (hl1 : s.heap.IsTuple l1 xs) (hl2 : s.heap.IsTuple l2 ys) (hx : xs[k1]? = some x) (hy : ys[k2]? = some y)
    (hQ : ∀ h' f0' b1' a' b', IsZ h' z TI TO f0' (.bool b1') → (f0' = .none ∨ ∃ T : Nat, f0' = rawInt T) → IsPair h' TO a' b' → h'.IsTupleIter i1 l1 (k1 + 1) → h'.IsTupleIter i2 l2 (k2 + 1) → IsPair h' s.heap.objs.size x y →
      (∀ c o, c ≠ z → c ≠ TO → c ≠ i1 → c ≠ i2 → s.heap.get? c = some o → h'.get? c = some o) → Q (some (.ref s.heap.objs.size)) { s with heap := h' }) :
    wpAny (model prog w) A (pyNext (.ref z)) Q E s := by
  have hT : s.TypeIs (.ref z) "zip" := ⟨_, hz, rfl⟩
  unfold pyNext
  exact wpAny_bind (wpAny_attempt (wpAny_callSpecial?_slot (name := Str.ofString "__next__") hT F.slot_zip_next
    (wpAny_call_entry F.slot_zip_next hT F.entry_zip_next
      (zipN_item D hz hf hTI hTO h1 h2 hl1 hl2 hx hy fun h' c1 c2 c3 c4 a1 a2 a3 a4 a5 a6 a7 => wpAny_pure (hQ h' c1 c2 c3 c4 a1 a2 a3 a4 a5 a6 a7)) (F.args_zip_next_1 _))))
theorem end_zipN {z TI TO i1 i2 l1 l2 : Addr} {k1 k2 : Nat} {xs ys : Array Value} {a b f0 : Value} {b1 : Bool} {Q : Option Value → Shared → Prop} (hh : A.handled = none) (D : ZipApart z TI TO i1 i2 l1 l2)
    (hz : IsZ s.heap z TI TO f0 (.bool b1)) (hf : f0 = .none ∨ ∃ T : Nat, f0 = rawInt T) (hTI : IsPair s.heap TI (.ref i1) (.ref i2)) (hTO : IsPair s.heap TO a b)
    (h1 : s.heap.IsTupleIter i1 l1 k1) (h2 : s.heap.IsTupleIter i2 l2 k2) (hl1 : s.heap.IsTuple l1 xs) (hl2 : s.heap.IsTuple l2 ys) (hend : xs[k1]? = none ∨ ys[k2]? = none)
    (hQ : ∀ h', (∀ c o, c ≠ z → c ≠ TO → c ≠ i1 → c ≠ i2 → s.heap.get? c = some o → h'.get? c = some o) → Q none { s with heap := h' }) : wpAny (model prog w) A (pyNext (.ref z)) Q E s := by
  have hT : s.TypeIs (.ref z) "zip" := ⟨_, hz, rfl⟩
  unfold pyNext
  refine wpAny_bind (wpAny_attempt (wpAny_callSpecial?_slot (name := Str.ofString "__next__") hT F.slot_zip_next
    (wpAny_call_entry F.slot_zip_next hT F.entry_zip_next (zipN_end hh D hz hf hTI hTO h1 h2 hl1 hl2 hend fun h' e hk he => ?_) (F.args_zip_next_1 _))))
  obtain ⟨o, ho, hc⟩ := he
  refine wpAny_bind (wpAny_isInstance (T := "StopIteration") (b := true) ⟨o, ho, hc⟩ isSubtype_stop ?_)
  exact wpAny_pure (hQ _ hk)
end
end Sw
namespace Sw
open PySem PySem.Spec PyProof.Rows L2 RZ
theorem self_zipN {prog : Program} {w : World} {A : Around} {E : Value → Shared → Prop} {s : Shared} {z TI TO : Addr} {f0 : Value} {b1 : Bool} {Q : Value → Shared → Prop} (hz : IsZ s.heap z TI TO f0 (.bool b1)) (h : Q (.ref z) s) : wpAny (model prog w) A (pyIter (.ref z)) Q E s := by
  have hT : s.TypeIs (.ref z) "zip" := ⟨_, hz, rfl⟩
  refine wpAny_pyIter_slot hT F.slot_zip_iter (wpAny_call_entry F.slot_zip_iter hT F.entry_zip_iter ?_ (F.args_zip_iter_1 _))
  show wpAny _ _ (ret (.ref z)) _ _ s
  exact wpAny_pure ⟨_, rfl, "zip", _, hT, F.slot_zip_next.lookup, h⟩
/-- for p in zip(a, b), a and b tuples, p a plain name -/
theorem turn_zipN {P : Program} {w : World} {K : PySem.W.Frag} {x : Str} {tpos : Pos} {a b z TI TO i1 i2 : Addr} (D : ZipApart z TI TO i1 i2 a b) :
    Turn P w K (.Name x tpos) (ItzT K a b) [z, TI, TO, i1, i2] z (fun i h => (∃ (f0 : Value) (b1 : Bool), IsZ h z TI TO f0 (.bool b1) ∧ (f0 = .none ∨ ∃ T : Nat, f0 = rawInt T)) ∧ IsPair h TI (.ref i1) (.ref i2) ∧ (∃ x y, IsPair h TO x y) ∧ h.IsTupleIter i1 a i ∧ h.IsTupleIter i2 b i) where
  mem := by simp
  obj := fun i h st c hc => by
    obtain ⟨⟨f0, b1, hz, _⟩, hTI, ⟨x, y, hTO⟩, ⟨o1, e1, _, d1⟩, ⟨o2, e2, _, d2⟩⟩ := st
    have e' : c = z ∨ c = TI ∨ c = TO ∨ c = i1 ∨ c = i2 := by simpa using hc
    rcases e' with q | q | q | q | q
    · rw [q]; exact ⟨_, hz, fun v q => nomatch q⟩
    · rw [q]; exact ⟨_, hTI, fun v q => nomatch q⟩
    · rw [q]; exact ⟨_, hTO, fun v q => nomatch q⟩
    · rw [q]; exact ⟨o1, e1, fun v q => by rw [d1] at q; cases q⟩
    · rw [q]; exact ⟨o2, e2, fun v q => by rw [d2] at q; cases q⟩
  keep := fun i h h' st k => by
    obtain ⟨⟨f0, b1, hz, hf⟩, hTI, ⟨x, y, hTO⟩, h1, h2⟩ := st
    exact ⟨⟨f0, b1, k z (by simp) _ hz, hf⟩, k TI (by simp) _ hTI, ⟨x, y, k TO (by simp) _ hTO⟩, h1.at fun o q => k i1 (by simp) o q, h2.at fun o q => k i2 (by simp) o q⟩
  item := by
    intro X hP hw hK hc i pins s σ H E I hf st hg
    subst hP hw hK
    obtain ⟨⟨f0, b1, hz, hf0⟩, hTI, ⟨x0, y0, hTO⟩, h1, h2⟩ := st
    obtain ⟨xs, ys, x, y, hqx, hqy, hx, hy⟩ := hg
    obtain ⟨its, rv, p, _⟩ := I.tuple hqx
    obtain ⟨its2, rv2, p2, _⟩ := I.tuple hqy
    obtain ⟨u, hu, ru⟩ := rv.get hx
    obtain ⟨u2, hu2, ru2⟩ := rv2.get hy
    have hzl : z < s.heap.objs.size := Heap.lt_size hz
    refine next_zipN D hz hf0 hTI hTO h1 h2 p p2 (x := u) (y := u2) (by simpa using hu) (by simpa using hu2) fun h' f0' b1' a' b' z' hf' TO' h1' h2' hT hk => ?_
    refine ⟨_, rfl, ?_⟩
    unfold letOwnedTupleGo
    refine wpAny_pure ?_
    have new : ObjOk X.prog X.w (upd H s.heap.objs.size (.tup [x, y])) h' s.heap.objs.size (.tup [x, y]) :=
      ⟨by show 2 ≤ sizeLine; decide, [u, u2], .cons ru (.cons ru2 .nil), ⟨_, hT, rfl, _, rfl⟩⟩
    have I1 : Inv X pins σ (upd H s.heap.objs.size (.tup [x, y])) { s with heap := h' } :=
      I.turnedNew (t' := s.toks) (ch := [z, TI, TO, i1, i2]) (fun c o hb q => hk c o (fun q' => hb (by simp [q'])) (fun q' => hb (by simp [q'])) (fun q' => hb (by simp [q'])) (fun q' => hb (by simp [q'])) q) hf (Nat.le_refl _) new
    refine ⟨.ref s.heap.objs.size, _, I1, rfl, ⟨_, x, y, rfl, I.hok.fresh (Nat.le_refl _), rfl, fun l hl => by rw [I.tuple_inj hl hqx]; exact hx, fun l hl => by rw [I.tuple_inj hl hqy]; exact hy⟩, ⟨⟨f0', b1', z', hf'⟩, ?_, ⟨a', b', TO'⟩, h1', h2'⟩, fun c hcm => ?_⟩
    · exact hk _ _ D.TIz D.TITO D.TIi1 D.TIi2 hTI
    · have hlt : c < s.heap.objs.size := by
        have e' : c = z ∨ c = TI ∨ c = TO ∨ c = i1 ∨ c = i2 := by simpa using hcm
        rcases e' with q | q | q | q | q
        · rw [q]; exact hzl
        · rw [q]; exact Heap.lt_size hTI
        · rw [q]; exact Heap.lt_size hTO
        · rw [q]; obtain ⟨_, e1, _⟩ := h1; exact Heap.lt_size e1
        · rw [q]; obtain ⟨_, e2, _⟩ := h2; exact Heap.lt_size e2
      rw [upd_ne (Nat.ne_of_lt hlt)]
      exact (hf c hcm).1
  done := by
    intro X hP hw hK hc i pins s σ H E I hf st hg
    subst hP hw hK
    obtain ⟨⟨f0, b1, hz, hf0⟩, hTI, ⟨x0, y0, hTO⟩, h1, h2⟩ := st
    obtain ⟨xs, ys, hqx, hqy, hend⟩ := hg
    obtain ⟨its, rv, p, _⟩ := I.tuple hqx
    obtain ⟨its2, rv2, p2, _⟩ := I.tuple hqy
    have l1 := rv.length
    have l2 := rv2.length
    have he : its.toArray[i]? = none ∨ its2.toArray[i]? = none := by
      rcases hend with q | q
      · exact .inl (by simp; omega)
      · exact .inr (by simp; omega)
    exact end_zipN (I.ok.hd hc) D hz hf0 hTI hTO h1 h2 p p2 he fun h' hk => ⟨rfl, I.turnedL (t' := s.toks) (ch := [z, TI, TO, i1, i2]) (fun c o hb q =>
      hk c o (fun q' => hb (by simp [q'])) (fun q' => hb (by simp [q'])) (fun q' => hb (by simp [q'])) (fun q' => hb (by simp [q'])) q) hf⟩
  self := fun A i s Q E st h => by
    obtain ⟨⟨f0, b1, hz, _⟩, _⟩ := st
    exact self_zipN hz h
def iZipN (K : PySem.W.Frag) (ta : TA) : TI := fun σ H R => ta σ H fun vs H1 => ∃ a b xs ys, vs = [.ref a, .ref b] ∧ SqT K H1 a xs ∧ SqT K H1 b ys ∧ R (ItzT K a b) H1
theorem pi_zipN {X : Cx} {e e2 : Expr} {ta : TA} {p pos tpos : Pos} {x : Str} (hg : Gl X "zip") (hm : X.mg "zip" = none) (ha : PA X [e, e2] ta)
    (hs : starEach [e, e2] X.env = (false, eval e X.env) :: starEach [e2] X.env := by rfl) (hpl : (backTo pos (starEach [e2] X.env)).any (·.1) = false := by rfl) :
    PI X (.Name x tpos) (.Call (.Name "zip" p) [e, e2] [] pos) (iZipN X.K ta) := by
  refine ⟨fun pins s σ H R I h => ?_⟩
  refine Call_ (ld_blt I hg hm PyProof.Rows.boot_zip (PyProof.Rows.callWith_type1 (thn (ha.run pos pins s σ H _ I h) fun us s1 ⟨vs, H1, I1, r1, q1⟩ => ?_) hs hpl))
  obtain ⟨a, b, xs, ys, ex, hqx, hqy, q⟩ := q1
  subst ex
  cases r1 with
  | cons r rr =>
    cases rr with
    | cons r' rr =>
      cases rr
      cases r
      cases r'
      have fresh5 : ∀ c, c ∈ [s1.heap.objs.size + 4, s1.heap.objs.size + 2, s1.heap.objs.size + 3, s1.heap.objs.size, s1.heap.objs.size + 1] → FpOk X pins H1 c := fun c hcm => by
        have e' : c = s1.heap.objs.size + 4 ∨ c = s1.heap.objs.size + 2 ∨ c = s1.heap.objs.size + 3 ∨ c = s1.heap.objs.size ∨ c = s1.heap.objs.size + 1 := by simpa using hcm
        have hle : s1.heap.objs.size ≤ c := by
          rcases e' with z | z | z | z | z
          · rw [z]; exact Nat.le_add_right _ _
          · rw [z]; exact Nat.le_add_right _ _
          · rw [z]; exact Nat.le_add_right _ _
          · rw [z]; exact Nat.le_refl _
          · rw [z]; exact Nat.le_add_right _ _
        exact I1.fpOk hle (I1.hok.fresh hle)
      obtain ⟨its, rv, p1, _⟩ := I1.tuple hqx
      obtain ⟨its2, rv2, p2, _⟩ := I1.tuple hqy
      obtain ⟨o1, ho1, _⟩ := id p1
      obtain ⟨o2, ho2, _⟩ := id p2
      refine call_zipT (show s1.heap.IsTuple a its.toArray from p1) (show s1.heap.IsTuple b its2.toArray from p2) fun h' hz hTI hTO h1 h2 hsz hk => wpAny_pyIter_zip hz ?_
      have I2 : Inv X pins σ H1 { s1 with heap := h' } := I1.kept (t' := s1.toks) hk
      exact ⟨s1.heap.objs.size + 4, [s1.heap.objs.size + 4, s1.heap.objs.size + 2, s1.heap.objs.size + 3, s1.heap.objs.size, s1.heap.objs.size + 1], _, _, H1, rfl, I2, turn_zipN (PySem.W.ktu_apart s1.heap.objs.size a b (Heap.lt_size ho1) (Heap.lt_size ho2)), ⟨⟨.none, false, hz, .inl rfl⟩, hTI, ⟨_, _, hTO⟩, h1, h2⟩, fresh5, q⟩
theorem walk_zipT {K : PySem.W.Frag} {a b : Addr} {xs ys : List V} {n : Nat} (hn : n = min xs.length ys.length) : Walk (ItzT K a b) n (fun H => SqT K H a xs ∧ SqT K H b ys) (YPair (fun i => xs[i]?) (fun i => ys[i]?)) := by
  subst hn
  refine ⟨fun i _ hi q => ?_, fun _ q => ⟨xs, ys, q.1, q.2, by omega⟩, fun i H v H' _ q y => ?_⟩
  · have h1 : i < xs.length := by omega
    have h2 : i < ys.length := by omega
    exact ⟨xs, ys, xs[i], ys[i], q.1, q.2, by simp [h1], by simp [h2]⟩
  · obtain ⟨T, x, z, h1, h2, h3, h4, h5⟩ := y
    exact ⟨T, x, z, h1, h2, h3, h4 xs q.1, h5 ys q.2⟩
end Sw
namespace Sw
open PySem L2
/-! ### the law's own look: _law_is_run -/
abbrev sLIsRun : Stmt := top 23
abbrev nLIsRun : List Str := ["net", "arrows", "value", "stop", "pair"]
theorem scLIsRun : FnScope nLIsRun ["net", "arrows", "value"] (defScope sLIsRun) := ⟨rfl, rfl, rfl, by decide +kernel, rfl, by decide +kernel, by decide +kernel⟩
/-- the arrows as a dict -/
def ArrD (ars : List (Int × Int)) (H : Hp) (g : Addr) : Prop := ∃ kvs : List (List Key × V), H g = some (.dT kvs) ∧ ∀ v w : Int, (valV kvs ([.inl v, .inl w] : List Key)).isSome = true ↔ (v, w) ∈ ars
theorem ArrD.same {ars : List (Int × Int)} {H H' : Hp} {g : Addr} (h : ArrD ars H g) (s : Same H H') : ArrD ars H' g := by
  obtain ⟨kvs, e, q⟩ := h
  exact ⟨kvs, s _ _ e, q⟩
section
variable {P : Program} {w : World} {K : PySem.W.Frag} {mg : Str → Option Value} {base : Heap}
def spLIsRun (K : PySem.W.Frag) : Sp := fun vs H Q _ => ∃ (a b g : Addr) (n : Int) (ts : List V) (ars : List (Int × Int)) (x : V) (d : D) (as : List Addr), vs = [.ref a, .ref g, x] ∧ NetAt n H a b ts ∧ ArrD ars H g ∧ Rep K H d x as ∧ wt d ≤ 10000000 ∧
  ∀ (c : Bool) (H' : Hp), (c = true ↔ IsErrR n ars d .non) → Same H H' → Q (.bl c) H'
theorem ok_lIsRun {f : Addr} {fd : FuncData} (F : Fun K "_law_is_run" "_law_is_run" sLIsRun f fd) (B : NoNames mg) : FnOk P w K mg base CX0 1 f fd ["net", "arrows", "value"] (spLIsRun K) := by
  refine F.ok scLIsRun (fun vs H Q E h => ?_) (fun cdv A outer s H vs Q E hr h => ?_)
  · obtain ⟨a, b, g, n, ts, ars, x, d, as, rfl, _⟩ := h
    rfl
  · obtain ⟨a, b, g, n, ts, ars, x, d, as, rfl, N, AD, hd, hw, k⟩ := h
    have hu := hu_of hr
    refine ⟨_, pss_cons (ps_if (PW.pt (pw_or (pt_not (pt_val (pe_isi (i := 2) (TN := "tuple") rfl (Or.inl rfl) (by decide) (by decide) B.isi B.tuple rfl rfl (by decide +kernel) (by decide) (by decide))))
        (pw_or1 (pt_not (pt_chain op_le op_le pe_int (pe_callB call_len_seq (by rfl) B.len PySem.boot_len (pa_cons (pv 2) pa_nil)) pe_int))))) (pss_one (ps_ret pe_bl)) pss_nil) <|
      pss_cons (ps_for PassesOwn.never rfl (pi_tup (pv 2)) (pg_name (i := 3) scLIsRun.nd rfl (.inl rfl))
        (pss_one (ps_if (PW.pt (pw_or (pt_val (pe_isi (i := 3) (TN := "bool") rfl (Or.inl rfl) (by decide) (by decide) B.isi B.bool rfl rfl (by decide +kernel) (by decide) (by decide)))
          (pw_or (pt_not (pt_val (pe_isi (i := 3) (TN := "int") rfl (Or.inl rfl) (by decide) (by decide) B.isi B.int rfl rfl (by decide +kernel) (by decide) (by decide))))
          (pw_or1 (pt_not (pt_chain op_le op_lt pe_int (pv 3) (pe_ix ix_tup (pv 0) pe_int (fun _ _ => rfl))))))))
          (pss_one (ps_ret pe_bl)) pss_nil))) <|
      pss_one (ps_ret (pe_cmpR (op_eqD hr.units) (pe_lc (own := [("pair", 4)]) (g := gName 4) rfl scLIsRun.nd (pi_zipN (by rfl) B.zip (pa_cons (pv 2) (pa_cons (pe_slice sl_tup (pv 2) (po_some pe_int) po_none) pa_nil))) (blkOk_by (own := [("pair", 4)]) (N := nLIsRun) (sc := defScope sLIsRun) (by decide +kernel))
        (fun _ _ _ _ _ => pg_name (i := 4) scLIsRun.nd rfl (Or.inl rfl)) (fun _ _ _ _ _ => pts_one (pt_cmp (pc_dnotin hu (pv 4) (pv 1)))) (fun _ _ _ _ _ => pe_int)) (pe_lst pa_nil) (nomark _))), ?_⟩
    have no : ¬ IsErrR n ars d .non → ∀ H', Same H H' → Q (.bl false) H' := fun hn H' s' => k false H' ⟨fun z => (nomatch z), fun z => absurd z hn⟩ s'
    refine ⟨_, rfl, x, d, as, "tuple", rfl, by decide, hd, _, rfl, ?_⟩
    cases e : isT "tuple" d with
    | false =>
      refine iteT (iteT (no (fun z => ?_) H (Same.refl H)))
      obtain ⟨os, rfl, _⟩ := fine_iff.mp z
      cases e
    | true =>
      refine iteF ?_
      obtain ⟨ds, rfl⟩ := tup_of e
      simp only [Rep] at hd
      obtain ⟨p, ys, bs, rfl, hp, ra, nap, rfl⟩ := hd
      have hl := ra.len
      have hsz : ys.length ≤ sizeLine := by
        simp only [wt] at hw
        have h2 := wt_len ds
        rw [hl, sizeLine_eq]
        omega
      refine ⟨_, rfl, p, ys, rfl, .inr (SqT.of hp), _, _, rfl, rfl, _, rfl, ?_⟩
      by_cases c1 : (1 : Int) ≤ (ys.length : Int)
      case neg =>
        rw [decide_eq_false c1]
        refine iteF ⟨_, rfl, ?_⟩
        refine iteT (no (fun z => ?_) H (Same.refl H))
        obtain ⟨os, eo, R⟩ := fine_iff.mp z
        injection eo with eo
        have := R.ne
        rw [hl, eo, List.length_map] at c1
        omega
      case pos =>
      rw [decide_eq_true c1]
      refine iteT ⟨_, _, rfl, rfl, _, rfl, ?_⟩
      by_cases c2 : (ys.length : Int) ≤ 1000
      case neg =>
        rw [decide_eq_false c2]
        refine iteT (no (fun z => ?_) H (Same.refl H))
        obtain ⟨os, eo, R⟩ := fine_iff.mp z
        injection eo with eo
        have := R.len
        rw [hl, eo, List.length_map] at c2
        omega
      case pos =>
      rw [decide_eq_true c2]
      refine iteF ?_
      refine ⟨_, rfl, p, rfl, ⟨_, SqT.of hp⟩, for_it (walk_tup (xs := ys)) (fun i σ H' => (∃ s3, σ = [some (.ref a), some (.ref g), some (.ref p), s3, none]) ∧ Same H H' ∧ ∀ (j : Nat) (y : D), j < i → ds[j]? = some y → isWhole 0 (n - 1) y = true)
        ⟨⟨_, rfl⟩, Same.refl H, fun j y h => absurd h (Nat.not_lt_zero _)⟩ (fun i σ H' _ h => SqT.of (h.2.1 _ _ hp)) ?_ ?_⟩
      · rintro i x2 σ1 H2 H1 hi ⟨⟨s3, rfl⟩, s1, q⟩ ⟨rfl, e2⟩
        obtain ⟨d2, b2, hd2, hr2, _⟩ := ra.at2 e2
        have hr3 := hr2.same s1
        have N2 := N.keep (.of s1)
        have bad : isWhole 0 (n - 1) d2 = false → Q (.bl false) H1 := fun ea => no (fun z => by
          obtain ⟨os, eo, R⟩ := fine_iff.mp z
          injection eo with eo
          rw [eo, List.getElem?_map] at hd2
          cases q : os[i]? with
          | none => rw [q] at hd2; cases hd2
          | some o =>
            rw [q] at hd2
            cases hd2
            obtain ⟨h1, h2⟩ := R.each o (List.mem_of_getElem? q)
            simp only [isWhole, Bool.and_eq_false_iff, decide_eq_false_iff_not] at ea
            omega) H1 s1
        have good : isWhole 0 (n - 1) d2 = true → (∃ s3, [some (V.ref a), some (.ref g), some (.ref p), some x2, none] = [some (V.ref a), some (.ref g), some (.ref p), s3, none]) ∧ Same H H1 ∧ ∀ (j : Nat) (y : D), j < i + 1 → ds[j]? = some y → isWhole 0 (n - 1) y = true := fun ea => by
          refine ⟨⟨_, rfl⟩, s1, fun j y hj hy => ?_⟩
          rcases Nat.lt_succ_iff_lt_or_eq.mp hj with z | z
          · exact q j y z hy
          · subst z
            rw [hd2] at hy
            cases hy
            exact ea
        refine ⟨_, rfl, x2, d2, b2, "bool", rfl, by decide, hr3, _, rfl, ?_⟩
        cases eb : isT "bool" d2 with
        | true => exact iteT (iteT (bad (by cases d2 <;> simp_all [isT, isWhole])))
        | false =>
          refine iteF ⟨_, rfl, x2, d2, b2, "int", rfl, by decide, hr3, _, rfl, ?_⟩
          cases ei : isT "int" d2 with
          | false => exact iteT (iteT (bad (by cases d2 <;> simp_all [isT, isWhole])))
          | true =>
            refine iteF ?_
            obtain ⟨v, rfl⟩ : ∃ v, d2 = .int v := by
              cases d2 <;> first | exact ⟨_, rfl⟩ | (simp_all [isT])
            simp only [Rep] at hr3
            obtain ⟨rfl, rfl⟩ := hr3
            refine ⟨_, rfl, _, _, rfl, rfl, _, rfl, ?_⟩
            by_cases g1 : (0 : Int) ≤ v
            case neg =>
              rw [decide_eq_false g1]
              refine iteF ⟨_, rfl, ?_⟩
              exact iteT (bad (by simp [isWhole, g1]))
            case pos =>
            rw [decide_eq_true g1]
            refine iteT ⟨_, rfl, a, _, 0, .int n, rfl, rfl, SqT.of N2.a, at_of (j := 0) rfl rfl, _, _, rfl, rfl, _, rfl, ?_⟩
            by_cases g2 : v < n
            case neg =>
              rw [decide_eq_false g2]
              exact iteT (bad (by simp only [isWhole]; rw [decide_eq_false (show ¬ v ≤ n - 1 by omega), Bool.and_false]))
            case pos =>
            rw [decide_eq_true g2]
            refine iteF ?_
            exact good (by simp only [isWhole]; rw [decide_eq_true g1, decide_eq_true (show v ≤ n - 1 by omega)]; rfl)
      · rintro σ H1 ⟨⟨s3, rfl⟩, s1, q⟩
        obtain ⟨os, rfl, each⟩ := wholes (ds := ds) fun y hy => by
          obtain ⟨j, hj⟩ := List.getElem?_of_mem hy
          exact q j y (by rw [hl]; exact (List.getElem?_eq_some_iff.mp hj).1) hj
        have ey := repAll_ints ra
        subst ey
        rw [List.length_map] at c1 c2
        cases os with
        | nil => simp at c1
        | cons o0 r =>
        have lc : (o0 :: r).length = r.length + 1 := rfl
        have AD1 := AD.same s1
        obtain ⟨kvs, hg1, mem⟩ := AD1
        have hp1 := s1 _ _ hp
        refine ⟨_, rfl, _, rfl, 1, rfl, p, _, rfl, SqT.of hp1, ?_, fun c nc => ?_⟩
        · rintro ⟨h1, _⟩
          rw [show (some (1 : Int)) = some ((1 : Nat) : Int) from rfl, HT.sIx_nat, List.length_map, List.length_cons] at h1
          omega
        have ec : cutV ((o0 :: r).map V.int) (some 1) none = r.map V.int := by
          rw [List.map_cons]
          exact cut_tail _ _
        rw [ec]
        have sc : Same H1 (upd H1 c (.tup (r.map V.int))) := same_new nc
        have hp2 := sc _ _ hp1
        have hc2 : (upd H1 c (.tup (r.map V.int))) c = some (.tup (r.map V.int)) := upd_same
        have hg2 := sc _ _ hg1
        have s2 := s1.trans sc
        generalize (upd H1 c (.tup (r.map V.int))) = H2 at hp2 hc2 hg2 s2 ⊢
        refine ⟨p, c, _, _, rfl, SqT.of hp2, SqT.of hc2, fun D nD => ?_⟩
        have sD : Same H2 (upd H2 D (.lst [])) := same_new nD
        have gen : ∀ i, Chain ars ((o0 :: r).take (i + 1)) ↔ ∀ j v w, j < i → (o0 :: r)[j]? = some v → r[j]? = some w → (v, w) ∈ ars := fun i => by
          constructor
          · intro ch j v w hj e1 e2
            exact ch j v w (by rw [List.getElem?_take_of_lt (by omega)]; exact e1) (by rw [List.getElem?_take_of_lt (by omega), List.getElem?_cons_succ]; exact e2)
          · intro hall j v w e1 e2
            have hj : j + 1 < i + 1 := by
              have := (List.getElem?_eq_some_iff.mp e2).1
              rw [List.length_take] at this
              omega
            rw [List.getElem?_take_of_lt (by omega)] at e1
            rw [List.getElem?_take_of_lt (by omega), List.getElem?_cons_succ] at e2
            exact hall j v w (by omega) e1 e2
        refine lc_it (walk_zipT (xs := (o0 :: r).map V.int) (ys := r.map V.int) rfl) (fun i H' => ∃ c : Nat, H' D = some (.lst ((List.replicate c (1 : Int)).map V.int)) ∧ c ≤ i ∧ Same H2 H' ∧ (c = 0 ↔ ∀ j v w, j < i → (o0 :: r)[j]? = some v → r[j]? = some w → (v, w) ∈ ars))
          ⟨0, upd_same, Nat.le_refl _, sD, fun _ j v w hj => absurd hj (Nat.not_lt_zero _), fun _ => rfl⟩ (fun i H' _ h => by obtain ⟨_, _, _, h, _⟩ := h; exact ⟨SqT.of (h _ _ hp2), SqT.of (h _ _ hc2)⟩) ?_ ?_
        · rintro i xx Hz Ha hi ⟨m, h1, h2, h3, h4⟩ ⟨T, x1, x2, rfl, nT, rfl, y1, y2⟩
          rw [List.length_map, List.length_map, List.length_cons] at hi
          have y1 : ((o0 :: r).map V.int)[i]? = some x1 := y1
          have y2 : (r.map V.int)[i]? = some x2 := y2
          obtain ⟨u1, i1, rfl⟩ := int_at y1
          obtain ⟨u2, i2, rfl⟩ := int_at y2
          have sT : Same Hz (upd Hz T (.tup [.int u1, .int u2])) := same_new nT
          refine ⟨rfl, _, rfl, _, rfl, g, _, rfl, DGet.t (k := [.inl u1, .inl u2]) (sT _ _ (h3 _ _ hg2)) upd_same, ?_⟩
          cases em : (valV kvs ([.inl u1, .inl u2] : List Key)).isSome with
          | true =>
            refine ⟨_, rfl, iteF ⟨m, sT _ _ h1, by omega, h3.trans sT, ?_⟩⟩
            rw [h4]
            constructor
            · intro hall j v w' hj e1 e2
              rcases Nat.lt_succ_iff_lt_or_eq.mp hj with z | z
              · exact hall j v w' z e1 e2
              · subst z
                rw [i1] at e1
                rw [i2] at e2
                cases e1
                cases e2
                exact (mem _ _).mp em
            · intro hall j v w' hj
              exact hall j v w' (by omega)
          | false =>
            refine ⟨_, rfl, iteT ?_⟩
            refine ⟨_, sT _ _ h1, by rw [List.length_map, List.length_replicate, sizeLine_eq]; omega, m + 1, ?_, by omega, fun b o e => ?_, ?_⟩
            · rw [upd_same, List.replicate_succ', List.map_append]
              rfl
            · rw [upd_ne (ne_of_none e nD)]
              exact sT _ _ (h3 _ _ e)
            · constructor
              · intro z
                omega
              · intro hall
                have := (mem _ _).mpr (hall i _ _ (Nat.lt_succ_self i) i1 i2)
                rw [em] at this
                cases this
        · rintro H3 ⟨m, h1, h2, h3, h4⟩
          refine ⟨Nat.zero_le _, fun e ne => ?_⟩
          have se : Same H3 (upd H3 e (.lst [])) := same_new ne
          refine ⟨.list ((List.replicate m (1 : Int)).map PyData.int), .list [], .lst (SqL.of (se _ _ h1)) (dpInts _), .lst (SqL.of upd_same) .nil, PySem.W.ke_shaped_ints _, rfl, ?_⟩
          rw [eqv_nil2]
          have sA := (s2.trans h3).trans se
          refine k _ _ ?_ sA
          have hmin : min ((o0 :: r).map V.int).length (r.map V.int).length = r.length := by
            rw [List.length_map, List.length_map, List.length_cons]
            omega
          rw [hmin, ← gen r.length, List.take_of_length_le (by rw [List.length_cons]; exact Nat.le_refl _)] at h4
          have e0 : decide (List.replicate m (1 : Int) = []) = true ↔ m = 0 := by
            rw [decide_eq_true_eq, List.replicate_eq_nil_iff]
          rw [e0, h4, fine_iff]
          constructor
          · intro ch
            exact ⟨o0 :: r, rfl, ⟨by omega, by omega, each, ch⟩⟩
          · rintro ⟨os', eo, R⟩
            injection eo with eo
            have eo := ints_inj eo
            rw [eo]
            exact R.ch
end
end Sw
namespace Sw
open PySem L2
abbrev sLIsLeg : Stmt := top 24
abbrev nLIsLeg : List Str := ["net", "arrows", "value", "run", "times"]
theorem scLIsLeg : FnScope nLIsLeg ["net", "arrows", "value"] (defScope sLIsLeg) := ⟨rfl, rfl, rfl, by decide +kernel, rfl, by decide +kernel, by decide +kernel⟩
abbrev sDueJ : Stmt := top 25
abbrev nDueJ : List Str := ["net", "value", "arrows", "spot", "leg", "pair"]
theorem scDueJ : FnScope nDueJ ["net", "value"] (defScope sDueJ) := ⟨rfl, rfl, rfl, by decide +kernel, rfl, by decide +kernel, by decide +kernel⟩
section
variable {P : Program} {w : World} {K : PySem.W.Frag} {mg : Str → Option Value} {base : Heap}
def spLIsLeg (K : PySem.W.Frag) : Sp := fun vs H Q _ => ∃ (a b g : Addr) (n : Int) (ts : List V) (ars : List (Int × Int)) (x : V) (d : D) (as : List Addr), vs = [.ref a, .ref g, x] ∧ NetAt n H a b ts ∧ ArrD ars H g ∧ Rep K H d x as ∧ wt d ≤ 10000000 ∧
  ∀ (c : Bool) (H' : Hp), (c = true ↔ LegOk n ars d) → Same H H' → Q (.bl c) H'
theorem ok_lIsLeg {f : Addr} {fd : FuncData} (F : Fun K "_law_is_leg" "_law_is_leg" sLIsLeg f fd) (B : NoNames mg) (O : Own P w K mg base 1 "_law_is_run" ["net", "arrows", "value"] (spLIsRun K)) : FnOk P w K mg base CX0 2 f fd ["net", "arrows", "value"] (spLIsLeg K) := by
  obtain ⟨fR, fdR, GR, mR, kR, bR⟩ := O.ex
  refine F.ok scLIsLeg (fun vs H Q E h => ?_) (fun cdv A outer s H vs Q E hr h => ?_)
  · obtain ⟨a, b, g, n, ts, ars, x, d, as, rfl, _⟩ := h
    rfl
  · obtain ⟨a, b, g, n, ts, ars, x, d, as, rfl, N, AD, hd, hw, k⟩ := h
    refine ⟨_, pss_cons (ps_if (PW.pt (pw_or (pt_not (pt_val (pe_isi (i := 2) (TN := "tuple") rfl (Or.inl rfl) (by decide) (by decide) B.isi B.tuple rfl rfl (by decide +kernel) (by decide) (by decide))))
        (pw_or (pt_cmpR op_ne (pe_callB call_len_seq (by rfl) B.len PySem.boot_len (pa_cons (pv 2) pa_nil)) pe_int (nomark _))
        (pw_or1 (pt_not (pt_val (pe_call GR hr rfl mR kR bR .nil pass0 (pa_cons (pv 0) (pa_cons (pv 1) (pa_cons (pe_ix ix_tup (pv 2) pe_int (fun _ _ => rfl)) pa_nil)))))))))) (pss_one (ps_ret pe_bl)) pss_nil) <|
      pss_cons (ps_asg (pv 2) (pg_tup (by rfl) (pgs_cons (pg_name (i := 3) scLIsLeg.nd rfl (.inl rfl)) (pgs_cons (pg_name (i := 4) scLIsLeg.nd rfl (.inl rfl)) pgs_nil)))) <|
      pss_cons (ps_if (PW.pt (pw_or (pt_val (pe_isi (i := 4) (TN := "bool") rfl (Or.inl rfl) (by decide) (by decide) B.isi B.bool rfl rfl (by decide +kernel) (by decide) (by decide)))
          (pw_or (pt_not (pt_val (pe_isi (i := 4) (TN := "int") rfl (Or.inl rfl) (by decide) (by decide) B.isi B.int rfl rfl (by decide +kernel) (by decide) (by decide))))
          (pw_or1 (pt_not (pt_chain op_le op_le pe_int (pv 4) (pe_op op_pow pe_int pe_int))))))) (pss_one (ps_ret pe_bl)) pss_nil) <|
      pss_one (ps_ret (pe_or (pe_cmpR op_eq (pv 4) pe_int (nomark _)) (pe_one (pe_cmpR op_eq (pe_ix ix_tup (pv 3) pe_int (fun _ _ => rfl)) (pe_ix ix_tup (pv 3) (pe_un un_neg pe_int) (fun _ _ => rfl)) (nomark _))))), ?_⟩
    have no : ¬ LegOk n ars d → ∀ H', Same H H' → Q (.bl false) H' := fun hn H' s' => k false H' ⟨fun z => (nomatch z), fun z => absurd z hn⟩ s'
    refine ⟨_, rfl, x, d, as, "tuple", rfl, by decide, hd, _, rfl, ?_⟩
    cases e : isT "tuple" d with
    | false =>
      refine iteT (iteT (no (fun ⟨os, t, hl, _⟩ => ?_) H (Same.refl H)))
      rw [hl] at e
      cases e
    | true =>
      refine iteF ?_
      obtain ⟨ds, rfl⟩ := tup_of e
      simp only [Rep] at hd
      obtain ⟨p, ys, bs, rfl, hp, ra, nap, rfl⟩ := hd
      have hl := ra.len
      refine ⟨_, rfl, p, ys, rfl, .inr (SqT.of hp), rfl, _, rfl, ?_⟩
      refine ite2 (fun z => ?_) (fun z => ?_)
      · refine iteT (no (fun ⟨os, t, hl2, _⟩ => ?_) H (Same.refl H))
        injection hl2 with hl2
        rw [hl2] at hl
        simp only [List.length_cons, List.length_nil] at hl
        simp [hl] at z
      have l2 : ys.length = 2 := by
        by_cases q : ys.length = 2
        · exact q
        · refine absurd ?_ z
          have q2 : ¬ (ys.length : Int) = 2 := by omega
          simp [q2]
      obtain ⟨d1, d2, rfl⟩ : ∃ d1 d2, ds = [d1, d2] := by
        match ds, (by rw [← hl]; exact l2 : ds.length = 2) with
        | [d1, d2], _ => exact ⟨d1, d2, rfl⟩
      simp only [RepAll] at ra
      obtain ⟨y, r, e1, e2, rfl, h1, ⟨zv, r2, e3, e4, rfl, h2, ⟨rfl, rfl⟩, rfl⟩, rfl⟩ := ra
      have w1 : wt d1 ≤ 10000000 := by
        simp only [wt, wtAll] at hw
        omega
      refine ⟨_, rfl, _, rfl, _, rfl, p, _, 0, y, rfl, rfl, SqT.of hp, at_of (j := 0) rfl rfl, a, b, g, n, ts, ars, y, d1, e1, rfl, N, AD, h1, w1, fun c H1 ic s1 => ⟨_, rfl, ?_⟩⟩
      cases c with
      | false =>
        refine iteT (no (fun ⟨os, t, hl2, R, _⟩ => ?_) H1 s1)
        injection hl2 with hl2
        injection hl2 with hl2 _
        have := ic.mpr (fine_iff.mpr ⟨os, hl2, R⟩)
        cases this
      | true =>
        refine iteF ?_
        obtain ⟨os, rfl, R⟩ := fine_iff.mp (ic.mp rfl)
        simp only [Rep] at h1
        obtain ⟨q, zs, cs, rfl, hq, rq, _, rfl⟩ := h1
        have ez := repAll_ints rq
        subst ez
        have h2' := h2.same s1
        have hq1 := s1 _ _ hq
        refine ⟨_, rfl, p, _, rfl, SqT.of (s1 _ _ hp), rfl, _, _, rfl, _, [], rfl, rfl, ?_⟩
        have leg : ∀ {os' : List Int} {t' : Int}, (D.tup [.tup (os.map D.int), d2]) = .tup [.tup (os'.map D.int), .int t'] → os = os' ∧ d2 = .int t' := fun hl2 => by
          injection hl2 with hl2
          injection hl2 with hl3 hl2
          injection hl2 with hl2 _
          injection hl3 with hl3
          exact ⟨ints_inj hl3, hl2⟩
        have bad : (∀ t : Int, d2 = .int t → ¬ (1 ≤ t ∧ t ≤ BigT)) → Q (.bl false) H1 := fun hn => no (fun ⟨os', t', hl2, R', g1, g2, _⟩ => hn t' (leg hl2).2 ⟨g1, g2⟩) H1 s1
        refine ⟨_, rfl, zv, d2, e3, "bool", rfl, by decide, h2', _, rfl, ?_⟩
        cases eb : isT "bool" d2 with
        | true => exact iteT (iteT (bad fun t z => by rw [z] at eb; cases eb))
        | false =>
          refine iteF ⟨_, rfl, zv, d2, e3, "int", rfl, by decide, h2', _, rfl, ?_⟩
          cases ei : isT "int" d2 with
          | false => exact iteT (iteT (bad fun t z => by rw [z] at ei; cases ei))
          | true =>
            refine iteF ?_
            obtain ⟨t, rfl⟩ : ∃ t, d2 = .int t := by
              cases d2 <;> first | exact ⟨_, rfl⟩ | (simp_all [isT])
            simp only [Rep] at h2'
            obtain ⟨rfl, rfl⟩ := h2'
            refine ⟨_, rfl, _, _, rfl, rfl, _, rfl, ?_⟩
            by_cases g1 : (1 : Int) ≤ t
            case neg =>
              rw [decide_eq_false g1]
              refine iteF ⟨_, rfl, ?_⟩
              exact iteT (bad fun t' z => by injection z with z; omega)
            case pos =>
            rw [decide_eq_true g1]
            refine iteT ⟨10, 30, rfl, rfl, ⟨by decide, by decide, by decide⟩, _, _, rfl, rfl, _, rfl, ?_⟩
            by_cases g2 : t ≤ BigT
            case neg =>
              rw [decide_eq_false (show ¬ t ≤ (10 : Int) ^ ((30 : Int)).toNat from g2)]
              exact iteT (bad fun t' z => by injection z with z; omega)
            case pos =>
            rw [decide_eq_true (show t ≤ (10 : Int) ^ ((30 : Int)).toNat from g2)]
            refine iteF ?_
            obtain ⟨fo, f1, f2⟩ := R.first
            obtain ⟨lo, _, la, le⟩ := last_of R.nil
            have ends : os[0]? = os.getLast? ↔ fo = lo := by
              rw [f1, le]
              simp
            refine ⟨_, rfl, rfl, _, rfl, ?_⟩
            refine ite2 (fun z => ?_) (fun z => ?_)
            · have z : t = 1 := by simpa using z
              exact k true H1 ⟨fun _ => ⟨os, t, rfl, R, g1, g2, .inl z⟩, fun _ => rfl⟩ s1
            · have z : ¬ t = 1 := by simpa using z
              refine ⟨_, rfl, q, _, 0, .int fo, rfl, rfl, SqT.of hq1, at_of (j := 0) rfl f2, _, rfl, 1, rfl, q, _, -1, .int lo, rfl, rfl, SqT.of hq1, la, rfl, k _ H1 ?_ s1⟩
              constructor
              · intro y
                have y : fo = lo := by simpa using y
                exact ⟨os, t, rfl, R, g1, g2, .inr (ends.mpr y)⟩
              · rintro ⟨os', t', hl2, _, _, _, h3⟩
                obtain ⟨eo, et⟩ := leg hl2
                injection et with et
                subst eo et
                rcases h3 with h3 | h3
                · exact absurd h3 z
                · have := ends.mp h3
                  simp [this]
theorem ok_dueJ {f : Addr} {fd : FuncData} (F : Fun K "_law_due" "_law_due" sDueJ f fd) (B : NoNames mg) (O : Own P w K mg base 2 "_law_is_leg" ["net", "arrows", "value"] (spLIsLeg K)) : FnOk P w K mg base CX0 3 f fd ["net", "value"] (spJn K) := by
  obtain ⟨fT, fdT, GT, mT, kT, bT⟩ := O.ex
  refine F.ok scDueJ (fun vs H Q E h => ?_) (fun cdv A outer s H vs Q E hr h => ?_)
  · obtain ⟨a, b, n, ts, ars, x, d, as, rfl, _⟩ := h
    rfl
  · obtain ⟨a, b, n, ts, ars, x, d, as, rfl, N, AR, hd, hw, k⟩ := h
    refine ⟨_, pss_cons (ps_if (PW.pt (pw_or (pt_not (pt_val (pe_isi (i := 1) (TN := "tuple") rfl (Or.inl rfl) (by decide) (by decide) B.isi B.tuple rfl rfl (by decide +kernel) (by decide) (by decide))))
        (pw_or1 (pt_cmpR op_gt (pe_callB call_len_seq (by rfl) B.len PySem.boot_len (pa_cons (pv 1) pa_nil)) pe_int (nomark _))))) (pss_one (ps_ret pe_str)) pss_nil) <|
      pss_cons (ps_set (i := 2) scDueJ.nd rfl (.inl rfl) (pe_callTy (call_dictTE hr rfl) (by rfl) B.dict (by decide +kernel) (pa_cons
        (pe_lc (own := [("pair", 5)]) (g := gName 5) (tt := tYes) rfl scDueJ.nd (pi_tup (pe_ix ix_tup (pv 0) pe_int (fun _ _ => rfl))) (blkOk_by (own := [("pair", 5)]) (N := nDueJ) (sc := defScope sDueJ) (by decide +kernel))
          (fun _ _ _ _ _ => pg_name (i := 5) scDueJ.nd rfl (Or.inl rfl)) (fun _ _ _ _ _ => pts_nil) (fun _ _ _ _ _ => pe_tup (pa_cons (pv 5) (pa_cons pe_bl pa_nil)))) pa_nil))) <|
      pss_cons (ps_for PassesOwn.never rfl (pi_enumT (by rfl) B.enumerate (pa_cons (pv 1) pa_nil)) (pg_tup rfl (pgs_cons (pg_name (i := 3) scDueJ.nd rfl (.inl rfl)) (pgs_cons (pg_name (i := 4) scDueJ.nd rfl (.inl rfl)) pgs_nil)))
        (pss_one (ps_if (pt_not (pt_val (pe_call GT hr rfl mT kT bT .nil pass0 (pa_cons (pv 0) (pa_cons (pv 2) (pa_cons (pv 4) pa_nil)))))) (pss_one (ps_ret (pe_tup (pa_cons pe_str (pa_cons (pv 3) pa_nil))))) pss_nil))) <|
      pss_cons (ps_for PassesOwn.never rfl (pi_range2 (by rfl) B.range (pa_cons pe_int (pa_cons (pe_callB call_len_seq (by rfl) B.len PySem.boot_len (pa_cons (pv 1) pa_nil)) pa_nil))) (pg_name (i := 3) scDueJ.nd rfl (.inl rfl))
        (pss_one (ps_if (pt_cmpR op_ne (pe_ix ix_tup (pe_ix ix_tup (pe_ix ix_tup (pv 1) (pv 3) (fun _ _ => rfl)) pe_int (fun _ _ => rfl)) pe_int (fun _ _ => rfl)) (pe_ix ix_tup (pe_ix ix_tup (pe_ix ix_tup (pv 1) (pe_op op_sub (pv 3) pe_int) (fun _ _ => rfl)) pe_int (fun _ _ => rfl)) (pe_un un_neg pe_int) (fun _ _ => rfl)) (nomark _))
          (pss_one (ps_ret (pe_tup (pa_cons pe_str (pa_cons (pv 3) pa_nil))))) pss_nil))) <|
      pss_one (ps_ret pe_non), ?_⟩
    have kform : legsOf d = none → Q (.str "form") H := fun hf => by
      obtain ⟨q1, q2, q3, q4⟩ := err_str (K := K) (H := H) (z := "form") (by decide +kernel)
      exact k _ _ _ H (.form hf) (Same.refl H) q1 q2 q3 q4
    refine ⟨_, rfl, x, d, as, "tuple", rfl, by decide, hd, _, rfl, ?_⟩
    cases e : isT "tuple" d with
    | false =>
      refine iteT (iteT ?_)
      exact kform (legs_tup e)
    | true =>
      refine iteF ?_
      obtain ⟨ds, rfl⟩ := tup_of e
      simp only [Rep] at hd
      obtain ⟨p, ys, cs, rfl, hp, ra, nap, rfl⟩ := hd
      have hl := ra.len
      have hwds : ∀ y ∈ ds, wt y ≤ 10000000 := fun y hy => by
        have := wt_mem hy
        simp only [wt] at hw
        omega
      have hsz : ys.length ≤ sizeLine := by
        simp only [wt] at hw
        have h2 := wt_len ds
        rw [hl, sizeLine_eq]
        omega
      refine ⟨_, rfl, p, ys, rfl, .inr (SqT.of hp), _, _, rfl, rfl, _, rfl, ?_⟩
      by_cases c2 : (500 : Int) < (ys.length : Int)
      case pos =>
        rw [decide_eq_true c2]
        refine iteT ?_
        refine kform ?_
        rw [legs_len, if_neg (by rw [← hl]; omega)]
      case neg =>
      rw [decide_eq_false c2]
      refine iteF ?_
      have hf : legsOf (.tup ds) = some ds := by
        rw [legs_len, if_pos (by rw [← hl]; omega)]
      refine ⟨_, rfl, a, _, 1, .ref b, rfl, rfl, SqT.of N.a, at_of (j := 1) rfl rfl, b, rfl, ⟨_, SqT.of N.b⟩, fun L nL => ?_⟩
      have tl := N.len
      refine lc_it (walk_tup (xs := ts)) (PX L H ars) ⟨[], [], upd_same, .nil, by simp, nL, same_new nL⟩ (fun i Ha hi pv => ?_) ?_ ?_
      · obtain ⟨_, _, _, _, _, _, sm⟩ := pv
        exact SqT.of (sm _ _ N.b)
      · rintro i x Hb Ha hi pv ⟨rfl, ex⟩
        have sm := pv.choose_spec.choose_spec.2.2.2.2
        obtain ⟨e, t, he, rfl, ht⟩ := AR.at ex
        refine ⟨rfl, ?_⟩
        refine ⟨_, rfl, by show 2 ≤ sizeLine; decide, fun T nT => ?_⟩
        exact pv.add (same_new nT) (by omega) he ((same_new nT) _ _ (sm _ _ ht)) upd_same
      · rintro Ha ⟨ps, qs, g1, g2, g3, g4, g5⟩
        refine ⟨L, ps, qs, rfl, SqL.of g1, paired_mono (fun _ _ x => x.t) g2, fun g kvs ng l1 l2 l3 => ?_⟩
        rw [AR.len, List.take_length] at g3
        have mem := keys_ars g3 l2 l3
        have sg : Same H (upd Ha g (.dT kvs)) := g5.trans (same_new ng)
        have AD : ArrD ars (upd Ha g (.dT kvs)) g := ⟨kvs, upd_same, mem⟩
        generalize (upd Ha g (.dT kvs)) = HG at sg AD ⊢
        refine ⟨_, rfl, p, ys, rfl, SqT.of (sg _ _ hp), for_it walk_te (fun i σ H' => (∃ s4 s5, σ = [some (.ref a), some (.ref p), some (.ref g), s4, s5, none]) ∧ Same HG H' ∧ ∀ (j : Nat) (y : D), j < i → ds[j]? = some y → LegOk n ars y)
          ⟨⟨_, _, rfl⟩, Same.refl _, fun j y h => absurd h (Nat.not_lt_zero _)⟩ (fun i σ H' _ h => SqT.of (h.2.1 _ _ (sg _ _ hp))) ?_ ?_⟩
        · rintro i x σ1 H1 H2 hi ⟨⟨s4, s5, rfl⟩, s1, q⟩ ⟨T, x1, x2, rfl, nT, rfl, e1, e2⟩
          obtain rfl : V.int (i : Nat) = x1 := Option.some.inj e1
          refine ⟨T, [.int (i : Nat), x2], rfl, .inl (.inl upd_same), rfl, _, [x2], rfl, x2, [], rfl, rfl, ?_⟩
          have s2 : Same HG (upd H1 T (.tup [.int (i : Nat), x2])) := s1.trans (same_new nT)
          obtain ⟨d2, b2, hd2, hr2, _⟩ := ra.at2 e2
          refine ⟨_, rfl, _, rfl, _, rfl, a, b, g, n, ts, ars, x2, d2, b2, rfl, N.keep (.of (sg.trans s2)), AD.same s2, hr2.same (sg.trans s2), hwds d2 (List.mem_of_getElem? hd2), fun c H3 ic s23 => ⟨_, rfl, ?_⟩⟩
          have s3 := s2.trans s23
          cases c with
          | true =>
            refine iteF ⟨⟨_, _, rfl⟩, s3, fun j y hj hy => ?_⟩
            rcases Nat.lt_succ_iff_lt_or_eq.mp hj with z | z
            · exact q j y z hy
            · subst z
              rw [hd2] at hy
              cases hy
              exact ic.mp rfl
          | false =>
            refine iteT ⟨_, rfl, by show 2 ≤ sizeLine; decide, fun p2 np2 => ?_⟩
            obtain ⟨q1, q2, q3, q4⟩ := err_pair (K := K) (z := "leg") (i := i) (by decide +kernel) (Nat.le_trans (Nat.le_of_lt hi) hsz) np2
            exact k _ _ _ _ (.leg hf hd2 (fun z => by have := ic.mpr z; cases this) q) ((sg.trans s3).trans (same_new np2)) q1 q2 q3 q4
        · rintro σ H1 ⟨⟨s4, s5, rfl⟩, s1, q⟩
          have qa : ∀ (j : Nat) (y : D), ds[j]? = some y → LegOk n ars y := fun j y hy => q j y (by rw [hl]; exact (List.getElem?_eq_some_iff.mp hy).1) hy
          have small62 : (ys.length : Int) < 2 ^ 62 := by
            rw [sizeLine_eq] at hsz
            omega
          have sH := sg.trans s1
          refine ⟨_, rfl, p, ys, rfl, .inr (SqT.of (sH _ _ hp)), 1, (ys.length : Int), rfl, ⟨by decide, by decide, by omega, small62⟩, for_range (lo := 1) (n := ((ys.length : Int) - 1).toNat)
            (fun i σ H' => (∃ s4 s5, σ = [some (.ref a), some (.ref p), some (.ref g), s4, s5, none]) ∧ Same H H' ∧ ∀ j, j < i + 1 → ¬ ApartAt ds j) ⟨⟨_, _, rfl⟩, sH, fun j hj hb => ?_⟩ ?_ ?_⟩
          · obtain ⟨h0, _⟩ := hb
            omega
          · rintro i σ H2 hi ⟨⟨s4, s5, rfl⟩, s2', ql⟩
            have hi1 : i + 1 < ys.length := by omega
            have hi0 : i < ys.length := by omega
            have y1 : ys[i + 1]? = some ys[i + 1] := List.getElem?_eq_getElem hi1
            have y0 : ys[i]? = some ys[i] := List.getElem?_eq_getElem hi0
            obtain ⟨dd1, b1, hd1, r1, _⟩ := ra.at2 y1
            obtain ⟨dd0, b0, hd0, r0, _⟩ := ra.at2 y0
            obtain ⟨os1, t1, rfl, R1, _⟩ := qa _ _ hd1
            obtain ⟨os0, t0, rfl, R0, _⟩ := qa _ _ hd0
            obtain ⟨q1, z1, v1, l1, m1⟩ := leg_rep (r1.same s2')
            obtain ⟨q0, z0, v0, l0, m0⟩ := leg_rep (r0.same s2')
            rw [v1] at y1
            rw [v0] at y0
            obtain ⟨fo, f1, f2⟩ := R1.first
            obtain ⟨lo, _, la, le⟩ := last_of R0.nil
            have hp2 := SqT.of (K := K) (s2' _ _ hp)
            refine ⟨_, rfl, _, rfl, p, ys, _, _, rfl, rfl, hp2, at_of (j := i + 1) (by omega) y1, q1, _, 0, .ref z1, rfl, rfl, SqT.of l1, at_of (j := 0) rfl rfl, z1, _, 0, .int fo, rfl, rfl, SqT.of m1, at_of (j := 0) rfl f2, ?_⟩
            refine ⟨_, rfl, _, rfl, _, _, rfl, rfl, p, ys, _, _, rfl, rfl, hp2, at_of (j := i) (by omega) y0, q0, _, 0, .ref z0, rfl, rfl, SqT.of l0, at_of (j := 0) rfl rfl, 1, rfl, z0, _, -1, .int lo, rfl, rfl, SqT.of m0, la, rfl, _, rfl, ?_⟩
            have ap := apart_of hd0 hd1 le f1
            refine ite2 (fun z => ?_) (fun z => ?_)
            · have z : fo ≠ lo := by simpa using z
              refine ⟨_, rfl, by show 2 ≤ sizeLine; decide, fun p2 np2 => ?_⟩
              have ei : (1 : Int) + (i : Int) = ((i + 1 : Nat) : Int) := by omega
              rw [ei]
              obtain ⟨g1, g2, g3, g4⟩ := err_pair (K := K) (z := "apart") (i := i + 1) (by decide +kernel) (by omega) np2
              exact k _ _ _ _ (.apart hf qa (ap.mpr z) ql) (s2'.trans (same_new np2)) g1 g2 g3 g4
            · have z : fo = lo := by simpa using z
              refine ⟨⟨_, _, rfl⟩, s2', fun j hj hb => ?_⟩
              rcases Nat.lt_succ_iff_lt_or_eq.mp hj with y | y
              · exact ql j y hb
              · subst y
                exact ap.mp hb z
          · rintro σ H2 ⟨⟨s4, s5, rfl⟩, s2', ql⟩
            refine k .non .non [] H2 (.fine hf qa fun j hb => ?_) s2' (by simp [Rep]) (by simp only [small]) (by simp only [wt]; decide) (by simp only [dep]; decide)
            obtain ⟨h0, _, _, _, _, _, _, _, h2, _⟩ := id hb
            have hj : j < ds.length := (List.getElem?_eq_some_iff.mp h2).1
            exact ql j (by omega) hb
end
end Sw
namespace Sw
open PySem PySem.Spec PyProof.Rows L2
section
variable {X : Cx} {CX : CXT} {k : Nat} {f : Addr} {fd : FuncData} {ps ks : List Str} {sp : Sp} {E : XK} {x : Str} {p pos : Pos} {kws : List Keyword} {tk : TA} {g : List Value → List Value → List Value} {gV : List V → List V → List V}
/-- f(k = v): words alone -/
theorem pe_callW (F : FnOk X.prog X.w X.K X.mg X.base CX k f fd ps sp) (hr : Room k X.A) (hg : Gl X x) (hm : X.mg x = some (.ref f)) (hk : PySem.W.keepIn X.K (.ref f) = true) (hb : KBinds X.K fd ps ks g gV) (hx : Passes CX X E)
    (hkw : PK X kws tk) (hall : (backToKw pos (keywordEach kws X.env)).all (·.1.isSome) = true := by rfl) (hks : (backToKw pos (keywordEach kws X.env)).filterMap (·.1) = ks := by rfl)
    (hdb : (x == ("__debug__" : Str)) = false := by decide)
    (hpl : ((backTo pos (starEach [] X.env)).any (·.1) || (backToKw pos (keywordEach kws X.env)).any (·.1.isNone)) = false := by rfl) :
    PE X (.Call (.Name x p) [] kws pos) (fun σ H Q => tk σ H fun zs H2 => sp (gV [] zs) H2 Q E) := by
  refine ⟨fun pins s σ H Q I h => wpAny_Call_Name_kw (ld_glob I hg hm ?_ hdb)⟩
  refine PySem.W.callWith_KW0 (first := []) (h₀ := X.base) I.ok.mod.kin hk hall (thn (hkw.run pos pins s σ H _ I h) fun ws s2 ⟨zs, H2, I2, rz, q2⟩ => ⟨I2.kIn, ?_⟩) hpl
  rw [hks]
  exact run_fnk (us := []) F hr hb hx I2 .nil rz q2
end
/-- a new list of two things -/
theorem rep_pair {K : PySem.W.Frag} {H : Hp} {L : Addr} {r r' : D} {v v' : V} {bs bs' : List Addr} (h : Rep K H r v bs) (h' : Rep K H r' v' bs') (nL : H L = none) : ∃ as, Rep K (upd H L (.lst [v, v'])) (.lst [r, r']) (.ref L) as := by
  have ra : RepAll K H [r, r'] [v, v'] (bs ++ (bs' ++ [])) := by
    rw [RepAll]
    refine ⟨_, _, bs, bs' ++ [], rfl, h, ?_, rfl⟩
    rw [RepAll]
    exact ⟨_, _, bs', [], rfl, h', by simp [RepAll], rfl⟩
  refine ⟨L :: (bs ++ (bs' ++ [])), ?_⟩
  rw [Rep]
  exact ⟨L, _, _, rfl, upd_same, ra.same (same_new nL), nmem ra nL, rfl⟩
theorem same_str {x y : Str} (h : x = y) : (!decide (V.str x = V.str y)) = false := by
  rw [h, decide_eq_true rfl]
  rfl
def spLaw (K : PySem.W.Frag) : Sp := fun vs H Q _ => ∃ (a : Addr) (ns : List Int), vs = [.ref a] ∧ SqL K H a (ns.map V.int) ∧ ns.length ≤ 63 ∧ ∀ H', Q (.bl true) H'
section
variable {P : Program} {w : World} {K : PySem.W.Frag} {mg : Str → Option Value} {base : Heap}
/-- one call of a def of the text, what is around it given -/
theorem run_def {x qual : Str} {st : Stmt} {f : Addr} {fd : FuncData} {N ps : List Str} {k : Nat} {A : Around} {outer : List Env} {s : Shared} {H : Hp} {args : Args} {us : List Value} {vs : List V} {Q : VK} {E : XK} (F : Fun K x qual st f fd) (S : FnScope N ps (defScope st))
    (rm : Room (k + 1) A) (ev : Env0 P w K mg base A outer s H) (hb : BindsTo s fd args (ps.zip us)) (rv : Vals vs us) (hl : vs.length = ps.length)
    (body : ∀ cdv : Value, ∃ t, PSs (cxOf CX0 P w K mg base N qual (defScope st) f cdv A outer s H E).nox (defBody st) t ∧ t { nx := fun _ H' => Q .non H', rt := Q } (start N vs) H) :
    codeAny (model P w) A (.call (.ref f) args) (CR CX0 outer P w H s Q E) s := by
  obtain ⟨oc, od, kV, doc, pm, an, cdv, ct, osl, rfl, lk, hcd⟩ := F.ex
  have kin : K.In s.heap := ev.mod.kin.keeps fun b o z => (ev.bs b o z).1
  have nolim : s.heap.NoLimit := ev.mod.nolimit.keeps fun b o z => (ev.bs b o z).1
  have kinds : ∀ y ∈ ps.zip us, (defScope st).names.lookup y.1 = some .local ∨ ((defScope st).names.lookup y.1 = some .cell ∧ ((cellsFrom (s.heap.objs.size + 1) (defScope st).names []).lookup y.1).isSome = true) := by
    rintro ⟨n, v⟩ hy
    exact (S.par n (List.of_mem_zip hy).1).elim .inl fun q => .inr ⟨q, PySem.W.cellsFrom_some _ _ _ (.inl q)⟩
  refine codeAny_call_function rm.depth (kin _ _ lk) rfl S.co S.gen rfl (PySem.W.codeRec_of kin hcd) (hb _ _ _ _ (wpAny_newFunctionEnv_cells S.kind kinds fun env he s1 ic => ?_))
  subst he
  obtain ⟨t, ht, hq⟩ := body cdv
  have inv := inv_start S rm.hd ev hl rv ic (CX := CX0) (P := P) (w := w) (E := E)
  refine ⟨nolim.keeps ic.toInCall.keep, codeAny_func (wpAny_mono (ht.nox.run [] s1 (start N vs) H _ inv hq) (fun fl s' hs => ?_) fun _ _ hs => hs)⟩
  cases fl with
  | next =>
    obtain ⟨_, H', J, q⟩ := hs
    exact ⟨V.non, H', J.os, J.bare, J.base, J.hok, (rfl : RelV V.non Value.none), q⟩
  | ret u =>
    obtain ⟨v, _, H', J, ru, q⟩ := hs
    exact ⟨v, H', J.os, J.bare, J.base, J.hok, ru, q⟩
  | brk =>
    obtain ⟨_, _, _, q⟩ := hs
    cases q
  | cont =>
    obtain ⟨_, _, _, q⟩ := hs
    cases q
end
/-- the script alone is known -/
def scriptH (a : Addr) (o : Obj) (ns : List Int) : Hp := fun b => if b = a then some (.frz o (.lst (ns.map V.int))) else none
theorem scriptH_at {a : Addr} {o : Obj} {ns : List Int} : scriptH a o ns a = some (.frz o (.lst (ns.map V.int))) := if_pos rfl
theorem scriptH_ne {a b : Addr} {o : Obj} {ns : List Int} (h : b ≠ a) : scriptH a o ns b = none := if_neg h
/-- the law's call, at the heap behind the top -/
theorem call_law {P : Program} {w : World} {K : PySem.W.Frag} {mg mb : Str → Option Value} {fa a : Addr} {s₁ : Shared} {vs : List Value} {ns : List Int} (kin : K.In s₁.heap) (hmg : s₁.heap.Ns mainGlobals mg) (hmb : s₁.heap.Ns builtinsNs mb)
    (hboot : ∀ x : Str, x ≠ "__name__" → mb x = bootBuiltins x) (nolim : s₁.heap.NoLimit) (hgen : s₁.gens = #[])
    (ha : s₁.heap.get? a = some { cls := .type "list", data := .seq vs.toArray }) (hi : IntsAre vs ns) (hlen : ns.length ≤ 63)
    (run : ∀ (base : Heap) (H : Hp), K.In base → base.Ns mainGlobals mg → Env0 P w K mg base callerA [] s₁ H → SqL K H a (ns.map V.int) →
      codeAny (model P w) callerA (.call (.ref fa) ⟨[.ref a], []⟩) (CR CX0 [] P w H s₁ (fun v _ => v = .bl true) fun _ _ _ => False) s₁) :
    codeAny (model P w) callerA (.call (.ref fa) ⟨[.ref a], []⟩) (fun r s' => r = .ok (.ret (.bool true)) ∧ OldK s₁.heap s'.heap ∧ s'.os = s₁.os ∧ AllBare s'.gens) s₁ := by
  have rv := vals_ints hi
  have le63 : ns.length ≤ sizeLine := by
    rw [sizeLine_eq]
    omega
  have go : ∀ H : Hp, (∀ b, H b ≠ none → b = a ∧ K.lookup a = none ∧ H a = some (.frz { cls := .type "list", data := .seq vs.toArray } (.lst (ns.map V.int)))) → SqL K H a (ns.map V.int) →
      codeAny (model P w) callerA (.call (.ref fa) ⟨[.ref a], []⟩) (fun r s' => r = .ok (.ret (.bool true)) ∧ OldK s₁.heap s'.heap ∧ s'.os = s₁.os ∧ AllBare s'.gens) s₁ := by
    intro H only sq
    have plain : ∀ {b : Addr} {o : Obj} {es : Array DictEntry} {ep : Nat}, s₁.heap.get? b = some o → o.data = .dict es ep → H b = none := by
      intro b o es ep e dd
      refine Classical.byContradiction fun q => ?_
      obtain ⟨rfl, _⟩ := only b q
      rw [ha] at e
      cases e
      exact nomatch dd
    have spaces : ∀ {b : Addr} {m : Str → Option Value}, s₁.heap.Ns b m → (hidT s₁.heap H).Ns b m := by
      rintro b m ⟨o, es, ep, e, dd, r⟩
      exact ⟨o, es, ep, hidT_get e (plain e dd), dd, r⟩
    have kin' : K.In (hidT s₁.heap H) := by
      intro b o e
      refine hidT_get (kin b o e) (Classical.byContradiction fun q => ?_)
      obtain ⟨rfl, n, _⟩ := only b q
      rw [n] at e
      cases e
    have hok : HOk P w H s₁.heap := by
      intro b u e
      obtain ⟨rfl, _, q⟩ := only b (by rw [e]; exact fun z => nomatch z)
      rw [q] at e
      cases e
      exact ⟨ha, by rw [List.length_map]; exact le63, vs, _, rv, ha⟩
    obtain ⟨ml, l1, l2⟩ := nolim
    have ev : Env0 P w K mg (hidT s₁.heap H) callerA [] s₁ H :=
      ⟨rfl, ⟨kin', spaces hmg, ⟨mb, spaces hmb, hboot⟩, ⟨ml, spaces l1, l2⟩⟩, fun _ _ z => of_hidT z, Nat.le_of_eq (hidT_size _ _), trivial, fun b z => (by cases z), hok, .of_eq hgen⟩
    refine codeAny_mono (run _ H kin' (spaces hmg) ev sq) fun r s' hr => ?_
    rcases r with e | fl
    · exact False.elim hr
    rcases fl with _ | _ | _ | u
    all_goals first | exact False.elim hr | skip
    obtain ⟨v, H', os, bare, un, hok', ru, rfl⟩ := hr
    obtain rfl : u = Value.bool true := ru
    refine ⟨rfl, OldK.of_keep fun b o e => ?_, os, bare⟩
    cases q : H b with
    | none => exact un.keep b o e q (fun z => by cases z) (fun z => by simp at z)
    | some y =>
      obtain ⟨rfl, _, q2⟩ := only b (by rw [q]; exact fun z => nomatch z)
      have old := (hok _ _ q2).1
      have new := (hok' _ _ (un.frzs _ _ _ q2)).1
      rw [e] at old
      cases old
      exact new
  cases z : K.lookup a with
  | none =>
    refine go (scriptH a { cls := .type "list", data := .seq vs.toArray } ns) (fun b q => ?_) (.inl (.inr ⟨_, scriptH_at⟩))
    by_cases e : b = a
    · exact ⟨e, z, scriptH_at⟩
    · exact absurd (scriptH_ne e) q
  | some o =>
    have e := kin a o z
    rw [ha] at e
    cases e
    exact go (fun _ => none) (fun _ q => absurd rfl q) (.inr ⟨_, vs.toArray, _, z, rfl, rfl, rfl, by rw [List.size_toArray, hi.length]; exact le63, by simpa using rv⟩)
/-- a def of the text stands behind the top by its name -/
def Has (K : PySem.W.Frag) (mg : Str → Option Value) (x : Str) (st : Stmt) : Prop := ∃ f fd, Fun K x x st f fd ∧ mg x = some (.ref f)
section
variable {P : Program} {w : World} {K : PySem.W.Frag} {mg : Str → Option Value} {h : Heap}
theorem has_mk {x : Str} {st : Stmt} {f : Addr} {oc kV dc pm cd ct : Value} {od an : Option Addr} {sl : Array (Option Value)} (X : K.In h) (G : h.Ns mainGlobals mg) (a : PySem.W.nsIn K mainGlobals x = some (some (.ref f)))
    (l : K.lookup f = some ⟨oc, od, .func (PySem.W.fnOf x x (defArgs st) (defBody st) (defScope st) .none kV dc pm an cd ct), sl⟩) (c : PySem.W.codeIn K cd x = true) (k : PySem.W.keepIn K (.ref f) = true) : Has K mg x st :=
  ⟨f, _, fun_mk l c k, PySem.W.mg_of X G a⟩
/-- the def that it is: one promise, from the def's own theorem -/
theorem Has.own {base : Heap} {k : Nat} {x : Str} {st : Stmt} {ps : List Str} {sp : Sp} (hs : Has K mg x st) (ok : ∀ f fd, Fun K x x st f fd → FnOk P w K mg base CX0 k f fd ps sp)
    (b : ∀ (kV doc pm : Value) (an : Option Addr) (cdv ct : Value) (us : List Value), us.length = ps.length → bindArgs (PySem.W.fnOf x x (defArgs st) (defBody st) (defScope st) .none kV doc pm an cdv ct) ⟨us, []⟩ = pure (ps.zip us)) : Own P w K mg base k x ps sp := by
  obtain ⟨f, fd, F, m⟩ := hs
  exact ⟨f, fd, ok f fd F, m, F.kp, F.binds b⟩
/-- the end of the row, from what the top has written -/
theorem walk_law {l : PySem.W.OpenLaw} {q : Program} {loose : List Str} {XP : (Str → Option Value) → Heap → Prop} {YP : World → Heap → Prop} {d : DefRec} {K : Params → PySem.W.Frag} (hn : l.most = some 63) (hdf : d.params.defaults = [])
    (hY : ∀ (w : World) (h : Heap), YP w h → (K w.params).In h)
    (F : ∀ (w : World) (mg : Str → Option Value) (fa : Addr) (h : Heap), (K w.params).In h → h.Ns mainGlobals mg → mg d.name = some (.ref fa) →
      ∀ (base : Heap) (s₁ : Shared) (H : Hp) (a : Addr) (ns : List Int), Env0 l.prog w (K w.params) mg base callerA [] s₁ H → SqL (K w.params) H a (ns.map V.int) → ns.length ≤ 63 →
        codeAny (model l.prog w) callerA (.call (.ref fa) ⟨[.ref a], []⟩) (CR CX0 [] l.prog w H s₁ (fun v _ => v = .bl true) fun _ _ _ => False) s₁) :
    PySem.W.WalkO q loose XP YP l.row.toRowW d [] (fun f vs => PySem.call f vs) := by
  refine Att.attach_call hn hdf fun w s₀ s₁ mg mb fa o pm cd doc a vs ns G Y _ _ _ hmg hobj hints hlen hg => ?_
  exact call_law (hY w _ Y) G.T.g G.T.b G.T.builtins G.T.nolimit hg hobj hints hlen fun base H _ _ ev sq => F w mg fa _ (hY w _ Y) G.T.g hmg base s₁ H a ns ev sq hlen
end
end Sw
namespace Sw
open PySem PySem.Spec PyProof.Rows L2
/-! ### defs that call repr: what is around them guards nothing -/
structure FnG (P : Program) (w : World) (K : PySem.W.Frag) (mg : Str → Option Value) (base : Heap) (k : Nat) (f : Addr) (fd : FuncData) (ps : List Str) (sp : Sp) : Prop where
  len : ∀ vs H Q E, sp vs H Q E → vs.length = ps.length
  run : ∀ (A : Around) (outer : List Env) (s : Shared) (H : Hp) (args : Args) (us : List Value) (vs : List V) (Q : VK) (E : XK), Room k A → A.guards = some [] → Env0 P w K mg base A outer s H → BindsTo s fd args (ps.zip us) → Vals vs us → sp vs H Q E →
    codeAny (model P w) A (.call (.ref f) args) (CR CX0 outer P w H s Q E) s
section
variable {P : Program} {w : World} {K : PySem.W.Frag} {mg : Str → Option Value} {base : Heap}
theorem Fun.okG {x qual : Str} {st : Stmt} {f : Addr} {fd : FuncData} {N ps : List Str} {k : Nat} {sp : Sp} (F : Fun K x qual st f fd) (S : FnScope N ps (defScope st)) (len : ∀ vs H Q E, sp vs H Q E → vs.length = ps.length)
    (walk : ∀ (cdv : Value) (A : Around) (outer : List Env) (s : Shared) (H : Hp) (vs : List V) (Q : VK) (E : XK), Room k (A.deeper (envOfC qual (defScope st) s.heap.objs.size f cdv)) → (A.deeper (envOfC qual (defScope st) s.heap.objs.size f cdv)).guards = some [] → sp vs H Q E →
      ∃ t, PSs (cxOf CX0 P w K mg base N qual (defScope st) f cdv A outer s H E).nox (defBody st) t ∧ t { nx := fun _ H' => Q .non H', rt := Q } (start N vs) H) : FnG P w K mg base (k + 1) f fd ps sp :=
  ⟨len, fun A outer s H args us vs Q E hr hg ev hb rv h => run_def F S hr ev hb rv (len _ _ _ _ h) fun cdv => walk cdv A outer s H vs Q E (hr.deeper _) hg h⟩
/-- such a def of one's own, by its name -/
structure OwnG (P : Program) (w : World) (K : PySem.W.Frag) (mg : Str → Option Value) (base : Heap) (k : Nat) (x : Str) (ps : List Str) (sp : Sp) : Prop where
  ex : ∃ f fd, FnG P w K mg base k f fd ps sp ∧ mg x = some (.ref f) ∧ PySem.W.keepIn K (.ref f) = true ∧ Binds K fd ps []
theorem Has.ownG {x : Str} {st : Stmt} {k : Nat} {ps : List Str} {sp : Sp} (h : Has K mg x st) (ok : ∀ f fd, Fun K x x st f fd → FnG P w K mg base k f fd ps sp)
    (b : ∀ (kV doc pm : Value) (an : Option Addr) (cdv ct : Value) (us : List Value), us.length = ps.length → bindArgs (PySem.W.fnOf x x (defArgs st) (defBody st) (defScope st) .none kV doc pm an cdv ct) ⟨us, []⟩ = pure (ps.zip us)) : OwnG P w K mg base k x ps sp := by
  obtain ⟨f, fd, F, m⟩ := h
  exact ⟨f, fd, ok f fd F, m, F.kp, F.binds b⟩
end
section
variable {X : Cx} {k : Nat} {f : Addr} {fd : FuncData} {ps : List Str} {sp : Sp} {E : XK} {x : Str} {p pos : Pos} {e : Expr} {es : List Expr} {t : TA}
theorem pe_callG (F : FnG X.prog X.w X.K X.mg X.base k f fd ps sp) (hr : Room k X.A) (hgd : X.A.guards = some []) (hg : Gl X x) (hm : X.mg x = some (.ref f)) (hk : PySem.W.keepIn X.K (.ref f) = true) (hb : Binds X.K fd ps []) (hx : Passes CX0 X E)
    (ha : PA X (e :: es) t) (hdb : (x == ("__debug__" : Str)) = false := by decide) (he : starEach (e :: es) X.env = (false, eval e X.env) :: starEach es X.env := by rfl) (hpl : (backTo pos (starEach es X.env)).any (·.1) = false := by rfl) :
    PE X (.Call (.Name x p) (e :: es) [] pos) (tCall sp [] E t) := by
  refine ⟨fun pins s σ H Q I h => wpAny_Call_Name_kw (ld_glob I hg hm ?_ hdb)⟩
  refine PySem.W.callWith_K (h₀ := X.base) I.ok.mod.kin hk (thn (ha.run pos pins s σ H _ I h) fun us s1 ⟨vs, H1, I1, r, q⟩ => ⟨I1.kIn, ?_⟩) he hpl
  have q : sp (vs ++ []) H1 Q E := q
  rw [List.append_nil] at q
  have hl : us.length = ps.length := by
    rw [← r.length]
    exact F.len _ _ _ _ q
  have b := hb s1 us I1.kIn (by rw [List.append_nil]; exact hl)
  rw [List.append_nil] at b
  refine wpAny_call (codeAny_mono (F.run X.A X.stack s1 H1 ⟨us, []⟩ us vs Q E hr hgd I1.env0 b r q) fun r s' hq => ?_)
  rcases r with e | fl
  · exact hx pins σ H1 s1 e s' I1 hq
  rcases fl with _ | _ | _ | u
  all_goals first | exact hq.elim | skip
  exact I1.after hq
/-- repr(t), t a tuple of data -/
def rReprT (K : PySem.W.Frag) : List V → Hp → VK → Prop := fun xs H Q => ∃ x ds as, xs = [x] ∧ Rep K H (.tup ds) x as ∧ smallAll ds ∧ wtAll ds ≤ 10000000 ∧ depAll ds ≤ 30 ∧ Q (.str (shown (.tup ds))) H
theorem call_reprT {X : Cx} {k : Nat} (hr : Room k X.A) (hg : X.A.guards = some []) : CallR X (.builtin "repr") (rReprT X.K) := by
  intro pins s σ H xs us Q I r h
  obtain ⟨x, ds, as, rfl, hd, sm, z, dp, q⟩ := h
  obtain ⟨u, rfl, hu⟩ := vals1 r
  have un := hr.units
  have hz : wt (.tup ds) ≤ sizeLine := by
    rw [sizeLine_eq]
    simp only [wt]
    omega
  have hsh : (tupleText (shownAll ds)).length ≤ sizeLine := by
    have h1 := shown_wt (.tup ds)
    simp only [shown] at h1
    omega
  simp only [Rep] at hd
  obtain ⟨a, ys, bs, rfl, ha, ra, na, rfl⟩ := hd
  cases (show u = Value.ref a from hu)
  obtain ⟨_, its, rv, o, h1, h2, n, h3⟩ := (show ObjOk X.prog X.w H s.heap a (.tup ys) from I.hok a _ ha)
  have kr := RepAll.shows I.hok I.kIn ra rv sm (by simp only [wt] at hz; omega) (depAll ds) (Nat.le_refl _)
  have hT : s.TypeIs (.ref a) "tuple" := ⟨o, h1, h2⟩
  simp only [shown] at q
  refine call_repr_slot (by omega) hT PySem.F.slot_tuple_repr ?_
  exact call_tuple_reprK (h₀ := s.heap) (d := depAll ds) h1 h2 h3 na (by simpa using kr) (g := []) hg (fun b _ => Clear.nil b) (by show X.A.units + 1 + _ < cLine; omega) (fun _ _ e => e) (fun h' u tk hk => ⟨_, _, rfl, .str _, H, I.kept (t' := tk) hk, ⟨_, rfl⟩, q⟩) hsh
end
end Sw
namespace Sw
open PySem PySem.Spec PyProof.Rows L2
/-! ### repr of what is wrong -/
def Said (r : D) : Prop := r = .non ∨ (∃ z, r = .str z ∧ (reprText z).length ≤ 100) ∨ ∃ ds, r = .tup ds
def rReprE (K : PySem.W.Frag) : List V → Hp → VK → Prop := fun xs H Q => ∃ x r as, xs = [x] ∧ Rep K H r x as ∧ Said r ∧ small r ∧ wt r ≤ 100 ∧ dep r ≤ 1 ∧ Q (.str (shown r)) H
theorem call_reprE {X : Cx} {k : Nat} (hr : Room k X.A) (hg : X.A.guards = some []) : CallR X (.builtin "repr") (rReprE X.K) := by
  intro pins s σ H xs us Q I r h
  obtain ⟨x, d, as, rfl, hd, hs, sm, z, dp, q⟩ := h
  rcases hs with rfl | ⟨t, rfl, lt⟩ | ⟨ds, rfl⟩
  · obtain ⟨u, rfl, hu⟩ := vals1 r
    simp only [Rep] at hd
    obtain ⟨rfl, rfl⟩ := hd
    cases (show u = Value.none from hu)
    simp only [shown] at q
    exact P.repr_of_none ⟨.str _, H, I.tok _, ⟨_, rfl⟩, q⟩
  · obtain ⟨u, rfl, hu⟩ := vals1 r
    simp only [Rep] at hd
    obtain ⟨rfl, rfl⟩ := hd
    obtain ⟨tk, rfl⟩ := hu
    simp only [shown] at q
    exact P.repr_of_str ⟨.str _, H, I.tok _, ⟨_, rfl⟩, q⟩ (by rw [sizeLine_eq]; omega)
  · exact call_reprT hr hg pins s σ H _ us Q I r ⟨x, ds, as, rfl, hd, by simpa only [small] using sm, by simp only [wt] at z; omega, by simp only [dep] at dp; omega, q⟩
theorem IsErrJ.said {n : Int} {ars : List (Int × Int)} {d r : D} (h : IsErrJ n ars d r) : Said r := by
  cases h with
  | form => exact .inr (.inl ⟨_, rfl, by decide +kernel⟩)
  | leg => exact .inr (.inr ⟨_, rfl⟩)
  | apart => exact .inr (.inr ⟨_, rfl⟩)
  | fine => exact .inl rfl
def SB (p d : Addr) : SH := fun _ H => Deck H p d 63
theorem SB.sk {p d : Addr} : SK p d (fun _ => True) (SB p d) := ⟨fun _ _ _ => ⟨fun _ _ => trivial, fun _ _ _ => trivial⟩, fun _ _ h => h, fun _ _ _ _ h _ => h⟩
theorem rep_intsJ {k : Nat} {os : List Int} : (List.replicate k (os.map V.int)).flatten = ((List.replicate k os).flatten).map V.int := by
  rw [List.map_flatten, List.map_replicate]
section
variable {X : Cx} {p d : Addr} {e e1 e2 : Expr} {m : Nat} {pos pos' : Pos}
theorem i_lit {i : Int} (h : PE X e (tC (.int i))) (hi : i.natAbs < 1000 := by decide) : PE X e (tI p d (SB p d)) := pe_weak h fun σ H Q q => q.2 i H hi q.1 .refl
/-- (i, j) * c -/
theorem it_rep2 {i j c : Int} {x1 : Nat} (h1 : PE X e1 (tC (.int i))) (h2 : PE X e2 (tC (.int j))) (hc : PE X e (tC (.int c))) (hi : i.natAbs < 1000 := by decide) (hj : j.natAbs < 1000 := by decide) (c2 : 2 ≤ c := by decide) (c3 : c ≤ 1000 := by decide)
    (hs1 : starEach [e1, e2] X.env = (false, eval e1 X.env) :: starEach [e2] X.env := by rfl) (hs2 : starEach [e2] X.env = (false, eval e2 X.env) :: starEach [] X.env := by rfl) : PE X (.BinOp (.Tuple [e1, e2] x1 pos) .Mult e pos') (tIT p d (SB p d) (2 * c.toNat)) :=
  pe_weak (pe_op (r := rRepT X.K) op_repT (pe_tup (pa_cons h1 (pa_cons h2 pa_nil hs2) hs1)) hc) fun σ H Q q => ⟨by show 2 ≤ sizeLine; decide, fun T nT => by
    have D0 : Deck H p d 63 := q.1
    have sT : Same H (upd H T (.tup [.int i, .int j])) := same_new nT
    refine ⟨T, c, _, rfl, rfl, SqT.of upd_same, (fun z => nomatch z), c2, c3, by show 2 ≤ 1000; decide, fun U nU => ?_⟩
    have sU := sT.trans (same_new (o := .tup (List.replicate c.toNat [V.int i, V.int j]).flatten) nU)
    refine q.2 U (List.replicate c.toNat [i, j]).flatten _ (by rw [upd_same]; exact congrArg (fun z => some (HO.tup z)) (rep_intsJ (os := [i, j]))) (fun o ho => ?_) ?_ (D0.same sU) (.of sU)
    · obtain ⟨l, hl, ho⟩ := List.mem_flatten.mp ho
      rw [List.eq_of_mem_replicate hl] at ho
      simp only [List.mem_cons, List.not_mem_nil, or_false] at ho
      rcases ho with rfl | rfl
      · exact hi
      · exact hj
    · rw [List.length_flatten, List.map_replicate, List.sum_replicate_nat]
      show c.toNat * 2 ≤ 2 * c.toNat
      omega⟩
end
abbrev sFarJ : Stmt := top 28
abbrev nFarJ : List Str := ["deck", "net", "values", "longs", "leg"]
theorem scFarJ : FnScope nFarJ ["deck"] (defScope sFarJ) := ⟨rfl, rfl, rfl, by decide +kernel, rfl, by decide +kernel, by decide +kernel⟩
section
variable {P : Program} {w : World} {K : PySem.W.Frag} {mg : Str → Option Value} {base : Heap}
/-- journey_error: by place, and by the words value, net -/
structure OwnJ (P : Program) (w : World) (K : PySem.W.Frag) (mg : Str → Option Value) (base : Heap) (k : Nat) : Prop where
  ex : ∃ f fd, FnOk P w K mg base CX0 k f fd ["net", "value"] (spJn K) ∧ mg "journey_error" = some (.ref f) ∧ PySem.W.keepIn K (.ref f) = true ∧ Binds K fd ["net", "value"] [] ∧ KBinds K fd ["net", "value"] ["value", "net"] (fun us ws => us ++ ws.reverse) (fun us ws => us ++ ws.reverse)
def spFarJ : Sp := fun vs H Q _ => ∃ (p d : Addr), vs = [.ref p] ∧ Deck H p d 63 ∧ ∀ H', Deck H' p d 63 → Kp p d H H' → Q (.bl true) H'
theorem ok_farJ {f : Addr} {fd : FuncData} (F : Fun K "_law_is_far" "_law_is_far" sFarJ f fd) (B : NoNames mg) (OM : Own P w K mg base 2 "_law_mixed" ["deck", "items"] spMixedV) (OJ : OwnJ P w K mg base 5) (OU : Own P w K mg base 3 "_law_due" ["net", "value"] (spJn K)) : FnG P w K mg base 6 f fd ["deck"] spFarJ := by
  obtain ⟨fM, fdM, GM, mM, kM, bM⟩ := OM.ex
  obtain ⟨fJ, fdJ, GJ, mJ, kJ, bJ, wJ⟩ := OJ.ex
  obtain ⟨fU, fdU, GU, mU, kU, bU⟩ := OU.ex
  refine Fun.okG F scFarJ (fun vs H Q E h => ?_) (fun cdv A outer s H vs Q E hr hgd h => ?_)
  · obtain ⟨p, d, rfl, _⟩ := h
    rfl
  · obtain ⟨p, d, rfl, D0, k⟩ := h
    have hr2 : Room 2 _ := hr.mono (by decide)
    have hr3 : Room 3 _ := hr.mono (by decide)
    have p30 : ∀ (σ : L2.St) (H : Hp) (Q : VK), Q (.int (10 ^ 30)) H → tOp (rI CPow fun i j => .int (i ^ j.toNat)) (tC (.int 10)) (tC (.int 30)) σ H Q := fun σ H Q q =>
      ⟨10, 30, rfl, rfl, ⟨by decide, by decide, by decide⟩, q⟩
    have S := SB.sk (p := p) (d := d)
    refine ⟨_, pss_cons (ps_par (i := 1) (j := 2) rfl scFarJ.nd rfl rfl (by decide) rfl rfl (pa_cons (pe_tup (pa_cons pe_int (pa_cons (pe_tup (pa_cons (pe_tup (pa_cons pe_int (pa_cons pe_int pa_nil))) (pa_cons (pe_tup (pa_cons pe_int (pa_cons pe_int pa_nil))) pa_nil))) pa_nil))) (pa_cons (pe_lst
        (klc (p := p) (d := d) (S := SB p d) (w := 7000) (k := 10) (k_tup S (ks_cons (k_tup S (ks_cons (k_int (i := 0) (w := 1) pe_int (fun _ _ _ q => q)) (ks_cons (k_true pe_bl) ks_nil))) (ks_cons (k_int (i := 1) (w := 1) pe_int (fun _ _ _ q => q)) ks_nil))) <|
        klc (k_tup S (ks_cons (k_tup S (ks_cons (k_int (i := 1) (w := 1) pe_int (fun _ _ _ q => q)) (ks_cons (k_true pe_bl) (ks_cons (k_int (i := 1) (w := 1) pe_int (fun _ _ _ q => q)) ks_nil)))) (ks_cons (k_int (i := 10 ^ 30) (w := 39) (pe_op op_pow pe_int pe_int) p30) ks_nil))) <|
        klc (k_tup S (ks_cons (k_tup S (ks_cons (k_int (i := 0) (w := 1) pe_int (fun _ _ _ q => q)) (ks_cons (k_int (i := 1) (w := 1) pe_int (fun _ _ _ q => q)) (ks_cons (k_int (i := 0) (w := 1) pe_int (fun _ _ _ q => q)) ks_nil)))) (ks_cons (k_int (i := 10 ^ 30) (w := 39) (pe_op op_pow pe_int pe_int) p30) ks_nil))) <|
        kl_nil)) pa_nil)) (by rfl)) <|
      pss_cons (ps_set (i := 3) scFarJ.nd rfl (.inl rfl) (pe_lst
        (klc (p := p) (d := d) (S := SB p d) (w := 7000) (k := 10) (k_tup S (ks_cons (k_it S (it_rep2 pe_int pe_int pe_int)) (ks_cons (k_int (i := 1) (w := 1) pe_int (fun _ _ _ q => q)) ks_nil))) <|
        klc (k_tup S (ks_cons (k_it S (it_rep2 pe_int pe_int pe_int)) (ks_cons (k_int (i := 1) (w := 1) pe_int (fun _ _ _ q => q)) ks_nil))) <|
        klc (k_tup S (ks_cons (k_it S (it_cat S (it_rep2 pe_int pe_int pe_int) (it_one S (i_lit pe_int)))) (ks_cons (k_int (i := 2) (w := 1) pe_int (fun _ _ _ q => q)) ks_nil))) <|
        klc (k_tup S (ks_cons (k_it S (it_cat S (it_rep2 pe_int pe_int pe_int) (it_one S (i_lit pe_int)))) (ks_cons (k_int (i := 2) (w := 1) pe_int (fun _ _ _ q => q)) ks_nil))) <|
        kl_nil))) <|
      pss_cons (ps_for PassesOwn.never rfl (pi_list (pe_op op_cat (pv 2) (pe_slice sl_list (pe_call GM hr2 rfl mM kM bM .nil pass0 (pa_cons (pv 0) (pa_cons (pv 3) pa_nil))) po_none (po_some pe_int)))) (pg_name (i := 4) scFarJ.nd rfl (.inl rfl))
        (pss_one (ps_if (pt_cmpR op_ne (pe_callB (call_reprE hr hgd) (by rfl) B.repr (by decide +kernel) (pa_cons (pe_call GJ hr rfl mJ kJ bJ .nil pass0 (pa_cons (pv 1) (pa_cons (pe_tup (pa_cons (pv 4) pa_nil)) pa_nil))) pa_nil))
          (pe_callB (call_reprE hr hgd) (by rfl) B.repr (by decide +kernel) (pa_cons (pe_call GU hr3 rfl mU kU bU .nil pass0 (pa_cons (pv 1) (pa_cons (pe_tup (pa_cons (pv 4) pa_nil)) pa_nil))) pa_nil)) (nomark _)) (pss_one (ps_ret pe_bl)) pss_nil))) <|
      pss_one (ps_ret pe_bl), ?_⟩
    refine ⟨by show 2 ≤ sizeLine; decide, fun t1 nt1 => ⟨by show 2 ≤ sizeLine; decide, fun t2 nt2 => ⟨by show 2 ≤ sizeLine; decide, fun b nb => ⟨by show 2 ≤ sizeLine; decide, fun a na => ?_⟩⟩⟩⟩
    have e1 : Same H (upd H t1 (.tup [.int 0, .int 1])) := same_new nt1
    have e2 := same_new (o := .tup [.int 1, .int 0]) nt2
    have e3 := same_new (o := .tup [.ref t1, .ref t2]) nb
    have e4 := same_new (o := .tup [.int 2, .ref b]) na
    have N : NetAt 2 (upd (upd (upd (upd H t1 (.tup [.int 0, .int 1])) t2 (.tup [.int 1, .int 0])) b (.tup [.ref t1, .ref t2])) a (.tup [.int 2, .ref b])) a b [.ref t1, .ref t2] := by
      refine ⟨upd_same, e4 _ _ upd_same, fun x hx => ?_, by show 2 ≤ 200; decide, by decide, by decide⟩
      simp only [List.mem_cons, List.not_mem_nil, or_false] at hx
      rcases hx with rfl | rfl
      · exact ⟨t1, 0, 1, rfl, e4 _ _ (e3 _ _ (e2 _ _ upd_same)), ⟨by decide, by decide⟩, by decide, by decide⟩
      · exact ⟨t2, 1, 0, rfl, e4 _ _ (e3 _ _ upd_same), ⟨by decide, by decide⟩, by decide, by decide⟩
    have AR : ArsAt (upd (upd (upd (upd H t1 (.tup [.int 0, .int 1])) t2 (.tup [.int 1, .int 0])) b (.tup [.ref t1, .ref t2])) a (.tup [.int 2, .ref b])) [.ref t1, .ref t2] [(0, 1), (1, 0)] :=
      .cons ⟨t1, rfl, e4 _ _ (e3 _ _ (e2 _ _ upd_same))⟩ (.cons ⟨t2, rfl, e4 _ _ (e3 _ _ upd_same)⟩ .nil)
    have eA := ((e1.trans e2).trans e3).trans e4
    have D1 := D0.same eA
    generalize (upd (upd (upd (upd H t1 (.tup [.int 0, .int 1])) t2 (.tup [.int 1, .int 0])) b (.tup [.ref t1, .ref t2])) a (.tup [.int 2, .ref b])) = H1 at N AR eA D1 ⊢
    refine ⟨D1, fun ys H2 ly dy D2 k2 => ⟨by rw [ly, sizeLine_eq]; omega, fun vL nvL => ⟨_, _, rfl, ?_⟩⟩⟩
    have N2 := N.keep (.kp D1 k2)
    have AR2 := AR.keep (.kp D1 k2)
    have e5 : Same H2 (upd H2 vL (.lst ys)) := same_new nvL
    have ov := D2.ne_none nvL
    have D3 := D2.same e5
    refine ⟨D3, fun zs H3 lz dz D4 k3 => ⟨by rw [lz, sizeLine_eq]; omega, fun lL nlL => ?_⟩⟩
    have e6 : Same H3 (upd H3 lL (.lst zs)) := same_new nlL
    have ol := D4.ne_none nlL
    have D5 := D4.same e6
    have hv5 := e6 _ _ (k3 _ _ (show (upd H2 vL (.lst ys)) vL = some (.lst ys) from upd_same) ov.1 ov.2)
    have kA : Kp p d H2 (upd H3 lL (.lst zs)) := ((Kp.of e5).trans k3).trans (.of e6)
    have N5 := N2.keep (.kp D2 kA)
    have AR5 := AR2.keep (.kp D2 kA)
    have dy5 : ∀ x ∈ ys, Dat K (UW p d fun _ => True) 7000 10 (upd H3 lL (.lst zs)) x := fun x hx => (dy x hx).kp kA
    have dz5 : ∀ x ∈ zs, Dat K (UW p d fun _ => True) 7000 10 (upd H3 lL (.lst zs)) x := fun x hx => (dz x hx).kp (.of e6)
    have kH : Kp p d H (upd H3 lL (.lst zs)) := ((Kp.of eA).trans k2).trans kA
    have hl5 : (upd H3 lL (.lst zs)) lL = some (.lst zs) := upd_same
    generalize (upd H3 lL (.lst zs)) = H5 at D5 hv5 N5 AR5 dy5 dz5 kH hl5 ⊢
    refine ⟨_, rfl, _, rfl, _, rfl, p, d, lL, zs, rfl, D5, hl5, by omega, fun r ms H6 D6 k6 nr hrm pm => ⟨2, rfl, r, ms, rfl, SqL.of hrm, fun c nc => ?_⟩⟩
    have e7 : Same H6 (upd H6 c (.lst (cutV ms none (some 2)))) := same_new nc
    have hv6 := e7 _ _ (k6 _ _ hv5 ov.1 ov.2)
    have lc := cutV_length ms none (some 2)
    have lm := pm.length_eq
    refine ⟨vL, c, _, _, rfl, rfl, hv6, upd_same, by rw [ly, sizeLine_eq]; omega, fun q nq => ⟨q, rfl, ⟨_, SqL.of upd_same⟩, ?_⟩⟩
    have e8 := e7.trans (same_new (o := .lst (ys ++ cutV ms none (some 2))) nq)
    have D8 := D6.same e8
    have k8 : Kp p d H5 _ := k6.trans (.of e8)
    have N8 := N5.keep (.kp D5 k8)
    have AR8 := AR5.keep (.kp D5 k8)
    have hall : ∀ x ∈ ys ++ cutV ms none (some 2), Dat K (UW p d fun _ => True) 7000 10 (upd (upd H6 c (.lst (cutV ms none (some 2)))) q (.lst (ys ++ cutV ms none (some 2)))) x := fun x hx => by
      rcases List.mem_append.mp hx with h | h
      · exact (dy5 x h).kp k8
      · exact (dz5 x (pm.mem_iff.mp (cutV_mem h))).kp k8
    have hq8 : (upd (upd H6 c (.lst (cutV ms none (some 2)))) q (.lst (ys ++ cutV ms none (some 2)))) q = some (.lst (ys ++ cutV ms none (some 2))) := upd_same
    have kH8 := kH.trans k8
    generalize (ys ++ cutV ms none (some 2)) = ws at hall hq8 D8 N8 AR8 kH8 ⊢
    generalize (upd (upd H6 c (.lst (cutV ms none (some 2)))) q (.lst ws)) = H8 at hall hq8 D8 N8 AR8 kH8 ⊢
    refine for_it (walk_list (xs := ws)) (fun i σ H' => ∃ s4, σ = [some (.ref p), some (.ref a), some (.ref vL), some (.ref lL), s4] ∧ Same H8 H') ⟨none, rfl, Same.refl _⟩ (fun i σ H' _ h => by obtain ⟨_, _, h⟩ := h; exact SqL.of (h _ _ hq8)) ?_ ?_
    · rintro i x σ H9 HA hi ⟨s4, rfl, s9⟩ ⟨rfl, ex⟩
      obtain ⟨dd, as, gx, gu, gs, gw, gd⟩ := (hall x (List.mem_of_getElem? ex)).kp (.of s9)
      have ra : ∀ {H' : Hp}, Same HA H' → RepAll K H' [dd] [x] as := fun {H'} e => by
        simp only [RepAll]
        exact ⟨x, [], as, [], rfl, gx.same e, ⟨rfl, rfl⟩, by simp⟩
      refine ⟨_, rfl, _, rfl, by show 1 ≤ sizeLine; decide, fun T nT => ?_⟩
      have f1 : Same HA (upd HA T (.tup [x])) := same_new nT
      have eT := s9.trans f1
      have wtt : wt (.tup [dd]) ≤ 10000000 := by
        simp only [wt, wtAll]
        omega
      refine ⟨a, b, 2, _, _, .ref T, .tup [dd], T :: as, rfl, N8.keep (.of eT), AR8.keep (.of eT), rep_newT (ra (Same.refl _)) nT, wtt, fun r1 v1 b1 HB i1 sB rr1 sm1 w1 p1 => ?_⟩
      refine ⟨v1, r1, b1, rfl, rr1, i1.said, sm1, w1, p1, ?_⟩
      have eB := eT.trans sB
      refine ⟨_, rfl, _, rfl, by show 1 ≤ sizeLine; decide, fun T2 nT2 => ?_⟩
      have f2 : Same HB (upd HB T2 (.tup [x])) := same_new nT2
      have eT2 := eB.trans f2
      refine ⟨a, b, 2, _, _, .ref T2, .tup [dd], T2 :: as, rfl, N8.keep (.of eT2), AR8.keep (.of eT2), rep_newT (ra (f1.trans sB)) nT2, wtt, fun r2 v2 b2 HC i2 sC rr2 sm2 w2 p2 => ?_⟩
      obtain rfl := i1.det i2
      refine ⟨v2, r1, b2, rfl, rr2, i2.said, sm2, w2, p2, rfl, _, rfl, ?_⟩
      rw [same_str rfl]
      exact iteF ⟨_, rfl, eT2.trans sC⟩
    · rintro σ H9 ⟨s4, rfl, s9⟩
      exact k H9 (D8.same s9) (kH8.trans (.of s9))
end
end Sw
namespace Sw
open PySem L2
theorem cut63 (ns : List Int) : ∃ ms : List Int, cutV (ns.map V.int) none (some 63) = ms.map V.int ∧ ms.length ≤ 63 := by
  refine ⟨ns.take 63, ?_, by rw [List.length_take]; omega⟩
  have e : cutV (ns.map V.int) none (some ((63 : Nat) : Int)) = (ns.take 63).map V.int := by
    unfold cutV
    rw [HT.sIx_nat, HT.sIx_none, List.drop_zero, Nat.sub_zero, List.length_map, List.map_take]
    by_cases h : 63 ≤ ns.length
    · rw [show min 63 ns.length = 63 by omega]
    · rw [show min 63 ns.length = ns.length by omega, List.take_of_length_le (by rw [List.length_map]; exact Nat.le_refl _), List.take_of_length_le (by rw [List.length_map]; omega)]
  exact e
section
variable {P : Program} {w : World} {K : PySem.W.Frag} {mg : Str → Option Value} {base : Heap}
def spDeckX (K : PySem.W.Frag) : Sp := fun vs H Q _ => ∃ (a : Addr) (ns : List Int), vs = [.ref a] ∧ SqL K H a (ns.map V.int) ∧ ns.length ≤ 64 ∧ ∀ (p d : Addr) (H' : Hp), Same H H' → H p = none → H d = none → Deck H' p d 63 → Q (.ref p) H'
theorem ok_deckX {f : Addr} {fd : FuncData} (F : Fun K "_law_deck" "_law_deck" sDeck f fd) (B : NoNames mg) : FnOk P w K mg base CX0 1 f fd ["script"] (spDeckX K) := by
  refine F.ok scDeck (fun vs H Q E h => ?_) (fun cdv A outer s H vs Q E hr h => ?_)
  · obtain ⟨a, ns, rfl, _⟩ := h
    rfl
  · obtain ⟨a, ns, rfl, hS, hl, k⟩ := h
    have hu := hu_of hr
    refine ⟨_, pss_cons (ps_set (i := 1) scDeck.nd rfl (.inl rfl) (pe_disp (pps_cons pe_str (pe_lst pa_nil) (pps_cons pe_str (pe_op op_add pe_int (pe_callB call_len_seq (by rfl) B.len PySem.boot_len (pa_cons (pe_slice sl_list (pv 0) po_none (po_some pe_int)) pa_nil))) pps_nil)) (by rfl) (by rfl) (fun z => by cases z) (by decide)))
      (pss_cons (ps_for PassesOwn.never rfl (pi_list (pe_slice sl_list (pv 0) po_none (po_some pe_int))) (pg_name (i := 2) scDeck.nd rfl (.inl rfl))
        (pss_cons (ps_set (i := 3) scDeck.nd rfl (.inl rfl) (pe_callB call_abs (by rfl) B.abs (by decide +kernel) (pa_cons (pv 2) pa_nil)))
        (pss_cons (ps_if (pt_cmpR op_ge (pv 3) (pe_op op_pow pe_int pe_int) (nomark _)) (pss_one (ps_dput hu (pv 1) pe_str (pe_op op_cat (pe_lst (pa_cons (pv 3) pa_nil)) (pe_dget hu (pv 1) pe_str (fun _ _ => rfl))) rfl)) pss_nil)
        (pss_cons (ps_set (i := 4) scDeck.nd rfl (.inl rfl) (pe_op op_add (pe_op op_mul (pe_op op_add (pe_op op_add (pe_op op_add (pe_dget hu (pv 1) pe_str (fun _ _ => rfl)) (pe_op op_mul pe_int (pv 3)))
            (pe_callTy call_int1 (by rfl) B.int (by decide +kernel) (pa_cons (pe_cmpR op_lt (pv 2) pe_int (nomark _)) pa_nil))) pe_int) pe_int) pe_int))
        (pss_one (ps_dput hu (pv 1) pe_str (pe_op op_mod (pe_callTy call_int1 (by rfl) B.int (by decide +kernel) (pa_cons (pv 4) pa_nil)) pe_int) rfl))))))
      (pss_one (ps_ret (pv 1)))), ?_⟩
    -- the deck
    intro p np
    refine ⟨Nat.zero_le _, fun l nl => ?_⟩
    have nlp : p ≠ l := fun z => by
      rw [z, upd_same] at nl
      cases nl
    have nl0 : H l = none := by
      rw [upd_ne nlp.symm] at nl
      exact nl
    have s1 : Same H (upd (upd H p (.dK [])) l (.lst [])) := (same_new np).trans (same_new nl)
    obtain ⟨ms, em, lm⟩ := cut63 ns
    refine ⟨_, rfl, 63, rfl, a, ns.map V.int, rfl, s1.seq hS, fun c nc => ?_⟩
    rw [em]
    refine ⟨c, _, rfl, .inl (SqL.of upd_same), _, _, rfl, rfl, ?_⟩
    have s2 := s1.trans (same_new (o := .lst (ms.map V.int)) nc)
    have ncp : p ≠ c := fun z => by
      rw [← z, upd_ne nlp, upd_same] at nc
      cases nc
    have ncl : l ≠ c := fun z => by
      rw [← z, upd_same] at nc
      cases nc
    refine ⟨by rw [upd_ne ncp, upd_ne nlp, upd_same], [(kD, .ref l), (kS, .int (1279809 + ((ms.map V.int).length : Int)))], rfl, by show 2 ≤ 15; decide, ?_⟩
    rw [deck_new]
    have em2 : (ms.map V.int).length ≤ 63 := by
      rw [List.length_map]
      omega
    have d0 : Deck (upd (upd (upd (upd H p (.dK [])) l (.lst [])) c (.lst (ms.map V.int))) p (.dK (deckL l (1279809 + ((ms.map V.int).length : Int))))) p l 0 :=
      ⟨[], _, upd_same, by rw [upd_ne nlp.symm, upd_ne ncl, upd_same]; rfl, Nat.le_refl _, fun _ h => absurd h (by simp), by omega, by omega⟩
    have s3 : Same H (upd (upd (upd (upd H p (.dK [])) l (.lst [])) c (.lst (ms.map V.int))) p (.dK (deckL l (1279809 + ((ms.map V.int).length : Int))))) := fun b o e => by
      rw [upd_ne (ne_of_none e np)]
      exact s2 b o e
    -- for cell in script[:63]
    refine ⟨_, rfl, 63, rfl, a, ns.map V.int, rfl, s3.seq hS, fun c2 nc2 => ?_⟩
    rw [em]
    have s4 := s3.trans (same_new (o := .lst (ms.map V.int)) nc2)
    have p0 : ∀ {H' : Hp}, (∃ d', Deck H' p d' 0) → True := fun _ => trivial
    refine ⟨c2, rfl, ⟨_, SqL.of upd_same⟩, for_it (walk_list (xs := ms.map V.int)) (fun i σ H' => ∃ s2 s3 s4 d', σ = [some (.ref a), some (.ref p), s2, s3, s4] ∧ Same H H' ∧ H' c2 = some (.lst (ms.map V.int)) ∧ H d' = none ∧ Deck H' p d' i)
      ⟨none, none, none, l, rfl, s4, upd_same, nl0, d0.same (same_new nc2)⟩ (fun i σ H' _ h => by obtain ⟨_, _, _, _, _, _, h3, _⟩ := h; exact SqL.of h3) ?_ ?_⟩
    · rintro i x σ H0 H1 hi ⟨t2, t3, t4, d', rfl, w1, w2, w3, D⟩ ⟨rfl, ex⟩
      obtain ⟨z, rfl⟩ : ∃ z, x = V.int z := by
        rw [List.getElem?_map] at ex
        cases q : ms[i]? with
        | none => rw [q] at ex; cases ex
        | some z => rw [q] at ex; exact ⟨z, (Option.some.inj ex).symm⟩
      have hi63 : i < 63 := by
        rw [List.length_map] at hi
        omega
      -- whole = abs(cell)
      refine ⟨_, rfl, z, rfl, ?_⟩
      obtain ⟨deep, st, hp1, hd1, hl1, hn1, hs1, hs2⟩ := id D.ex
      have hW : 0 ≤ (if z < 0 then -z else z) := by split <;> omega
      generalize (if z < 0 then -z else z) = W at hW ⊢
      refine ⟨_, rfl, _, _, rfl, rfl, ⟨by decide, by decide, by decide⟩, _, _, rfl, rfl, _, rfl, ?_⟩
      refine ite2 (fun _ => ?yes) (fun _ => ?no)
      case' yes =>
        -- deck["deep"] = [whole] + deck["deep"]
        refine ⟨_, rfl, by show 1 ≤ sizeLine; decide, fun q nq => ?_⟩
        have sq : Same H1 (upd H1 q (.lst [.int W])) := same_new nq
        refine ⟨_, rfl, p, _, rfl, dget_deep (sq _ _ hp1), q, d', _, _, rfl, rfl, upd_same, sq _ _ hd1, ?_, fun e ne => ?_⟩
        · rw [List.length_map, sizeLine_eq]
          show 1 + deep.length ≤ _
          omega
        have se := sq.trans (same_new (o := .lst ([V.int W] ++ deep.map V.int)) ne)
        refine ⟨_, rfl, p, _, rfl, dput_deep e (se _ _ hp1), ?_⟩
        have ep : e ≠ p := fun y => by
          rw [y, sq _ _ hp1] at ne
          cases ne
        have cp : c2 ≠ p := ne_of w2 hp1 (by intro y; cases y)
        have e0 : H e = none := w1.free (sq.free ne)
        have y1 : Same H (upd (upd (upd H1 q (.lst [.int W])) e (.lst ([V.int W] ++ deep.map V.int))) p (.dK (deckL e st))) := fun b o h => by
          rw [upd_ne (ne_of_none h np)]
          exact se _ _ (w1 b o h)
        have y2 : (upd (upd (upd H1 q (.lst [.int W])) e (.lst ([V.int W] ++ deep.map V.int))) p (.dK (deckL e st))) c2 = some (.lst (ms.map V.int)) := by
          rw [upd_ne cp]
          exact se _ _ w2
        have y3 : ∃ (d2 : Addr) (deep2 : List Int) (st2 : Int), (H d2 = none ∧ (upd (upd (upd H1 q (.lst [.int W])) e (.lst ([V.int W] ++ deep.map V.int))) p (.dK (deckL e st))) p = some (.dK (deckL d2 st2)) ∧
            (upd (upd (upd H1 q (.lst [.int W])) e (.lst ([V.int W] ++ deep.map V.int))) p (.dK (deckL e st))) d2 = some (.lst (deep2.map V.int)) ∧ deep2.length ≤ i + 1 ∧ (∀ n ∈ deep2, 0 ≤ n)) ∧ 0 ≤ st2 ∧ st2 < 2 ^ 61 :=
          ⟨e, W :: deep, st, ⟨e0, upd_same, by rw [upd_ne ep, upd_same]; rfl, by simp only [List.length_cons]; omega, fun n hn => by
            rcases List.mem_cons.mp hn with y | y
            · rw [y]; exact hW
            · exact hn1 n y⟩, hs1, hs2⟩
        generalize (upd (upd (upd H1 q (.lst [.int W])) e (.lst ([V.int W] ++ deep.map V.int))) p (.dK (deckL e st))) = H2 at y1 y2 y3 ⊢
      case' no =>
        have y1 : Same H H1 := w1
        have y2 : H1 c2 = some (.lst (ms.map V.int)) := w2
        have y3 : ∃ (d2 : Addr) (deep2 : List Int) (st2 : Int), (H d2 = none ∧ H1 p = some (.dK (deckL d2 st2)) ∧ H1 d2 = some (.lst (deep2.map V.int)) ∧ deep2.length ≤ i + 1 ∧ (∀ n ∈ deep2, 0 ≤ n)) ∧ 0 ≤ st2 ∧ st2 < 2 ^ 61 :=
          ⟨d', deep, st, ⟨w3, hp1, hd1, by omega, hn1⟩, hs1, hs2⟩
        generalize H1 = H2 at y1 y2 y3 ⊢
      all_goals
        obtain ⟨d2, deep2, st2, ⟨g0, g1, g2, g3, g4⟩, g5, g6⟩ := y3
        -- state
        refine ⟨_, rfl, p, _, rfl, dget_state g1, _, rfl, _, _, rfl, rfl, .inl ⟨by decide, by decide⟩, _, _, rfl, rfl, ?_⟩
        refine ⟨_, rfl, _, _, rfl, rfl, .inr ⟨_, rfl, _, _, rfl, rfl, ?_⟩⟩
        refine ⟨_, _, rfl, rfl, _, _, rfl, rfl, .inr ⟨by decide, by decide⟩, _, _, rfl, rfl, ?_⟩
        refine ⟨_, rfl, .inl ⟨_, rfl, _, _, rfl, rfl, (by show (0 : Int) < 2305843009213693951; decide), _, rfl, p, _, rfl, dput_state _ g1, ?_⟩⟩
        have np2 : p ≠ d2 := ne_of g1 g2 (by intro y; cases y)
        have cp : c2 ≠ p := ne_of y2 g1 (by intro y; cases y)
        refine ⟨_, _, _, d2, rfl, fun b o h => ?_, ?_, g0, ⟨deep2, _, upd_same, ?_, g3, g4, Int.emod_nonneg _ (by decide), Int.lt_of_lt_of_le (Int.emod_lt_of_pos _ (by decide)) (by decide)⟩⟩
        · rw [upd_ne (ne_of_none h np)]
          exact y1 b o h
        · rw [upd_ne cp]
          exact y2
        · rw [upd_ne np2.symm]
          exact g2
    · rintro σ H1 ⟨t2, t3, t4, d', rfl, w1, w2, w3, D⟩
      refine ⟨_, rfl, k p d' H1 w1 np w3 (D.mono ?_)⟩
      rw [List.length_map]
      omega
end
end Sw
namespace Sw
open PySem PySem.Spec PyProof.Rows L2
abbrev sLawJ : Stmt := top 29
abbrev nLawJ : List Str := ["script", "deck", "late", "turn", "n", "net", "journey", "values", "stop", "kept", "spot", "value", "seen", "again"]
theorem scLawJ : FnScope nLawJ ["script"] (defScope sLawJ) := ⟨rfl, rfl, rfl, by decide +kernel, rfl, by decide +kernel, by decide +kernel⟩
theorem deck_kp {H H' : Hp} {p d p2 d2 : Addr} {m : Nat} (D : Deck H p d m) (k : Kp p2 d2 H H') (n1 : p ≠ p2) (n2 : p ≠ d2) (n3 : d ≠ p2) (n4 : d ≠ d2) : Deck H' p d m := by
  obtain ⟨ns, st, h1, h2, r⟩ := D.ex
  exact ⟨ns, st, k _ _ h1 n1 n2, k _ _ h2 n3 n4, r⟩
theorem wokL {H : Hp} {L : Addr} {xs : List V} (h : H L = some (.lst xs)) : WOk (fun c => c ≠ L) H :=
  ⟨(fun a e z => by rw [z, h] at e; cases e), (fun a zs e z => by rw [z, h] at e; cases e)⟩
theorem legD {K : PySem.W.Frag} {W : Addr → Prop} {p d T1 T2 : Addr} {H : Hp} {i t : Int} (h1 : H T1 = some (.tup [.int i])) (h2 : H T2 = some (.tup [.ref T1, .int t])) (hi : i.natAbs < 1000) (ht : t.natAbs < 10 ^ 31) (D0 : Deck H p d 63) (wk : WOk W H) : Dat K (UW p d W) 50 2 H (.ref T2) := by
  obtain ⟨i1, i2, i3, i4⟩ := int_ok (K := K) (H := H) (i := i) (w := 3) (k := 0) hi (by decide) (by decide)
  obtain ⟨j1, j2, j3, j4⟩ := int_ok (K := K) (H := H) (i := t) (w := 31) (k := 0) ht (by decide) (by decide)
  refine ⟨.tup [.tup [.int i], .int t], [T2, T1], ?_, fun b hb => ?_, ?_, ?_, ?_⟩
  · rw [Rep]
    refine ⟨T2, _, [T1], rfl, h2, ?_, fun z => ?_, rfl⟩
    · rw [RepAll]
      refine ⟨_, _, [T1], [], rfl, ?_, ?_, rfl⟩
      · rw [Rep]
        exact ⟨T1, _, [], rfl, h1, by simp [RepAll, Rep], by simp, rfl⟩
      · rw [RepAll]
        exact ⟨_, _, [], [], rfl, j1, by simp [RepAll], rfl⟩
    · rw [List.mem_singleton.mp z, h1] at h2
      cases h2
  · simp only [List.mem_cons, List.not_mem_nil, or_false] at hb
    rcases hb with rfl | rfl
    · exact ⟨D0.tne h2, wk.tup _ _ h2⟩
    · exact ⟨D0.tne h1, wk.tup _ _ h1⟩
  · simp only [small, smallAll] at i2 j2 ⊢
    exact ⟨⟨i2, trivial⟩, j2, trivial⟩
  · simp only [wt, wtAll] at i3 j3 ⊢
    omega
  · simp only [dep, depAll]
    decide
def JJ0 (i : V × Addr × Addr) (σ : L2.St) (H : Hp) : Prop := ∃ p2 d2, σ = [some i.1, some (.ref i.2.1), some (.ref p2), none, none, none, none, none, none, none, none, none, none, none] ∧ Deck H i.2.1 i.2.2 63 ∧ Deck H p2 d2 63 ∧ i.2.1 ≠ p2 ∧ i.2.1 ≠ d2 ∧ i.2.2 ≠ p2 ∧ i.2.2 ≠ d2
def JJ1 (i : V × Addr × Addr) (σ : L2.St) (H : Hp) : Prop := ∃ s2, σ = [some i.1, some (.ref i.2.1), s2, none, none, none, none, none, none, none, none, none, none, none] ∧ Deck H i.2.1 i.2.2 63
def JV (K : PySem.W.Frag) (m : Nat) (i : V × Addr × Addr) (σ : L2.St) (H : Hp) : Prop := ∃ (t n : Int) (a b L jr : Addr) (ts : List V) (ars : List (Int × Int)) (xs : List V) (s2 s8 s9 s10 s11 s12 s13 : Option V),
  σ = [some i.1, some (.ref i.2.1), s2, some (.int t), some (.int n), some (.ref a), some (.ref jr), some (.ref L), s8, s9, s10, s11, s12, s13] ∧ Deck H i.2.1 i.2.2 63 ∧ NetAt n H a b ts ∧ ArsAt H ts ars ∧ H L = some (.lst xs) ∧ L ≠ i.2.2 ∧ xs.length ≤ m ∧ ∀ x ∈ xs, Dat K (UW i.2.1 i.2.2 fun c => c ≠ L) 50000 14 H x
theorem Dat.subU {K : PySem.W.Frag} {U V' : Addr → Prop} {w k : Nat} {H : Hp} {x : V} (h : Dat K U w k H x) (o : ∀ a, U a → V' a) : Dat K V' w k H x := by
  obtain ⟨dd, as, h1, h2, h3⟩ := h
  exact ⟨dd, as, h1, fun a ha => o a (h2 a ha), h3⟩
theorem wkT {H : Hp} : WOk (fun _ => True) H := ⟨fun _ _ => trivial, fun _ _ _ => trivial⟩
section
variable {P : Program} {w : World} {K : PySem.W.Frag} {mg : Str → Option Value} {base : Heap}
structure OwnsJ (P : Program) (w : World) (K : PySem.W.Frag) (mg : Str → Option Value) (base : Heap) : Prop where
  deck : Own P w K mg base 1 "_law_deck" ["script"] (spDeckX K)
  draw : Own P w K mg base 1 "_law_draw" ["deck", "many"] spDrawX
  net : Own P w K mg base 3 "_law_net" ["deck", "n"] spNet
  jour : Own P w K mg base 4 "_law_journey" ["deck", "net", "many"] spLJourney
  spoilt : Own P w K mg base 4 "_law_spoilt" ["deck", "net", "journey"] (spSpoiltJ K)
  due : Own P w K mg base 3 "_law_due" ["net", "value"] (spJn K)
  err : OwnJ P w K mg base 5
  far : OwnG P w K mg base 6 "_law_is_far" ["deck"] spFarJ
theorem law_bodyJ (B : NoNames mg) (O : OwnsJ P w K mg base) {f : Addr} {cdv : Value} {A : Around} {outer : List Env} {s : Shared} {H : Hp} {vs : List V} {Q : VK} {E : XK}
    (hr : Room 6 (A.deeper (envOfC "law" (defScope sLawJ) s.heap.objs.size f cdv))) (hgd : (A.deeper (envOfC "law" (defScope sLawJ) s.heap.objs.size f cdv)).guards = some []) (h : spLaw K vs H Q E) :
    ∃ t, PSs (cxOf CX0 P w K mg base nLawJ "law" (defScope sLawJ) f cdv A outer s H E).nox (defBody sLawJ) t ∧ t { nx := fun _ H' => Q .non H', rt := Q } (start nLawJ vs) H := by
  obtain ⟨fK, fdK, GK, mK, kK, bK⟩ := O.deck.ex
  obtain ⟨fD, fdD, GD, mD, kD, bD⟩ := O.draw.ex
  obtain ⟨fN, fdN, GN, mN, kN, bN⟩ := O.net.ex
  obtain ⟨fY, fdY, GY, mY, kY, bY⟩ := O.jour.ex
  obtain ⟨fS, fdS, GS, mS, kS, bS⟩ := O.spoilt.ex
  obtain ⟨fU, fdU, GU, mU, kU, bU⟩ := O.due.ex
  obtain ⟨fE, fdE, GE, mE, kE, bE, wE⟩ := O.err.ex
  obtain ⟨fF, fdF, GF, mF, kF, bF⟩ := O.far.ex
  obtain ⟨sa, ns, rfl, hS, hl, k⟩ := h
  have hr1 : Room 1 _ := hr.mono (by decide)
  have hr3 : Room 3 _ := hr.mono (by decide)
  have hr4 : Room 4 _ := hr.mono (by decide)
  have hr5 : Room 5 _ := hr.mono (by decide)
  have b20 : (20 : Int) ≤ BigT := by decide
  refine ⟨_, pss_cons (ps_asg (pe_tup (pa_cons (pe_call GK hr1 rfl mK kK bK .nil pass0 (pa_cons (pv 0) pa_nil)) (pa_cons (pe_call GK hr1 rfl mK kK bK .nil pass0 (pa_cons (pe_op op_cat (pe_lst (pa_cons pe_int pa_nil)) (pe_callTy call_list_of (by rfl) B.list (by decide +kernel) (pa_cons (pv 0) pa_nil))) pa_nil)) pa_nil)))
      (pg_tup (by rfl) (pgs_cons (pg_name (i := 1) scLawJ.nd rfl (.inr rfl)) (pgs_cons (pg_name (i := 2) scLawJ.nd rfl (.inl rfl)) pgs_nil)))) <|
    pss_cons (ps_cutI JJ0 JJ1 (ps_if (PW.pt (pw_and (pt_cmpR op_eq (pe_call GD hr1 rfl mD kD bD .nil pass0 (pa_cons (pv 2) (pa_cons pe_int pa_nil))) pe_int (nomark _)) (pw_and1 (pt_not (pt_val (pe_callG GF hr hgd rfl mF kF bF pass0 (pa_cons (pv 2) pa_nil)))))))
      (pss_one (ps_ret pe_bl)) pss_nil) ?c0) <|
    pss_cons (ps_for PassesOwn.never rfl (pi_range1 (by rfl) B.range (pa_cons pe_int pa_nil)) (pg_name (i := 3) scLawJ.nd rfl (.inl rfl))
      (pss_cons (ps_set (i := 4) scLawJ.nd rfl (.inl rfl) (pe_ix ix_list (pe_lst (pa_cons pe_int (pa_cons pe_int (pa_cons pe_int (pa_cons pe_int (pa_cons pe_int (pa_cons pe_int (pa_cons pe_int
        (pa_cons (pe_op op_add pe_int (pe_call GD hr1 rfl mD kD bD .nil pass0 (pa_cons (pv 1) (pa_cons pe_int pa_nil)))) pa_nil))))))))) (pv 3) (fun _ _ => rfl))) <|
      pss_cons (ps_set (i := 5) scLawJ.nd rfl (.inr rfl) (pe_call GN hr3 rfl mN kN bN .nil pass0 (pa_cons (pv 1) (pa_cons (pv 4) pa_nil)))) <|
      pss_cons (ps_set (i := 6) scLawJ.nd rfl (.inr rfl) (pe_call GY hr4 rfl mY kY bY .nil pass0 (pa_cons (pv 1) (pa_cons (pv 5) (pa_cons (pe_call GD hr1 rfl mD kD bD .nil pass0 (pa_cons (pv 1) (pa_cons pe_int pa_nil))) pa_nil))))) <|
      pss_cons (ps_set (i := 7) scLawJ.nd rfl (.inl rfl) (pe_op op_cat (pe_lst (pa_cons (pv 6) pa_nil)) (pe_lc (own := [("again", 13)]) (g := gName 13) (tt := tYes) rfl scLawJ.nd (pi_range1 (by rfl) B.range (pa_cons pe_int pa_nil))
        (blkOk_by (own := [("again", 13)]) (N := nLawJ) (sc := defScope sLawJ) (by decide +kernel)) (fun _ _ _ _ _ => pg_name (i := 13) scLawJ.nd rfl (Or.inl rfl)) (fun _ _ _ _ _ => pts_nil)
        (fun _ _ _ _ _ => pe_call GS hr4 rfl mS kS bS .nil pass0 (pa_cons (pv 1) (pa_cons (pv 5) (pa_cons (pv 6) pa_nil))))))) <|
      pss_cons (ps_cutI (JV K 6) (JV K 9) (ps_if (PW.pt (pw_and (pt_cmpR op_eq (pv 3) pe_int (nomark _)) (pw_and1 (pt_cmpR op_eq (pe_call GD hr1 rfl mD kD bD .nil pass0 (pa_cons (pv 1) (pa_cons pe_int pa_nil))) pe_int (nomark _)))))
        (pss_cons (ps_set (i := 8) scLawJ.nd rfl (.inl rfl) (pe_call GD hr1 rfl mD kD bD .nil pass0 (pa_cons (pv 1) (pa_cons (pv 4) pa_nil)))) <|
        pss_cons (ps_set (i := 7) scLawJ.nd rfl (.inl rfl) (pe_op op_cat (pv 7) (pe_lst (pa_cons (pe_op (r := rRepT K) op_repT (pe_tup (pa_cons (pe_tup (pa_cons (pe_tup (pa_cons (pv 8) pa_nil)) (pa_cons pe_int pa_nil))) pa_nil)) pe_int)
          (pa_cons (pe_op (r := rRepT K) op_repT (pe_tup (pa_cons (pe_tup (pa_cons (pe_tup (pa_cons (pv 8) pa_nil)) (pa_cons (pe_op op_pow pe_int pe_int) pa_nil))) pa_nil)) pe_int) pa_nil))))) <|
        pss_one (ps_expr (pe_bm PySem.F.plainAttrs_list PySem.F.slot_list_append PySem.F.type_list_append mt_append (pv 7) (pa_cons (pe_op (r := rCatA K) op_catA (pe_op (r := rRepT K) op_repT (pe_tup (pa_cons (pe_tup (pa_cons (pe_tup (pa_cons (pv 8) pa_nil)) (pa_cons pe_int pa_nil))) pa_nil)) pe_int)
          (pe_tup (pa_cons (pe_tup (pa_cons (pe_tup (pa_cons (pv 4) pa_nil)) (pa_cons pe_int pa_nil))) pa_nil))) pa_nil)))) pss_nil) ?c1) <|
      pss_cons (ps_set (i := 9) scLawJ.nd rfl (.inl rfl) (pe_callB (call_repr hr hgd) (by rfl) B.repr (by decide +kernel) (pa_cons (pv 7) pa_nil))) <|
      pss_cons (ps_for PassesOwn.never rfl (pi_enum (by rfl) B.enumerate (pa_cons (pv 7) pa_nil)) (pg_tup rfl (pgs_cons (pg_name (i := 10) scLawJ.nd rfl (.inl rfl)) (pgs_cons (pg_name (i := 11) scLawJ.nd rfl (.inl rfl)) pgs_nil)))
        (pss_cons (ps_set (i := 12) scLawJ.nd rfl (.inl rfl) (pe_ifExp (pt_cmpR op_eq (pv 10) (pv 3) (nomark _)) (pe_callW GE hr5 rfl mE kE wE pass0 (pk_cons (pv 11) (pk_cons (pv 5) pk_nil))) (pe_call GE hr5 rfl mE kE bE .nil pass0 (pa_cons (pv 5) (pa_cons (pv 11) pa_nil))))) <|
        pss_one (ps_if (pt_cmpR op_ne (pe_callB (call_repr hr hgd) (by rfl) B.repr (by decide +kernel) (pa_cons (pe_lst (pa_cons (pv 12) (pa_cons (pe_call GE hr5 rfl mE kE bE .nil pass0 (pa_cons (pv 5) (pa_cons (pv 11) pa_nil))) pa_nil))) pa_nil))
          (pe_callB (call_repr hr hgd) (by rfl) B.repr (by decide +kernel) (pa_cons (pe_op op_rep (pe_lst (pa_cons (pe_call GU hr3 rfl mU kU bU .nil pass0 (pa_cons (pv 5) (pa_cons (pv 11) pa_nil))) pa_nil)) pe_int) pa_nil)) (nomark _)) (pss_one (ps_ret pe_bl)) pss_nil))) <|
      pss_one (ps_if (pt_cmpR op_ne (pe_callB (call_repr hr hgd) (by rfl) B.repr (by decide +kernel) (pa_cons (pv 7) pa_nil)) (pv 9) (nomark _)) (pss_one (ps_ret pe_bl)) pss_nil))) <|
    pss_one (ps_ret pe_bl), ?_⟩
  case c0 =>
    rintro ⟨sc, p, d⟩ D σ H1 ⟨p2, d2, rfl, D1, D2, n1, n2, n3, n4⟩ nx
    refine ⟨_, rfl, p2, d2, 5, rfl, D2, by omega, fun r H2 _ _ _ D3 k2 => ⟨rfl, _, rfl, ?_⟩⟩
    have D4 := deck_kp D1 k2 n1 n2 n3 n4
    refine ite2 (fun _ => ?_) (fun _ => iteF (nx _ _ ⟨_, rfl, D4⟩))
    exact ⟨_, rfl, p2, d2, rfl, D3, fun H3 D5 k3 => ⟨_, rfl, iteF (nx _ _ ⟨_, rfl, deck_kp D4 k3 n1 n2 n3 n4⟩)⟩⟩
  case c1 =>
    rintro ⟨sc, p, d⟩ D σ H1 ⟨t, n, a, b, L, jr, ts, ars, xs, s2, s8, s9, s10, s11, s12, s13, rfl, D1, N, AR, hL, nd, lx, dx⟩ nx
    dsimp only at D1 nd dx
    have n1 := N.n1
    have n2 := N.n2
    refine ⟨_, rfl, rfl, _, rfl, ?_⟩
    refine ite2 (fun _ => ?_) (fun _ => iteF (nx _ _ ⟨t, n, a, b, L, jr, ts, ars, xs, _, _, _, _, _, _, _, rfl, D1, N, AR, hL, nd, by omega, dx⟩))
    refine ⟨_, rfl, p, d, 3, rfl, D1, by omega, fun r H2 _ _ _ D2 k2 => ⟨rfl, _, rfl, ?_⟩⟩
    have N2 := N.keep (.kp D1 k2)
    have AR2 := AR.keep (.kp D1 k2)
    have hL2 := k2 _ _ hL (D1.kne hL) nd
    have dx2 : ∀ x ∈ xs, Dat K (UW p d fun c => c ≠ L) 50000 14 H2 x := fun x hx => (dx x hx).kp k2
    refine ite2 (fun _ => ?_) (fun _ => nx _ _ ⟨t, n, a, b, L, jr, ts, ars, xs, _, _, _, _, _, _, _, rfl, D2, N2, AR2, hL2, nd, by omega, dx2⟩)
    refine ⟨_, rfl, _, rfl, p, d, n, rfl, D2, by omega, fun q H3 q0 q1 _ D3 k3 => ?_⟩
    have q1 := q1 (by omega)
    have N3 := N2.keep (.kp D2 k3)
    have AR3 := AR2.keep (.kp D2 k3)
    have hL3 := k3 _ _ hL2 (D2.kne hL2) nd
    have dx3 : ∀ x ∈ xs, Dat K (UW p d fun _ => True) 50000 14 H3 x := fun x hx => ((dx2 x hx).kp k3).subU fun a ha => ⟨ha.1, trivial⟩
    refine ⟨_, rfl, _, rfl, by show 1 ≤ sizeLine; decide, fun T1 nT1 => ⟨by show 2 ≤ sizeLine; decide, fun T2 nT2 => ⟨by show 1 ≤ sizeLine; decide, fun T3 nT3 => ⟨T3, 500, _, rfl, rfl, SqT.of upd_same, (fun z => nomatch z), by decide, by decide, by show 1 ≤ 1000; decide, fun T4 nT4 => ?_⟩⟩⟩⟩
    have f1 : Same H3 (upd H3 T1 (.tup [.int q])) := same_new nT1
    have f2 := same_new (o := .tup [.ref T1, .int 1]) nT2
    have f3 := same_new (o := .tup [.ref T2]) nT3
    have f4 := same_new (o := .tup (List.replicate (500 : Int).toNat [V.ref T2]).flatten) nT4
    have d2 := legD (K := K) (f2 _ _ upd_same) upd_same (by omega) (show (1 : Int).natAbs < 10 ^ 31 by decide) ((D3.same f1).same f2) wkT
    have fA := ((f1.trans f2).trans f3).trans f4
    have all1 : ∀ (m : Nat) (z : V) (x : V), x ∈ (List.replicate m [z]).flatten → x = z := fun m z x hx => by
      obtain ⟨l, hl, hx⟩ := List.mem_flatten.mp hx
      rw [List.eq_of_mem_replicate hl] at hx
      exact List.mem_singleton.mp hx
    have len1 : ∀ (m : Nat) (z : V), (List.replicate m [z]).flatten.length = m := fun m z => by
      rw [List.length_flatten, List.map_replicate, List.sum_replicate_nat]
      show m * 1 = m
      omega
    have DA3 := ((D3.same f1).same f2).same f3
    have d4 : Dat K (UW p d fun _ => True) 50000 14 _ (.ref T4) := (Dat.newTup (xs := (List.replicate (500 : Int).toNat [V.ref T2]).flatten) (fun x hx => by rw [all1 _ _ _ hx]; exact d2.kp (.of f3)) nT4 ⟨DA3.ne_none nT4, trivial⟩).le (by rw [len1]; decide) (by decide)
    have DA := D3.same fA
    have NA := N3.keep (.of fA)
    have AA := AR3.keep (.of fA)
    have hLA := fA _ _ hL3
    have dxA : ∀ x ∈ xs, Dat K (UW p d fun _ => True) 50000 14 _ x := fun x hx => (dx3 x hx).kp (.of fA)
    clear f1 f2 f3 f4 d2 fA DA3 nT1 nT2 nT3 nT4
    generalize (upd (upd (upd (upd H3 T1 (.tup [.int q])) T2 (.tup [.ref T1, .int 1])) T3 (.tup [.ref T2])) T4 (.tup (List.replicate (500 : Int).toNat [V.ref T2]).flatten)) = HA at d4 DA NA AA hLA dxA ⊢
    refine ⟨_, rfl, by show 1 ≤ sizeLine; decide, fun T1 nT1 => ⟨10, 30, rfl, rfl, ⟨by decide, by decide, by decide⟩, by show 2 ≤ sizeLine; decide, fun T2 nT2 => ⟨by show 1 ≤ sizeLine; decide, fun T3 nT3 => ⟨T3, 501, _, rfl, rfl, SqT.of upd_same, (fun z => nomatch z), by decide, by decide, by show 1 ≤ 1000; decide, fun U4 nU4 => ?_⟩⟩⟩⟩
    have f1 : Same HA (upd HA T1 (.tup [.int q])) := same_new nT1
    have f2 := same_new (o := .tup [.ref T1, .int (10 ^ (30 : Int).toNat)]) nT2
    have f3 := same_new (o := .tup [.ref T2]) nT3
    have f4 := same_new (o := .tup (List.replicate (501 : Int).toNat [V.ref T2]).flatten) nU4
    have d2 := legD (K := K) (f2 _ _ upd_same) upd_same (by omega) (show ((10 : Int) ^ (30 : Int).toNat).natAbs < 10 ^ 31 by decide +kernel) ((DA.same f1).same f2) wkT
    have fB := ((f1.trans f2).trans f3).trans f4
    have DA3 := ((DA.same f1).same f2).same f3
    have dU : Dat K (UW p d fun _ => True) 50000 14 _ (.ref U4) := (Dat.newTup (xs := (List.replicate (501 : Int).toNat [V.ref T2]).flatten) (fun x hx => by rw [all1 _ _ _ hx]; exact d2.kp (.of f3)) nU4 ⟨DA3.ne_none nU4, trivial⟩).le (by rw [len1]; decide) (by decide)
    have DB := DA.same fB
    have NB := NA.keep (.of fB)
    have AB := AA.keep (.of fB)
    have hLB := fB _ _ hLA
    have d4B := d4.kp (.of fB)
    have dxB : ∀ x ∈ xs, Dat K (UW p d fun _ => True) 50000 14 _ x := fun x hx => (dxA x hx).kp (.of fB)
    clear f1 f2 f3 f4 d2 fB DA3 nT1 nT2 nT3 nU4
    generalize (upd (upd (upd (upd HA T1 (.tup [.int q])) T2 (.tup [.ref T1, .int (10 ^ (30 : Int).toNat)])) T3 (.tup [.ref T2])) U4 (.tup (List.replicate (501 : Int).toNat [V.ref T2]).flatten)) = HB at dU d4B DB NB AB hLB dxB ⊢
    refine ⟨by show 2 ≤ sizeLine; decide, fun c nc => ?_⟩
    have g1 : Same HB (upd HB c (.lst [.ref T4, .ref U4])) := same_new nc
    refine ⟨L, c, xs, _, rfl, rfl, g1 _ _ hLB, upd_same, by rw [sizeLine_eq]; simp only [List.length_cons, List.length_nil]; omega, fun L' nL' => ?_⟩
    have g2 : Same (upd HB c (.lst [.ref T4, .ref U4])) (upd (upd HB c (.lst [.ref T4, .ref U4])) L' (.lst (xs ++ [.ref T4, .ref U4]))) := same_new nL'
    have g12 := g1.trans g2
    have dxC : ∀ x ∈ xs ++ [.ref T4, .ref U4], Dat K (UW p d fun c => c ≠ L') 50000 14 (upd (upd HB c (.lst [.ref T4, .ref U4])) L' (.lst (xs ++ [.ref T4, .ref U4]))) x := fun x hx => by
      have base : Dat K (UW p d fun _ => True) 50000 14 HB x := by
        rcases List.mem_append.mp hx with h | h
        · exact dxB x h
        · simp only [List.mem_cons, List.not_mem_nil, or_false] at h
          rcases h with rfl | rfl
          · exact d4B
          · exact dU
      exact ((base.kp (.of g1)).newL (V' := UW p d fun c => c ≠ L') nL' fun a ha n => ⟨ha.1, n⟩).kp (.of g2)
    have DC := DB.same g12
    have NC := NB.keep (.of g12)
    have AC := AB.keep (.of g12)
    have nd' := ((DB.same g1).ne_none nL').2
    have hLC : (upd (upd HB c (.lst [.ref T4, .ref U4])) L' (.lst (xs ++ [.ref T4, .ref U4]))) L' = some (.lst (xs ++ [.ref T4, .ref U4])) := upd_same
    have lC : (xs ++ [V.ref T4, .ref U4]).length ≤ 8 := by
      rw [List.length_append]
      simp only [List.length_cons, List.length_nil]
      omega
    generalize (xs ++ [V.ref T4, .ref U4]) = ys at dxC hLC lC DC NC AC ⊢
    generalize (upd (upd HB c (.lst [.ref T4, .ref U4])) L' (.lst ys)) = HC at dxC hLC DC NC AC ⊢
    have wL := wokL hLC
    refine ⟨_, rfl, .inl ⟨rfl, _, SqL.of hLC⟩, _, rfl, by show 1 ≤ sizeLine; decide, fun T1 nT1 => ⟨by show 2 ≤ sizeLine; decide, fun T2 nT2 => ⟨by show 1 ≤ sizeLine; decide, fun T3 nT3 => ⟨T3, 499, _, rfl, rfl, SqT.of upd_same, (fun z => nomatch z), by decide, by decide, by show 1 ≤ 1000; decide, fun T5 nT5 => ?_⟩⟩⟩⟩
    have f1 : Same HC (upd HC T1 (.tup [.int q])) := same_new nT1
    have f2 := same_new (o := .tup [.ref T1, .int 1]) nT2
    have f3 := same_new (o := .tup [.ref T2]) nT3
    have f4 := same_new (o := .tup (List.replicate (499 : Int).toNat [V.ref T2]).flatten) nT5
    have fD := ((f1.trans f2).trans f3).trans f4
    have d2 : Dat K (UW p d fun c => c ≠ L') 50 2 _ (.ref T2) := (legD (K := K) (f2 _ _ upd_same) upd_same (by omega) (show (1 : Int).natAbs < 10 ^ 31 by decide) ((DC.same f1).same f2) ((wL.kp (.of f1) (DC.same f1)).kp (.of f2) ((DC.same f1).same f2))).kp (.of (f3.trans f4))
    have DD := DC.same fD
    have ND := NC.keep (.of fD)
    have AD := AC.keep (.of fD)
    have hLD := fD _ _ hLC
    have wD := wL.kp (.of fD) DD
    have h5 : (upd (upd (upd (upd HC T1 (.tup [.int q])) T2 (.tup [.ref T1, .int 1])) T3 (.tup [.ref T2])) T5 (.tup (List.replicate (499 : Int).toNat [V.ref T2]).flatten)) T5 = some (.tup (List.replicate (499 : Int).toNat [V.ref T2]).flatten) := upd_same
    have dxD : ∀ x ∈ ys, Dat K (UW p d fun c => c ≠ L') 50000 14 _ x := fun x hx => (dxC x hx).kp (.of fD)
    clear f1 f2 f3 f4 fD nT1 nT2 nT3 nT5
    generalize (upd (upd (upd (upd HC T1 (.tup [.int q])) T2 (.tup [.ref T1, .int 1])) T3 (.tup [.ref T2])) T5 (.tup (List.replicate (499 : Int).toNat [V.ref T2]).flatten)) = HD at d2 DD ND AD hLD wD h5 dxD ⊢
    refine ⟨_, rfl, by show 1 ≤ sizeLine; decide, fun V1 nV1 => ⟨by show 2 ≤ sizeLine; decide, fun V2 nV2 => ⟨by show 1 ≤ sizeLine; decide, fun V3 nV3 => ?_⟩⟩⟩
    have f1 : Same HD (upd HD V1 (.tup [.int n])) := same_new nV1
    have f2 := same_new (o := .tup [.ref V1, .int 1]) nV2
    have f3 := same_new (o := .tup [.ref V2]) nV3
    have fE := (f1.trans f2).trans f3
    have dv := (legD (K := K) (f2 _ _ upd_same) upd_same (show n.natAbs < 1000 by omega) (show (1 : Int).natAbs < 10 ^ 31 by decide) ((DD.same f1).same f2) ((wD.kp (.of f1) (DD.same f1)).kp (.of f2) ((DD.same f1).same f2))).kp (.of f3)
    have DE := DD.same fE
    have wE := wD.kp (.of fE) DE
    have ne : (List.replicate (499 : Int).toNat [V.ref T2]).flatten ≠ [] := fun z => by
      have := len1 (499 : Int).toNat (.ref T2)
      rw [z] at this
      cases this
    refine ⟨T5, V3, _, _, rfl, rfl, SqT.of (fE _ _ h5), SqT.of upd_same, by rw [len1, sizeLine_eq]; show 499 + 1 ≤ 16777216; decide, fun z => absurd z ne, fun _ z => (nomatch z), fun _ _ e ne2 => ?_⟩
    have f5 := same_new (o := .tup ((List.replicate (499 : Int).toNat [V.ref T2]).flatten ++ [.ref V2])) ne2
    have fF := fE.trans f5
    have de : Dat K (UW p d fun c => c ≠ L') 50000 14 _ (.ref e) := (Dat.newTup (xs := (List.replicate (499 : Int).toNat [V.ref T2]).flatten ++ [.ref V2]) (fun x hx => by
      rcases List.mem_append.mp hx with h | h
      · rw [all1 _ _ _ h]
        exact d2.kp (.of fE)
      · rw [List.mem_singleton.mp h]
        exact dv) ne2 ⟨DE.ne_none ne2, wE.free _ ne2⟩).le (by rw [List.length_append, len1]; show (499 + 1) * (50 + 2) + 3 ≤ 50000; decide) (by decide)
    have DF := DD.same fF
    have NF := ND.keep (.of fF)
    have AF := AD.keep (.of fF)
    have hLF := fF _ _ hLD
    have dxF : ∀ x ∈ ys, Dat K (UW p d fun c => c ≠ L') 50000 14 _ x := fun x hx => (dxD x hx).kp (.of fF)
    generalize (upd (upd (upd (upd HD V1 (.tup [.int n])) V2 (.tup [.ref V1, .int 1])) V3 (.tup [.ref V2])) e (.tup ((List.replicate (499 : Int).toNat [V.ref T2]).flatten ++ [.ref V2]))) = HF at de DF NF AF hLF dxF ⊢
    refine ⟨L', ys, _, rfl, rfl, hLF, by rw [sizeLine_eq]; omega, nx _ _ ?_⟩
    have tu : TupS HF (upd HF L' (.lst (ys ++ [.ref e]))) := TupS.upd fun zs z => by
      rw [hLF] at z
      cases z
    have keep : ∀ x, Dat K (UW p d fun c => c ≠ L') 50000 14 HF x → Dat K (UW p d fun c => c ≠ L') 50000 14 (upd HF L' (.lst (ys ++ [.ref e]))) x := fun x ⟨dd, as, g1, g2, g3⟩ => ⟨dd, as, g1.keep fun b hb y e' => by
      rw [upd_ne (g2 b hb).2]
      exact e', g2, g3⟩
    refine ⟨t, n, a, b, L', jr, ts, ars, _, _, _, _, _, _, _, _, rfl, DF.upd (DF.kne hLF) nd', NF.keep tu, AF.keep tu, upd_same, nd', by rw [List.length_append]; simp only [List.length_cons, List.length_nil]; omega, fun x hx => ?_⟩
    rcases List.mem_append.mp hx with h | h
    · exact keep x (dxF x h)
    · rw [List.mem_singleton.mp h]
      exact keep _ de
  refine ⟨_, rfl, sa, ns, rfl, hS, by omega, fun p d H1 s1 np nd D1 => ⟨by show 1 ≤ sizeLine; decide, fun c1 nc1 => ⟨_, rfl, sa, _, rfl, .inl ((s1.trans (same_new nc1)).seq hS), fun c2 nc2 => ?_⟩⟩⟩
  have e1 : Same H1 (upd H1 c1 (.lst [.int 3])) := same_new nc1
  have e2 := same_new (o := .lst (ns.map V.int)) nc2
  refine ⟨c1, c2, _, _, rfl, rfl, e2 _ _ upd_same, upd_same, by rw [List.length_map, sizeLine_eq]; simp only [List.length_cons, List.length_nil]; omega, fun c3 nc3 => ?_⟩
  have e3 := (e1.trans e2).trans (same_new (o := .lst ([V.int 3] ++ ns.map V.int)) nc3)
  refine ⟨c3, 3 :: ns, rfl, SqL.of upd_same, by rw [List.length_cons]; omega, fun p2 d2 H2 s2 np2 nd2 D2 => ⟨by show 2 ≤ sizeLine; decide, fun T nT => ⟨T, _, rfl, SqT.of upd_same, rfl, _, _, rfl, _, [], rfl, rfl, ?_⟩⟩⟩
  have D1' := D1.same e3
  have DP := D1'.same s2
  obtain ⟨ns0, st0, hp0, hd0, _⟩ := D1'.ex
  refine ⟨(.ref sa, p, d), ⟨p2, d2, rfl, DP.same (same_new nT), D2.same (same_new nT), fun z => ?_, fun z => ?_, fun z => ?_, fun z => ?_⟩, ?_⟩
  · dsimp only at z
    rw [z, np2] at hp0
    cases hp0
  · dsimp only at z
    rw [z, nd2] at hp0
    cases hp0
  · dsimp only at z
    rw [z, np2] at hd0
    cases hd0
  · dsimp only at z
    rw [z, nd2] at hd0
    cases hd0
  rintro σ H3 ⟨s2', rfl, D3⟩
  refine ⟨8, rfl, by decide, by decide, for_range (lo := 0) (n := 8) (fun i σ H' => (∃ t2 t3 t4 t5 t6 t7 t8 t9 t10 t11 t12 t13, σ = [some (.ref sa), some (.ref p), t2, t3, t4, t5, t6, t7, t8, t9, t10, t11, t12, t13]) ∧ Deck H' p d 63)
    ⟨⟨_, _, _, _, _, _, _, _, _, _, _, _, rfl⟩, D3⟩ ?_ ?_⟩
  · rintro i σ H4 hi ⟨⟨t2, t3, t4, t5, t6, t7, t8, t9, t10, t11, t12, t13, rfl⟩, D4⟩
    refine ⟨_, rfl, p, d, 12, rfl, D4, by omega, fun r H5 r0 r1 _ D5 k5 => ⟨_, _, rfl, rfl, by show 8 ≤ sizeLine; decide, fun L nL => ?_⟩⟩
    have r1 := r1 (by decide)
    obtain ⟨n, en, n1, n2⟩ : ∃ n : Int, ([.int 1, .int 2, .int 3, .int 4, .int 5, .int 8, .int 12, .int (1 + r)] : List V)[i]? = some (.int n) ∧ 1 ≤ n ∧ n ≤ 12 := by
      have : i = 0 ∨ i = 1 ∨ i = 2 ∨ i = 3 ∨ i = 4 ∨ i = 5 ∨ i = 6 ∨ i = 7 := by omega
      rcases this with rfl | rfl | rfl | rfl | rfl | rfl | rfl | rfl
      · exact ⟨1, rfl, by decide, by decide⟩
      · exact ⟨2, rfl, by decide, by decide⟩
      · exact ⟨3, rfl, by decide, by decide⟩
      · exact ⟨4, rfl, by decide, by decide⟩
      · exact ⟨5, rfl, by decide, by decide⟩
      · exact ⟨8, rfl, by decide, by decide⟩
      · exact ⟨12, rfl, by decide, by decide⟩
      · exact ⟨1 + r, rfl, by omega, by omega⟩
    refine ⟨_, rfl, L, _, _, .int n, rfl, rfl, SqL.of upd_same, at_of (j := i) (by omega) en, ?_⟩
    have D6 := D5.same (same_new (o := .lst [.int 1, .int 2, .int 3, .int 4, .int 5, .int 8, .int 12, .int (1 + r)]) nL)
    generalize (upd H5 L (.lst [.int 1, .int 2, .int 3, .int 4, .int 5, .int 8, .int 12, .int (1 + r)])) = H6 at D6 ⊢
    refine ⟨_, rfl, _, rfl, p, d, n, rfl, D6, n1, n2, fun a b ts H7 D7 k7 ha hb arr lt => ?_⟩
    have N7 : NetAt n H7 a b ts := ⟨ha, hb, arr, lt, n1, n2⟩
    obtain ⟨ars, AR7⟩ := ArsAt.ex arr
    refine ⟨_, rfl, _, rfl, _, rfl, p, d, 11, rfl, D7, by omega, fun m H8 m0 m1 _ D8 k8 => ?_⟩
    have m1 := m1 (by decide)
    have N8 := N7.keep (.kp D7 k8)
    have AR8 := AR7.keep (.kp D7 k8)
    refine ⟨p, d, a, b, n, m, ts, ars, rfl, D8, N8, AR8, ⟨m0, by omega⟩, fun jr jx ls H9 D9 k9 hj LS _ lj => ?_⟩
    have N9 := N8.keep (.kp D8 k9)
    have AR9 := AR8.keep (.kp D8 k9)
    refine ⟨_, rfl, by show 1 ≤ sizeLine; decide, fun L1 nL1 => ?_⟩
    have g1 : Same H9 (upd H9 L1 (.lst [.ref jr])) := same_new nL1
    refine ⟨5, rfl, by decide, by decide, fun L2 nL2 => ?_⟩
    have g2 : Same (upd H9 L1 (.lst [.ref jr])) (upd (upd H9 L1 (.lst [.ref jr])) L2 (.lst [])) := same_new nL2
    have o1 := D9.ne_none nL1
    have o2 := (D9.same g1).ne_none nL2
    have nL2' : H9 L2 = none := g1.free nL2
    have L12 : L1 ≠ L2 := fun z => by
      rw [← z, upd_same] at nL2
      cases nL2
    refine lc_it walk_range (fun j H' => Deck H' p d 63 ∧ Kp p d H9 H' ∧ H' L1 = some (.lst [.ref jr]) ∧ ∃ xs, H' L2 = some (.lst xs) ∧ xs.length = j ∧ ∀ x ∈ xs, Dat K (UW p d fun c => c ≠ L2) 50000 14 H' x)
      ⟨D9.same (g1.trans g2), .of (g1.trans g2), g2 _ _ upd_same, [], upd_same, rfl, fun _ h => absurd h (by simp)⟩ (fun _ _ _ _ => trivial) ?_ ?_
    · rintro j x Ha Hb hj' ⟨Da, ka, h1, xs, h2, lx, dx⟩ ⟨rfl, rfl⟩
      refine ⟨rfl, ?_⟩
      have ta := TupS.kp D9 ka
      refine ⟨_, rfl, _, rfl, _, rfl, p, d, a, b, jr, n, ts, ars, jx, ls, (fun c => c ≠ L2), rfl, Da, wokL h2, N9.keep ta, ta _ _ hj, LS.keep ta, by omega, fun y HY dy DY kY => ?_⟩
      have h2Y := kY _ _ h2 o2.1 o2.2
      refine ⟨xs, h2Y, by rw [lx, sizeLine_eq]; omega, DY.upd o2.1 o2.2, fun c o e q1 q2 => ?_, by rw [upd_ne L12]; exact kY _ _ h1 o1.1 o1.2, xs ++ [y], upd_same, by rw [List.length_append, lx]; rfl, fun z hz => ?_⟩
      · rw [upd_ne (ne_of_none e nL2')]
        exact kY _ _ (ka _ _ e q1 q2) q1 q2
      · have dz : Dat K (UW p d fun c => c ≠ L2) 50000 14 HY z := by
          rcases List.mem_append.mp hz with q | q
          · exact (dx z q).kp kY
          · rw [List.mem_singleton.mp q]
            exact dy
        obtain ⟨dd, as, l1, l2, l3⟩ := dz
        exact ⟨dd, as, l1.keep fun b hb o e => by
          rw [upd_ne (l2 b hb).2]
          exact e, l2, l3⟩
    · rintro Ha ⟨Da, ka, h1, xs, h2, lx, dx⟩
      have ta := TupS.kp D9 ka
      refine ⟨L1, L2, _, xs, rfl, rfl, h1, h2, by rw [lx, sizeLine_eq]; show 1 + 5 ≤ 16777216; decide, fun LV nLV => ?_⟩
      have gV : Same Ha (upd Ha LV (.lst ([.ref jr] ++ xs))) := same_new nLV
      have dj := (jour_dat (K := K) Da wkT n2 (ta _ _ hj) (LS.keep ta)).le (w' := 50000) (k' := 14) (by omega) (by decide)
      refine ⟨(.ref sa, p, d), ⟨0 + (i : Int), n, a, b, LV, jr, ts, ars, _, _, _, _, _, _, _, _, rfl, Da.same gV, (N9.keep ta).keep (.of gV), (AR9.keep ta).keep (.of gV), upd_same, (Da.ne_none nLV).2, by rw [List.length_append, lx]; show 1 + 5 ≤ 6; decide, fun x hx => ?_⟩, ?_⟩
      · have bx : Dat K (UW p d fun _ => True) 50000 14 Ha x := by
          rcases List.mem_append.mp hx with q | q
          · rw [List.mem_singleton.mp q]
            exact dj
          · exact (dx x q).subU fun a ha => ⟨ha.1, trivial⟩
        exact (bx.newL (V' := UW p d fun c => c ≠ LV) nLV fun a ha n => ⟨ha.1, n⟩).kp (.of gV)
      clear dx dj gV nLV Da ka h1 h2 N9 AR9 LS hj
      rintro σ HV ⟨t, n, a, b, L, jr, ts, ars, xs, s2, s8, s9, s10, s11, s12, s13, rfl, D5, N, AR, hL, nd, lx, dx⟩
      dsimp only at D5 nd dx
      obtain ⟨ds, as, ra, ua, sm, wm, dm⟩ := dats_rep dx
      have wm2 : xs.length * (50000 + 2) ≤ 9 * 50002 := Nat.mul_le_mul_right 50002 lx
      have rL : Rep K HV (.lst ds) (.ref L) (L :: as) := by
        simp only [Rep]
        exact ⟨L, xs, as, rfl, hL, ra, fun z => (ua L z).2 rfl, rfl⟩
      refine ⟨_, rfl, .ref L, ds, _, rfl, rL, sm, by omega, by omega, ?_⟩
      refine ⟨_, rfl, L, xs, rfl, SqL.of hL, for_it walk_enum (fun j σ H' => (∃ s10 s11 s12, σ = [some (.ref sa), some (.ref p), s2, some (.int t), some (.int n), some (.ref a), some (.ref jr), some (.ref L), s8, some (.str (shown (.lst ds))), s10, s11, s12, s13]) ∧ Same HV H')
        ⟨⟨_, _, _, rfl⟩, Same.refl _⟩ (fun j σ H' _ q => SqL.of (q.2 _ _ hL)) ?_ ?_⟩
      · rintro j x σ H6 H7 hj ⟨⟨s10, s11, s12, rfl⟩, s56⟩ ⟨T, x1, x2, rfl, nT, rfl, e1, e2⟩
        obtain rfl : V.int (j : Nat) = x1 := Option.some.inj e1
        refine ⟨T, _, rfl, SqT.of upd_same, rfl, _, _, rfl, _, _, rfl, rfl, ?_⟩
        have s57 : Same HV (upd H6 T (.tup [.int (j : Nat), x2])) := s56.trans (same_new nT)
        generalize (upd H6 T (.tup [.int (j : Nat), x2])) = H7 at s57
        obtain ⟨dd, bs, hd, rd, _⟩ := ra.at2 e2
        have hm := List.mem_of_getElem? hd
        have wdd := wt_mem hm
        refine ⟨_, rfl, _, rfl, rfl, _, rfl, ?_⟩
        refine ite2 (fun _ => ?yes) (fun _ => ?no)
        case' yes => refine ⟨_, rfl, _, rfl, a, b, n, ts, ars, x2, dd, bs, rfl, N.keep (.of s57), AR.keep (.of s57), rd.same s57, by omega, fun r v cs H8 i1 s78 rp sr wr dr => ?_⟩
        case' no => refine ⟨_, rfl, _, rfl, a, b, n, ts, ars, x2, dd, bs, rfl, N.keep (.of s57), AR.keep (.of s57), rd.same s57, by omega, fun r v cs H8 i1 s78 rp sr wr dr => ?_⟩
        all_goals
          have s58 := s57.trans s78
          refine ⟨_, rfl, _, rfl, _, rfl, a, b, n, ts, ars, x2, dd, bs, rfl, N.keep (.of s58), AR.keep (.of s58), rd.same s58, by omega, fun r' v' cs' H9 i2 s89 rp' sr' wr' dr' => ?_⟩
          obtain rfl := i1.det i2
          refine ⟨by show 2 ≤ sizeLine; decide, fun L5 nL5 => ?_⟩
          obtain ⟨as5, rp5⟩ := rep_pair (rp.same s89) rp' nL5
          have s95 : Same H9 (upd H9 L5 (.lst [v, v'])) := same_new nL5
          refine ⟨.ref L5, [r, r], as5, rfl, rp5, ⟨sr, sr, trivial⟩, by simp only [wtAll]; omega, by simp only [depAll]; omega, ?_⟩
          have s5A := s58.trans (s89.trans s95)
          refine ⟨_, rfl, _, rfl, a, b, n, ts, ars, x2, dd, bs, rfl, N.keep (.of s5A), AR.keep (.of s5A), rd.same s5A, by omega, fun r3 v3 cs3 HB i3 sAB rp3 sr3 wr3 dr3 => ?_⟩
          obtain rfl := i1.det i3
          refine ⟨by show 1 ≤ sizeLine; decide, fun L6 nL6 => ?_⟩
          have sB6 : Same HB (upd HB L6 (.lst [v3])) := same_new nL6
          refine ⟨L6, 2, [v3], rfl, rfl, upd_same, by decide, by decide, by show 2 ≤ sizeLine; decide, fun L7 nL7 => ?_⟩
          obtain ⟨as7, rp7⟩ := rep_pair (rp3.same sB6) (rp3.same sB6) nL7
          have s67 : Same (upd HB L6 (.lst [v3])) (upd (upd HB L6 (.lst [v3])) L7 (.lst [v3, v3])) := same_new nL7
          refine ⟨.ref L7, [r, r], as7, rfl, rp7, ⟨sr, sr, trivial⟩, by simp only [wtAll]; omega, by simp only [depAll]; omega, ?_⟩
          refine ⟨rfl, _, rfl, ?_⟩
          rw [same_str rfl]
          exact iteF ⟨⟨_, _, _, rfl⟩, s5A.trans (sAB.trans (sB6.trans s67))⟩
      · rintro σ H6 ⟨⟨s10, s11, s12, rfl⟩, s56⟩
        refine ⟨_, rfl, .ref L, ds, _, rfl, rL.same s56, sm, by omega, by omega, ?_⟩
        refine ⟨_, rfl, rfl, _, rfl, ?_⟩
        rw [same_str rfl]
        exact iteF ⟨⟨_, _, _, _, _, _, _, _, _, _, _, _, rfl⟩, D5.same s56⟩
  · rintro σ H4 ⟨⟨t2, t3, t4, t5, t6, t7, t8, t9, t10, t11, t12, t13, rfl⟩, D4⟩
    exact k H4
end
end Sw
namespace Sw
open PySem PySem.Spec PyProof.Rows L2 PySem.W
section
variable {K : Frag}
/-- a def of two parameters p1, p2 that may be called by the words p2, p1 -/
theorem kb_pair {x p1 p2 : Str} {st : Stmt} {f : Addr} {fd : FuncData} (F : Fun K x x st f fd)
    (b1 : ∀ (kV doc pm : Value) (an : Option Addr) (cdv ct u v : Value), bindArgs (fnOf x x (defArgs st) (defBody st) (defScope st) .none kV doc pm an cdv ct) ⟨[], ([p2, p1] : List Str).zip [u, v]⟩ = pure (([p1, p2] : List Str).zip [v, u]))
    (b2 : ∀ (kV doc pm : Value) (an : Option Addr) (cdv ct u v : Value), bindArgs (fnOf x x (defArgs st) (defBody st) (defScope st) .none kV doc pm an cdv ct) ⟨[u], ([p2, p1] : List Str).zip [v]⟩ = pure (([p1, p2] : List Str).zip [u, v]))
    (b3 : ∀ (kV doc pm : Value) (an : Option Addr) (cdv ct u v : Value), bindArgs (fnOf x x (defArgs st) (defBody st) (defScope st) .none kV doc pm an cdv ct) ⟨[u, v], ([p2, p1] : List Str).zip []⟩ = pure (([p1, p2] : List Str).zip [u, v])) :
    KBinds K fd [p1, p2] [p2, p1] (fun us ws => us ++ ws.reverse) (fun us ws => us ++ ws.reverse) := by
  obtain ⟨oc, od, kV, doc, pm, an, cdv, ct, osl, rfl, lk, hcd⟩ := F.ex
  refine ⟨fun s us ws _ hl => ?_, fun r q => r.append q.reverse⟩
  have hl2 : us.length + ws.length = 2 := by
    rw [List.length_append, List.length_reverse] at hl
    exact hl
  rcases us with _ | ⟨u, _ | ⟨v, _ | ⟨z, us⟩⟩⟩
  · rcases ws with _ | ⟨a, _ | ⟨b, _ | ⟨z, ws⟩⟩⟩
    · cases hl2
    · cases hl2
    · exact .of_eq (b1 kV doc pm an cdv ct a b)
    · simp only [List.length_cons, List.length_nil] at hl2
      omega
  · rcases ws with _ | ⟨a, _ | ⟨z, ws⟩⟩
    · cases hl2
    · exact .of_eq (b2 kV doc pm an cdv ct u a)
    · simp only [List.length_cons, List.length_nil] at hl2
      omega
  · rcases ws with _ | ⟨z, ws⟩
    · exact .of_eq (b3 kV doc pm an cdv ct u v)
    · simp only [List.length_cons, List.length_nil] at hl2
      omega
  · simp only [List.length_cons] at hl2
    omega
end
end Sw
namespace Sw
open PySem PySem.Spec PyProof.Rows L2 PySem.W
theorem good_mk {K : Frag} {C : Addr} {nm q n : Str} {N : Addr} {bs bm : List Value} {hd : Bool} {sn : List Str} {sub : List Value} {ab : Bool} {col : Option Bool} {dd : Option Addr} {m0 m1 m2 m3 m5 : Option Value} {nw : String}
    (xL : K.lookup C = some (excClassObj nm q C N bs bm hd sn sub ab col dd m0 m1 m2 m3 m5 nw)) (e : exN nm = n) (len : n.length ≤ 60)
    (rp : findIn K (.ref C) "__repr__" = some (some (.builtin "BaseException.__repr__"))) (sb : subIn K (.ref C) (.type "BaseException") = some true) (ga : findIn K (.ref C) "__getattribute__" = some (some (.builtin "BaseException.__getattribute__")))
    (gt : findIn K (.ref C) "__getattr__" = some none) (ca : findIn K (.ref C) "__class__" = some (some (.builtin "object.__class__"))) (cn : specialIn K (.builtin "object.__class__") "__get__" = some (some (.builtin "getset_descriptor.__get__")))
    (ct : takesIn K (.builtin "object.__class__") = some true) (mo : mroIn K C (.type "object") = some true) (ni : subIn K (.ref C) (.type "int") = some false) (nb : subIn K (.ref C) (.type "bool") = some false) (nt : subIn K (.ref C) (.type "tuple") = some false)
    (ns : subIn K (.ref C) (.type "str") = some false) (nl : subIn K (.ref C) (.type "list") = some false) (nd : subIn K (.ref C) (.type "dict") = some false) : XGood K C n := by
  have h : ∃ cd, clsIn K C = some cd ∧ cd.name = nm := by
    unfold clsIn
    rw [xL]
    exact ⟨_, rfl, rfl⟩
  obtain ⟨cd, h1, h2⟩ := h
  rw [← h2] at e
  exact ⟨⟨cd, h1, e⟩, len, rp, sb, ga, gt, ca, cn, ct, mo, ni, nb, nt, ns, nl, nd⟩
theorem init_mk {K : Frag} {C fI : Addr} {msg fld prm file qual : Str} {j : Nat} {p0 p1 p2 p3 p4 p5 p6 p7 p8 p9 : Pos} {params : Arguments} {dV kV doc pm ct oc ccl cl : Value} {an od cdd cld : Option Addr} {osl ccs csl : Array (Option Value)} {cc cda : Addr} {vs : Array Value} {tf : Tok} {ar : Arg}
    (l : K.lookup fI = some ⟨oc, od, .func (ksFn "__init__" qual params (initBody msg fld prm j p0 p1 p2 p3 p4 p5 p6 p7 p8 p9) (initScope prm) dV kV doc pm an (.ref cda) ct cc), osl⟩)
    (c : codeIn K (.ref cda) qual = true) (lc : K.lookup cda = some ⟨ccl, cdd, .fields vs, ccs⟩) (hv : vs[2]? = some (.str file tf)) (lcc : K.lookup cc = some ⟨cl, cld, .cell (some (.ref C)), csl⟩) (hl : (p2.endLine == p4.line) = true)
    (ha : (params.posonlyargs ++ params.args).head? = some ar) (har : ar.arg = "self")
    (hb : ∀ a u : Value, bindArgs (ksFn "__init__" qual params (initBody msg fld prm j p0 p1 p2 p3 p4 p5 p6 p7 p8 p9) (initScope prm) dV kV doc pm an (.ref cda) ct cc) ⟨[a, u], []⟩ = pure [(("self" : Str), a), (prm, u)])
    (pn : ¬ prm = "self") (pc : ¬ prm = "__class__") (ps : ¬ prm = "super") (pd : (prm == ("__debug__" : Str)) = false) (su : ks_superIn K C C "__init__" = some (some (.builtin "ValueError.__init__"))) (sub : subIn K (.ref C) (.type "ValueError") = some true)
    (self : mroIn K C (.ref C) = some true) (nf : findIn K (.ref C) fld = some none) (ty : typeIn K (.ref fI) = some (.type "function")) (fi : findIn K (.ref C) "__init__" = some (some (.ref fI))) : XInit K C fI msg fld prm file :=
  ⟨⟨qual, j, p0, p1, p2, p3, p4, p5, p6, p7, p8, p9, params, dV, kV, doc, pm, ct, oc, ccl, cl, an, od, cdd, cld, osl, ccs, csl, cc, cda, vs, tf, ar, l, c, lc, hv, lcc, hl, ha, har, hb⟩, pn, pc, ps, pd, su, sub, self, nf, ty, fi⟩
end Sw
namespace Sw
open PySem PySem.Spec PyProof.Rows L2 PySem.W
theorem run_k09 {P : Program} {w : World} {K : Frag} {mg : Str → Option Value} {base : Heap} {fa a : Addr} {s₁ : Shared} {H : Hp} {ns : List Int} {t1 t2 t3 : Tok} (B : NoNames mg) (bs : mg "set" = none) (m1 : mg "MAX_RUN" = some (.int 1000 t1)) (m2 : mg "MAX_LEGS" = some (.int 500 t2)) (m3 : mg "MAX_TIMES" = some (.int (10 ^ 30) t3))
    (hBetween : Has K mg "is_integer_between" sBetween) (hPair : Has K mg "is_pair" sPair) (hStop : Has K mg "is_stop" sStop) (hRun : Has K mg "run_error" sRun) (hJour : Has K mg "journey_error" sJourney) (hLeg : Has K mg "is_leg" sIsLeg)
    (hDeck : Has K mg "_law_deck" sDeck) (hDraw : Has K mg "_law_draw" sDraw) (hPick : Has K mg "_law_pick" sPick) (hMixed : Has K mg "_law_mixed" sMixed) (hNet : Has K mg "_law_net" sNet) (hOnward : Has K mg "_law_onward" sOnward) (hWalk : Has K mg "_law_walk" sWalk) (hBack : Has K mg "_law_back" sBack)
    (hLJour : Has K mg "_law_journey" sLJourney) (hLRun : Has K mg "_law_is_run" sLIsRun) (hLLeg : Has K mg "_law_is_leg" sLIsLeg) (hDue : Has K mg "_law_due" sDueJ) (hOdd : Has K mg "_law_odd" sOddJ) (hSpoilt : Has K mg "_law_spoilt" sSpoiltJ) (hFar : Has K mg "_law_is_far" sFarJ)
    (hLaw : Has K mg "law" sLawJ) (hfa : mg "law" = some (.ref fa))
    (ev : Env0 P w K mg base callerA [] s₁ H) (sq : SqL K H a (ns.map V.int)) (hlen : ns.length ≤ 63) :
    codeAny (model P w) callerA (.call (.ref fa) ⟨[.ref a], []⟩) (CR CX0 [] P w H s₁ (fun v _ => v = .bl true) fun _ _ _ => False) s₁ := by
  obtain ⟨f, fd, F, m⟩ := hLaw
  have e := hfa.symm.trans m
  cases e
  obtain ⟨fJ, fdJ, FJ, mJ⟩ := hJour
  have O1 : Own P w K mg base 1 "is_integer_between" ["value", "least", "most"] (spBetween K) := hBetween.own (fun f fd F => ok_between F B) fun _ _ _ _ _ _ us hl => match us, hl with | [_, _, _], _ => rfl
  have O2 : Own P w K mg base 1 "is_pair" ["value"] (spPair K) := hPair.own (fun f fd F => ok_pair F B) fun _ _ _ _ _ _ us hl => match us, hl with | [_], _ => rfl
  have O3 : Own P w K mg base 2 "is_stop" ["n", "value"] (spStop K) := hStop.own (fun f fd F => ok_stop F O1) fun _ _ _ _ _ _ us hl => match us, hl with | [_, _], _ => rfl
  have O4 : Own P w K mg base 3 "run_error" ["net", "value"] (spRun K) := hRun.own (fun f fd F => ok_run F B bs t1 m1 O3) fun _ _ _ _ _ _ us hl => match us, hl with | [_, _], _ => rfl
  have O5 : Own P w K mg base 4 "is_leg" ["net", "value"] (spLeg K) := hLeg.own (fun f fd F => ok_isLeg F B t3 m3 O2 O4 O1) fun _ _ _ _ _ _ us hl => match us, hl with | [_, _], _ => rfl
  have EJ : OwnJ P w K mg base 5 := ⟨fJ, fdJ, ok_journey FJ B t2 m2 O5, mJ, FJ.kp, FJ.binds fun _ _ _ _ _ _ us hl => match us, hl with | [_, _], _ => rfl, kb_pair FJ (fun _ _ _ _ _ _ _ _ => rfl) (fun _ _ _ _ _ _ _ _ => rfl) fun _ _ _ _ _ _ _ _ => rfl⟩
  have L1 : Own P w K mg base 1 "_law_deck" ["script"] (spDeckX K) := hDeck.own (fun f fd F => ok_deckX F B) fun _ _ _ _ _ _ us hl => match us, hl with | [_], _ => rfl
  have L2 : Own P w K mg base 1 "_law_draw" ["deck", "many"] spDraw := hDraw.own (fun f fd F => ok_draw F B) fun _ _ _ _ _ _ us hl => match us, hl with | [_, _], _ => rfl
  have L2X : Own P w K mg base 1 "_law_draw" ["deck", "many"] spDrawX := hDraw.own (fun f fd F => ok_drawX F B) fun _ _ _ _ _ _ us hl => match us, hl with | [_, _], _ => rfl
  have L3 : Own P w K mg base 2 "_law_pick" ["deck", "items"] spPick := hPick.own (fun f fd F => ok_pick F B L2) fun _ _ _ _ _ _ us hl => match us, hl with | [_, _], _ => rfl
  have L4 : Own P w K mg base 2 "_law_mixed" ["deck", "items"] spMixed := hMixed.own (fun f fd F => ok_mixed F B L2) fun _ _ _ _ _ _ us hl => match us, hl with | [_, _], _ => rfl
  have L4V : Own P w K mg base 2 "_law_mixed" ["deck", "items"] spMixedV := hMixed.own (fun f fd F => ok_mixedV F B L2) fun _ _ _ _ _ _ us hl => match us, hl with | [_, _], _ => rfl
  have L5 : Own P w K mg base 3 "_law_net" ["deck", "n"] spNet := hNet.own (fun f fd F => ok_net F B L2 L3 L4) fun _ _ _ _ _ _ us hl => match us, hl with | [_, _], _ => rfl
  have L6 : Own P w K mg base 1 "_law_onward" ["net"] spOnward := hOnward.own (fun f fd F => ok_onward F B) fun _ _ _ _ _ _ us hl => match us, hl with | [_], _ => rfl
  have L7 : Own P w K mg base 3 "_law_walk" ["deck", "net", "first", "many"] spWalk := hWalk.own (fun f fd F => ok_walk F B L3 L6) fun _ _ _ _ _ _ us hl => match us, hl with | [_, _, _, _], _ => rfl
  have L8 : Own P w K mg base 2 "_law_back" ["net", "first", "last"] spBack := hBack.own (fun f fd F => ok_back F B L6) fun _ _ _ _ _ _ us hl => match us, hl with | [_, _, _], _ => rfl
  have L9 : Own P w K mg base 4 "_law_journey" ["deck", "net", "many"] spLJourney := hLJour.own (fun f fd F => ok_lJourney F B L2X L3 L7 L8) fun _ _ _ _ _ _ us hl => match us, hl with | [_, _, _], _ => rfl
  have LA : Own P w K mg base 1 "_law_is_run" ["net", "arrows", "value"] (spLIsRun K) := hLRun.own (fun f fd F => ok_lIsRun F B) fun _ _ _ _ _ _ us hl => match us, hl with | [_, _, _], _ => rfl
  have LB : Own P w K mg base 2 "_law_is_leg" ["net", "arrows", "value"] (spLIsLeg K) := hLLeg.own (fun f fd F => ok_lIsLeg F B LA) fun _ _ _ _ _ _ us hl => match us, hl with | [_, _, _], _ => rfl
  have LC : Own P w K mg base 3 "_law_due" ["net", "value"] (spJn K) := hDue.own (fun f fd F => ok_dueJ F B LB) fun _ _ _ _ _ _ us hl => match us, hl with | [_, _], _ => rfl
  have LD : Own P w K mg base 3 "_law_odd" ["deck", "net", "leg"] (spOddJ K) := hOdd.own (fun f fd F => ok_oddJ F B L2X L3) fun _ _ _ _ _ _ us hl => match us, hl with | [_, _, _], _ => rfl
  have LE : Own P w K mg base 4 "_law_spoilt" ["deck", "net", "journey"] (spSpoiltJ K) := hSpoilt.own (fun f fd F => ok_spoiltJ F B L2X L3 LD) fun _ _ _ _ _ _ us hl => match us, hl with | [_, _, _], _ => rfl
  have LF : OwnG P w K mg base 6 "_law_is_far" ["deck"] spFarJ := hFar.ownG (fun f fd F => ok_farJ F B L4V EJ LC) fun _ _ _ _ _ _ us hl => match us, hl with | [_], _ => rfl
  have rm : Room 7 callerA := ⟨rfl, by decide, by decide⟩
  refine run_def (us := [.ref a]) (vs := [.ref a]) (Q := fun v _ => v = .bl true) (E := fun _ _ _ => False) F scLawJ rm ev (F.binds (ps := ["script"]) (fun _ _ _ _ _ _ us hl => match us, hl with | [_], _ => rfl) s₁ [.ref a] ?_ rfl) (.cons rfl .nil) rfl fun cdv => ?_
  · exact ev.mod.kin.keeps fun b o z => (ev.bs b o z).1
  · exact law_bodyJ (Q := fun v _ => v = .bl true) B ⟨L1, L2X, L5, L9, LE, LC, EJ, LF⟩ (rm.deeper _) rfl ⟨a, ns, rfl, sq, hlen, fun _ => rfl⟩
end Sw
open PySem PySem.W PyProof.Rows
set_option maxHeartbeats 0 in
theorem PySem.Challenge.cw_swapstops_k09_what_is_a_journey_holds : PySem.Challenge.rw_swapstops_k09_what_is_a_journey.Holds := by
  w_on; o_law; k_head; (case hw => w_witness2)
  k_fill
  refine Sw.walk_law (l := PySem.Challenge.rw_swapstops_k09_what_is_a_journey) rfl rfl (fun w h Y => PySem.W.kIn_of Y) ?F
  case F =>
    intro w mg fa h KX G hmg base s₁ H a ns ev sq hlen
    refine' Sw.run_k09 ?qz0h ?qz1h ?qz2h ?qz3h ?qz4h ?qz5h ?qz6h ?qz7h ?qz8h ?qz9h ?qz10h ?qz11h ?qz12h ?qz13h ?qz14h ?qz15h ?qz16h ?qz17h ?qz18h ?qz19h ?qz20h ?qz21h ?qz22h ?qz23h ?qz24h ?qz25h ?qz26h hmg ev sq hlen
    case qz0h =>
      refine' ⟨PySem.W.mg_none_of KX G ?zn1, PySem.W.mg_none_of KX G ?zn2, PySem.W.mg_none_of KX G ?zn3, PySem.W.mg_none_of KX G ?zn4, PySem.W.mg_none_of KX G ?zn5, PySem.W.mg_none_of KX G ?zn6, PySem.W.mg_none_of KX G ?zn7, PySem.W.mg_none_of KX G ?zn8, PySem.W.mg_none_of KX G ?zn9, PySem.W.mg_none_of KX G ?zn10, PySem.W.mg_none_of KX G ?zn11, PySem.W.mg_none_of KX G ?zn12, PySem.W.mg_none_of KX G ?zn13, PySem.W.mg_none_of KX G ?zn14, PySem.W.mg_none_of KX G ?zn15⟩
      (case zn1 => k_is); (case zn2 => k_is); (case zn3 => k_is); (case zn4 => k_is); (case zn5 => k_is); (case zn6 => k_is); (case zn7 => k_is); (case zn8 => k_is); (case zn9 => k_is); (case zn10 => k_is); (case zn11 => k_is); (case zn12 => k_is); (case zn13 => k_is); (case zn14 => k_is); (case zn15 => k_is)
    case qz1h =>
      refine' PySem.W.mg_none_of KX G ?nn1
      (case nn1 => k_is)
    case qz2h =>
      refine' PySem.W.mg_of KX G ?mm2
      (case mm2 => k_is)
    case qz3h =>
      refine' PySem.W.mg_of KX G ?mm3
      (case mm3 => k_is)
    case qz4h =>
      refine' PySem.W.mg_of KX G ?mm4
      (case mm4 => k_is)
    case qz5h =>
      refine' Sw.has_mk KX G ?va1 ?vl1 ?vc1 ?vk1
      (case va1 => k_is); (case vl1 => k_is); (case vc1 => k_is); (case vk1 => k_is)
    case qz6h =>
      refine' Sw.has_mk KX G ?va2 ?vl2 ?vc2 ?vk2
      (case va2 => k_is); (case vl2 => k_is); (case vc2 => k_is); (case vk2 => k_is)
    case qz7h =>
      refine' Sw.has_mk KX G ?va3 ?vl3 ?vc3 ?vk3
      (case va3 => k_is); (case vl3 => k_is); (case vc3 => k_is); (case vk3 => k_is)
    case qz8h =>
      refine' Sw.has_mk KX G ?va4 ?vl4 ?vc4 ?vk4
      (case va4 => k_is); (case vl4 => k_is); (case vc4 => k_is); (case vk4 => k_is)
    case qz9h =>
      refine' Sw.has_mk KX G ?va5 ?vl5 ?vc5 ?vk5
      (case va5 => k_is); (case vl5 => k_is); (case vc5 => k_is); (case vk5 => k_is)
    case qz10h =>
      refine' Sw.has_mk KX G ?va6 ?vl6 ?vc6 ?vk6
      (case va6 => k_is); (case vl6 => k_is); (case vc6 => k_is); (case vk6 => k_is)
    case qz11h =>
      refine' Sw.has_mk KX G ?va7 ?vl7 ?vc7 ?vk7
      (case va7 => k_is); (case vl7 => k_is); (case vc7 => k_is); (case vk7 => k_is)
    case qz12h =>
      refine' Sw.has_mk KX G ?va8 ?vl8 ?vc8 ?vk8
      (case va8 => k_is); (case vl8 => k_is); (case vc8 => k_is); (case vk8 => k_is)
    case qz13h =>
      refine' Sw.has_mk KX G ?va9 ?vl9 ?vc9 ?vk9
      (case va9 => k_is); (case vl9 => k_is); (case vc9 => k_is); (case vk9 => k_is)
    case qz14h =>
      refine' Sw.has_mk KX G ?va10 ?vl10 ?vc10 ?vk10
      (case va10 => k_is); (case vl10 => k_is); (case vc10 => k_is); (case vk10 => k_is)
    case qz15h =>
      refine' Sw.has_mk KX G ?va11 ?vl11 ?vc11 ?vk11
      (case va11 => k_is); (case vl11 => k_is); (case vc11 => k_is); (case vk11 => k_is)
    case qz16h =>
      refine' Sw.has_mk KX G ?va12 ?vl12 ?vc12 ?vk12
      (case va12 => k_is); (case vl12 => k_is); (case vc12 => k_is); (case vk12 => k_is)
    case qz17h =>
      refine' Sw.has_mk KX G ?va13 ?vl13 ?vc13 ?vk13
      (case va13 => k_is); (case vl13 => k_is); (case vc13 => k_is); (case vk13 => k_is)
    case qz18h =>
      refine' Sw.has_mk KX G ?va14 ?vl14 ?vc14 ?vk14
      (case va14 => k_is); (case vl14 => k_is); (case vc14 => k_is); (case vk14 => k_is)
    case qz19h =>
      refine' Sw.has_mk KX G ?va15 ?vl15 ?vc15 ?vk15
      (case va15 => k_is); (case vl15 => k_is); (case vc15 => k_is); (case vk15 => k_is)
    case qz20h =>
      refine' Sw.has_mk KX G ?va16 ?vl16 ?vc16 ?vk16
      (case va16 => k_is); (case vl16 => k_is); (case vc16 => k_is); (case vk16 => k_is)
    case qz21h =>
      refine' Sw.has_mk KX G ?va17 ?vl17 ?vc17 ?vk17
      (case va17 => k_is); (case vl17 => k_is); (case vc17 => k_is); (case vk17 => k_is)
    case qz22h =>
      refine' Sw.has_mk KX G ?va18 ?vl18 ?vc18 ?vk18
      (case va18 => k_is); (case vl18 => k_is); (case vc18 => k_is); (case vk18 => k_is)
    case qz23h =>
      refine' Sw.has_mk KX G ?va19 ?vl19 ?vc19 ?vk19
      (case va19 => k_is); (case vl19 => k_is); (case vc19 => k_is); (case vk19 => k_is)
    case qz24h =>
      refine' Sw.has_mk KX G ?va20 ?vl20 ?vc20 ?vk20
      (case va20 => k_is); (case vl20 => k_is); (case vc20 => k_is); (case vk20 => k_is)
    case qz25h =>
      refine' Sw.has_mk KX G ?va21 ?vl21 ?vc21 ?vk21
      (case va21 => k_is); (case vl21 => k_is); (case vc21 => k_is); (case vk21 => k_is)
    case qz26h =>
      refine' Sw.has_mk KX G ?va22 ?vl22 ?vc22 ?vk22
      (case va22 => k_is); (case vl22 => k_is); (case vc22 => k_is); (case vk22 => k_is)
