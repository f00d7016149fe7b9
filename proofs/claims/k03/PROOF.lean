import PyProof.Rows.All
import Wide.All
import OpenK.AllK
import Wide.FinOn
import KE.KExcSuper
import HandS.ForExc
import HandS.ExcInit
import HandS.ExcValue
import KE.KExcStr
import PyProof.ReprReads
import PyProof.ReprLen
import PyProof.StrHeap
import HandS.Call
import HandS.IsInst
import KE.KExcIs
import HandS.ForMost
import HandS.Walk
import KE.GoesMore
import KE.GoesEnum
import PyProof.Draws
import HandS.TupLe
import KE.KDictPairs
import KE.KEqSeq
import HandS.Style
import HandS.TupAny
import PyProof.StrOps2
import HandS.Ends
import HandS.Conv
import PySem.Challenge.RW_swapstops_k03_what_is_a_standing
set_option Elab.async false
set_option linter.all false
set_option maxRecDepth 100000
set_option maxHeartbeats 4000000
namespace Sw
open PySem PySem.Spec PyProof.Rows PySem.W
/-- an exception's record -/
abbrev xRec (C : Addr) (d : Option Addr) (t : Addr) : Obj := { cls := .ref C, dict := d, data := .fields #[.ref t, .none, .none, .none, .bool false, .none] }
abbrev xTup (vs : List Value) : Obj := { cls := .type "tuple", data := .seq vs.toArray }
/-- what the written part says of an own exception's class over ValueError -/
structure XCls (K : Frag) (C : Addr) : Prop where
  cls : ∃ nm q N bs bm sn sub ab col dd k0 k1 k2 k3 k5, K.lookup C = some (excClassObj nm q C N bs bm true sn sub ab col dd k0 k1 k2 k3 k5 "ValueError.__new__") ∧ PySem.HandSPX.refsVE bm = true
  sa : findIn K (.ref C) "__setattr__" = some (some (.builtin "object.__setattr__"))
  opq : nsIn K cStatics "thirdparty.any" = some none
  kp : keepIn K (.ref C) = true
section
variable {P : Program} {w : World} {A : Around} {E : Value → Shared → Prop} {h : Heap} {g : Array GenState} {d : Drawn} {t : Nat} {os : OsState} {K : Frag} {C x : Addr}
/-- super().__init__ as it was bound, called: the args are laid anew -/
theorem bound_call (T : XCls K C) (X : K.In h) {u t0 : Addr} {dv : Option Addr} {rest : List Value} {Q : Value → Shared → Prop}
    (hu : h.get? u = some (kxs_mw "ValueError.__init__" x)) (hx : h.get? x = some (xRec C dv t0)) (hz : rest.length ≤ sizeLine)
    (hq : ∀ h' t1, (∀ b o, b ≠ x → h.get? b = some o → h'.get? b = some o) → h.get? t1 = none → t1 ≠ x → h'.get? x = some (xRec C dv t1) → h'.get? t1 = some (xTup rest) → Q .none ⟨h', g, d, t, os⟩) :
    wpAny (model P w) A (call (.ref u) rest) Q E ⟨h, g, d, t, os⟩ := by
  obtain ⟨nm, q, N, bs, bm, sn, sub, ab, col, dd, k0, k1, k2, k3, k5, hC, hbm⟩ := T.cls
  refine wpAny_call (codeAny_of_tree ?_)
  show wpAny _ A.in1 (callAny (.ref u) ⟨rest, []⟩) _ _ _
  simp only [callAny]
  refine wpAny_bind (wpAny_load hu ?_)
  simp only [kxs_mw, show (Value.type "method-wrapper" == Value.type "method" || Value.type "method-wrapper" == Value.type "builtin_function_or_method" || Value.type "method-wrapper" == Value.type "method-wrapper") = true by decide, if_true]
  refine KFB.if_so (by decide) ?_
  refine wpAny_bind (check_bound_init PySem.F.excBase_ValueError.toExcCallFacts (X _ _ hC) hx rfl ?_)
  refine wpAny_bind (wpAny_pure (wpAny_pure ?_))
  refine ⟨plainId_quiet PySem.F.excBase_ValueError.init.plain _, codeAny_builtin PySem.F.excBase_ValueError.initEntry ?_⟩
  refine exc_init_tree (cls := .ref C) (t0 := t0) (dv := dv) (c2 := .none) (c3 := .none) (b4 := .bool false) hx hz fun h' k e1 e2 => ?_
  refine hq h' h.objs.size k (Heap.get?_none_of_le (Nat.le_refl _)) (fun z => ?_) e1 e2
  rw [← z] at hx
  exact absurd (Heap.lt_size hx) (Nat.lt_irrefl _)
end
end Sw
namespace Sw
open PySem PySem.Spec PyProof.Rows PySem.W PySem.Calls
/-- the body that super().__init__(msg); self.fld = prm makes -/
abbrev initBody (msg fld prm : Str) (j : Nat) (p0 p1 p2 p3 p4 p5 p6 p7 p8 p9 : Pos) : List Stmt :=
  [.Expr (.Call (.Attribute (.Call (.Name "super" p0) [] [] p1) "__init__" p2) [.Constant (.str msg) j p3] [] p4) p5,
   .Assign [.Attribute (.Name "self" p6) fld p7] (.Name prm p8) p9]
theorem call_base {o : Expr} {name : Str} {apos pos : Pos} {e : Expr} {env : Env} (hl : (apos.endLine == pos.line) = true) (hs : starEach [e] env = [(false, eval e env)]) :
    eval (.Call (.Attribute o name apos) [e] [] pos) env = (do
      let ov ← attributeBase o name env (eval o env)
      standAt apos.atName
      let (f, first) ← holding [ov] (getMethod ov name (do return (← importBound o env).getD true))
      callWith pos f first (backTo pos (starEach [e] env)) []) := by
  have e2 : methodCallPos true o env apos pos = pure pos := by
    unfold methodCallPos
    rw [hl]
    rfl
  show (do
    let ov ← attributeBase o name env (eval o env)
    standAt apos.atName
    methodCall o name apos pos env ov 1 (backTo pos (starEach [e] env)) (backToKw pos (keywordEach [] env))) = _
  unfold methodCall
  rw [hs]
  show (do
    let ov ← attributeBase o name env (eval o env)
    standAt apos.atName
    let (f, first) ← holding [ov] (calleeOf true o env ov name)
    let callPos ← methodCallPos true o env apos pos
    callWith callPos f first (backTo pos [(false, eval e env)]) []) = _
  rw [e2]
  simp only [pure_bind]
  rfl
abbrev initScope (prm : Str) : Scope := { kind := .function, names := [(PySem.Str.ofString "self", .local), (prm, .local), (PySem.Str.ofString "__class__", .free), (PySem.Str.ofString "super", .globalImplicit)], isGenerator := false, isCoroutine := false, more := [] }
/-- what the written part says of the def __init__ of such a class -/
structure XInit (K : Frag) (C fI : Addr) (msg fld prm file : Str) : Prop where
  ex : ∃ (qual : Str) (j : Nat) (p0 p1 p2 p3 p4 p5 p6 p7 p8 p9 : Pos) (params : Arguments) (dV kV doc pm ct oc ccl cl : Value) (an od cdd cld : Option Addr) (osl ccs csl : Array (Option Value)) (cc cda : Addr) (vs : Array Value) (tf : Tok) (ar : Arg),
    K.lookup fI = some ⟨oc, od, .func (ksFn "__init__" qual params (initBody msg fld prm j p0 p1 p2 p3 p4 p5 p6 p7 p8 p9) (initScope prm) dV kV doc pm an (.ref cda) ct cc), osl⟩ ∧
    codeIn K (.ref cda) qual = true ∧ K.lookup cda = some ⟨ccl, cdd, .fields vs, ccs⟩ ∧ vs[2]? = some (.str file tf) ∧ K.lookup cc = some ⟨cl, cld, .cell (some (.ref C)), csl⟩ ∧
    (p2.endLine == p4.line) = true ∧ (params.posonlyargs ++ params.args).head? = some ar ∧ ar.arg = "self" ∧
    (∀ a u : Value, bindArgs (ksFn "__init__" qual params (initBody msg fld prm j p0 p1 p2 p3 p4 p5 p6 p7 p8 p9) (initScope prm) dV kV doc pm an (.ref cda) ct cc) ⟨[a, u], []⟩ = pure [(("self" : Str), a), (prm, u)])
  pn : ¬ prm = "self"
  pc : ¬ prm = "__class__"
  ps : ¬ prm = "super"
  pd : (prm == ("__debug__" : Str)) = false
  su : ks_superIn K C C "__init__" = some (some (.builtin "ValueError.__init__"))
  sub : subIn K (.ref C) (.type "ValueError") = some true
  self : mroIn K C (.ref C) = some true
  nf : findIn K (.ref C) fld = some none
  ty : typeIn K (.ref fI) = some (.type "function")
  fi : findIn K (.ref C) "__init__" = some (some (.ref fI))
section
variable {P : Program} {w : World} {A : Around} {E : Value → Shared → Prop} {h : Heap} {g : Array GenState} {d : Drawn} {t : Nat} {os : OsState} {K : Frag} {C x fI t0 : Addr} {mg mb : Str → Option Value} {u : Value} {msg fld prm file : Str}
theorem init_code (T : XCls K C) (F : XInit K C fI msg fld prm file) (X : K.In h) {R : Result → Shared → Prop}
    (hroom : A.depth < recursionLimit) (hlim : h.NoLimit) (hmg : h.Ns mainGlobals mg) (hmb : h.Ns builtinsNs mb) (hg : mg "super" = none) (hb : mb "super" = some (.type "super"))
    (hfile : ((P.main.file : Str) == file) = true) (htop : (P.main.scope.names.lookup ("super" : Str)).isSome = false)
    (hx : h.get? x = some (xRec C none t0)) (hxK : K.lookup x = none)
    (hq : ∀ h' tk t1 dx, (∀ b o, b ≠ x → h.get? b = some o → h'.get? b = some o) → h.get? t1 = none → t1 ≠ x → h'.get? x = some (xRec C (some dx) t1) → (∃ tm, h'.get? t1 = some (xTup [.str msg tm])) → h.get? dx = none → dx ≠ x → dx ≠ t1 → (∃ o, h'.get? dx = some o) → R (.ok (.ret .none)) ⟨h', g, d, tk, os⟩) :
    codeAny (model P w) A (.call (.ref fI) ⟨[.ref x, u], []⟩) R ⟨h, g, d, t, os⟩ := by
  obtain ⟨nm, q, N, bs, bm, sn, sub, ab, col, dd, k0, k1, k2, k3, k5, hC, hbm⟩ := T.cls
  obtain ⟨qual, j, p0, p1, p2, p3, p4, p5, p6, p7, p8, p9, params, dV, kV, doc, pm, ct, oc, ccl, cl, an, od, cdd, cld, osl, ccs, csl, cc, cda, vs, tf, ar, lk, hcd, hcda, hvs, hcc, hln, har, hself, hbind⟩ := F.ex
  have ne1 : (("__class__" : Str) == "self") = false := by decide
  have ne2 : (("super" : Str) == "self") = false := by decide
  have ne3 : (("super" : Str) == "__class__") = false := by decide
  have nb : ∀ {a b : Str}, ¬ b = a → (a == b) = false := fun h => beq_eq_false_iff_ne.mpr fun z => h z.symm
  have hsl : (initScope prm).names.lookup ("self" : Str) = some .local := by
    show List.lookup ("self" : Str) ((("self" : Str), NameKind.local) :: _) = _
    rw [List.lookup_cons_self]
  have hpl : (initScope prm).names.lookup prm = some .local := by
    show List.lookup prm ((("self" : Str), NameKind.local) :: (prm, NameKind.local) :: _) = _
    rw [List.lookup_cons, beq_eq_false_iff_ne.mpr F.pn, List.lookup_cons_self]
  have hcls : (initScope prm).names.lookup ("__class__" : Str) = some .free := by
    show List.lookup ("__class__" : Str) ((("self" : Str), NameKind.local) :: (prm, NameKind.local) :: (("__class__" : Str), NameKind.free) :: _) = _
    rw [List.lookup_cons, ne1, List.lookup_cons, nb F.pc, List.lookup_cons_self]
  have hsup : (initScope prm).names.lookup ("super" : Str) = some .globalImplicit := by
    show List.lookup ("super" : Str) ((("self" : Str), NameKind.local) :: (prm, NameKind.local) :: (("__class__" : Str), NameKind.free) :: (("super" : Str), NameKind.globalImplicit) :: _) = _
    rw [List.lookup_cons, ne2, List.lookup_cons, nb F.ps, List.lookup_cons, ne3, List.lookup_cons_self]
  have hncell : ∀ x ∈ (initScope prm).names, x.2 ≠ .cell := fun x hx => by
    simp at hx
    rcases hx with rfl | rfl | rfl | rfl <;> (intro z; cases z)
  have hk : (initScope prm).kind = .function := rfl
  have hcl : clsIn K C = some { name := nm, bases := bs, mro := .ref C :: bm, ns := N, qualname := q, hasDict := true, slotNames := sn, subclasses := sub, abstract := ab, collection := col, hasDel := false } := by unfold clsIn; rw [hC] <;> rfl
  have hCd : ∃ cd, h.get? C = some (excClassObj nm q C N bs bm true sn sub ab col dd k0 k1 k2 k3 k5 "ValueError.__new__") ∧ (excClassObj nm q C N bs bm true sn sub ab col dd k0 k1 k2 k3 k5 "ValueError.__new__").data = .cls cd := ⟨_, X _ _ hC, rfl⟩
  obtain ⟨cdC, hC1, hC2⟩ := hCd
  have hloc : ∀ y ∈ [(("self" : Str), Value.ref x), (prm, u)], (initScope prm).names.lookup y.1 = some .local := fun y hy => by
    rcases List.mem_cons.mp hy with rfl | hy
    · exact hsl
    · obtain rfl := List.mem_singleton.mp hy
      exact hpl
  refine ks_codeAny_call_defAt (fd := ksFn "__init__" qual params (initBody msg fld prm j p0 p1 p2 p3 p4 p5 p6 p7 p8 p9) (initScope prm) dV kV doc pm an (.ref cda) ct cc) (binds := [(("self" : Str), Value.ref x), (prm, u)]) hroom (X _ _ lk) rfl hlim (codeRec_of X hcd) rfl (.of_eq (hbind _ _)) hncell hloc (fun h1 hns k1 => ?_) rfl rfl hk
  have mp : ([(("self" : Str), Value.ref x), (prm, u)].reverse.lookup prm) = some u := by
    show List.lookup prm [(prm, u), (("self" : Str), Value.ref x)] = some u
    rw [List.lookup_cons_self]
  have ms : ([(("self" : Str), Value.ref x), (prm, u)].reverse.lookup ("self" : Str)) = some (.ref x) := by
    show List.lookup ("self" : Str) [(prm, u), (("self" : Str), Value.ref x)] = some (.ref x)
    have e : (("self" : Str) == prm) = false := beq_eq_false_iff_ne.mpr fun z => F.pn z.symm
    rw [List.lookup_cons, e, List.lookup_cons_self]
  -- super().__init__(msg)
  refine ks_wpAt_execs_cons (ks_wpAt_Expr_any (ks_wpAt_MethodCall ?_ (call_base hln rfl)))
  refine ks_wpAt_super_base (env := ksEnv qual (initScope prm) h.objs.size fI (.ref cda) cc) (ar := ar) hsup hcls (by decide) rfl (k1 _ _ (X _ _ lk)) rfl har rfl (k1 _ _ (X _ _ hcda)) rfl hvs hfile htop ?_
  refine ks_loadName_global hk hsup (loadGlobal_builtin (env := ksEnv qual (initScope prm) h.objs.size fI (.ref cda) cc) (hmg.keeps k1) hg (hmb.keeps k1) hb ⟨rfl, ?_⟩)
  refine wpAny_loadName_free hk hcls rfl ⟨_, k1 _ _ (X _ _ hcc), rfl⟩ ?_
  rw [hself]
  refine wpAny_loadName_local hk hsl hns ms ?_
  refine ks_wpAny_isType_cls (k1 _ _ hC1) hC2 ⟨rfl, ?_⟩
  have X1 : K.In h1 := X.keeps k1
  refine ks_wpAny_call_super (k1 _ _ hC1) hC2 (k1 _ _ hx) rfl (fun c e => by cases e) (looks_mroIn X1 F.self) (fun h2 eso k2 => ?_)
  have X2 : K.In h2 := X1.keeps k2
  have hx2 := k2 _ _ (k1 _ _ hx)
  have I2 : InstAt h2 x (xRec C none t0) C none := ⟨hx2, rfl, rfl, trivial⟩
  have hm := F.su
  unfold ks_superIn at hm
  rw [hcl] at hm
  refine kxs_getMethod kxs_ValueError eso (looks_opaque X2 T.opq) (l₀ := .ref C :: bm) ?_ rfl X2 hm (I2.type.andThen (looks_subIn X2 F.sub)) (ks_ne X2 I2 hcl) (by decide) ?_
  · exact fun A Q E s k q => wpAny_bind ((looks_clsIn X2 hcl) A _ E s k (wpAny_pure q))
  have k3 : ∀ b o, h2.get? b = some o → (h2.push (kxs_mw "ValueError.__init__" x)).get? b = some o := fun b o e => Heap.get?_push_of_some _ e
  have hu3 : (h2.push (kxs_mw "ValueError.__init__" x)).get? h2.objs.size = some (kxs_mw "ValueError.__init__" x) := Heap.get?_push_at rfl rfl
  refine kxs_callWith (i := "ValueError.__init__") (x := x) rfl (evalArgs_plain ?_)
  show wpAny _ _ (spliced ((false, eval (.Constant (.str msg) j p3) _) :: backTo p4 (starEach [] _))) _ _ _
  refine Calls.spliced_cons (Calls.Constant_str ?_)
  refine Calls.spliced_nil ⟨hu3, ?_⟩
  show wpAny _ _ (call (.ref h2.objs.size) [.str msg _]) _ _ _
  refine bound_call T (X2.keeps k3) hu3 (k3 _ _ hx2) (by show 1 ≤ sizeLine; rw [sizeLine_eq]; omega) fun h4 t1 k4 nt1 nx e1 e2 => ?_
  -- self.fld = prm
  have kAll : ∀ b o, b ≠ x → h.get? b = some o → h4.get? b = some o := fun b o hb e => k4 b o hb (k3 _ _ (k2 _ _ (k1 _ _ e)))
  have hLx : h.objs.size ≠ x := fun z => by
    rw [← z] at hx
    exact absurd (Heap.lt_size hx) (Nat.lt_irrefl _)
  have hns4 : h4.Ns h.objs.size fun z => List.lookup z [(("self" : Str), Value.ref x), (prm, u)].reverse := by
    obtain ⟨o, es, ep, ho, r⟩ := hns
    exact ⟨o, es, ep, k4 _ _ hLx (k3 _ _ (k2 _ _ ho)), r⟩
  have X4 : K.In h4 := fun b o e => kAll b o (fun z => by
    rw [z, hxK] at e
    cases e) (X _ _ e)
  refine ks_wpAt_execs_cons (wpAt_of_wpAny (plainObj_wpAny_Assign_Attribute ?_))
  refine wpAny_Name (wpAny_loadName_local hk hpl hns4 mp ?_) F.pd
  refine wpAny_Name (wpAny_loadName_local hk hsl hns4 ms ?_) (by decide)
  refine set_plain X4 (ox := xRec C none t1) (od := none) ⟨e1, rfl, rfl, trivial⟩ T.sa ?_
  refine PySem.HandSPX.exc_osa X4 e1 hcl (show PySem.HandSPX.refsVE (.ref C :: bm) = true from hbm) rfl F.nf (fun h5 tk' dx k5 dn dne hx5 hn5 => ?_)
  refine wpAt_of_wpAny (wpAny_pure ?_)
  obtain ⟨oD, es, ep, hoD, hdD, _⟩ := hn5
  have e2' := k5 _ _ nx e2
  refine hq h5 tk' t1 dx (fun b o hb e => k5 b o hb (kAll b o hb e)) ?_ nx hx5 ⟨_, e2'⟩ ?_ dne (fun z => ?_) ⟨oD, hoD⟩
  rotate_left
  · cases e : h.get? dx with
    | none => rfl
    | some o =>
      have hb : dx ≠ x := dne
      exact absurd (Heap.lt_size (kAll _ _ hb e)) (Nat.not_lt.mpr dn)
  · rw [z, e2'] at hoD
    obtain rfl := Option.some.inj hoD
    cases hdD
  cases e : h.get? t1 with
  | none => rfl
  | some o =>
    rw [k3 _ _ (k2 _ _ (k1 _ _ e))] at nt1
    cases nt1
end
end Sw
namespace Sw
open PySem PySem.Spec PyProof.Rows L2
/-- an exception of the class at C that was made, its args at t -/
def xV (C t : Addr) (d : Option Addr) (a : Addr) : HO := .ext fun h => h.get? a = some (xRec C d t)
theorem xV_ok {P : Program} {w : World} {H : Hp} {h : Heap} {C t a : Addr} {d : Option Addr} (e : h.get? a = some (xRec C d t)) : ObjOk P w H h a (xV C t d a) :=
  ⟨e, ⟨_, e⟩, fun _ _ z k => k _ z⟩
theorem xV_at {P : Program} {w : World} {H : Hp} {h : Heap} {C t a : Addr} {d : Option Addr} (ok : HOk P w H h) (e : H a = some (xV C t d a)) : h.get? a = some (xRec C d t) := by
  have x : ObjOk P w H h a (.ext fun h => h.get? a = some (xRec C d t)) := ok a _ e
  exact x.1
section
variable {X : Cx} {pins : List (Addr × Obj)} {σ : L2.St} {H : Hp} {s : Shared}
/-- two new objects laid -/
theorem laid2 {h' : Heap} {a b : Addr} {o u : HO} {t' : Nat} (I : Inv X pins σ H s) (k : ∀ c v, s.heap.get? c = some v → h'.get? c = some v) (ha : s.heap.get? a = none) (hb : s.heap.get? b = none) (ne : b ≠ a)
    (new : ObjOk X.prog X.w (upd (upd H b u) a o) h' a o) (new2 : ObjOk X.prog X.w (upd (upd H b u) a o) h' b u) : Inv X pins σ (upd (upd H b u) a o) { s with heap := h', toks := t' } := by
  have na : H a = none := I.hok.gone ha
  have nb : H b = none := I.hok.gone hb
  have up : ∀ {c : Addr} {v : HO}, H c = some v → (upd (upd H b u) a o) c = some v := fun {c v} e => by
    rw [upd_ne (ne_of_none e na), upd_ne (ne_of_none e nb)]
    exact e
  have old : ∀ {c : Addr} {v : Obj}, s.heap.get? c = some v → c ≠ a ∧ c ≠ b := fun {c v} e => by
    constructor
    · intro z
      rw [z, ha] at e
      cases e
    · intro z
      rw [z, hb] at e
      cases e
  refine I.un ⟨fun c v e _ _ _ => k c v e, fun c v e _ _ _ => ⟨v.slots, k c v e⟩, fun c v e n _ => ?_, fun c v e _ => ⟨v, k c v e⟩, fun c xs e => up e, fun c v xs e => up e, fun c ps e => ⟨#[], by rw [up e]; simp⟩⟩ fun c v e => ?_
  · rw [upd_ne (old e).1, upd_ne (old e).2]
    exact n
  · by_cases ca : c = a
    · subst ca
      rw [upd_same] at e
      cases e
      exact new
    · by_cases cb : c = b
      · subst cb
        rw [upd_ne ca, upd_same] at e
        cases e
        exact new2
      · rw [upd_ne ca, upd_ne cb] at e
        exact (I.hok c v e).stay (fun d q _ z => k d q z) (fun d z => up z) fun d xs z => up z
/-- three -/
theorem laid3 {h' : Heap} {a b c : Addr} {o u v : HO} {t' : Nat} (I : Inv X pins σ H s) (k : ∀ x y, s.heap.get? x = some y → h'.get? x = some y) (ha : s.heap.get? a = none) (hb : s.heap.get? b = none) (hc : s.heap.get? c = none) (ne : b ≠ a) (ca : c ≠ a) (cb : c ≠ b)
    (new : ObjOk X.prog X.w (upd (upd (upd H c v) b u) a o) h' a o) (new2 : ObjOk X.prog X.w (upd (upd (upd H c v) b u) a o) h' b u) (new3 : ObjOk X.prog X.w (upd (upd (upd H c v) b u) a o) h' c v) : Inv X pins σ (upd (upd (upd H c v) b u) a o) { s with heap := h', toks := t' } := by
  have na : H a = none := I.hok.gone ha
  have nb : H b = none := I.hok.gone hb
  have nc : H c = none := I.hok.gone hc
  have up : ∀ {x : Addr} {y : HO}, H x = some y → (upd (upd (upd H c v) b u) a o) x = some y := fun {x y} e => by
    rw [upd_ne (ne_of_none e na), upd_ne (ne_of_none e nb), upd_ne (ne_of_none e nc)]
    exact e
  have old : ∀ {x : Addr} {y : Obj}, s.heap.get? x = some y → x ≠ a ∧ x ≠ b ∧ x ≠ c := fun {x y} e => by
    refine ⟨?_, ?_, ?_⟩
    · intro z
      rw [z, ha] at e
      cases e
    · intro z
      rw [z, hb] at e
      cases e
    · intro z
      rw [z, hc] at e
      cases e
  refine I.un ⟨fun x y e _ _ _ => k x y e, fun x y e _ _ _ => ⟨y.slots, k x y e⟩, fun x y e n _ => ?_, fun x y e _ => ⟨y, k x y e⟩, fun x xs e => up e, fun x y xs e => up e, fun x ps e => ⟨#[], by rw [up e]; simp⟩⟩ fun x y e => ?_
  · obtain ⟨z1, z2, z3⟩ := old e
    rw [upd_ne z1, upd_ne z2, upd_ne z3]
    exact n
  · by_cases xa : x = a
    · subst xa
      rw [upd_same] at e
      cases e
      exact new
    · by_cases xb : x = b
      · subst xb
        rw [upd_ne xa, upd_same] at e
        cases e
        exact new2
      · by_cases xc : x = c
        · subst xc
          rw [upd_ne xa, upd_ne xb, upd_same] at e
          cases e
          exact new3
        · rw [upd_ne xa, upd_ne xb, upd_ne xc] at e
          exact (I.hok x y e).stay (fun d q _ z => k d q z) (fun d z => up z) fun d xs z => up z
variable {e : Expr} {te : TE} {x : Str} {p pos : Pos} {C fI : Addr} {msg fld prm file : Str}
theorem boot_super : bootBuiltins "super" = some (.type "super") := by first | boot_by_name | rfl | kernel_rfl
/-- C(e), C an own class of errors whose __init__ says super().__init__(msg); self.fld = prm -/
theorem pe_xmk (T : XCls X.K C) (F : XInit X.K C fI msg fld prm file) (hr : Room 1 X.A) (hg : Gl X x) (hm : X.mg x = some (.ref C)) (hs : X.mg "super" = none)
    (hfile : ((X.prog.main.file : Str) == file) = true) (htop : (X.prog.main.scope.names.lookup ("super" : Str)).isSome = false) (he : PE X e te)
    (hst : starEach [e] X.env = (false, eval e X.env) :: starEach [] X.env := by rfl) (hdb : (x == ("__debug__" : Str)) = false := by decide) :
    PE X (.Call (.Name x p) [e] [] pos) (fun σ H Q => te σ H fun _ H1 => ∀ a t1 dx, H1 a = none → H1 t1 = none → H1 dx = none → t1 ≠ a → dx ≠ a → dx ≠ t1 → Q (.ref a) (upd (upd (upd H1 dx (.own a)) t1 (.tup [.str msg])) a (xV C t1 (some dx) a))) := by
  refine ⟨fun pins s σ H Q I h => ?_⟩
  obtain ⟨nm, q, N, bs, bm, sn, sub, ab, col, dd, k0, k1, k2, k3, k5, hC, hbm⟩ := T.cls
  refine wpAny_Call_Name_kw (ld_glob I hg hm ?_ hdb)
  refine PySem.W.callWith_K (h₀ := X.base) I.ok.mod.kin T.kp ?_ hst (by rfl)
  rw [hst]
  show wpAny _ _ (spliced ((false, eval e X.env) :: backTo pos (starEach [] X.env))) _ _ s
  refine Calls.spliced_cons (thn (he.run pins s σ H _ I h) fun u s1 ⟨v, H1, I1, r1, q1⟩ => ?_)
  refine Calls.spliced_nil ⟨I1.kIn, ?_⟩
  show wpAny _ _ (call (.ref C) [u]) _ _ _
  obtain ⟨hp, g, dr, tk, os⟩ := s1
  have kk : ∀ b o, hp.get? b = some o → ((hp.push (PySem.W.kdv_tup [u])).push (PySem.HandSPX.excO C hp.objs.size)).get? b = some o := fun b o e => Heap.get?_push_of_some _ (Heap.get?_push_of_some _ e)
  have hget : ((hp.push (PySem.W.kdv_tup [u])).push (PySem.HandSPX.excO C hp.objs.size)).get? (hp.objs.size + 1) = some (xRec C none hp.objs.size) := by
    show _ = some (PySem.HandSPX.excO C hp.objs.size)
    heap_get
  have na : hp.get? (hp.objs.size + 1) = none := Heap.get?_none_of_le (Nat.le_succ _)
  have kin := I1.kIn
  obtain ⟨mb, hb1, hb2⟩ := I1.mod.blt
  refine wpAny_call (PySem.HandSPX.call_own PySem.F.excBase_ValueError (fun Y => PySem.HandSPX.refsVE_contains Y bm hbm) (kin _ _ hC) (PySem.W.looks_findIn kin F.fi) (fun self => PySem.W.bind_fn kin self F.ty) (by show 1 ≤ sizeLine; rw [sizeLine_eq]; omega) ?_)
  refine init_code T F (kin.keeps kk) (mg := X.mg) (mb := mb) (hr.make C [u] []).depth (I1.nolimit.keeps kk) ((I1.mod.glob.keeps I1.bk).keeps kk) ((hb1.keeps I1.bk).keeps kk) hs ((hb2 _ (by decide)).trans boot_super) hfile htop hget ?_ fun h' tk' t1 dx k4 nt1 ne e1 e2 nd da dt eo => ?_
  · cases z : X.K.lookup (hp.objs.size + 1) with
    | none => rfl
    | some o =>
      rw [kin _ _ z] at na
      cases na
  · have k5 : ∀ b o, hp.get? b = some o → h'.get? b = some o := fun b o e => k4 b o (fun z => by
      rw [z, na] at e
      cases e) (kk b o e)
    have nt0 : hp.get? t1 = none := by
      cases z : hp.get? t1 with
      | none => rfl
      | some o =>
        rw [kk _ _ z] at nt1
        cases nt1
    have nd0 : hp.get? dx = none := by
      cases z : hp.get? dx with
      | none => rfl
      | some o =>
        rw [kk _ _ z] at nd
        cases nd
    obtain ⟨tm, e3⟩ := e2
    refine ⟨rfl, ⟨.ref (hp.objs.size + 1), _, laid3 (t' := tk') (o := xV C t1 (some dx) (hp.objs.size + 1)) (u := .tup [.str msg]) (v := .own (hp.objs.size + 1)) I1 k5 na nt0 nd0 ne da dt (xV_ok e1) ⟨?_, [.str msg tm], .cons ⟨tm, rfl⟩ .nil, ⟨_, e3, rfl, _, rfl⟩⟩ eo, rfl, q1 _ t1 dx (I1.hok.gone na) (I1.hok.gone nt0) (I1.hok.gone nd0) ne da dt⟩⟩
    show 1 ≤ sizeLine
    rw [sizeLine_eq]
    omega
/-- C(), C an own class of errors without __init__ -/
theorem pe_xmk0 {k : Nat} {bmB : List Value} {B newId initId : String} (F : ExcBaseFacts B newId initId bmB) (q : PySem.W.excIn X.K C bmB newId = true) (kC : PySem.W.keepIn X.K (.ref C) = true) (hg : Gl X x) (hm : X.mg x = some (.ref C))
    (hdb : (x == ("__debug__" : Str)) = false := by decide) :
    PE X (.Call (.Name x p) [] [] pos) (fun _ H Q => ∀ a t1, H a = none → H t1 = none → t1 ≠ a → Q (.ref a) (upd (upd H t1 (.tup [])) a (xV C t1 none a))) := by
  refine ⟨fun pins s σ H Q I h => ?_⟩
  refine wpAny_Call_Name_kw (ld_glob I hg hm ?_ hdb)
  refine PySem.W.callWith_K0 (first := []) I.kIn kC ?_
  show wpAny _ _ (call (.ref C) []) _ _ _
  obtain ⟨bm, N, nm, qn, bs, hdct, sn, sub, ab, col, dd, k0, k1, k2, k3, k5, mN, hC, hN, hni, T⟩ := exc_obj I.kIn q
  refine wpAny_call_exc_subT F T hC hN hni (fun h' a hm => ?_) (by show 0 ≤ sizeLine; omega)
  obtain ⟨t1, e1, nt, e2⟩ := hm.there
  have ne : t1 ≠ a := fun z => by
    rw [z, e1] at e2
    have e3 := Option.some.inj e2
    cases e3
  exact ⟨.ref a, _, laid2 (t' := s.toks) (o := xV C t1 none a) (u := .tup []) I hm.keeps hm.new nt ne (xV_ok e1) ⟨Nat.zero_le _, [], .nil, ⟨_, e2, rfl, _, rfl⟩⟩, rfl, h a t1 (I.hok.gone hm.new) (I.hok.gone nt) ne⟩
end
end Sw
namespace Sw
open PySem PySem.Spec PyProof.Rows PySem.W Builtin Builtin.BaseException
/-- how repr calls a class -/
def exN (nm : Str) : Str := ((nm.toString.cutAt '.').getLastD "")
/-- a class of errors, by what repr and isinstance ask -/
structure XGood (K : Frag) (C : Addr) (n : Str) : Prop where
  nm : ∃ cd, clsIn K C = some cd ∧ exN cd.name = n
  len : n.length ≤ 60
  rp : findIn K (.ref C) "__repr__" = some (some (.builtin "BaseException.__repr__"))
  sub : subIn K (.ref C) (.type "BaseException") = some true
  ga : findIn K (.ref C) "__getattribute__" = some (some (.builtin "BaseException.__getattribute__"))
  gt : findIn K (.ref C) "__getattr__" = some none
  ca : findIn K (.ref C) "__class__" = some (some (.builtin "object.__class__"))
  cn : specialIn K (.builtin "object.__class__") "__get__" = some (some (.builtin "getset_descriptor.__get__"))
  ct : takesIn K (.builtin "object.__class__") = some true
  mo : mroIn K C (.type "object") = some true
  ni : subIn K (.ref C) (.type "int") = some false
  nb : subIn K (.ref C) (.type "bool") = some false
  nt : subIn K (.ref C) (.type "tuple") = some false
  ns : subIn K (.ref C) (.type "str") = some false
  nl : subIn K (.ref C) (.type "list") = some false
  nd : subIn K (.ref C) (.type "dict") = some false
/-- the text of such an error, by its args (none or one text) -/
def xText (n : Str) : Option Str → Str
  | none => n ++ "()"
  | some m => n ++ "(" ++ reprText m ++ ")"
def xArgs : Option Str → List L2.V
  | none => []
  | some m => [.str m]
section
variable {prog : Program} {w : World} {A : Around} {E : Value → Shared → Prop} {s : Shared} {K : Frag} {C e t0 : Addr} {n : Str}
theorem typeNameWhole_C {M : Model} (G : XGood K C n) (x : ExcC K C e t0 s.heap) {Q : String → Shared → Prop} (h : ∀ nm : String, (((nm.cutAt '.').getLastD "" : String) : Str) = n → Q nm s) : wpAny M A (typeNameOfWhole (.ref e)) Q E s := by
  obtain ⟨cd, hc, hn⟩ := G.nm
  unfold typeNameOfWhole shownTypeOf
  refine wpAny_bind (wpAny_bind ((x.LT).here ?_))
  simp only [show (Value.ref C == Value.type "builtin_function_or_method") = false from rfl, Bool.false_eq_true, if_false]
  refine wpAny_pure ?_
  unfold typeNameWhole
  refine wpAny_bind ((looks_clsIn x.1 hc).here (wpAny_pure ?_))
  exact h _ hn
theorem bexcRepr_C (G : XGood K C n) (x : ExcC K C e t0 s.heap) (m : Option Str) {its : List Value} (hi : L2.Vals (xArgs m) its) (ht : s.heap.TupAt t0 its) (b : Nat) (hsz : b + (xText n m).length ≤ sizeLine)
    (g : List Code) (hg : A.guards = some g) (hcl : Clear g t0) (hu : A.units + 2 < cLine) {Q : Fin → Shared → Prop}
    (h : ∀ h' u tk, (∀ b o, s.heap.get? b = some o → h'.get? b = some o) → Q (.done (.ret (.str (xText n m) u))) { s with heap := h', toks := tk }) :
    wpAny (model prog w) A (Builtin.bexcReprAt b ⟨[.ref e], []⟩) Q E s := by
  unfold Builtin.bexcReprAt
  cases m with
  | some m =>
    cases hi with
    | cons r1 r2 =>
      cases r2
      obtain ⟨tk, rfl⟩ := r1
      have eP : (Str.ofString "(").length = 1 := by rw [PySem.ofString_length]; rfl
      have e1 : b + (n ++ Str.ofString "(" ++ reprText m ++ Str.ofString ")").length ≤ sizeLine := hsz
      have hsz2 : (n ++ Str.ofString "(" ++ reprText m ++ Str.ofString ")").length ≤ sizeLine := Nat.le_trans (Nat.le_add_left _ b) e1
      rw [strLen_append, strLen_append, strLen_append, eP] at e1
      have hsz1 : (reprText m).length ≤ sizeLine := by omega
      have hpile : b + (n.length + 1) ≤ sizeLine := by omega
      refine wpAny_bind (wpAny_pure ?_)
      refine wpAny_bind (typeNameWhole_C G x fun nm en => ?_)
      refine wpAny_bind (bexcArgs_C x ht ?_)
      show wpAny _ _ (rule "BaseException.__repr__.one-argument" >>= _) _ _ _
      refine wpAny_bind (wpAny_rule ?_)
      rw [en]
      refine wpAny_bind ?_
      rw [pyReprUnder_leaf (v := .str m tk) hpile (by intro a; nofun)]
      refine wpAny_pyRepr_str ?_ hsz1
      unfold retStr
      refine wpAny_bind (wpAny_mkStr (wpAny_pure ?_) hsz2)
      exact h s.heap _ _ fun _ _ e => e
  | none =>
    cases hi
    obtain ⟨ot, kk, hto, hc, hd⟩ := id ht
    have e1 : b + (n ++ Str.ofString "()").length ≤ sizeLine := hsz
    have e2 : (n ++ Str.ofString "()").length ≤ sizeLine := Nat.le_trans (Nat.le_add_left _ b) e1
    rw [strLen_append] at e1
    have e3 : (Str.ofString "()").length = 2 := by rw [PySem.ofString_length]; rfl
    have et : tupleText [] = ("()" : Str) := by decide +kernel
    refine wpAny_bind (wpAny_pure ?_)
    refine wpAny_bind (typeNameWhole_C G x fun nm en => ?_)
    refine wpAny_bind (bexcArgs_C x ht ?_)
    show wpAny _ _ (pyReprUnder (b + _) (.ref t0) >>= _) _ _ _
    rw [en]
    refine wpAny_bind ?_
    have hK := ReprK.tuple (prog := prog) (w := w) (as := []) (h₀ := s.heap) (d := 0) (a := t0) (o := ot) (items := #[]) (n := kk) (ts := []) hto hc hd (by simp) .nil
    refine hK (b + n.length) (by rw [et]; show b + n.length + (Str.ofString "()").length ≤ sizeLine; omega) A g E s _ hg (fun b hb => ?_) (by omega) (fun _ _ e => e) fun h' tk hk => ?_
    · obtain rfl := List.mem_singleton.mp hb
      exact hcl
    · rw [et]
      unfold retStr
      refine wpAny_bind (wpAny_mkStr (wpAny_pure ?_) e2)
      exact h h' _ _ hk
theorem reprUnder_C (G : XGood K C n) (x : ExcC K C e t0 s.heap) (m : Option Str) {its : List Value} (hi : L2.Vals (xArgs m) its) (ht : s.heap.TupAt t0 its) (b : Nat) (hsz : b + (xText n m).length ≤ sizeLine)
    (g : List Code) (hg : A.guards = some g) (hcl : Clear g t0) (hu : A.units + 3 < cLine) {Q : Value → Shared → Prop}
    (h : ∀ h' u tk, (∀ b o, s.heap.get? b = some o → h'.get? b = some o) → Q (.str (xText n m) u) { s with heap := h', toks := tk }) :
    wpAny (model prog w) A (pyReprObjUnder b (.ref e)) Q E s := by
  unfold pyReprObjUnder pyReprObjBy
  have hf : Looks (model prog w) s.heap (typeLookup (.ref C) "__repr__") (some (.builtin "BaseException.__repr__")) := looks_findIn x.1 G.rp
  have hb : bindSpecial (.builtin "BaseException.__repr__") (.ref e) = pure (.builtin "BaseException.__repr__", [.ref e]) := PySem.F.excStr_Exception.repr.bind _
  have hT : Looks (model prog w) s.heap (typeOf (.ref e)) (.ref C) := x.LT
  refine wpAny_bind (wpAny_cRoomFor (by omega) ?_)
  unfold specialOf
  refine wpAny_bind (wpAny_bind (hT.here (hf.here ?_)))
  have fin : wpAny (model prog w) A (call (.builtin "BaseException.__repr__.under") [.ref e, rawInt b]) (fun v s' => (∃ x u, v = .str x u) ∧ Q v s') E s := by
    refine wpAny_call (codeAny_call_builtin PySem.F.plain_bexc_repr_under PySem.F.entry_bexc_repr_under ?_)
    rw [PySem.F.check_bexc_repr_under]
    refine wpAny_pure ?_
    show wpAny _ _ (reprTwin "BaseException.__repr__" Builtin.bexcReprAt ⟨[.ref e, rawInt b], []⟩) _ _ _
    rw [reprTwin_eq]
    refine wpAny_bind ?_
    refine @PySem.W.check_slot (model prog w) _ _ s "BaseException.__repr__" "BaseException" "__repr__" (.ref e) [] [] _ (by decide +kernel) (by decide +kernel) (x.LI G.sub) (PySem.F.args_bexc_repr _) ?_
    refine bexcRepr_C (A := A.in1) G x m hi ht b hsz g hg hcl (by show A.units + 1 + 2 < cLine; omega) fun h' u tk hk => ?_
    exact ⟨⟨_, _, rfl⟩, h h' u tk hk⟩
  simp only [Option.isNone_some, Bool.false_eq_true, if_false]
  refine wpAny_bind ?_
  unfold callSpecialIfBoundBy? bindSpecialIfBound? specialOf
  refine wpAny_holding (wpAny_bind (wpAny_bind (wpAny_bind (hT.here (hf.here ?_)))))
  simp only [hb]
  have fin2 : wpAny (model prog w) A (call (.builtin "BaseException.__repr__.under") [.ref e, rawInt b] >>= fun v => pure (some v)) (fun r s' => wpAny (model prog w) A (match r with
      | some r => do if ← isInstance r (.type "str") then pure r else raiseError "TypeError" s!"__repr__ returned non-string (type {← typeNameOf r})"
      | none => unsupported "repr:special-get-raises") Q E s') E s := by
    refine wpAny_bind (wpAny_mono fin (fun v s' hv => ?_) fun _ _ z => z)
    obtain ⟨⟨y, u, rfl⟩, hq⟩ := hv
    exact wpAny_pure (wpAny_bind (wpAny_isInstance (T := "str") (b := true) rfl isSubtype_str_str (wpAny_pure hq)))
  refine wpAny_bind (wpAny_askSetting (wpAny_ite ?_))
  split
  · exact wpAny_bind (wpAny_pure (wpAny_pure fin2))
  · exact wpAny_tryCatch (wpAny_bind (wpAny_pure (wpAny_pure fin2)))
end
end Sw
namespace Sw
open PySem PySem.Spec PyProof.Rows L2
/-- plain data, and errors of the package -/
inductive D where
  | non | bl (b : Bool) | int (i : Int) | str (x : Str) | tup (xs : List D) | lst (xs : List D) | dct | exc (C : Addr) (n : Str) (m : Option Str)
mutual
/-- the text that repr gives -/
def shown : D → Str
  | .non => "None"
  | .bl b => if b then "True" else "False"
  | .int i => toString i
  | .str x => reprText x
  | .tup xs => tupleText (shownAll xs)
  | .lst xs => listText (shownAll xs)
  | .dct => "{}"
  | .exc _ n m => xText n m
def shownAll : List D → List Str
  | [] => []
  | d :: r => shown d :: shownAll r
end
mutual
/-- no shorter than the text -/
def wt : D → Nat
  | .non => 4
  | .bl _ => 5
  | .int i => (Str.ofString (toString i)).length
  | .str x => (reprText x).length
  | .tup xs => wtAll xs + 3
  | .lst xs => wtAll xs + 3
  | .dct => 2
  | .exc _ n m => (xText n m).length
def wtAll : List D → Nat
  | [] => 0
  | d :: r => wt d + 2 + wtAll r
end
mutual
def dep : D → Nat
  | .tup xs => depAll xs + 1
  | .lst xs => depAll xs + 1
  | .dct => 1
  | .exc _ _ _ => 3
  | _ => 0
def depAll : List D → Nat
  | [] => 0
  | d :: r => max (dep d) (depAll r)
end
mutual
/-- its ints can be written -/
def small : D → Prop
  | .int i => i.natAbs.log2 < 1920
  | .tup xs => smallAll xs
  | .lst xs => smallAll xs
  | _ => True
def smallAll : List D → Prop
  | [] => True
  | d :: r => small d ∧ smallAll r
end
mutual
theorem shown_wt : ∀ d : D, (shown d).length ≤ wt d
  | .non => by simp only [wt]; decide +kernel
  | .bl b => by cases b <;> (simp only [wt]; decide +kernel)
  | .int i => by simp only [shown, wt]; exact Nat.le_refl _
  | .str x => by simp only [shown, wt]; exact Nat.le_refl _
  | .tup xs => by
    have h := tupleText_len_le (shownAll xs)
    have h2 := shownAll_wt xs
    simp only [shown, wt]
    omega
  | .lst xs => by
    have h := listText_len_le (shownAll xs)
    have h2 := shownAll_wt xs
    simp only [shown, wt]
    omega
  | .dct => by simp only [wt]; decide +kernel
  | .exc _ n m => by simp only [shown, wt]; exact Nat.le_refl _
theorem shownAll_wt : ∀ xs : List D, ((shownAll xs).map (·.length)).sum + 2 * (shownAll xs).length ≤ wtAll xs
  | [] => by simp [shownAll, wtAll]
  | d :: r => by
    have h := shown_wt d
    have h2 := shownAll_wt r
    simp only [shownAll, wtAll, List.map_cons, List.sum_cons, List.length_cons]
    omega
end
theorem wt_mem : ∀ {xs : List D} {d : D}, d ∈ xs → wt d + 2 ≤ wtAll xs
  | x :: r, d, h => by
    simp only [wtAll]
    rcases List.mem_cons.mp h with e | e
    · rw [e]; omega
    · have := wt_mem e
      omega
theorem dep_mem : ∀ {xs : List D} {d : D}, d ∈ xs → dep d ≤ depAll xs
  | x :: r, d, h => by
    simp only [depAll]
    rcases List.mem_cons.mp h with e | e
    · rw [e]; exact Nat.le_max_left _ _
    · exact Nat.le_trans (dep_mem e) (Nat.le_max_right _ _)
theorem small_mem : ∀ {xs : List D} {d : D}, smallAll xs → d ∈ xs → small d
  | x :: r, d, s, h => by
    simp only [smallAll] at s
    rcases List.mem_cons.mp h with e | e
    · rw [e]; exact s.1
    · exact small_mem s.2 e
mutual
/-- in H the value v is the data d; as: the addresses of what it is made of -/
def Rep (K : PySem.W.Frag) (H : Hp) : D → V → List Addr → Prop
  | .non, v, as => v = .non ∧ as = []
  | .bl b, v, as => v = .bl b ∧ as = []
  | .int i, v, as => v = .int i ∧ as = []
  | .str x, v, as => v = .str x ∧ as = []
  | .tup ds, v, as => ∃ a xs bs, v = .ref a ∧ H a = some (.tup xs) ∧ RepAll K H ds xs bs ∧ a ∉ bs ∧ as = a :: bs
  | .lst ds, v, as => ∃ a xs bs, v = .ref a ∧ H a = some (.lst xs) ∧ RepAll K H ds xs bs ∧ a ∉ bs ∧ as = a :: bs
  | .dct, v, as => ∃ a, v = .ref a ∧ H a = some (.dK []) ∧ as = [a]
  | .exc C n m, v, as => ∃ a t d, v = .ref a ∧ H a = some (xV C t d a) ∧ H t = some (.tup (xArgs m)) ∧ (∀ dx, d = some dx → H dx = some (.own a)) ∧ XGood K C n ∧ as = a :: t :: d.toList
def RepAll (K : PySem.W.Frag) (H : Hp) : List D → List V → List Addr → Prop
  | [], xs, as => xs = [] ∧ as = []
  | d :: ds, xs, as => ∃ x r bs cs, xs = x :: r ∧ Rep K H d x bs ∧ RepAll K H ds r cs ∧ as = bs ++ cs
end
section
variable {K : PySem.W.Frag} {H H' : Hp}
mutual
theorem Rep.keep : ∀ {d : D} {v : V} {as : List Addr}, Rep K H d v as → (∀ b ∈ as, ∀ o, H b = some o → H' b = some o) → Rep K H' d v as
  | .non, v, as, h, _ => by simpa only [Rep] using h
  | .bl _, v, as, h, _ => by simpa only [Rep] using h
  | .int _, v, as, h, _ => by simpa only [Rep] using h
  | .str _, v, as, h, _ => by simpa only [Rep] using h
  | .tup ds, v, as, h, k => by
    simp only [Rep] at h ⊢
    obtain ⟨a, xs, bs, e, ha, r, na, rfl⟩ := h
    exact ⟨a, xs, bs, e, k a (by simp) _ ha, RepAll.keep r fun b hb => k b (by simp [hb]), na, rfl⟩
  | .lst ds, v, as, h, k => by
    simp only [Rep] at h ⊢
    obtain ⟨a, xs, bs, e, ha, r, na, rfl⟩ := h
    exact ⟨a, xs, bs, e, k a (by simp) _ ha, RepAll.keep r fun b hb => k b (by simp [hb]), na, rfl⟩
  | .dct, v, as, h, k => by
    simp only [Rep] at h ⊢
    obtain ⟨a, e, ha, rfl⟩ := h
    exact ⟨a, e, k a (by simp) _ ha, rfl⟩
  | .exc C n m, v, as, h, k => by
    simp only [Rep] at h ⊢
    obtain ⟨a, t, d, e, ha, ht, hd, g, rfl⟩ := h
    exact ⟨a, t, d, e, k a (by simp) _ ha, k t (by simp) _ ht, fun dx z => k dx (by simp [z]) _ (hd dx z), g, rfl⟩
theorem RepAll.keep : ∀ {ds : List D} {xs : List V} {as : List Addr}, RepAll K H ds xs as → (∀ b ∈ as, ∀ o, H b = some o → H' b = some o) → RepAll K H' ds xs as
  | [], xs, as, h, _ => by simpa only [RepAll] using h
  | d :: ds, xs, as, h, k => by
    simp only [RepAll] at h ⊢
    obtain ⟨x, r, bs, cs, e, h1, h2, rfl⟩ := h
    exact ⟨x, r, bs, cs, e, Rep.keep h1 fun b hb => k b (by simp [hb]), RepAll.keep h2 fun b hb => k b (by simp [hb]), rfl⟩
end
mutual
/-- all of it is tracked -/
theorem Rep.tracked : ∀ {d : D} {v : V} {as : List Addr}, Rep K H d v as → ∀ b ∈ as, ∃ o, H b = some o
  | .non, v, as, h, b, hb => by simp only [Rep] at h; rw [h.2] at hb; cases hb
  | .bl _, v, as, h, b, hb => by simp only [Rep] at h; rw [h.2] at hb; cases hb
  | .int _, v, as, h, b, hb => by simp only [Rep] at h; rw [h.2] at hb; cases hb
  | .str _, v, as, h, b, hb => by simp only [Rep] at h; rw [h.2] at hb; cases hb
  | .tup ds, v, as, h, b, hb => by
    simp only [Rep] at h
    obtain ⟨a, xs, bs, e, ha, r, na, rfl⟩ := h
    rcases List.mem_cons.mp hb with z | z
    · exact ⟨_, z ▸ ha⟩
    · exact RepAll.tracked r b z
  | .lst ds, v, as, h, b, hb => by
    simp only [Rep] at h
    obtain ⟨a, xs, bs, e, ha, r, na, rfl⟩ := h
    rcases List.mem_cons.mp hb with z | z
    · exact ⟨_, z ▸ ha⟩
    · exact RepAll.tracked r b z
  | .dct, v, as, h, b, hb => by
    simp only [Rep] at h
    obtain ⟨a, e, ha, rfl⟩ := h
    obtain rfl := List.mem_singleton.mp hb
    exact ⟨_, ha⟩
  | .exc C n m, v, as, h, b, hb => by
    simp only [Rep] at h
    obtain ⟨a, t, d, e, ha, ht, hd, g, rfl⟩ := h
    rcases List.mem_cons.mp hb with z | z
    · exact ⟨_, z ▸ ha⟩
    · rcases List.mem_cons.mp z with z | z
      · exact ⟨_, z ▸ ht⟩
      · exact ⟨_, hd b (by simpa using z)⟩
theorem RepAll.tracked : ∀ {ds : List D} {xs : List V} {as : List Addr}, RepAll K H ds xs as → ∀ b ∈ as, ∃ o, H b = some o
  | [], xs, as, h, b, hb => by simp only [RepAll] at h; rw [h.2] at hb; cases hb
  | d :: ds, xs, as, h, b, hb => by
    simp only [RepAll] at h
    obtain ⟨x, r, bs, cs, e, h1, h2, rfl⟩ := h
    rcases List.mem_append.mp hb with z | z
    · exact Rep.tracked h1 b z
    · exact RepAll.tracked h2 b z
end
theorem RepAll.len : ∀ {ds : List D} {xs : List V} {as : List Addr}, RepAll K H ds xs as → xs.length = ds.length
  | [], xs, as, h => by
    simp only [RepAll] at h
    rw [h.1]
    rfl
  | d :: ds, xs, as, h => by
    simp only [RepAll] at h
    obtain ⟨x, r, bs, cs, e, h1, h2, _⟩ := h
    rw [e, List.length_cons, List.length_cons, RepAll.len h2]
theorem RepAll.at : ∀ {ds : List D} {xs : List V} {as : List Addr} {i : Nat} {d : D}, RepAll K H ds xs as → ds[i]? = some d → ∃ x bs, xs[i]? = some x ∧ Rep K H d x bs ∧ ∀ b ∈ bs, b ∈ as
  | [], xs, as, i, d, h, e => by simp at e
  | d :: ds, xs, as, 0, d', h, e => by
    simp only [RepAll] at h
    obtain ⟨x, r, bs, cs, rfl, h1, h2, rfl⟩ := h
    obtain rfl : d = d' := by simpa using e
    exact ⟨x, bs, rfl, h1, fun b hb => by simp [hb]⟩
  | d :: ds, xs, as, i + 1, d', h, e => by
    simp only [RepAll] at h
    obtain ⟨x, r, bs, cs, rfl, h1, h2, rfl⟩ := h
    obtain ⟨y, es, q1, q2, q3⟩ := RepAll.at (i := i) h2 (by simpa using e)
    exact ⟨y, es, by simpa using q1, q2, fun b hb => by simp [q3 b hb]⟩
theorem RepAll.at2 {ds : List D} {xs : List V} {as : List Addr} {i : Nat} {x : V} (h : RepAll K H ds xs as) (e : xs[i]? = some x) : ∃ d bs, ds[i]? = some d ∧ Rep K H d x bs ∧ ∀ b ∈ bs, b ∈ as := by
  have hl := h.len
  have hi : i < ds.length := by rw [← hl]; exact (List.getElem?_eq_some_iff.mp e).1
  obtain ⟨y, bs, q1, q2, q3⟩ := h.at (List.getElem?_eq_getElem hi)
  rw [e] at q1
  cases q1
  exact ⟨_, bs, List.getElem?_eq_getElem hi, q2, q3⟩
section
variable {P : Program} {w : World} {h : Heap}
mutual
/-- what stands there shows by its text -/
theorem Rep.shows (hok : HOk P w H h) (kin : K.In h) : ∀ {d : D} {v : V} {as : List Addr} {u : Value}, Rep K H d v as → RelV v u → small d → wt d ≤ sizeLine → ReprK P w as h (dep d) u (shown d)
  | .non, v, as, u, r, q, sm, z => by
    simp only [Rep] at r
    obtain ⟨rfl, rfl⟩ := r
    cases (show u = Value.none from q)
    exact ReprK.of_is ReprIs.none _ _ _
  | .bl b, v, as, u, r, q, sm, z => by
    simp only [Rep] at r
    obtain ⟨rfl, rfl⟩ := r
    cases (show u = Value.bool b from q)
    exact ReprK.of_is (ReprIs.bool b) _ _ _
  | .int i, v, as, u, r, q, sm, z => by
    simp only [Rep] at r
    obtain ⟨rfl, rfl⟩ := r
    obtain ⟨t, rfl⟩ := (show ∃ t, u = Value.int i t from q)
    simp only [small] at sm
    exact ReprK.of_is (ReprIs.int t sm) _ _ _
  | .str x, v, as, u, r, q, sm, z => by
    simp only [Rep] at r
    obtain ⟨rfl, rfl⟩ := r
    obtain ⟨t, rfl⟩ := (show ∃ t, u = Value.str x t from q)
    simp only [wt] at z
    exact ReprK.of_is (ReprIs.str x t z) _ _ _
  | .tup ds, v, as, u, r, q, sm, z => by
    simp only [Rep] at r
    obtain ⟨a, xs, bs, rfl, ha, ra, na, rfl⟩ := r
    cases (show u = Value.ref a from q)
    obtain ⟨_, its, rv, o, h1, h2, n, h3⟩ := (show ObjOk P w H h a (.tup xs) from hok a _ ha)
    simp only [small] at sm
    simp only [wt] at z
    have k := RepAll.shows hok kin ra rv sm (by omega) (depAll ds) (Nat.le_refl _)
    simp only [shown, dep]
    exact ReprK.tuple h1 h2 h3 na (by simpa using k)
  | .lst ds, v, as, u, r, q, sm, z => by
    simp only [Rep] at r
    obtain ⟨a, xs, bs, rfl, ha, ra, na, rfl⟩ := r
    cases (show u = Value.ref a from q)
    obtain ⟨_, its, n, rv, h1⟩ := (show ObjOk P w H h a (.lst xs) from hok a _ ha)
    simp only [small] at sm
    simp only [wt] at z
    have k := RepAll.shows hok kin ra rv sm (by omega) (depAll ds) (Nat.le_refl _)
    simp only [shown, dep]
    cases its with
    | nil =>
      generalize shownAll ds = ts at k ⊢
      cases k
      rw [show listText [] = ("[]" : Str) from listText_nil]
      exact ReprK.listEmpty h1 rfl rfl
    | cons y l =>
      exact ReprK.list h1 rfl rfl na (by simpa using k.length_eq) (fun i y e => k.item i y (by simpa using e))
  | .dct, v, as, u, r, q, sm, z => by
    simp only [Rep] at r
    obtain ⟨a, rfl, ha, rfl⟩ := r
    cases (show u = Value.ref a from q)
    obtain ⟨_, hs, vs, kv, o, es, ep, h1, h2, h3, h4⟩ := (show ObjOk P w H h a (.dK []) from hok a _ ha)
    cases kv
    simp only [shown, dep]
    have et : dictText [] = ("{}" : Str) := by decide +kernel
    rw [← et]
    refine ReprK.dict (as := []) (d := 0) (o := o) (es := es) (n := ep) h1 h2.1 h3 hs (by simp) ?_
    have e0 : es.toList = [] := by
      have q : Pairs (mixKind P w) es.toList [] := h4.2.1
      generalize es.toList = l at q
      cases q
      rfl
    rw [e0]
    exact .nil
  | .exc C n m, v, as, u, r, q, sm, z => by
    simp only [Rep] at r
    obtain ⟨a, t, d, rfl, ha, ht, _, g, rfl⟩ := r
    cases (show u = Value.ref a from q)
    have h1 := xV_at hok ha
    obtain ⟨_, its, rv, o, h2, h3, n2, h4⟩ := (show ObjOk P w H h t (.tup (xArgs m)) from hok t _ ht)
    simp only [wt] at z
    simp only [shown, dep]
    intro base hb A gs E s Q hg hcl hu hk0 hQ
    refine wpAny_pyReprUnder_ref (by omega) (reprUnder_C g ⟨kin.keeps hk0, _, _, hk0 _ _ h1, rfl, rfl, rfl⟩ m rv ⟨o, n2, hk0 _ _ h2, h3, h4⟩ base hb gs hg (hcl t (by simp)) hu fun h' u tk hk => ⟨_, _, rfl, hQ h' tk hk⟩)
theorem RepAll.shows (hok : HOk P w H h) (kin : K.In h) : ∀ {ds : List D} {xs : List V} {as : List Addr} {us : List Value}, RepAll K H ds xs as → Vals xs us → smallAll ds → wtAll ds ≤ sizeLine → ∀ n, depAll ds ≤ n → ReprAllK P w as h n us (shownAll ds)
  | [], xs, as, us, r, q, sm, z, n, hn => by
    simp only [RepAll] at r
    obtain ⟨rfl, rfl⟩ := r
    cases q
    simp only [shownAll]
    exact .nil
  | d :: ds, xs, as, us, r, q, sm, z, n, hn => by
    simp only [RepAll] at r
    obtain ⟨x, l, bs, cs, rfl, r1, r2, rfl⟩ := r
    cases q with
    | cons q1 q2 =>
      simp only [smallAll] at sm
      simp only [wtAll] at z
      simp only [depAll] at hn
      simp only [shownAll]
      have k1 := Rep.shows hok kin r1 q1 sm.1 (by omega)
      have k2 := RepAll.shows hok kin r2 q2 sm.2 (by omega) n (by omega)
      exact .cons ((k1.more fun b hb => List.mem_append_left _ hb).level_le (by omega)) (k2.more_le (fun b hb => List.mem_append_right _ hb) (Nat.le_refl _))
end
end
end
end Sw
namespace Sw
open PySem PySem.Spec PyProof.Rows L2
/-- repr(xs), xs a list of data -/
def rRepr (K : PySem.W.Frag) : List V → Hp → VK → Prop := fun xs H Q => ∃ x ds as, xs = [x] ∧ Rep K H (.lst ds) x as ∧ smallAll ds ∧ wtAll ds ≤ 10000000 ∧ depAll ds ≤ 30 ∧ Q (.str (shown (.lst ds))) H
theorem call_repr {X : Cx} {k : Nat} (hr : Room k X.A) (hg : X.A.guards = some []) : CallR X (.builtin "repr") (rRepr X.K) := by
  intro pins s σ H xs us Q I r h
  obtain ⟨x, ds, as, rfl, hd, sm, z, dp, q⟩ := h
  obtain ⟨u, rfl, hu⟩ := vals1 r
  have un := hr.units
  have hz : wt (.lst ds) ≤ sizeLine := by
    rw [sizeLine_eq]
    simp only [wt]
    omega
  have hsh : (listText (shownAll ds)).length ≤ sizeLine := by
    have h1 := shown_wt (.lst ds)
    simp only [shown] at h1
    omega
  simp only [Rep] at hd
  obtain ⟨a, ys, bs, rfl, ha, ra, na, rfl⟩ := hd
  cases (show u = Value.ref a from hu)
  obtain ⟨_, its, n, rv, h1⟩ := (show ObjOk X.prog X.w H s.heap a (.lst ys) from I.hok a _ ha)
  have kr := RepAll.shows I.hok I.kIn ra rv sm (by simp only [wt] at hz; omega) (depAll ds) (Nat.le_refl _)
  have hT : s.TypeIs (.ref a) "list" := ⟨_, h1, rfl⟩
  simp only [shown] at q
  refine call_repr_slot (by omega) hT PySem.F.slot_list_repr.toG ?_
  cases its with
  | nil =>
    generalize shownAll ds = ts at kr q
    cases kr
    rw [show listText [] = ("[]" : Str) from listText_nil] at q
    exact call_list_repr_empty hT h1 rfl ⟨_, _, rfl, .str "[]", H, I.tok _, ⟨_, rfl⟩, q⟩
  | cons y l =>
    refine call_list_reprK (as := bs) (h₀ := s.heap) (d := depAll ds) h1 rfl rfl na (by simpa using kr.length_eq) (fun i y e => kr.item i y (by simpa using e)) (g := []) hg (fun b _ => Clear.nil b) (by show X.A.units + 1 + _ < cLine; omega) (fun _ _ e => e) (fun h' u tk hk => ?_) hsh
    exact ⟨_, _, rfl, .str _, H, I.kept (t' := tk) hk, ⟨_, rfl⟩, q⟩
/-! ### what a class a thing is of -/
/-- isinstance(x, T), by the data -/
def isT (T : String) : D → Bool
  | .int _ => T == "int"
  | .bl _ => T == "bool" || T == "int"
  | .str _ => T == "str"
  | .tup _ => T == "tuple"
  | .lst _ => T == "list"
  | .dct => T == "dict"
  | _ => false
def isTs : List String := ["int", "bool", "tuple", "str", "list", "dict"]
def rIsD (K : PySem.W.Frag) : List V → Hp → VK → Prop := fun xs H Q => ∃ (x : V) (d : D) (as : List Addr) (T : String), xs = [x, .ty T] ∧ T ∈ isTs ∧ Rep K H d x as ∧ Q (.bl (isT T d)) H
theorem kit_exc {K : PySem.W.Frag} {C : Addr} {n : Str} (G : XGood K C n) {T : String} (hT : T ∈ isTs) : PySem.W.kitOne K (.ref C) (.type T) = some false := by
  have e : ∀ T : String, PySem.W.kitMeta T = true → PySem.W.subIn K (.ref C) (.type T) = some false → PySem.W.kitOne K (.ref C) (.type T) = some false := fun T h1 h2 => by
    unfold PySem.W.kitOne PySem.W.kitCls
    rw [if_neg (show ¬ ((Value.ref C == Value.type T) = true) from Bool.false_ne_true)]
    show (if PySem.W.kitMeta T = true then _ else _) = _
    rw [if_pos h1, h2]
  simp only [isTs, List.mem_cons, List.not_mem_nil, or_false] at hT
  rcases hT with rfl | rfl | rfl | rfl | rfl | rfl
  · exact e _ (by decide +kernel) G.ni
  · exact e _ (by decide +kernel) G.nb
  · exact e _ (by decide +kernel) G.nt
  · exact e _ (by decide +kernel) G.ns
  · exact e _ (by decide +kernel) G.nl
  · exact e _ (by decide +kernel) G.nd
theorem kitB_none {T : String} (hT : T ∈ isTs) : kitB "NoneType" T = some false := by
  simp only [isTs, List.mem_cons, List.not_mem_nil, or_false] at hT
  rcases hT with rfl | rfl | rfl | rfl | rfl | rfl <;> decide +kernel
theorem kitB_bool {T : String} (hT : T ∈ isTs) : kitB "bool" T = some (T == "bool" || T == "int") := by
  simp only [isTs, List.mem_cons, List.not_mem_nil, or_false] at hT
  rcases hT with rfl | rfl | rfl | rfl | rfl | rfl <;> decide +kernel
theorem kitB_self {S T : String} (hS : S ∈ ["int", "str", "tuple", "list", "dict"]) (hT : T ∈ isTs) : kitB S T = some (T == S) := by
  simp only [isTs, List.mem_cons, List.not_mem_nil, or_false] at hT hS
  rcases hS with rfl | rfl | rfl | rfl | rfl <;> rcases hT with rfl | rfl | rfl | rfl | rfl | rfl <;> decide +kernel
theorem call_isD {X : Cx} : CallR X (.builtin "isinstance") (rIsD X.K) := by
  intro pins s σ H xs us Q I r h
  obtain ⟨x, d, as, T, rfl, hT, hd, q⟩ := h
  have ex : ∀ t b, TyX X.K H x t → PySem.W.kitOne X.K t (.type T) = some b → isT T d = b → wpAny (model X.prog X.w) X.A (call (.builtin "isinstance") us) (EP X pins σ Q) X.xe s := fun t b h1 h2 h3 => by
    rw [h3] at q
    exact call_isi pins s σ H _ us Q I r ⟨x, .ty T, t, .type T, b, rfl, .ty T, h1, h2, q⟩
  cases d with
  | non =>
    simp only [Rep] at hd
    obtain ⟨rfl, rfl⟩ := hd
    exact ex _ _ (.base .non) (kit_ty (kitB_none hT)) rfl
  | bl b =>
    simp only [Rep] at hd
    obtain ⟨rfl, rfl⟩ := hd
    exact ex _ _ (.base (.bl b)) (kit_ty (kitB_bool hT)) rfl
  | int i =>
    simp only [Rep] at hd
    obtain ⟨rfl, rfl⟩ := hd
    exact ex _ _ (.base (.int i)) (kit_ty (kitB_self (by decide) hT)) rfl
  | str y =>
    simp only [Rep] at hd
    obtain ⟨rfl, rfl⟩ := hd
    exact ex _ _ (.base (.str y)) (kit_ty (kitB_self (by decide) hT)) rfl
  | tup ds =>
    simp only [Rep] at hd
    obtain ⟨a, ys, bs, rfl, ha, _⟩ := hd
    exact ex _ _ (.base (.tup ha)) (kit_ty (kitB_self (by decide) hT)) rfl
  | lst ds =>
    simp only [Rep] at hd
    obtain ⟨a, ys, bs, rfl, ha, _⟩ := hd
    exact ex _ _ (.base (.lst ha)) (kit_ty (kitB_self (by decide) hT)) rfl
  | dct =>
    simp only [Rep] at hd
    obtain ⟨a, rfl, ha, _⟩ := hd
    exact ex _ _ (.base (.dK ha)) (kit_ty (kitB_self (by decide) hT)) rfl
  | exc C n m =>
    simp only [Rep] at hd
    obtain ⟨a, t, dd, rfl, ha, ht, hx, G, _⟩ := hd
    obtain ⟨u1, u2, rfl, r1, r2⟩ := vals2 r
    cases (show u1 = Value.ref a from r1)
    cases (show u2 = Value.type T from r2)
    have h1 := xV_at I.hok ha
    obtain ⟨cd, hc, _⟩ := G.nm
    have fin : ∀ od, PySem.W.InstAt s.heap a (xRec C dd t) C od → wpAny (model X.prog X.w) X.A (call (.builtin "isinstance") [.ref a, .type T]) (EP X pins σ Q) X.xe s := fun od J =>
      PySem.W.kia_one (PySem.W.kitx_exc (od := od) (by rw [hc]; rfl) G.ga G.gt G.sub G.ca G.cn G.ct G.mo) I.kIn J (kit_exc G hT) (fun z => nomatch z) fun tk => ⟨.bl false, H, I.tok tk, rfl, q⟩
    cases dd with
    | none => exact fin none ⟨h1, rfl, rfl, trivial⟩
    | some dx =>
      obtain ⟨o, ho⟩ := (show ObjOk X.prog X.w H s.heap dx (.own a) from I.hok dx _ (hx dx rfl))
      exact fin (some o) ⟨h1, rfl, rfl, ho⟩
end Sw
namespace Sw
open PySem PySem.Spec PyProof.Rows
theorem enum_new1 {v : Value} {o : Obj} {Hx : Heap → Prop} (B : Begins v o Hx) :
    Meets (Builtin.«enumerate.__new__» ⟨[.type "enumerate", v], []⟩) (fun _ R s => Hx s.heap ∧
      R (.ok (.ret (.ref (s.heap.push o).objs.size))) { s with heap := (s.heap.push o).push { cls := .type "enumerate", data := .fields #[.none, .bool false, .ref s.heap.objs.size, rawInt 0, .none, .none] } }) :=
  .of_wp fun prog w A R s h => by
    obtain ⟨hp, g, d, tk, os⟩ := s
    obtain ⟨h1, h⟩ := h
    have hsub := sub_enumerate
    have q1 : ∀ {A' : Around} {E : Value → Shared → Prop} {Q : Value → Shared → Prop}, Q (.ref hp.objs.size) ⟨hp.push o, g, d, tk, os⟩ → wpAny (model prog w) A' (pyIter v) Q E ⟨hp, g, d, tk, os⟩ :=
      fun q => B.iter prog w _ _ ⟨hp, g, d, tk, os⟩ _ h1 q
    wp_walk using q1
    refine wpAny_stack_any fun st => wpAny_pure ?_
    split
    · rename_i c _ _ _ _ _
      cases (c == Value.type "enumerate")
      · wp_walk using q1
        exact ⟨_, rfl, h⟩
      · wp_walk using q1
        exact ⟨_, rfl, h⟩
    · wp_walk using q1
      exact ⟨_, rfl, h⟩
theorem enum_call1 {prog : Program} {w : World} {A : Around} {E : Value → Shared → Prop} {s : Shared} {v : Value} {o : Obj} {Hx : Heap → Prop} {Q : Value → Shared → Prop} (B : Begins v o Hx) (h1 : Hx s.heap)
    (h : ∀ h', IsEnum h' (s.heap.objs.size + 1) s.heap.objs.size 0 .none → h'.get? s.heap.objs.size = some o → (∀ b o, s.heap.get? b = some o → h'.get? b = some o) → Q (.ref (s.heap.objs.size + 1)) { s with heap := h' }) :
    wpAny (model prog w) A (call (.type "enumerate") [v]) Q E s := by
  refine callType_new F.called_enumerate (by decide) (F.typeCall_enumerate_1 _) (F.newCall_enumerate_1 _) (fun obj => F.args_object_init_2 obj _) F.entry_enumerate_new (enum_new1 B) ⟨h1, ?_⟩
  have hz : (s.heap.push o).objs.size = s.heap.objs.size + 1 := Heap.size_push ..
  show _ ∧ _
  rw [hz]
  have he : IsEnum ((s.heap.push o).push { cls := .type "enumerate", data := .fields #[.none, .bool false, .ref s.heap.objs.size, rawInt 0, .none, .none] }) (s.heap.objs.size + 1) s.heap.objs.size 0 .none := by
    have q := Heap.get?_push_size (s.heap.push o) (o := { cls := .type "enumerate", data := .fields #[.none, .bool false, .ref s.heap.objs.size, rawInt 0, .none, .none] }) rfl
    rw [hz] at q
    exact q
  exact ⟨⟨_, he, rfl⟩, h _ he (Heap.get?_push_of_some _ (Heap.get?_push_size _ B.free)) fun b o x => Heap.get?_push_of_some _ (Heap.get?_push_of_some _ x)⟩
end Sw
namespace Sw
open PySem PySem.Spec PyProof.Rows L2
/-- the tuple at a, each item in a new pair with its place -/
def ItTe (K : PySem.W.Frag) (a : Addr) : It :=
  ⟨fun i H => ∃ (xs : List V) (x : V), SqT K H a xs ∧ xs[i]? = some x, fun i H v H' => ∃ T x, v = .ref T ∧ H T = none ∧ H' = upd H T (.tup [.int (i : Nat), x]) ∧ ∀ xs, SqT K H a xs → xs[i]? = some x, fun i H => ∃ xs : List V, SqT K H a xs ∧ xs.length = i⟩
theorem turn_te {P : Program} {w : World} {K : PySem.W.Frag} {elts : List Expr} {kk : Nat} {tpos : Pos} (a e it : Addr) :
    Turn P w K (.Tuple elts kk tpos) (ItTe K a) [e, it] e (fun i h => (∃ old, IsEnum h e it ((i : Nat) : Int) old) ∧ h.IsTupleIter it a i ∧ e ≠ it ∧ a ≠ it ∧ a ≠ e) where
  mem := by simp
  obj := fun i h st b hb => by
    obtain ⟨⟨old, he⟩, ⟨o, ho, hc, hd⟩, _⟩ := st
    rcases List.mem_cons.mp hb with z | z
    · rw [z]; exact ⟨_, he, fun v q => nomatch q⟩
    · obtain rfl := List.mem_singleton.mp z
      exact ⟨o, ho, fun v q => by rw [hd] at q; cases q⟩
  keep := fun i h h' st k => by
    obtain ⟨⟨old, he⟩, hi, hne⟩ := st
    exact ⟨⟨old, k e (by simp) _ he⟩, hi.at fun o q => k it (by simp) o q, hne⟩
  item := by
    intro X hP hw hK hc i pins s σ H E I hf st hg
    subst hP hw hK
    obtain ⟨⟨old, he⟩, hit, hne, hai, hae⟩ := st
    obtain ⟨xs, x, hq, hx⟩ := hg
    obtain ⟨its, rv, p, hz⟩ := I.tuple hq
    obtain ⟨u, hu, ru⟩ := rv.get hx
    have hel : e < s.heap.objs.size := Heap.lt_size he
    have hil : it < s.heap.objs.size := by obtain ⟨_, q, _⟩ := hit; exact Heap.lt_size q
    have hlt : i < its.toArray.size := by
      have := (List.getElem?_eq_some_iff.mp hu).1
      simpa using this
    refine wpAny_pyNext_enum_itemD (Draws.tuple (A := X.A.in1) (I.ok.hd hc) it a hai its.toArray) he ⟨hit, p⟩ hlt hne (by simp [hne, Ne.symm hae]) fun y h' tk hy ho hst hT hsz hk => ?_
    obtain ⟨hit', _⟩ := hst
    have ey : y = u := by
      have q : its.toArray[i]? = some y := hy
      have q2 : its.toArray[i]? = some u := by simpa using hu
      rw [q2] at q
      exact (Option.some.inj q).symm
    subst ey
    refine ⟨_, rfl, wpAny_letOwnedTupleGo_enum (s := { s with heap := h', toks := tk + 1 }) ho fun h'' he' sb => ?_⟩
    have hT2 : h''.get? s.heap.objs.size = some { cls := .type "tuple", data := .seq #[.int i tk, y] } := (sb.2 _ (Nat.ne_of_gt hel)).trans hT
    have new : ObjOk X.prog X.w (upd H s.heap.objs.size (.tup [.int (i : Nat), x])) h'' s.heap.objs.size (.tup [.int (i : Nat), x]) :=
      ⟨by show 2 ≤ sizeLine; decide, [.int i tk, y], .cons ⟨_, rfl⟩ (.cons ru .nil), ⟨_, hT2, rfl, _, rfl⟩⟩
    have I1 : Inv X pins σ (upd H s.heap.objs.size (.tup [.int (i : Nat), x])) { s with heap := h'', toks := tk + 1 } :=
      I.turnedNew (ch := [e, it]) (fun b ob hb q => (sb.2 b (fun z => hb (by simp [z]))).trans (hk b ob (fun z => hb (by simp [z])) (fun z => hb (by simp [z])) q)) hf (Nat.le_refl _) new
    refine ⟨.ref s.heap.objs.size, _, I1, rfl, ⟨_, x, rfl, I.hok.fresh (Nat.le_refl _), rfl, fun ys hy => by rw [I.tuple_inj hy hq]; exact hx⟩, ⟨⟨y, ?_⟩, hit'.at fun o q => (sb.2 it (Ne.symm hne)).trans q, hne, hai, hae⟩, fun b hb => ?_⟩
    · have e1 : ((i + 1 : Nat) : Int) = (i : Int) + 1 := by omega
      rw [e1]; exact he'
    · have hb' : b < s.heap.objs.size := by
        rcases List.mem_cons.mp hb with z | z
        · rw [z]; exact hel
        · obtain rfl := List.mem_singleton.mp z
          exact hil
      rw [upd_ne (Nat.ne_of_lt hb')]
      exact (hf b hb).1
  done := by
    intro X hP hw hK hc i pins s σ H E I hf st hg
    subst hP hw hK
    obtain ⟨⟨old, he⟩, hit, hne, hai, hae⟩ := st
    obtain ⟨xs, hq, hx⟩ := hg
    obtain ⟨its, rv, p, hz⟩ := I.tuple hq
    obtain ⟨f0, f1, f2, f3, f4, f5⟩ := hf it (by simp)
    have hl := rv.length
    have hi : its.toArray.size = i := by simp; omega
    refine wpAny_pyNext_enum_endD (Draws.tuple (A := X.A.in1) (I.ok.hd hc) it a hai its.toArray) he (by rw [hi]; exact ⟨hit, p⟩) fun h' eb => ⟨rfl, I.turned (t' := s.toks) (fun b o hb q => eb b o hb q) f0 f1 f3 f4 f5⟩
  self := fun A i s Q E st h => let ⟨⟨_, he⟩, _⟩ := st; wpAny_pyIter_enum he h
def iTe (K : PySem.W.Frag) (ta : TA) : TI := fun σ H R => ta σ H fun vs H1 => ∃ a xs, vs = [.ref a] ∧ SqT K H1 a xs ∧ R (ItTe K a) H1
/-- for i, x in enumerate(t), t a tuple -/
theorem pi_enumT {X : Cx} {e : Expr} {ta : TA} {p pos tpos : Pos} {elts : List Expr} {kk : Nat} (hg : Gl X "enumerate") (hm : X.mg "enumerate" = none) (ha : PA X [e] ta) (hs : starEach [e] X.env = [(false, eval e X.env)] := by rfl) :
    PI X (.Tuple elts kk tpos) (.Call (.Name "enumerate" p) [e] [] pos) (iTe X.K ta) := by
  refine ⟨fun pins s σ H R I h => ?_⟩
  refine Call_ (ld_blt I hg hm boot_enumerate (PyProof.Rows.callWith_type1 (thn (ha.run pos pins s σ H _ I h) fun us s1 ⟨vs, H1, I1, r1, q1⟩ => ?_) hs rfl))
  obtain ⟨a, xs, ex, hq, q⟩ := q1
  subst ex
  cases r1 with
  | cons r rr =>
    cases rr
    cases r
    obtain ⟨its, rv, p', hz⟩ := I1.tuple hq
    have hal : a < s1.heap.objs.size := by obtain ⟨_, q, _⟩ := p'; exact Heap.lt_size q
    refine enum_call1 (begins_tuple a its.toArray) p' fun h' he hit hk => wpAny_pyIter_enum he ?_
    have I2 : Inv X pins σ H1 { s1 with heap := h' } := I1.kept (t' := s1.toks) hk
    refine ⟨s1.heap.objs.size + 1, [s1.heap.objs.size + 1, s1.heap.objs.size], _, _, H1, rfl, I2, turn_te a (s1.heap.objs.size + 1) s1.heap.objs.size, ⟨⟨.none, he⟩, ⟨_, hit, rfl, rfl⟩, Nat.succ_ne_self _, Nat.ne_of_lt hal, Nat.ne_of_lt (Nat.lt_succ_of_lt hal)⟩, fun b hb => ?_, q⟩
    have hle : s1.heap.objs.size ≤ b := by
      rcases List.mem_cons.mp hb with z | z
      · rw [z]; exact Nat.le_add_right _ _
      · obtain rfl := List.mem_singleton.mp z
        exact Nat.le_refl _
    exact I1.fpOk hle (I1.hok.fresh hle)
theorem walk_te {K : PySem.W.Frag} {a : Addr} {xs : List V} : Walk (ItTe K a) xs.length (fun H => SqT K H a xs) (YPair (fun i => some (.int (i : Nat))) (fun i => xs[i]?)) := by
  refine ⟨fun i _ hi q => ⟨xs, xs[i], q, by simp [hi]⟩, fun _ q => ⟨xs, q, rfl⟩, fun i H v H' _ q y => ?_⟩
  obtain ⟨T, x, h1, h2, h3, h4⟩ := y
  exact ⟨T, .int (i : Nat), x, h1, h2, h3, rfl, h4 xs q⟩
end Sw
namespace Sw
open PySem L2
/-! ### what all laws share: the text by places, the checks of the package, data in short -/
def top (i : Nat) : Stmt := PySem.Challenge.pw_swapstops_k03_what_is_a_standing.main.body.getD i (.Pass ⟨0, 0, 0, 0⟩)
def isWhole (lo hi : Int) : D → Bool
  | .int i => decide (lo ≤ i) && decide (i ≤ hi)
  | _ => false
def isPair : D → Bool
  | .tup [_, _] => true
  | _ => false
/-- built-in names that no module has taken -/
structure NoNames (mg : Str → Option Value) : Prop where
  isi : mg "isinstance" = none
  len : mg "len" = none
  int : mg "int" = none
  bool : mg "bool" = none
  tuple : mg "tuple" = none
  enumerate : mg "enumerate" = none
  range : mg "range" = none
  abs : mg "abs" = none
  list : mg "list" = none
  dict : mg "dict" = none
  zip : mg "zip" = none
  sorted : mg "sorted" = none
  str : mg "str" = none
  repr : mg "repr" = none
  super : mg "super" = none
section
variable {P : Program} {w : World} {K : PySem.W.Frag} {mg : Str → Option Value} {base : Heap}
/-- isinstance(the name in slot i, T) -/
theorem pe_isi {X : Cx} {i : Nat} {x T : Str} {p1 p2 p3 p4 : Pos} {TN : String} (hN : X.N[i]? = some x) (hv : Vis X.env.scope x) (hd : (x == ("__debug__" : Str)) = false) (hcd : (x == ("__classdict__" : Str)) = false)
    (h1 : X.mg "isinstance" = none) (h2 : X.mg T = none) (g1 : Gl X "isinstance") (g2 : Gl X T) (hb : bootBuiltins T = some (.type TN)) (hn : T ≠ "__name__") (hd2 : (T == ("__debug__" : Str)) = false)
    (hs : starEach [Expr.Name x p1, Expr.Name T p2] X.env = (false, eval (.Name x p1) X.env) :: starEach [Expr.Name T p2] X.env := by rfl) (hs2 : starEach [Expr.Name T p2] X.env = (false, eval (.Name T p2) X.env) :: starEach [] X.env := by rfl)
    (hpl : (backTo p4 (starEach [Expr.Name T p2] X.env)).any (·.1) = false := by rfl) :
    PE X (.Call (.Name "isinstance" p3) [.Name x p1, .Name T p2] [] p4) (tCB (rIsD X.K) (tCons (tVar i) (tCons (tC (.ty TN)) tNil))) :=
  pe_callB call_isD g1 h1 (by decide +kernel) (pa_cons (pe_var hN hv hd hcd) (pa_cons (pe_bltn (v := .ty TN) g2 h2 hb rfl hn hd2) pa_nil hs2) hs) (by decide) (by decide) hs hpl
def spBetween (K : PySem.W.Frag) : Sp := fun vs H Q _ => ∃ (x : V) (d : D) (as : List Addr) (lo hi : Int), vs = [x, .int lo, .int hi] ∧ Rep K H d x as ∧ Q (.bl (isWhole lo hi d)) H
/-! ### is_pair -/
def spPair (K : PySem.W.Frag) : Sp := fun vs H Q _ => ∃ (x : V) (d : D) (as : List Addr), vs = [x] ∧ Rep K H d x as ∧ Q (.bl (isPair d)) H
/-- a def of one's own that may be called by its name -/
structure Own (P : Program) (w : World) (K : PySem.W.Frag) (mg : Str → Option Value) (base : Heap) (k : Nat) (x : Str) (ps : List Str) (sp : Sp) : Prop where
  ex : ∃ f fd, FnOk P w K mg base CX0 k f fd ps sp ∧ mg x = some (.ref f) ∧ PySem.W.keepIn K (.ref f) = true ∧ Binds K fd ps []
theorem two_of {d : D} (h : isPair d = true) : ∃ a b, d = .tup [a, b] := by
  cases d with
  | tup ds =>
    match ds, h with
    | [a, b], _ => exact ⟨a, b, rfl⟩
    | [], h => cases h
    | [_], h => cases h
    | _ :: _ :: _ :: _, h => cases h
  | _ => cases h
theorem int_wt {i : Nat} (h : i ≤ sizeLine) : (Str.ofString (toString (i : Int))).length ≤ 20 ∧ ((i : Int)).natAbs.log2 < 1920 := by
  rw [sizeLine_eq] at h
  have h1 : ((i : Int)).natAbs < 10 ^ 19 := by
    have : ((i : Int)).natAbs = i := rfl
    rw [this]
    omega
  have h2 := int_text_length_le10 (k := 19) (by decide) h1
  rw [PySem.ofString_length]
  refine ⟨h2, ?_⟩
  exact PySem.Spec.log2_small (Nat.lt_of_lt_of_le h1 (by decide +kernel))
theorem wt_len : ∀ ds : List D, 2 * ds.length ≤ wtAll ds
  | [] => by simp [wtAll]
  | d :: r => by
    have := wt_len r
    simp only [wtAll, List.length_cons]
    omega
/-- a new pair of a word and a place -/
theorem rep_err {H : Hp} {p : Addr} {z : Str} {i : Int} (h : H p = none) : Rep K (upd H p (.tup [.str z, .int i])) (.tup [.str z, .int i]) (.ref p) [p] := by
  simp only [Rep, RepAll]
  exact ⟨p, _, [], rfl, upd_same, ⟨_, _, [], [], rfl, ⟨rfl, rfl⟩, ⟨_, _, [], [], rfl, ⟨rfl, rfl⟩, ⟨rfl, rfl⟩, rfl⟩, rfl⟩, by simp, rfl⟩
theorem same_new {H : Hp} {p : Addr} {o : HO} (h : H p = none) : Same H (upd H p o) := fun b x e => by
  rw [upd_ne (ne_of_none e h)]
  exact e
theorem Rep.same {H H' : Hp} {d : D} {v : V} {as : List Addr} (h : Rep K H d v as) (s : Same H H') : Rep K H' d v as := h.keep fun b _ o e => s b o e
theorem RepAll.same {H H' : Hp} {d : List D} {v : List V} {as : List Addr} (h : RepAll K H d v as) (s : Same H H') : RepAll K H' d v as := h.keep fun b _ o e => s b o e
theorem pair_len {ds : List D} {n : Nat} (h : n = ds.length) : isPair (.tup ds) = decide (V.int (n : Int) = V.int 2) := by
  match ds, h with
  | [], hl => rw [hl]; rfl
  | [_], hl => rw [hl]; rfl
  | [_, _], hl => rw [hl]; rfl
  | _ :: _ :: _ :: r, hl =>
    rw [hl]
    show false = _
    refine (decide_eq_false fun z => ?_).symm
    have z2 : ((_ : Nat) : Int) = 2 := V.int.inj z
    simp only [List.length_cons] at z2
    omega
theorem tup_of {d : D} (e : isT "tuple" d = true) : ∃ ds, d = .tup ds := by
  cases d <;> first | exact ⟨_, rfl⟩ | (simp_all [isT])
theorem pair_tup {d : D} (e : isT "tuple" d = false) : isPair d = false := by
  cases d <;> simp_all [isT, isPair]
/-- isinstance(e, T) -/
theorem pe_isiE {X : Cx} {e : Expr} {te : TE} {T : Str} {p2 p3 p4 : Pos} {TN : String} (he : PE X e te)
    (h1 : X.mg "isinstance" = none) (h2 : X.mg T = none) (g1 : Gl X "isinstance") (g2 : Gl X T) (hb : bootBuiltins T = some (.type TN)) (hn : T ≠ "__name__") (hd2 : (T == ("__debug__" : Str)) = false)
    (hs : starEach [e, Expr.Name T p2] X.env = (false, eval e X.env) :: starEach [Expr.Name T p2] X.env := by rfl) (hs2 : starEach [Expr.Name T p2] X.env = (false, eval (.Name T p2) X.env) :: starEach [] X.env := by rfl)
    (hpl : (backTo p4 (starEach [Expr.Name T p2] X.env)).any (·.1) = false := by rfl) :
    PE X (.Call (.Name "isinstance" p3) [e, .Name T p2] [] p4) (tCB (rIsD X.K) (tCons te (tCons (tC (.ty TN)) tNil))) :=
  pe_callB call_isD g1 h1 (by decide +kernel) (pa_cons he (pa_cons (pe_bltn (v := .ty TN) g2 h2 hb rfl hn hd2) pa_nil hs2) hs) (by decide) (by decide) hs hpl
end
end Sw
namespace Sw
open PySem PySem.Spec PyProof.Rows L2
/-- pairs of a tuple and a value, as they are laid: the key, its address, the value -/
abbrev PT := List Key × Addr × V
def PairT (K : PySem.W.Frag) (H : Hp) (p : Addr) (q : PT) : Prop := SqT K H p [.ref q.2.1, q.2.2] ∧ H q.2.1 = some (.tup (q.1.map kV))
theorem pairsT_of {X : Cx} {pins : List (Addr × Obj)} {σ : L2.St} {H : Hp} {s : Shared} (I : Inv X pins σ H s) : ∀ {ps : List Addr} {qs : List PT}, Paired (PairT X.K H) ps qs →
    ∃ prs : List (List Key × Addr × Value), Paired (fun (q : PT) (r : List Key × Addr × Value) => q.1 = r.1 ∧ q.2.1 = r.2.1 ∧ RelV q.2.2 r.2.2) qs prs ∧ prs.length = ps.length ∧
      ∀ (j : Nat) (r : List Key × Addr × Value), prs[j]? = some r → ∃ p, ps[j]? = some p ∧ s.heap.IsTuple p #[.ref r.2.1, r.2.2]
  | _, _, .nil => ⟨[], .nil, rfl, fun j r e => by simp at e⟩
  | _, _, .cons (a := p) (b := q) h t => by
    obtain ⟨prs, r, hl, hp⟩ := pairsT_of I t
    obtain ⟨its, rv, ht, _⟩ := I.tuple h.1
    obtain ⟨u, y, ei, ru, ry⟩ := vals2 rv
    subst ei
    cases (show u = Value.ref q.2.1 from ru)
    refine ⟨(q.1, q.2.1, y) :: prs, .cons ⟨rfl, rfl, ry⟩ r, by simp [hl], fun j z e => ?_⟩
    cases j with
    | zero =>
      obtain rfl : (q.1, q.2.1, y) = z := by simpa using e
      exact ⟨p, rfl, ht⟩
    | succ j =>
      obtain ⟨p2, h1, h2⟩ := hp j z (by simpa using e)
      exact ⟨p2, by simpa using h1, h2⟩
theorem stored_mem {κ : Type} [DecidableEq κ] {xs : List (κ × Addr × Value)} {k : κ} {a : Addr} {v : Value} {z : κ × Addr × Value} (h : z ∈ storedH xs k a v) : z = (k, a, v) ∨ z ∈ xs ∨ ∃ y ∈ xs, z = (y.1, y.2.1, v) := by
  unfold storedH at h
  split at h
  · obtain ⟨y, hy, e⟩ := List.mem_map.mp h
    unfold putAt at e
    split at e
    · exact .inr (.inr ⟨y, hy, e.symm⟩)
    · exact .inr (.inl (e ▸ hy))
  · rcases List.mem_append.mp h with q | q
    · exact .inr (.inl q)
    · exact .inl (by simpa using q)
theorem storedAll_mem {κ : Type} [DecidableEq κ] : ∀ (ps xs : List (κ × Addr × Value)) (z : κ × Addr × Value), z ∈ storedAllH xs ps →
    (∃ y, (y ∈ xs ∨ y ∈ ps) ∧ y.1 = z.1 ∧ y.2.1 = z.2.1) ∧ ∃ y, (y ∈ xs ∨ y ∈ ps) ∧ y.2.2 = z.2.2
  | [], xs, z, h => ⟨⟨z, .inl h, rfl, rfl⟩, z, .inl h, rfl⟩
  | p :: ps, xs, z, h => by
    obtain ⟨⟨y, hy, e1, e2⟩, y', hy', e3⟩ := storedAll_mem ps (storedH xs p.1 p.2.1 p.2.2) z h
    constructor
    · rcases hy with hy | hy
      · rcases stored_mem hy with q | q | ⟨t, q, e⟩
        · exact ⟨p, .inr (by simp), by rw [q] at e1; exact e1, by rw [q] at e2; exact e2⟩
        · exact ⟨y, .inl q, e1, e2⟩
        · exact ⟨t, .inl q, by rw [e] at e1; exact e1, by rw [e] at e2; exact e2⟩
      · exact ⟨y, .inr (by simp [hy]), e1, e2⟩
    · rcases hy' with hy | hy
      · rcases stored_mem hy with q | q | ⟨t, q, e⟩
        · exact ⟨p, .inr (by simp), by rw [q] at e3; exact e3⟩
        · exact ⟨y', .inl q, e3⟩
        · exact ⟨p, .inr (by simp), by rw [e] at e3; exact e3⟩
      · exact ⟨y', .inr (by simp [hy]), e3⟩
theorem storedAll_len {κ : Type} [DecidableEq κ] : ∀ (ps xs : List (κ × Addr × Value)), (storedAllH xs ps).length ≤ xs.length + ps.length
  | [], xs => Nat.le_refl _
  | p :: ps, xs => by
    have h := storedAll_len ps (storedH xs p.1 p.2.1 p.2.2)
    have h2 := storedH_length xs p.1 p.2.1 p.2.2
    show (storedAllH (storedH xs p.1 p.2.1 p.2.2) ps).length ≤ _
    simp only [List.length_cons]
    omega
theorem paired_mem {α β : Type} {F : α → β → Prop} : ∀ {l : List α} {m : List β} {b : β}, Paired F l m → b ∈ m → ∃ a ∈ l, F a b
  | _, _, b, .nil, h => by cases h
  | _, _, b, .cons h t, hb => by
    rcases List.mem_cons.mp hb with e | e
    · exact ⟨_, List.mem_cons_self .., e ▸ h⟩
    · obtain ⟨a, h1, h2⟩ := paired_mem t e
      exact ⟨a, List.mem_cons_of_mem _ h1, h2⟩
/-- dict(xs), xs a list of pairs whose first things are tuples -/
theorem call_dictT {X : Cx} {k : Nat} (hr : Room k X.A) (hcalm : X.calm = true) : CallR X (.type "dict") (fun xs H Q => ∃ (a : Addr) (ps : List Addr) (qs : List PT), xs = [.ref a] ∧ SqL X.K H a (ps.map V.ref) ∧ Paired (PairT X.K H) ps qs ∧
    ∀ (d : Addr) (kvs : List (List Key × V)), H d = none → kvs.length ≤ ps.length → (∀ kv ∈ kvs, ∃ q ∈ qs, q.1 = kv.1) → Q (.ref d) (upd H d (.dT kvs))) := by
  intro pins s σ H xs us Q I r q
  obtain ⟨a, ps, qs, rfl, hq, hp, q⟩ := q
  obtain ⟨u, rfl, rx⟩ := vals1 r
  cases rx
  obtain ⟨its, rv, pl, hz⟩ := I.list hq
  obtain rfl := refs_at rv
  rw [List.length_map] at hz
  obtain ⟨prs, rel, hl, hpr⟩ := pairsT_of I hp
  obtain ⟨o, n, ho, hc, hd, hdat⟩ := pl
  have un := hr.units
  let psV : List (Value × Value) := prs.map fun r => (.ref r.2.1, r.2.2)
  let Ts : Nat → Addr := fun j => ps.getD j 0
  have hlen : psV.length = ps.length := by simp [psV, hl]
  have keyAt : ∀ r ∈ prs, H r.2.1 = some (.tup (r.1.map kV)) := fun r hr => by
    obtain ⟨t, ht, e1, e2, _⟩ := paired_mem rel hr
    have back : ∀ {l : List Addr} {m : List PT}, Paired (PairT X.K H) l m → t ∈ m → H t.2.1 = some (.tup (t.1.map kV)) := fun h hm => by
      obtain ⟨_, _, z⟩ := paired_mem h hm
      exact z.2
    rw [← e1, ← e2]
    exact back hp ht
  have okP : PlainSeq "list" s.heap a (ps.map Value.ref).toArray ∧ PairItems s.heap (ps.map Value.ref).toArray Ts psV := by
    refine ⟨⟨o, n, ho, hc, hd, hdat⟩, by simp [hlen], fun j kk v e => ?_⟩
    obtain ⟨r, er, e2⟩ : ∃ r, prs[j]? = some r ∧ (Value.ref r.2.1, r.2.2) = (kk, v) := by
      simp only [psV, List.getElem?_map] at e
      cases z : prs[j]? with
      | none => rw [z] at e; simp at e
      | some r => rw [z] at e; exact ⟨r, rfl, by simpa using e⟩
    cases e2
    obtain ⟨p, h1, h2⟩ := hpr j r er
    have eT : Ts j = p := by simp [Ts, List.getD, h1]
    refine ⟨by simp [h1, eT], .inl (by rw [eT]; exact h2)⟩
  have hsz : psV.length ≤ sizeLine := by rw [hlen]; exact hz
  refine call_dict_pairsH (knd := tupleKind (mixKind X.prog X.w)) (ps := prs) (PairArg.list a (ps.map Value.ref).toArray Ts psV) (I.ok.hd hcalm) (by show X.A.units + 1 + 1 < cLine; omega) okP ⟨by simp [psV], fun i key v hrel => ?_⟩ (fun h' hk x hx => ?_) hsz fun h' tk hd' hk => ?_
  · have e : psV[i]? = some (key, v) := hrel
    simp only [psV, List.getElem?_map] at e
    cases z : prs[i]? with
    | none => rw [z] at e; simp at e
    | some r =>
      rw [z] at e
      obtain ⟨rk, rb, rv'⟩ := r
      have e2 : (Value.ref rb, rv') = (key, v) := by simpa using e
      cases e2
      exact ⟨rk, rb, rfl, rfl⟩
  · obtain ⟨o', its', n', h1, h2, h3, h4⟩ := key_of I.hok (keyAt x hx)
    exact ⟨o', its', n', hk _ _ (Nat.ne_of_lt (Heap.lt_size h1)) (by simp) h1, h2, h3, h4⟩
  · have hm : (s.heap.objs.size == sysModules) = false := beq_eq_false_iff_ne.mpr (Nat.ne_of_gt I.big)
    have hn : H s.heap.objs.size = none := I.hok.fresh (Nat.le_refl _)
    have hll : (storedAllH [] prs).length ≤ ps.length := by
      have := storedAll_len prs []
      rw [List.length_nil, Nat.zero_add, hl] at this
      exact this
    have vOf : ∀ z ∈ storedAllH [] prs, ∃ y, RelV y z.2.2 := fun z hz => by
      obtain ⟨_, y, hy, e⟩ := storedAll_mem prs [] z hz
      rcases hy with hy | hy
      · cases hy
      · obtain ⟨t, _, _, _, e3⟩ := paired_mem rel hy
        exact ⟨t.2.2, by rw [← e]; exact e3⟩
    have kOf : ∀ z ∈ storedAllH [] prs, H z.2.1 = some (.tup (z.1.map kV)) ∧ ∃ q ∈ qs, q.1 = z.1 := fun z hz => by
      obtain ⟨⟨y, hy, e1, e2⟩, _⟩ := storedAll_mem prs [] z hz
      rcases hy with hy | hy
      · cases hy
      · refine ⟨by rw [← e1, ← e2]; exact keyAt y hy, ?_⟩
        obtain ⟨t, ht, e3, _, _⟩ := paired_mem rel hy
        exact ⟨t, ht, e3.trans e1⟩
    obtain ⟨kvs, hkv⟩ : ∃ kvs : List (List Key × V), Paired (fun (p : List Key × V) (z : List Key × Addr × Value) => p.1 = z.1 ∧ (upd H s.heap.objs.size (.dT kvs)) z.2.1 = some (.tup (p.1.map kV)) ∧ RelV p.2 z.2.2) kvs (storedAllH [] prs) ∧ ∀ kv ∈ kvs, ∃ q ∈ qs, q.1 = kv.1 := by
      have mk : ∀ l : List (List Key × Addr × Value), (∀ z ∈ l, (∃ y, RelV y z.2.2) ∧ H z.2.1 = some (.tup (z.1.map kV)) ∧ ∃ q ∈ qs, q.1 = z.1) →
          ∃ kvs : List (List Key × V), Paired (fun (p : List Key × V) (z : List Key × Addr × Value) => p.1 = z.1 ∧ H z.2.1 = some (.tup (p.1.map kV)) ∧ RelV p.2 z.2.2) kvs l ∧ ∀ kv ∈ kvs, ∃ q ∈ qs, q.1 = kv.1 := by
        intro l
        induction l with
        | nil => intro _; exact ⟨[], .nil, fun _ h => by cases h⟩
        | cons z l ih =>
          intro hz
          obtain ⟨⟨y, hy⟩, hk', hq'⟩ := hz z (List.mem_cons_self ..)
          obtain ⟨kvs, h1, h2⟩ := ih fun t ht => hz t (List.mem_cons_of_mem _ ht)
          refine ⟨(z.1, y) :: kvs, .cons ⟨rfl, hk', hy⟩ h1, fun kv hkv => ?_⟩
          rcases List.mem_cons.mp hkv with e | e
          · rw [e]; exact hq'
          · exact h2 kv e
      obtain ⟨kvs, h1, h2⟩ := mk (storedAllH [] prs) fun z hz => ⟨vOf z hz, kOf z hz⟩
      exact ⟨kvs, Paired.mapP h1 fun p z h => ⟨h.1, by rw [upd_ne (ne_of_none h.2.1 hn)]; exact h.2.1, h.2.2⟩, h2⟩
    have hkl : kvs.length = (storedAllH [] prs).length := hkv.1.length
    obtain ⟨o', es, ep, h1, h2, h3, h4, _, h5⟩ := hd'
    exact ⟨.ref s.heap.objs.size, upd H s.heap.objs.size (.dT kvs), I.laid (t' := tk) (fun b o e => hk b o (by simp) e) (Nat.le_refl _)
      (show ObjOk X.prog X.w _ _ _ (.dT kvs) from ⟨by omega, hm, storedAllH [] prs, hkv.1, o', es, ep, h1, h2, h3, h4, h5⟩), rfl, q _ kvs hn (by omega) hkv.2⟩
end Sw
namespace Sw
open PySem L2
abbrev sDeck : Stmt := top 13
abbrev sDraw : Stmt := top 14
abbrev sPick : Stmt := top 15
abbrev sMixed : Stmt := top 16
theorem scDeck : FnScope ["script", "deck", "cell", "whole", "state"] ["script"] (defScope sDeck) := ⟨rfl, rfl, rfl, by decide +kernel, rfl, by decide +kernel, by decide +kernel⟩
theorem scDraw : FnScope ["deck", "many", "whole", "one", "two"] ["deck", "many"] (defScope sDraw) := ⟨rfl, rfl, rfl, by decide +kernel, rfl, by decide +kernel, by decide +kernel⟩
theorem scPick : FnScope ["deck", "items"] ["deck", "items"] (defScope sPick) := ⟨rfl, rfl, rfl, by decide +kernel, rfl, by decide +kernel, by decide +kernel⟩
theorem scMixed : FnScope ["deck", "items", "left", "found"] ["deck", "items"] (defScope sMixed) := ⟨rfl, rfl, rfl, by decide +kernel, rfl, by decide +kernel, by decide +kernel⟩
/-! ### the deck -/
def kD : Key := .inr "deep"
def kS : Key := .inr "state"
theorem kDS : ¬ kD = kS := by decide +kernel
theorem kSD : ¬ kS = kD := by decide +kernel
def deckL (d : Addr) (st : Int) : List (Key × V) := [(kD, .ref d), (kS, .int st)]
theorem deck_deep (d : Addr) (st : Int) : valV (deckL d st) kD = some (.ref d) := by
  show ((deckL d st).find? fun kv => decide (kv.1 = kD)).map (·.2) = _
  unfold deckL
  rw [List.find?_cons, decide_eq_true rfl]
  rfl
theorem deck_state (d : Addr) (st : Int) : valV (deckL d st) kS = some (.int st) := by
  show ((deckL d st).find? fun kv => decide (kv.1 = kS)).map (·.2) = _
  unfold deckL
  rw [List.find?_cons, decide_eq_false kDS, List.find?_cons, decide_eq_true rfl]
  rfl
theorem deck_put_deep (d e : Addr) (st : Int) : putK (deckL d st) kD (.ref e) = deckL e st := by
  unfold putK deckL
  rw [if_pos (by simp)]
  simp [kSD]
theorem deck_put_state (d : Addr) (st z : Int) : putK (deckL d st) kS (.int z) = deckL d z := by
  unfold putK deckL
  rw [if_pos (by simp)]
  simp [kDS]
theorem deck_new (d : Addr) (st : Int) : mergeK [] [(kD, V.ref d), (kS, V.int st)] = deckL d st := by
  show putK (putK [] kD (.ref d)) kS (.int st) = _
  have e1 : putK ([] : List (Key × V)) kD (.ref d) = [(kD, .ref d)] := by simp [putK]
  rw [e1]
  unfold putK deckL
  rw [if_neg (by simp [kDS])]
  rfl
/-- a deck at p, its deep cells at d: at most m -/
structure Deck (H : Hp) (p d : Addr) (m : Nat) : Prop where
  ex : ∃ (ns : List Int) (st : Int), H p = some (.dK (deckL d st)) ∧ H d = some (.lst (ns.map V.int)) ∧ ns.length ≤ m ∧ (∀ n ∈ ns, 0 ≤ n) ∧ 0 ≤ st ∧ st < 2 ^ 61
theorem Deck.same {H H' : Hp} {p d : Addr} {m : Nat} (D : Deck H p d m) (s : Same H H') : Deck H' p d m := by
  obtain ⟨ns, st, h1, h2, r⟩ := D.ex
  exact ⟨ns, st, s _ _ h1, s _ _ h2, r⟩
theorem Deck.ne {H : Hp} {p d : Addr} {m : Nat} (D : Deck H p d m) : p ≠ d := by
  obtain ⟨ns, st, h1, h2, r⟩ := D.ex
  exact ne_of h1 h2 (by intro z; cases z)
theorem Deck.mono {H : Hp} {p d : Addr} {m k : Nat} (D : Deck H p d m) (h : m ≤ k) : Deck H p d k := by
  obtain ⟨ns, st, h1, h2, h3, r⟩ := D.ex
  exact ⟨ns, st, h1, h2, Nat.le_trans h3 h, r⟩
theorem dget_deep {H : Hp} {p d : Addr} {st : Int} (h : H p = some (.dK (deckL d st))) : DGet H p (.str "deep") (some (.ref d)) := by
  have q := DGet.k (k := kD) h
  rw [deck_deep] at q
  exact q
theorem dget_state {H : Hp} {p d : Addr} {st : Int} (h : H p = some (.dK (deckL d st))) : DGet H p (.str "state") (some (.int st)) := by
  have q := DGet.k (k := kS) h
  rw [deck_state] at q
  exact q
theorem dput_deep {H : Hp} {p d : Addr} {st : Int} (e : Addr) (h : H p = some (.dK (deckL d st))) : DPut H p (.str "deep") (.ref e) (upd H p (.dK (deckL e st))) := by
  have q := DPut.k (k := kD) (v := .ref e) h (by show 2 < sizeLine; rw [sizeLine_eq]; omega)
  rw [deck_put_deep] at q
  exact q
theorem dput_state {H : Hp} {p d : Addr} {st : Int} (z : Int) (h : H p = some (.dK (deckL d st))) : DPut H p (.str "state") (.int z) (upd H p (.dK (deckL d z))) := by
  have q := DPut.k (k := kS) (v := .int z) h (by show 2 < sizeLine; rw [sizeLine_eq]; omega)
  rw [deck_put_state] at q
  exact q
theorem cut_int (ns : List Int) (lo hi : Option Int) : ∃ ms : List Int, cutV (ns.map V.int) lo hi = ms.map V.int ∧ ms.length ≤ ns.length := by
  refine ⟨(ns.drop (HT.sIx (ns.map V.int).length 0 lo)).take (HT.sIx (ns.map V.int).length (ns.map V.int).length hi - HT.sIx (ns.map V.int).length 0 lo), ?_, ?_⟩
  · unfold cutV
    rw [List.map_take, List.map_drop]
  · rw [List.length_take, List.length_drop]
    omega
section
variable {P : Program} {w : World} {K : PySem.W.Frag} {mg : Str → Option Value} {base : Heap}
def spDeck (K : PySem.W.Frag) : Sp := fun vs H Q _ => ∃ (a : Addr) (ns : List Int), vs = [.ref a] ∧ SqL K H a (ns.map V.int) ∧ ns.length ≤ 63 ∧ ∀ (p d : Addr) (H' : Hp), Same H H' → H p = none → H d = none → Deck H' p d 63 → Q (.ref p) H'
theorem ok_deck {f : Addr} {fd : FuncData} (F : Fun K "_law_deck" "_law_deck" sDeck f fd) (B : NoNames mg) : FnOk P w K mg base CX0 1 f fd ["script"] (spDeck K) := by
  refine F.ok scDeck (fun vs H Q E h => ?_) (fun cdv A outer s H vs Q E hr h => ?_)
  · obtain ⟨a, ns, rfl, _⟩ := h
    rfl
  · obtain ⟨a, ns, rfl, hS, hl, k⟩ := h
    have hu := hu_of hr
    refine ⟨_, pss_cons (ps_set (i := 1) scDeck.nd rfl (.inl rfl) (pe_disp (pps_cons pe_str (pe_lst pa_nil) (pps_cons pe_str (pe_op op_add pe_int (pe_callB call_len_seq (by rfl) B.len PySem.boot_len (pa_cons (pe_slice sl_list (pv 0) po_none (po_some pe_int)) pa_nil))) pps_nil)) (by rfl) (by rfl) (fun z => by cases z) (by decide)))
      (pss_cons (ps_for PassesOwn.never rfl (pi_list (pe_slice sl_list (pv 0) po_none (po_some pe_int))) (pg_name (i := 2) scDeck.nd rfl (.inl rfl))
        (pss_cons (ps_set (i := 3) scDeck.nd rfl (.inl rfl) (pe_callB call_abs (by rfl) B.abs (by decide +kernel) (pa_cons (pv 2) pa_nil)))
        (pss_cons (ps_if (pt_cmpR op_ge (pv 3) (pe_op op_pow pe_int pe_int) (nomark _)) (pss_one (ps_dput hu (pv 1) pe_str (pe_op op_cat (pe_lst (pa_cons (pv 3) pa_nil)) (pe_dget hu (pv 1) pe_str (fun _ _ => rfl))) rfl)) pss_nil)
        (pss_cons (ps_set (i := 4) scDeck.nd rfl (.inl rfl) (pe_op op_add (pe_op op_mul (pe_op op_add (pe_op op_add (pe_op op_add (pe_dget hu (pv 1) pe_str (fun _ _ => rfl)) (pe_op op_mul pe_int (pv 3)))
            (pe_callTy call_int1 (by rfl) B.int (by decide +kernel) (pa_cons (pe_cmpR op_lt (pv 2) pe_int (nomark _)) pa_nil))) pe_int) pe_int) pe_int))
        (pss_one (ps_dput hu (pv 1) pe_str (pe_op op_mod (pe_callTy call_int1 (by rfl) B.int (by decide +kernel) (pa_cons (pv 4) pa_nil)) pe_int) rfl))))))
      (pss_one (ps_ret (pv 1)))), ?_⟩
    -- the deck
    intro p np
    refine ⟨Nat.zero_le _, fun l nl => ?_⟩
    have nlp : p ≠ l := fun z => by
      rw [z, upd_same] at nl
      cases nl
    have nl0 : H l = none := by
      rw [upd_ne nlp.symm] at nl
      exact nl
    have s1 : Same H (upd (upd H p (.dK [])) l (.lst [])) := (same_new np).trans (same_new nl)
    obtain ⟨ms, em, lm⟩ := cut_int ns none (some 63)
    refine ⟨_, rfl, 63, rfl, a, ns.map V.int, rfl, s1.seq hS, fun c nc => ?_⟩
    rw [em]
    refine ⟨c, _, rfl, .inl (SqL.of upd_same), _, _, rfl, rfl, ?_⟩
    have s2 := s1.trans (same_new (o := .lst (ms.map V.int)) nc)
    have ncp : p ≠ c := fun z => by
      rw [← z, upd_ne nlp, upd_same] at nc
      cases nc
    have ncl : l ≠ c := fun z => by
      rw [← z, upd_same] at nc
      cases nc
    refine ⟨by rw [upd_ne ncp, upd_ne nlp, upd_same], [(kD, .ref l), (kS, .int (1279803 + ((ms.map V.int).length : Int)))], rfl, by show 2 ≤ 15; decide, ?_⟩
    rw [deck_new]
    have em2 : (ms.map V.int).length ≤ 63 := by
      rw [List.length_map]
      omega
    have d0 : Deck (upd (upd (upd (upd H p (.dK [])) l (.lst [])) c (.lst (ms.map V.int))) p (.dK (deckL l (1279803 + ((ms.map V.int).length : Int))))) p l 0 :=
      ⟨[], _, upd_same, by rw [upd_ne nlp.symm, upd_ne ncl, upd_same]; rfl, Nat.le_refl _, fun _ h => absurd h (by simp), by omega, by omega⟩
    have s3 : Same H (upd (upd (upd (upd H p (.dK [])) l (.lst [])) c (.lst (ms.map V.int))) p (.dK (deckL l (1279803 + ((ms.map V.int).length : Int))))) := fun b o e => by
      rw [upd_ne (ne_of_none e np)]
      exact s2 b o e
    -- for cell in script[:63]
    refine ⟨_, rfl, 63, rfl, a, ns.map V.int, rfl, s3.seq hS, fun c2 nc2 => ?_⟩
    rw [em]
    have s4 := s3.trans (same_new (o := .lst (ms.map V.int)) nc2)
    have p0 : ∀ {H' : Hp}, (∃ d', Deck H' p d' 0) → True := fun _ => trivial
    refine ⟨c2, rfl, ⟨_, SqL.of upd_same⟩, for_it (walk_list (xs := ms.map V.int)) (fun i σ H' => ∃ s2 s3 s4 d', σ = [some (.ref a), some (.ref p), s2, s3, s4] ∧ Same H H' ∧ H' c2 = some (.lst (ms.map V.int)) ∧ H d' = none ∧ Deck H' p d' i)
      ⟨none, none, none, l, rfl, s4, upd_same, nl0, d0.same (same_new nc2)⟩ (fun i σ H' _ h => by obtain ⟨_, _, _, _, _, _, h3, _⟩ := h; exact SqL.of h3) ?_ ?_⟩
    · rintro i x σ H0 H1 hi ⟨t2, t3, t4, d', rfl, w1, w2, w3, D⟩ ⟨rfl, ex⟩
      obtain ⟨z, rfl⟩ : ∃ z, x = V.int z := by
        rw [List.getElem?_map] at ex
        cases q : ms[i]? with
        | none => rw [q] at ex; cases ex
        | some z => rw [q] at ex; exact ⟨z, (Option.some.inj ex).symm⟩
      have hi63 : i < 63 := by
        rw [List.length_map] at hi
        omega
      -- whole = abs(cell)
      refine ⟨_, rfl, z, rfl, ?_⟩
      obtain ⟨deep, st, hp1, hd1, hl1, hn1, hs1, hs2⟩ := id D.ex
      have hW : 0 ≤ (if z < 0 then -z else z) := by split <;> omega
      generalize (if z < 0 then -z else z) = W at hW ⊢
      refine ⟨_, rfl, _, _, rfl, rfl, ⟨by decide, by decide, by decide⟩, _, _, rfl, rfl, _, rfl, ?_⟩
      refine ite2 (fun _ => ?yes) (fun _ => ?no)
      case' yes =>
        -- deck["deep"] = [whole] + deck["deep"]
        refine ⟨_, rfl, by show 1 ≤ sizeLine; decide, fun q nq => ?_⟩
        have sq : Same H1 (upd H1 q (.lst [.int W])) := same_new nq
        refine ⟨_, rfl, p, _, rfl, dget_deep (sq _ _ hp1), q, d', _, _, rfl, rfl, upd_same, sq _ _ hd1, ?_, fun e ne => ?_⟩
        · rw [List.length_map, sizeLine_eq]
          show 1 + deep.length ≤ _
          omega
        have se := sq.trans (same_new (o := .lst ([V.int W] ++ deep.map V.int)) ne)
        refine ⟨_, rfl, p, _, rfl, dput_deep e (se _ _ hp1), ?_⟩
        have ep : e ≠ p := fun y => by
          rw [y, sq _ _ hp1] at ne
          cases ne
        have cp : c2 ≠ p := ne_of w2 hp1 (by intro y; cases y)
        have e0 : H e = none := w1.free (sq.free ne)
        have y1 : Same H (upd (upd (upd H1 q (.lst [.int W])) e (.lst ([V.int W] ++ deep.map V.int))) p (.dK (deckL e st))) := fun b o h => by
          rw [upd_ne (ne_of_none h np)]
          exact se _ _ (w1 b o h)
        have y2 : (upd (upd (upd H1 q (.lst [.int W])) e (.lst ([V.int W] ++ deep.map V.int))) p (.dK (deckL e st))) c2 = some (.lst (ms.map V.int)) := by
          rw [upd_ne cp]
          exact se _ _ w2
        have y3 : ∃ (d2 : Addr) (deep2 : List Int) (st2 : Int), (H d2 = none ∧ (upd (upd (upd H1 q (.lst [.int W])) e (.lst ([V.int W] ++ deep.map V.int))) p (.dK (deckL e st))) p = some (.dK (deckL d2 st2)) ∧
            (upd (upd (upd H1 q (.lst [.int W])) e (.lst ([V.int W] ++ deep.map V.int))) p (.dK (deckL e st))) d2 = some (.lst (deep2.map V.int)) ∧ deep2.length ≤ i + 1 ∧ (∀ n ∈ deep2, 0 ≤ n)) ∧ 0 ≤ st2 ∧ st2 < 2 ^ 61 :=
          ⟨e, W :: deep, st, ⟨e0, upd_same, by rw [upd_ne ep, upd_same]; rfl, by simp only [List.length_cons]; omega, fun n hn => by
            rcases List.mem_cons.mp hn with y | y
            · rw [y]; exact hW
            · exact hn1 n y⟩, hs1, hs2⟩
        generalize (upd (upd (upd H1 q (.lst [.int W])) e (.lst ([V.int W] ++ deep.map V.int))) p (.dK (deckL e st))) = H2 at y1 y2 y3 ⊢
      case' no =>
        have y1 : Same H H1 := w1
        have y2 : H1 c2 = some (.lst (ms.map V.int)) := w2
        have y3 : ∃ (d2 : Addr) (deep2 : List Int) (st2 : Int), (H d2 = none ∧ H1 p = some (.dK (deckL d2 st2)) ∧ H1 d2 = some (.lst (deep2.map V.int)) ∧ deep2.length ≤ i + 1 ∧ (∀ n ∈ deep2, 0 ≤ n)) ∧ 0 ≤ st2 ∧ st2 < 2 ^ 61 :=
          ⟨d', deep, st, ⟨w3, hp1, hd1, by omega, hn1⟩, hs1, hs2⟩
        generalize H1 = H2 at y1 y2 y3 ⊢
      all_goals
        obtain ⟨d2, deep2, st2, ⟨g0, g1, g2, g3, g4⟩, g5, g6⟩ := y3
        -- state
        refine ⟨_, rfl, p, _, rfl, dget_state g1, _, rfl, _, _, rfl, rfl, .inl ⟨by decide, by decide⟩, _, _, rfl, rfl, ?_⟩
        refine ⟨_, rfl, _, _, rfl, rfl, .inr ⟨_, rfl, _, _, rfl, rfl, ?_⟩⟩
        refine ⟨_, _, rfl, rfl, _, _, rfl, rfl, .inr ⟨by decide, by decide⟩, _, _, rfl, rfl, ?_⟩
        refine ⟨_, rfl, .inl ⟨_, rfl, _, _, rfl, rfl, (by show (0 : Int) < 2305843009213693951; decide), _, rfl, p, _, rfl, dput_state _ g1, ?_⟩⟩
        have np2 : p ≠ d2 := ne_of g1 g2 (by intro y; cases y)
        have cp : c2 ≠ p := ne_of y2 g1 (by intro y; cases y)
        refine ⟨_, _, _, d2, rfl, fun b o h => ?_, ?_, g0, ⟨deep2, _, upd_same, ?_, g3, g4, Int.emod_nonneg _ (by decide), Int.lt_of_lt_of_le (Int.emod_lt_of_pos _ (by decide)) (by decide)⟩⟩
        · rw [upd_ne (ne_of_none h np)]
          exact y1 b o h
        · rw [upd_ne cp]
          exact y2
        · rw [upd_ne np2.symm]
          exact g2
    · rintro σ H1 ⟨t2, t3, t4, d', rfl, w1, w2, w3, D⟩
      refine ⟨_, rfl, k p d' H1 w1 np w3 (D.mono ?_)⟩
      rw [List.length_map]
      omega
end
end Sw
namespace Sw
open PySem L2
/-- all but the deck stands -/
def Kp (p d : Addr) (H H' : Hp) : Prop := ∀ b o, H b = some o → b ≠ p → b ≠ d → H' b = some o
theorem Kp.of {p d : Addr} {H H' : Hp} (s : Same H H') : Kp p d H H' := fun b o e _ _ => s b o e
theorem Kp.refl {p d : Addr} {H : Hp} : Kp p d H H := fun _ _ e _ _ => e
theorem Kp.trans {p d : Addr} {H H1 H2 : Hp} (s : Kp p d H H1) (t : Kp p d H1 H2) : Kp p d H H2 := fun b o e n1 n2 => t b o (s b o e n1 n2) n1 n2
theorem Kp.new {p d : Addr} {H : Hp} {a : Addr} {o : HO} (h : H a = none) : Kp p d H (upd H a o) := .of (same_new h)
theorem Deck.ne_none {H : Hp} {p d : Addr} {m : Nat} (D : Deck H p d m) {a : Addr} (h : H a = none) : a ≠ p ∧ a ≠ d := by
  obtain ⟨ns, st, h1, h2, r⟩ := D.ex
  refine ⟨fun z => ?_, fun z => ?_⟩
  · rw [z, h1] at h
    cases h
  · rw [z, h2] at h
    cases h
/-- what is not yet stands not behind either -/
theorem Deck.free {H H' : Hp} {p d : Addr} {m : Nat} (D : Deck H p d m) (s : Kp p d H H') {a : Addr} (h : H' a = none) (D' : Deck H' p d m) : H a = none := by
  cases e : H a with
  | none => rfl
  | some o =>
    have n := D'.ne_none h
    have := s a o e n.1 n.2
    rw [this] at h
    cases h
theorem eqv_nil (ns : List Int) : (!PyData.eqv (.list (ns.map PyData.int)) (.list [])) = decide (ns ≠ []) := by
  cases ns with
  | nil => simp [PyData.eqv, PyData.eqvAll]
  | cons a r => simp [PyData.eqv, PyData.eqvAll]
theorem dpInts {K : PySem.W.Frag} {H : Hp} : ∀ ns : List Int, DpAll K H (ns.map V.int) (ns.map PyData.int)
  | [] => .nil
  | n :: r => .cons (.int n) (dpInts r)
theorem last_ints {ns : List Int} (h : ns ≠ []) : ∃ n ms, ns = ms ++ [n] ∧ (ns.map V.int)[(ns.map V.int).length - 1]? = some (.int n) ∧ (ns.map V.int).dropLast = ms.map V.int := by
  refine ⟨ns.getLast h, ns.dropLast, (List.dropLast_concat_getLast h).symm, ?_, ?_⟩
  · rw [List.getElem?_map, List.length_map]
    rw [← List.getLast?_eq_getElem?, List.getLast?_eq_some_getLast h]
    rfl
  · rw [List.map_dropLast]
section
variable {P : Program} {w : World} {K : PySem.W.Frag} {mg : Str → Option Value} {base : Heap}
def spDraw : Sp := fun vs H Q _ => ∃ (p d : Addr) (m : Int), vs = [.ref p, .int m] ∧ Deck H p d 63 ∧ m < 1000000 ∧ ∀ (r : Int) (H' : Hp), 0 ≤ r → (1 ≤ m → r < m) → (m < 2 → r = 0) → Deck H' p d 63 → Kp p d H H' → Q (.int r) H'
theorem ok_draw {f : Addr} {fd : FuncData} (F : Fun K "_law_draw" "_law_draw" sDraw f fd) (B : NoNames mg) : FnOk P w K mg base CX0 1 f fd ["deck", "many"] (spDraw) := by
  refine F.ok scDraw (fun vs H Q E h => ?_) (fun cdv A outer s H vs Q E hr h => ?_)
  · obtain ⟨p, d, m, rfl, _⟩ := h
    rfl
  · obtain ⟨p, d, m, rfl, D, hm, k⟩ := h
    have hu := hu_of hr
    refine ⟨_, pss_cons (ps_if (pt_cmpR op_lt (pv 1) pe_int (nomark _)) (pss_one (ps_ret pe_int)) pss_nil)
      (pss_cons (ps_if (pt_cmpR (op_neD hr.units) (pe_dget hu (pv 0) pe_str (fun _ _ => rfl)) (pe_lst pa_nil) (nomark _))
        (pss_cons (ps_set (i := 2) scDraw.nd rfl (.inl rfl) (pe_bm0 PySem.F.plainAttrs_list PySem.F.slot_list_pop PySem.F.type_list_pop mt_pop (pe_dget hu (pv 0) pe_str (fun _ _ => rfl))))
        (pss_cons (ps_if (pt_cmpR op_ge (pv 2) (pv 1) (nomark _)) (pss_one (ps_expr (pe_bm PySem.F.plainAttrs_list PySem.F.slot_list_append PySem.F.type_list_append mt_append (pe_dget hu (pv 0) pe_str (fun _ _ => rfl)) (pa_cons (pe_op op_fdiv (pv 2) (pv 1)) pa_nil)))) pss_nil)
        (pss_one (ps_ret (pe_op op_mod (pe_callTy call_int1 (by rfl) B.int (by decide +kernel) (pa_cons (pv 2) pa_nil)) (pv 1)))))) pss_nil)
      (pss_cons (ps_set (i := 3) scDraw.nd rfl (.inl rfl) (pe_op op_mod (pe_callTy call_int1 (by rfl) B.int (by decide +kernel) (pa_cons (pe_op op_add (pe_op op_mul (pe_dget hu (pv 0) pe_str (fun _ _ => rfl)) pe_int) pe_int) pa_nil)) pe_int))
      (pss_cons (ps_dput hu (pv 0) pe_str (pv 3) rfl)
      (pss_cons (ps_set (i := 4) scDraw.nd rfl (.inl rfl) (pe_op op_mod (pe_callTy call_int1 (by rfl) B.int (by decide +kernel) (pa_cons (pe_op op_add (pe_op op_add (pe_op op_mul (pv 3) (pv 3)) (pe_op op_mul pe_int (pv 3))) pe_int) pa_nil)) pe_int))
      (pss_one (ps_ret (pe_op op_mod (pe_callTy call_int1 (by rfl) B.int (by decide +kernel) (pa_cons (pe_op op_fdiv (pv 4) pe_int) pa_nil)) (pv 1)))))))), ?_⟩
    obtain ⟨ns, st, hp, hd, hl, hn, hs1, hs2⟩ := id D.ex
    refine ⟨_, rfl, _, _, rfl, rfl, _, rfl, ?_⟩
    refine ite2 (fun z => ?_) (fun z => ?_)
    · have z : m < 2 := of_decide_eq_true z
      exact k 0 H (by decide) (fun _ => by omega) (fun _ => rfl) D .refl
    have z : ¬ m < 2 := fun q => z (decide_eq_true q)
    refine ⟨_, rfl, p, _, rfl, dget_deep hp, by show 0 ≤ sizeLine; exact Nat.zero_le _, fun e ne => ?_⟩
    have se : Same H (upd H e (.lst [])) := same_new ne
    refine ⟨.list (ns.map PyData.int), .list [], .lst (SqL.of (se _ _ hd)) (dpInts ns), .lst (SqL.of upd_same) .nil, PySem.W.ke_shaped_ints ns, rfl, _, rfl, ?_⟩
    rw [eqv_nil]
    refine ite2 (fun y => ?_) (fun y => ?_)
    · obtain ⟨n, ms, rfl, hlast, hdrop⟩ := last_ints (of_decide_eq_true y)
      have hn0 : 0 ≤ n := hn n (by simp)
      refine ⟨_, rfl, p, _, rfl, dget_deep (se _ _ hp), .inl ⟨rfl, _, SqL.of (se _ _ hd)⟩, d, _, _, rfl, rfl, se _ _ hd, hlast, ?_⟩
      rw [hdrop]
      have hpd := D.ne
      have h1 : (upd (upd H e (.lst [])) d (.lst (ms.map V.int))) p = some (.dK (deckL d st)) := by
        rw [upd_ne hpd]
        exact se _ _ hp
      have h2 : (upd (upd H e (.lst [])) d (.lst (ms.map V.int))) d = some (.lst (ms.map V.int)) := upd_same
      have h3 : Kp p d H (upd (upd H e (.lst [])) d (.lst (ms.map V.int))) := fun b o e n1 n2 => by
        rw [upd_ne n2]
        exact se _ _ e
      have hl' : ms.length + 1 ≤ 63 := by simpa using hl
      have hn' : ∀ x ∈ ms, 0 ≤ x := fun x hx => hn x (by simp [hx])
      generalize (upd (upd H e (.lst [])) d (.lst (ms.map V.int))) = H1 at h1 h2 h3 ⊢
      have D1 : Deck H1 p d 63 := ⟨ms, st, h1, h2, by omega, hn', hs1, hs2⟩
      refine ⟨_, rfl, _, rfl, _, _, rfl, rfl, _, rfl, ?_⟩
      refine ite2 (fun x => ?_) (fun x => ?_)
      · have x : m ≤ n := of_decide_eq_true x
        refine ⟨_, rfl, p, _, rfl, dget_deep h1, .inl ⟨rfl, _, SqL.of h2⟩, _, rfl, _, rfl, _, _, rfl, rfl, ⟨by omega, by omega⟩, d, _, _, rfl, rfl, h2, ?_, ?_⟩
        · rw [List.length_map, sizeLine_eq]
          omega
        refine ⟨_, rfl, .inl ⟨_, rfl, _, rfl, _, _, rfl, rfl, by show 0 < m; omega, ?_⟩⟩
        refine k _ _ (Int.emod_nonneg _ (by omega)) (fun _ => Int.emod_lt_of_pos _ (by omega)) (fun y => absurd y (by omega)) ⟨ms ++ [n / m], st, ?_, ?_, ?_, ?_, hs1, hs2⟩ (h3.trans fun b o e n1 n2 => ?_)
        · rw [upd_ne hpd]
          exact h1
        · rw [upd_same, List.map_append]
          rfl
        · simp
          omega
        · intro x hx
          rcases List.mem_append.mp hx with q | q
          · exact hn' x q
          · rw [List.mem_singleton.mp q]
            exact Int.ediv_nonneg hn0 (by omega)
        · rw [upd_ne n2]
          exact e
      · refine ⟨_, rfl, .inl ⟨_, rfl, _, rfl, _, _, rfl, rfl, by show 0 < m; omega, ?_⟩⟩
        exact k _ _ (Int.emod_nonneg _ (by omega)) (fun _ => Int.emod_lt_of_pos _ (by omega)) (fun y => absurd y (by omega)) D1 h3
    · have D1 := D.same se
      generalize (upd H e (.lst [])) = H1 at se D1
      obtain ⟨ns, st, hp, hd, hl, hn, hs1, hs2⟩ := id D1.ex
      refine ⟨_, rfl, p, _, rfl, dget_state hp, _, _, rfl, rfl, .inl ⟨by omega, by omega⟩, _, _, rfl, rfl, ?_⟩
      refine .inl ⟨_, rfl, _, _, rfl, rfl, (by show (0 : Int) < 2305843009213693951; decide), ?_⟩
      dsimp only
      have o1 : 0 ≤ (st * 1181783497276652981 + 88172645463325) % 2305843009213693951 := Int.emod_nonneg _ (by decide)
      have o2 : (st * 1181783497276652981 + 88172645463325) % 2305843009213693951 < 2305843009213693951 := Int.emod_lt_of_pos _ (by decide)
      generalize (st * 1181783497276652981 + 88172645463325) % 2305843009213693951 = one at o1 o2 ⊢
      refine ⟨_, rfl, _, rfl, p, _, rfl, dput_state one hp, ?_⟩
      refine ⟨_, rfl, _, rfl, _, _, rfl, rfl, .inl ⟨by omega, by omega⟩, _, rfl, _, _, rfl, rfl, .inl ⟨by decide, by decide⟩, _, _, rfl, rfl, _, _, rfl, rfl, ?_⟩
      refine .inl ⟨_, rfl, _, _, rfl, rfl, (by show (0 : Int) < 2305843009213693921; decide), ?_⟩
      dsimp only
      generalize (one * one + 374761393 * one + 11) % 2305843009213693921 = two
      refine ⟨_, rfl, _, _, rfl, rfl, ⟨by decide, by decide⟩, ?_⟩
      refine .inl ⟨_, rfl, _, rfl, _, _, rfl, rfl, by show 0 < m; omega, ?_⟩
      refine k _ _ (Int.emod_nonneg _ (by omega)) (fun _ => Int.emod_lt_of_pos _ (by omega)) (fun y => absurd y (by omega)) ⟨ns, one, upd_same, ?_, hl, hn, o1, by omega⟩ (fun b o e n1 n2 => ?_)
      · rw [upd_ne (D1.ne).symm]
        exact hd
      · rw [upd_ne n1]
        exact se _ _ e
end
end Sw
namespace Sw
open PySem L2
theorem erase_map {α β : Type} (f : α → β) : ∀ (l : List α) (i : Nat), (l.map f).eraseIdx i = (l.eraseIdx i).map f
  | [], _ => rfl
  | _ :: _, 0 => rfl
  | a :: r, i + 1 => by
    show f a :: (r.map f).eraseIdx i = f a :: (r.eraseIdx i).map f
    rw [erase_map f r i]
theorem Deck.kne {H : Hp} {p d : Addr} {m : Nat} (D : Deck H p d m) {a : Addr} {xs : List V} (h : H a = some (.lst xs)) : a ≠ p := by
  obtain ⟨ns, st, h1, h2, r⟩ := D.ex
  exact ne_of h h1 (by intro y; cases y)
theorem Deck.tne {H : Hp} {p d : Addr} {m : Nat} (D : Deck H p d m) {a : Addr} {xs : List V} (h : H a = some (.tup xs)) : a ≠ p ∧ a ≠ d := by
  obtain ⟨ns, st, h1, h2, r⟩ := D.ex
  exact ⟨ne_of h h1 (by intro y; cases y), ne_of h h2 (by intro y; cases y)⟩
theorem Deck.upd {H : Hp} {p d a : Addr} {m : Nat} {o : HO} (D : Deck H p d m) (h1 : a ≠ p) (h2 : a ≠ d) : Deck (L2.upd H a o) p d m := by
  obtain ⟨ns, st, e1, e2, r⟩ := D.ex
  exact ⟨ns, st, by rw [upd_ne h1.symm]; exact e1, by rw [upd_ne h2.symm]; exact e2, r⟩
section
variable {P : Program} {w : World} {K : PySem.W.Frag} {mg : Str → Option Value} {base : Heap}
def spPick : Sp := fun vs H Q _ => ∃ (p d a : Addr) (xs : List V), vs = [.ref p, .ref a] ∧ Deck H p d 63 ∧ H a = some (.lst xs) ∧ a ≠ d ∧ xs ≠ [] ∧ xs.length < 1000000 ∧ ∀ (x : V) (H' : Hp), x ∈ xs → Deck H' p d 63 → Kp p d H H' → Q x H'
theorem ok_pick {f : Addr} {fd : FuncData} (F : Fun K "_law_pick" "_law_pick" sPick f fd) (B : NoNames mg) (O : Own P w K mg base 1 "_law_draw" ["deck", "many"] spDraw) : FnOk P w K mg base CX0 2 f fd ["deck", "items"] (spPick) := by
  obtain ⟨fD, fdD, GD, mD, kD, bD⟩ := O.ex
  refine F.ok scPick (fun vs H Q E h => ?_) (fun cdv A outer s H vs Q E hr h => ?_)
  · obtain ⟨p, d, a, xs, rfl, _⟩ := h
    rfl
  · obtain ⟨p, d, a, xs, rfl, D, ha, nd, hx, hl, k⟩ := h
    refine ⟨_, pss_one (ps_ret (pe_ix ix_list (pv 1) (pe_call GD hr rfl mD kD bD .nil pass0 (pa_cons (pv 0) (pa_cons (pe_callB call_len_seq (by rfl) B.len PySem.boot_len (pa_cons (pv 1) pa_nil)) pa_nil))) (fun _ _ => rfl))), ?_⟩
    have hpos : 0 < xs.length := List.length_pos_iff.mpr hx
    refine ⟨_, rfl, _, rfl, _, rfl, a, xs, rfl, .inl (SqL.of ha), p, d, (xs.length : Int), rfl, D, by omega, fun r H' r0 r1 r2 D' kp => ?_⟩
    have ha' := kp _ _ ha (D.kne ha) nd
    have hr : r < (xs.length : Int) := r1 (by omega)
    obtain ⟨i, rfl⟩ := Int.eq_ofNat_of_zero_le r0
    have hi : i < xs.length := by omega
    exact ⟨a, xs, _, xs[i], rfl, rfl, SqL.of ha', at_of (j := i) rfl (List.getElem?_eq_getElem hi), k _ _ (List.getElem_mem hi) D' kp⟩
def spMixed : Sp := fun vs H Q _ => ∃ (p d a : Addr) (ns : List Int), vs = [.ref p, .ref a] ∧ Deck H p d 63 ∧ H a = some (.lst (ns.map V.int)) ∧ ns.length < 1000000 ∧ ∀ (r : Addr) (ms : List Int) (H' : Hp), Deck H' p d 63 → Kp p d H H' → H r = none → H' r = some (.lst (ms.map V.int)) → ms.length = ns.length → (∀ m ∈ ms, m ∈ ns) → Q (.ref r) H'
theorem ok_mixed {f : Addr} {fd : FuncData} (F : Fun K "_law_mixed" "_law_mixed" sMixed f fd) (B : NoNames mg) (O : Own P w K mg base 1 "_law_draw" ["deck", "many"] spDraw) : FnOk P w K mg base CX0 2 f fd ["deck", "items"] (spMixed) := by
  obtain ⟨fD, fdD, GD, mD, kD, bD⟩ := O.ex
  refine F.ok scMixed (fun vs H Q E h => ?_) (fun cdv A outer s H vs Q E hr h => ?_)
  · obtain ⟨p, d, a, ns, rfl, _⟩ := h
    rfl
  · obtain ⟨p, d, a, ns, rfl, D, ha, hl, k⟩ := h
    refine ⟨_, pss_cons (ps_par (i := 2) (j := 3) rfl scMixed.nd rfl rfl (by decide) rfl rfl (pa_cons (pe_callTy call_list_of (by rfl) B.list (by decide +kernel) (pa_cons (pv 1) pa_nil)) (pa_cons (pe_lst pa_nil) pa_nil)) (by rfl))
      (pss_cons (ps_while PassesOwn.never (pt_cmpR (op_neD hr.units) (pv 2) (pe_lst pa_nil) (nomark _))
        (pss_one (ps_expr (pe_bm PySem.F.plainAttrs_list PySem.F.slot_list_append PySem.F.type_list_append mt_append (pv 3)
          (pa_cons (pe_bm PySem.F.plainAttrs_list PySem.F.slot_list_pop PySem.F.type_list_pop mt_popAt (pv 2)
            (pa_cons (pe_call GD hr rfl mD kD bD .nil pass0 (pa_cons (pv 0) (pa_cons (pe_callB call_len_seq (by rfl) B.len PySem.boot_len (pa_cons (pv 2) pa_nil)) pa_nil))) pa_nil)) pa_nil)))))
      (pss_one (ps_ret (pv 3)))), ?_⟩
    refine ⟨_, rfl, a, _, rfl, .inl (SqL.of ha), fun l nl => ⟨by show 0 ≤ sizeLine; exact Nat.zero_le _, fun g ng => ⟨_, _, rfl, ?_⟩⟩⟩
    have s1 : Same H (L2.upd H l (.lst (ns.map V.int))) := same_new nl
    have s2 := s1.trans (same_new (o := .lst []) ng)
    have ngl : g ≠ l := fun z => by
      rw [z, upd_same] at ng
      cases ng
    refine ⟨fun m σ H' => ∃ ls fs : List Int, σ = [some (.ref p), some (.ref a), some (.ref l), some (.ref g)] ∧ Deck H' p d 63 ∧ Kp p d H H' ∧ H' l = some (.lst (ls.map V.int)) ∧ H' g = some (.lst (fs.map V.int)) ∧ l ≠ d ∧ g ≠ d ∧ ls.length = m ∧ ls.length + fs.length = ns.length ∧ (∀ x ∈ ls, x ∈ ns) ∧ (∀ x ∈ fs, x ∈ ns),
      ⟨ns.length, ns, [], rfl, D.same s2, .of s2, by rw [upd_ne ngl.symm, upd_same], upd_same, (D.ne_none nl).2, (D.ne_none (s1.free ng)).2, rfl, rfl, fun _ h => h, fun _ h => absurd h (by simp)⟩, ?_⟩
    rintro m σ H1 ⟨ls, fs, rfl, D1, k1, h1, h2, n1, n2, rfl, hlen, m1, m2⟩
    refine ⟨_, rfl, by show 0 ≤ sizeLine; exact Nat.zero_le _, fun e ne => ?_⟩
    have se : Same H1 (L2.upd H1 e (.lst [])) := same_new ne
    refine ⟨.list (ls.map PyData.int), .list [], .lst (SqL.of (se _ _ h1)) (dpInts ls), .lst (SqL.of upd_same) .nil, PySem.W.ke_shaped_ints ls, rfl, _, rfl, ?_⟩
    have D2 := D1.same se
    have k2 := k1.trans (.of se)
    have h1' := se _ _ h1
    have h2' := se _ _ h2
    generalize (L2.upd H1 e (.lst [])) = H2 at D2 k2 h1' h2' ⊢
    rw [eqv_nil]
    refine ite2 (fun y => ?_) (fun y => ?_)
    · have y : ls ≠ [] := of_decide_eq_true y
      have hpos : 0 < ls.length := List.length_pos_iff.mpr y
      refine ⟨fun σ' H' => ∃ m', m' < ls.length ∧ ∃ ls fs : List Int, σ' = [some (.ref p), some (.ref a), some (.ref l), some (.ref g)] ∧ Deck H' p d 63 ∧ Kp p d H H' ∧ H' l = some (.lst (ls.map V.int)) ∧ H' g = some (.lst (fs.map V.int)) ∧ l ≠ d ∧ g ≠ d ∧ ls.length = m' ∧ ls.length + fs.length = ns.length ∧ (∀ x ∈ ls, x ∈ ns) ∧ (∀ x ∈ fs, x ∈ ns), fun _ _ h => h, ?_⟩
      refine ⟨_, rfl, .inl ⟨rfl, _, SqL.of h2'⟩, _, rfl, .inl ⟨rfl, _, SqL.of h1'⟩, _, rfl, _, rfl, l, ls.map V.int, rfl, .inl (SqL.of h1'), p, d, ((ls.map V.int).length : Int), rfl, D2, ?_, fun r H3 r0 r1 r2 D3 k3 => ?_⟩
      · rw [List.length_map]
        omega
      have h1 := k3 _ _ h1' (D2.kne h1') n1
      have h2 := k3 _ _ h2' (D2.kne h2') n2
      have np1 := D2.kne h1'
      have np2 := D2.kne h2'
      have hr : r < ((ls.map V.int).length : Int) := r1 (by rw [List.length_map]; omega)
      obtain ⟨i, rfl⟩ := Int.eq_ofNat_of_zero_le r0
      have hi : i < ls.length := by
        rw [List.length_map] at hr
        omega
      have hz : ((ls.map V.int).eraseIdx i) = (ls.eraseIdx i).map V.int := by
        exact erase_map _ ls i
      refine ⟨l, _, _, i, .int ls[i], rfl, rfl, h1, by omega, by omega, ?_, ?_, ?_⟩
      · exact PySem.seqIndex_of r0 hr
      · rw [List.getElem?_map, List.getElem?_eq_getElem hi]
        rfl
      rw [hz]
      refine ⟨g, fs.map V.int, _, rfl, rfl, by rw [upd_ne ngl]; exact h2, ?_, ?_⟩
      · rw [List.length_map, sizeLine_eq]
        omega
      have le : (ls.eraseIdx i).length + 1 = ls.length := by
        rw [List.length_eraseIdx_of_lt hi]
        omega
      refine ⟨(ls.eraseIdx i).length, by omega, ls.eraseIdx i, fs ++ [ls[i]], rfl, (D3.upd np1 n1).upd np2 n2, ?_, ?_, ?_, n1, n2, rfl, ?_, ?_, ?_⟩
      · intro b o e q1 q2
        rw [upd_ne (ne_of_none e (s1.free ng)), upd_ne (ne_of_none e nl)]
        exact k3 _ _ (k2 _ _ e q1 q2) q1 q2
      · rw [upd_ne ngl.symm, upd_same]
      · rw [upd_same, List.map_append]
        rfl
      · rw [List.length_append, List.length_singleton]
        omega
      · exact fun x hx => m1 x (List.mem_of_mem_eraseIdx hx)
      · intro x hx
        rcases List.mem_append.mp hx with q | q
        · exact m2 x q
        · rw [List.mem_singleton.mp q]
          exact m1 _ (List.getElem_mem hi)
    · have y : ls = [] := by
        refine Classical.byContradiction fun q => y (decide_eq_true q)
      subst y
      refine ⟨_, rfl, k g fs H2 D2 k2 ?_ h2' (by simpa using hlen) m2⟩
      exact s1.free ng
end
end Sw
namespace Sw
open PySem L2
/-! ### expressions that give data -/
abbrev SH := L2.St → Hp → Prop
/-- what is free may be used, and what S says holds -/
structure Fit (S : SH) (U : L2.St → Addr → Prop) (σ : L2.St) (H : Hp) : Prop where
  s : S σ H
  u : ∀ a, H a = none → U σ a
def tDat (K : PySem.W.Frag) (S : SH) (U : L2.St → Addr → Prop) (w k : Nat) : TE := fun σ H Q => Fit S U σ H ∧ ∀ (x : V) (dd : D) (as : List Addr) (H' : Hp), Rep K H' dd x as → (∀ a ∈ as, U σ a) → Same H H' → small dd → wt dd ≤ w → dep dd ≤ k → Q x H'
def tDats (K : PySem.W.Frag) (S : SH) (U : L2.St → Addr → Prop) (w k m : Nat) : TA := fun σ H Q => Fit S U σ H ∧ ∀ (xs : List V) (ds : List D) (as : List Addr) (H' : Hp), xs.length = m → RepAll K H' ds xs as → (∀ a ∈ as, U σ a) → Same H H' → smallAll ds → wtAll ds ≤ w → depAll ds ≤ k → Q xs H'
/-- a new list of data -/
def tDatL (K : PySem.W.Frag) (S : SH) (U : L2.St → Addr → Prop) (w k m : Nat) : TE := fun σ H Q => Fit S U σ H ∧ ∀ (l : Addr) (xs : List V) (ds : List D) (as : List Addr) (H' : Hp), H l = none → H' l = some (.lst xs) → l ∉ as → xs.length = m → RepAll K H' ds xs as → (∀ a ∈ as, U σ a) → Same H H' → smallAll ds → wtAll ds ≤ w → depAll ds ≤ k → Q (.ref l) H'
def SMono (S : SH) : Prop := ∀ σ H H', S σ H → Same H H' → S σ H'
theorem Fit.same {S : SH} {U : L2.St → Addr → Prop} {σ : L2.St} {H H' : Hp} (hS : SMono S) (f : Fit S U σ H) (s : Same H H') : Fit S U σ H' := ⟨hS σ H H' f.s s, fun a h => f.u a (s.free h)⟩
theorem pe_weak {X : Cx} {e : Expr} {t t' : TE} (h : PE X e t) (hw : ∀ σ H Q, t' σ H Q → t σ H Q) : PE X e t' := ⟨fun pins s σ H Q I q => h.run pins s σ H Q I (hw σ H Q q)⟩
theorem pa_weak {X : Cx} {es : List Expr} {t t' : TA} (h : PA X es t) (hw : ∀ σ H Q, t' σ H Q → t σ H Q) : PA X es t' := ⟨fun pos pins s σ H Q I q => h.run pos pins s σ H Q I (hw σ H Q q)⟩
section
variable {X : Cx} {S : SH} {U : L2.St → Addr → Prop} {e : Expr} {es : List Expr} {w k : Nat}
theorem dat_le {w' k' : Nat} (h : PE X e (tDat X.K S U w k)) (hw : w ≤ w') (hk : k ≤ k') : PE X e (tDat X.K S U w' k') :=
  pe_weak h fun σ H Q q => ⟨q.1, fun x dd as H' h1 h2 h3 h4 h5 h6 => q.2 x dd as H' h1 h2 h3 h4 (by omega) (by omega)⟩
theorem dat_of {t : TE} (h : PE X e t) (ht : ∀ σ H Q, S σ H → (∀ v dd, Rep X.K H dd v [] → small dd → wt dd ≤ w → dep dd ≤ k → Q v H) → t σ H Q) : PE X e (tDat X.K S U w k) :=
  pe_weak h fun σ H Q q => ht σ H Q q.1.s fun v dd h1 h2 h3 h4 => q.2 v dd [] H h1 (fun _ h => absurd h (by simp)) (Same.refl H) h2 h3 h4
theorem int_ok {K : PySem.W.Frag} {H : Hp} {i : Int} {w k : Nat} (hi : i.natAbs < 10 ^ w) (hw : 0 < w) (hw2 : w ≤ 40) : Rep K H (.int i) (.int i) [] ∧ small (.int i) ∧ wt (.int i) ≤ w + 1 ∧ dep (.int i) ≤ k := by
  refine ⟨by simp [Rep], ?_, ?_, by simp only [dep]; omega⟩
  · simp only [small]
    exact PySem.Spec.log2_small (Nat.lt_of_lt_of_le hi (Nat.le_trans (Nat.pow_le_pow_right (by decide) hw2) (by decide +kernel)))
  · simp only [wt]
    rw [PySem.ofString_length]
    exact int_text_length_le10 hw hi
theorem dat_int {i : Int} {t : TE} (h : PE X e t) (ht : ∀ σ H Q, Q (.int i) H → t σ H Q) (hi : i.natAbs < 10 ^ w := by decide +kernel) (hw : 0 < w := by decide) (hw2 : w ≤ 40 := by decide) : PE X e (tDat X.K S U (w + 1) k) :=
  dat_of h fun σ H Q _ q => ht σ H Q (by
    obtain ⟨h1, h2, h3, h4⟩ := int_ok (K := X.K) (H := H) (k := k) hi hw hw2
    exact q _ _ h1 h2 h3 h4)
/-- a slot that holds a small whole number -/
def SInt (S : SH) (i : Nat) : Prop := ∀ σ H, S σ H → ∃ v, σ[i]? = some (some (.int v)) ∧ v.natAbs < 10 ^ 3
theorem dat_var {i : Nat} (h : PE X e (tVar i)) (hS : SInt S i) : PE X e (tDat X.K S U 4 k) :=
  dat_of h fun σ H Q hs q => by
    obtain ⟨v, e, hv⟩ := hS σ H hs
    obtain ⟨h1, h2, h3, h4⟩ := int_ok (K := X.K) (H := H) (k := k) hv (by decide) (by decide)
    exact ⟨_, e, q _ _ h1 h2 h3 h4⟩
theorem dat_bl {t : TE} (h : PE X e t) (ht : ∀ σ H Q, S σ H → (∀ b, Q (.bl b) H) → t σ H Q) : PE X e (tDat X.K S U 5 k) :=
  dat_of h fun σ H Q hs q => ht σ H Q hs fun b => q _ (.bl b) (by simp [Rep]) (by simp only [small]) (by simp only [wt]; omega) (by simp only [dep]; omega)
theorem dat_true {b : Bool} (h : PE X e (tC (.bl b))) : PE X e (tDat X.K S U 5 k) := dat_bl h fun σ H Q _ q => q b
theorem dat_non (h : PE X e (tC .non)) : PE X e (tDat X.K S U 4 k) :=
  dat_of h fun σ H Q _ q => q .non .non (by simp [Rep]) (by simp only [small]) (by simp only [wt]; omega) (by simp only [dep]; omega)
theorem dat_str {x : Str} (h : PE X e (tC (.str x))) (hw : (reprText x).length ≤ w := by decide +kernel) : PE X e (tDat X.K S U w k) :=
  dat_of h fun σ H Q _ q => q (.str x) (.str x) (by simp [Rep]) (by simp only [small]) (by simp only [wt]; omega) (by simp only [dep]; omega)
theorem dat_dct {pos : Pos} : PE X (.Dict [] [] pos) (tDat X.K S U 2 (k + 1)) :=
  pe_weak pe_dnewK fun σ H Q q p np => q.2 _ .dct [p] _ (by simp only [Rep]; exact ⟨p, rfl, upd_same, rfl⟩) (fun a ha => by rw [List.mem_singleton.mp ha]; exact q.1.u p np) (same_new np) (by simp only [small]) (by simp only [wt]; omega) (by simp only [dep]; omega)
theorem dats_nil : PA X [] (tDats X.K S U 0 k 0) := pa_weak pa_nil fun σ H Q q => q.2 [] [] [] H rfl (by simp [RepAll]) (fun _ h => absurd h (by simp)) (Same.refl H) (by simp only [smallAll]) (by simp only [wtAll]; omega) (by simp only [depAll]; omega)
theorem dats_cons {w' m : Nat} (hS : SMono S) (ha : PE X e (tDat X.K S U w k)) (hr : PA X es (tDats X.K S U w' k m)) (hs : starEach (e :: es) X.env = (false, eval e X.env) :: starEach es X.env := by rfl) : PA X (e :: es) (tDats X.K S U (w + 2 + w') k (m + 1)) :=
  pa_weak (pa_cons ha hr hs) fun σ H Q q => ⟨q.1, fun x dd as H1 h1 h2 h3 h4 h5 h6 => ⟨q.1.same hS h3, fun xs ds bs H2 lm l1 l2 l3 l4 l5 l6 =>
    q.2 (x :: xs) (dd :: ds) (as ++ bs) H2 (by rw [List.length_cons, lm]) (by simp only [RepAll]; exact ⟨x, xs, as, bs, rfl, h1.same l3, l1, rfl⟩) (fun a ha => (List.mem_append.mp ha).elim (h2 a) (l2 a)) (h3.trans l3) (by simp only [smallAll]; exact ⟨h4, l4⟩) (by simp only [wtAll]; omega) (by simp only [depAll]; omega)⟩⟩
theorem wlen {K : PySem.W.Frag} {H : Hp} {xs : List V} {ds : List D} {as : List Addr} (h : RepAll K H ds xs as) (hw : wtAll ds ≤ 10000000) : xs.length ≤ sizeLine := by
  have h1 := wt_len ds
  rw [h.len, sizeLine_eq]
  omega
theorem nmem {K : PySem.W.Frag} {H : Hp} {xs : List V} {ds : List D} {as : List Addr} {a : Addr} (h : RepAll K H ds xs as) (ha : H a = none) : a ∉ as := fun z => by
  obtain ⟨o, e⟩ := h.tracked a z
  rw [ha] at e
  cases e
theorem dat_tup {x1 m : Nat} {pos : Pos} (h : PA X es (tDats X.K S U w k m)) (hS : SMono S) (hw : w ≤ 10000000 := by decide) : PE X (.Tuple es x1 pos) (tDat X.K S U (w + 3) (k + 1)) :=
  pe_weak (pe_tup h) fun σ H Q q => ⟨q.1, fun xs ds as H1 hm h1 h2 h3 h4 h5 h6 => ⟨wlen h1 (by omega), fun p np =>
    q.2 (.ref p) (.tup ds) (p :: as) _ (by simp only [Rep]; exact ⟨p, xs, as, rfl, upd_same, h1.same (same_new np), nmem h1 np, rfl⟩) (fun a ha => (List.mem_cons.mp ha).elim (fun z => by rw [z]; exact (q.1.same hS h3).u p np) (h2 a)) (h3.trans (same_new np)) (by simp only [small]; exact h4) (by simp only [wt]; omega) (by simp only [dep]; omega)⟩⟩
theorem dat_lst {m : Nat} {pos : Pos} (h : PA X es (tDats X.K S U w k m)) (hS : SMono S) (hw : w ≤ 10000000 := by decide) : PE X (.List es pos) (tDat X.K S U (w + 3) (k + 1)) :=
  pe_weak (pe_lst h) fun σ H Q q => ⟨q.1, fun xs ds as H1 hm h1 h2 h3 h4 h5 h6 => ⟨wlen h1 (by omega), fun p np =>
    q.2 (.ref p) (.lst ds) (p :: as) _ (by simp only [Rep]; exact ⟨p, xs, as, rfl, upd_same, h1.same (same_new np), nmem h1 np, rfl⟩) (fun a ha => (List.mem_cons.mp ha).elim (fun z => by rw [z]; exact (q.1.same hS h3).u p np) (h2 a)) (h3.trans (same_new np)) (by simp only [small]; exact h4) (by simp only [wt]; omega) (by simp only [dep]; omega)⟩⟩
theorem datL_lst {m : Nat} {pos : Pos} (h : PA X es (tDats X.K S U w k m)) (hS : SMono S) (hw : w ≤ 10000000 := by decide) : PE X (.List es pos) (tDatL X.K S U w k m) :=
  pe_weak (pe_lst h) fun σ H Q q => ⟨q.1, fun xs ds as H1 hm h1 h2 h3 h4 h5 h6 => ⟨wlen h1 (by omega), fun p np =>
    q.2 p xs ds as _ (h3.free np) upd_same (nmem h1 np) hm (h1.same (same_new np)) h2 (h3.trans (same_new np)) h4 (by omega) (by omega)⟩⟩
/-- an own error with an __init__ -/
structure XE (P : Program) (K : PySem.W.Frag) (mg : Str → Option Value) (x msg fld : Str) : Prop where
  ex : ∃ C fI file, XCls K C ∧ XInit K C fI msg fld fld file ∧ mg x = some (.ref C) ∧ ((P.main.file : Str) == file) = true ∧ (P.main.scope.names.lookup ("super" : Str)).isSome = false ∧ XGood K C x
/-- an own error without -/
structure XU (K : PySem.W.Frag) (mg : Str → Option Value) (x : Str) : Prop where
  ex : ∃ (C : Addr) (bmB : List Value) (B newId initId : String), ExcBaseFacts B newId initId bmB ∧ PySem.W.excIn K C bmB newId = true ∧ PySem.W.keepIn K (.ref C) = true ∧ mg x = some (.ref C) ∧ XGood K C x
theorem wt_exc {C : Addr} {n : Str} (h : n.length ≤ 60) : wt (.exc C n none) ≤ 62 := by
  simp only [wt, xText]
  rw [PySem.Str.length_append]
  have : ("()" : Str).length = 2 := by decide +kernel
  omega
theorem wt_exc1 {C : Addr} {n m : Str} (h : n.length ≤ 60) (hm : (reprText m).length ≤ 40) : wt (.exc C n (some m)) ≤ 102 := by
  simp only [wt, xText]
  rw [PySem.Str.length_append, PySem.Str.length_append, PySem.Str.length_append]
  have h1 : ("(" : Str).length = 1 := by decide +kernel
  have h2 : (")" : Str).length = 1 := by decide +kernel
  omega
theorem dat_xe {x msg fld : Str} {pos p : Pos} {kr : Nat} (E : XE X.prog X.K X.mg x msg fld) (hmsg : (reprText msg).length ≤ 40) (hdb : (x == ("__debug__" : Str)) = false) (B : NoNames X.mg) (hr : Room kr X.A) (h1r : 1 ≤ kr) (hS : SMono S) (hg : Gl X x) (he : PE X e (tDat X.K S U w k)) (hst : starEach [e] X.env = (false, eval e X.env) :: starEach [] X.env := by rfl) :
    PE X (.Call (.Name x p) [e] [] pos) (tDat X.K S U 102 (k + 3)) := by
  obtain ⟨C, fI, file, T, F, hm, hf, ht, G⟩ := E.ex
  refine pe_weak (pe_xmk T F (hr.mono h1r) hg hm B.super hf ht he hst hdb) fun σ H Q q => ⟨q.1, fun x' dd as H1 l1 l2 l3 l4 l5 l6 => fun a t1 dx na nt nd n1 n2 n3 => ?_⟩
  have u := (q.1.same hS l3).u
  refine q.2 (.ref a) (.exc C x (some msg)) [a, t1, dx] _ ?_ (fun b hb => ?_) ?_ (by simp only [small]) (wt_exc1 G.len hmsg) (by simp only [dep]; omega)
  · simp only [Rep]
    refine ⟨a, t1, some dx, rfl, upd_same, ?_, fun d hd => ?_, G, rfl⟩
    · rw [upd_ne n1, upd_same]
      rfl
    · cases hd
      rw [upd_ne n2, upd_ne n3, upd_same]
  · simp only [List.mem_cons, List.not_mem_nil, or_false] at hb
    rcases hb with rfl | rfl | rfl
    · exact u _ na
    · exact u _ nt
    · exact u _ nd
  · refine l3.trans fun b o hb => ?_
    rw [upd_ne (ne_of_none hb na), upd_ne (ne_of_none hb nt), upd_ne (ne_of_none hb nd)]
    exact hb
theorem dat_xu {x : Str} {pos p : Pos} (E : XU X.K X.mg x) (hdb : (x == ("__debug__" : Str)) = false) (hg : Gl X x) : PE X (.Call (.Name x p) [] [] pos) (tDat X.K S U 62 (k + 3)) := by
  obtain ⟨C, bmB, Bn, newId, initId, F, q, kC, hm, G⟩ := E.ex
  refine pe_weak (pe_xmk0 (k := 0) F q kC hg hm hdb) fun σ H Q q a t1 na nt n1 => ?_
  refine q.2 (.ref a) (.exc C x none) [a, t1] _ ?_ (fun b hb => ?_) ?_ (by simp only [small]) (wt_exc G.len) (by simp only [dep]; omega)
  · simp only [Rep]
    refine ⟨a, t1, none, rfl, upd_same, ?_, fun d hd => (nomatch hd), G, rfl⟩
    rw [upd_ne n1, upd_same]
    rfl
  · simp only [List.mem_cons, List.not_mem_nil, or_false] at hb
    rcases hb with rfl | rfl
    · exact q.1.u _ na
    · exact q.1.u _ nt
  · intro b o hb
    rw [upd_ne (ne_of_none hb na), upd_ne (ne_of_none hb nt)]
    exact hb
end
end Sw
namespace Sw
open PySem L2
/-- a statement kept to what it is to do with the slots and the heap -/
def tCut (J J' : L2.St → Hp → Prop) : TS := fun D σ H => J σ H ∧ ∀ σ' H', J' σ' H' → D.nx σ' H'
theorem ps_cut {X : Cx} {st : Stmt} {t : TS} {J J' : L2.St → Hp → Prop} (h : PS X st t) (hJ : ∀ D σ H, J σ H → (∀ σ' H', J' σ' H' → D.nx σ' H') → t D σ H) : PS X st (tCut J J') :=
  ⟨fun pins s σ H D I q => h.run pins s σ H D I (hJ D σ H q.1 q.2)⟩
def Inn (n a : Int) : Prop := 0 ≤ a ∧ a < n
/-- tuples stand -/
def TupS (H H' : Hp) : Prop := ∀ b xs, H b = some (.tup xs) → H' b = some (.tup xs)
theorem TupS.of {H H' : Hp} (s : Same H H') : TupS H H' := fun b xs e => s _ _ e
theorem TupS.refl {H : Hp} : TupS H H := fun _ _ e => e
theorem TupS.trans {H H1 H2 : Hp} (s : TupS H H1) (t : TupS H1 H2) : TupS H H2 := fun b xs e => t _ _ (s _ _ e)
theorem TupS.kp {H H' : Hp} {p d : Addr} {m : Nat} (D : Deck H p d m) (s : Kp p d H H') : TupS H H' := fun b xs e => s _ _ e (D.tne e).1 (D.tne e).2
/-- a list, a dict is written -/
theorem TupS.upd {H : Hp} {a : Addr} {o : HO} (h : ∀ xs, H a ≠ some (.tup xs)) : TupS H (L2.upd H a o) := fun b xs e => by
  rw [upd_ne (fun z => h xs (by rw [← z]; exact e))]
  exact e
theorem Kp.free {H H' : Hp} {p d : Addr} {m : Nat} (s : Kp p d H H') (D' : Deck H' p d m) {a : Addr} (h : H' a = none) : H a = none := by
  cases e : H a with
  | none => rfl
  | some o =>
    have n := D'.ne_none h
    have := s a o e n.1 n.2
    rw [this] at h
    cases h
end Sw
namespace Sw
open PySem L2
/-- off the deck -/
def Off (p d : Addr) : Addr → Prop := fun a => a ≠ p ∧ a ≠ d
/-- the deck, and U: addresses off the deck, what is free and all tuples among them -/
structure Dk (H : Hp) (p d : Addr) (U : Addr → Prop) : Prop where
  dk : Deck H p d 63
  off : ∀ a, U a → Off p d a
  free : ∀ a, H a = none → U a
  tup : ∀ a zs, H a = some (.tup zs) → U a
theorem Dk.kp {H H' : Hp} {p d : Addr} {U : Addr → Prop} (D : Dk H p d U) (s : Kp p d H H') (D' : Deck H' p d 63) : Dk H' p d U := by
  have fr : ∀ a, H' a = none → H a = none := fun a h => by
    cases e : H a with
    | none => rfl
    | some o =>
      have n := D'.ne_none h
      have := s a o e n.1 n.2
      rw [this] at h
      cases h
  refine ⟨D', D.off, fun a h => D.free a (fr a h), fun a zs h => ?_⟩
  cases e : H a with
  | none => exact D.free a e
  | some o =>
    have n := D'.tne h
    have := s a o e n.1 n.2
    rw [this] at h
    cases h
    exact D.tup a zs e
theorem Dk.same {H H' : Hp} {p d : Addr} {U : Addr → Prop} (D : Dk H p d U) (s : Same H H') : Dk H' p d U := D.kp (.of s) (D.dk.same s)
/-- x is data of a bounded kind, made of things of U -/
def Dat (K : PySem.W.Frag) (U : Addr → Prop) (w k : Nat) (H : Hp) (x : V) : Prop := ∃ dd as, Rep K H dd x as ∧ (∀ a ∈ as, U a) ∧ small dd ∧ wt dd ≤ w ∧ dep dd ≤ k
theorem Dat.keep {K : PySem.W.Frag} {p d : Addr} {U : Addr → Prop} {w k : Nat} {H H' : Hp} {x : V} (h : Dat K U w k H x) (o : ∀ a, U a → Off p d a) (s : Kp p d H H') : Dat K U w k H' x := by
  obtain ⟨dd, as, h1, h2, h3⟩ := h
  exact ⟨dd, as, h1.keep fun b hb y e => s b y e (o b (h2 b hb)).1 (o b (h2 b hb)).2, h2, h3⟩
theorem Dat.le {K : PySem.W.Frag} {U : Addr → Prop} {w k w' k' : Nat} {H : Hp} {x : V} (h : Dat K U w k H x) (h1 : w ≤ w') (h2 : k ≤ k') : Dat K U w' k' H x := by
  obtain ⟨dd, as, h3, h4, h5, h6, h7⟩ := h
  exact ⟨dd, as, h3, h4, h5, by omega, by omega⟩
theorem Dat.all {K : PySem.W.Frag} {U : Addr → Prop} {w k : Nat} {H : Hp} {xs : List V} {ds : List D} {as : List Addr} (h : RepAll K H ds xs as) (hu : ∀ a ∈ as, U a) (hs : smallAll ds) (hw : wtAll ds ≤ w) (hk : depAll ds ≤ k) : ∀ x ∈ xs, Dat K U w k H x := fun x hx => by
  obtain ⟨i, hi, e⟩ := List.getElem_of_mem hx
  obtain ⟨dd, bs, h1, h2, h3⟩ := h.at2 (i := i) (x := x) (by rw [List.getElem?_eq_getElem hi, e])
  have hm := List.mem_of_getElem? h1
  have := wt_mem hm
  have := dep_mem hm
  exact ⟨dd, bs, h2, fun a ha => hu a (h3 a ha), small_mem hs hm, by omega, by omega⟩
/-- a list of data -/
theorem dats_rep {K : PySem.W.Frag} {U : Addr → Prop} {w k : Nat} {H : Hp} : ∀ {xs : List V}, (∀ x ∈ xs, Dat K U w k H x) → ∃ ds as, RepAll K H ds xs as ∧ (∀ a ∈ as, U a) ∧ smallAll ds ∧ wtAll ds ≤ xs.length * (w + 2) ∧ depAll ds ≤ k
  | [], _ => ⟨[], [], by simp [RepAll], fun _ h => absurd h (by simp), by simp [smallAll], by simp [wtAll], by simp [depAll]⟩
  | x :: r, h => by
    obtain ⟨dd, as, h1, h2, h3, h4, h5⟩ := h x (by simp)
    obtain ⟨ds, bs, l1, l2, l3, l4, l5⟩ := dats_rep (xs := r) fun y hy => h y (by simp [hy])
    refine ⟨dd :: ds, as ++ bs, ?_, fun c hc => (List.mem_append.mp hc).elim (h2 c) (l2 c), ?_, ?_, ?_⟩
    · simp only [RepAll]
      exact ⟨x, r, as, bs, rfl, h1, l1, rfl⟩
    · simp only [smallAll]
      exact ⟨h3, l3⟩
    · simp only [wtAll, List.length_cons, Nat.succ_mul]
      omega
    · simp only [depAll]
      omega
/-- a new tuple of data -/
theorem Dat.newTup {K : PySem.W.Frag} {T : Addr} {U : Addr → Prop} {w k : Nat} {H : Hp} {xs : List V} (h : ∀ x ∈ xs, Dat K U w k H x) (nT : H T = none) (o : U T) : Dat K U (xs.length * (w + 2) + 3) (k + 1) (upd H T (.tup xs)) (.ref T) := by
  obtain ⟨ds, as, l1, l2, l3, l4, l5⟩ := dats_rep h
  refine ⟨.tup ds, T :: as, ?_, fun c hc => ?_, by simp only [small]; exact l3, by simp only [wt]; omega, by simp only [dep]; omega⟩
  · simp only [Rep]
    exact ⟨T, _, as, rfl, upd_same, l1.same (same_new nT), nmem l1 nT, rfl⟩
  · rcases List.mem_cons.mp hc with z | z
    · rw [z]; exact o
    · exact l2 c z
theorem Dat.int {K : PySem.W.Frag} {U : Addr → Prop} {w k : Nat} {H : Hp} {i : Int} (h : i.natAbs < 1000) (hw : 4 ≤ w) : Dat K U w k H (.int i) := by
  obtain ⟨i1, i2, i3, i4⟩ := int_ok (K := K) (H := H) (i := i) (w := 3) (k := k) h (by decide) (by decide)
  exact ⟨_, [], i1, fun _ h => absurd h (by simp), i2, by omega, i4⟩
end Sw
namespace Sw
open PySem L2
abbrev sWhole : Stmt := top 17
theorem scWhole : FnScope ["value", "low", "high"] ["value", "low", "high"] (defScope sWhole) := ⟨rfl, rfl, rfl, by decide +kernel, rfl, by decide +kernel, by decide +kernel⟩
section
variable {P : Program} {w : World} {K : PySem.W.Frag} {mg : Str → Option Value} {base : Heap}
theorem ok_whole {f : Addr} {fd : FuncData} (F : Fun K "_law_is_whole" "_law_is_whole" sWhole f fd) (B : NoNames mg) : FnOk P w K mg base CX0 1 f fd ["value", "low", "high"] (spBetween K) := by
  refine F.ok scWhole (fun vs H Q E h => ?_) (fun cdv A outer s H vs Q E hr h => ?_)
  · obtain ⟨x, d, as, lo, hi, rfl, _⟩ := h
    rfl
  · obtain ⟨x, d, as, lo, hi, rfl, hd, k⟩ := h
    refine ⟨_, pss_one (ps_ret (pe_and (pe_isi (i := 0) (TN := "int") rfl (Or.inl rfl) (by decide) (by decide) B.isi B.int rfl rfl (by decide +kernel) (by decide) (by decide))
      (pe_and (pe_not (pe_isi (i := 0) (TN := "bool") rfl (Or.inl rfl) (by decide) (by decide) B.isi B.bool rfl rfl (by decide +kernel) (by decide) (by decide)))
      (pe_one (pe_chain op_le op_le (pv 1) (pv 0) (pv 2)))))), ?_⟩
    have no : isT "bool" d = true → isWhole lo hi d = false := fun e => by cases d <;> simp_all [isT, isWhole]
    have no2 : isT "int" d = false → isWhole lo hi d = false := fun e2 => by cases d <;> simp_all [isT, isWhole]
    have yes : isT "bool" d = false → isT "int" d = true → ∃ i, d = .int i := fun e e2 => by cases d <;> first | exact ⟨_, rfl⟩ | (simp_all [isT])
    refine ⟨_, rfl, x, d, as, "int", rfl, by decide, hd, _, rfl, ?_⟩
    cases e2 : isT "int" d with
    | false =>
      refine iteF ?_
      rw [no2 e2] at k
      exact k
    | true =>
      refine iteT ⟨_, rfl, x, d, as, "bool", rfl, by decide, hd, _, rfl, _, rfl, ?_⟩
      cases e1 : isT "bool" d with
      | true =>
        refine iteF ?_
        rw [no e1] at k
        exact k
      | false =>
        refine iteT ?_
        obtain ⟨i, rfl⟩ := yes e1 e2
        simp only [Rep] at hd
        obtain ⟨rfl, rfl⟩ := hd
        refine ⟨_, rfl, _, rfl, _, _, rfl, rfl, _, rfl, ?_⟩
        refine ite2 (fun z => ?_) (fun z => ?_)
        · refine ⟨_, rfl, _, _, rfl, rfl, ?_⟩
          simp only [isWhole] at k
          rw [z] at k
          exact k
        · simp only [isWhole] at k
          rw [Bool.eq_false_iff.mpr z] at k
          exact k
end
end Sw
namespace Sw
open PySem L2
/-! ### standings as data: what is wrong first -/
def rowOf (n : Int) : D → Option (List D × D)
  | .tup [.tup ds, s] => if (ds.length : Int) = n + 1 then some (ds, s) else none
  | _ => none
def Twice (ds : List D) (i : Nat) : Prop := ∃ (v : Int) (j : Nat), ds[i]? = some (.int v) ∧ j < i ∧ ds[j]? = some (.int v)
inductive IsErrS (n : Int) : D → D → Prop
  | form {d : D} (h : rowOf n d = none) : IsErrS n d (.str "form")
  | thing {d s x : D} {ds : List D} {i : Nat} (h : rowOf n d = some (ds, s)) (hx : ds[i]? = some x) (hb : isWhole 0 n x = false) (ha : ∀ (j : Nat) (y : D), j < i → ds[j]? = some y → isWhole 0 n y = true) : IsErrS n d (.tup [.str "thing", .int i])
  | twice {d s : D} {ds : List D} {i : Nat} (h : rowOf n d = some (ds, s)) (ha : ∀ (j : Nat) (y : D), ds[j]? = some y → isWhole 0 n y = true) (hb : Twice ds i) (hl : ∀ j, j < i → ¬ Twice ds j) : IsErrS n d (.tup [.str "twice", .int i])
  | stop {d s : D} {ds : List D} (h : rowOf n d = some (ds, s)) (ha : ∀ (j : Nat) (y : D), ds[j]? = some y → isWhole 0 n y = true) (hl : ∀ j, ¬ Twice ds j) (hs : isWhole 0 (n - 1) s = false) : IsErrS n d (.str "stop")
  | fine {d s : D} {ds : List D} (h : rowOf n d = some (ds, s)) (ha : ∀ (j : Nat) (y : D), ds[j]? = some y → isWhole 0 n y = true) (hl : ∀ j, ¬ Twice ds j) (hs : isWhole 0 (n - 1) s = true) : IsErrS n d .non
theorem IsErrS.det {n : Int} {d r r' : D} (h : IsErrS n d r) (h' : IsErrS n d r') : r = r' := by
  cases h with
  | form h =>
    cases h' with
    | form => rfl
    | thing e => rw [h] at e; cases e
    | twice e => rw [h] at e; cases e
    | stop e => rw [h] at e; cases e
    | fine e => rw [h] at e; cases e
  | @thing s x ds i h hx hb ha =>
    cases h' with
    | form e => rw [h] at e; cases e
    | @thing s' x' ds' i' e hx' hb' ha' =>
      rw [h] at e
      cases e
      rcases Nat.lt_trichotomy i i' with l | l | l
      · exact absurd (ha' i x l hx) (by rw [hb]; decide)
      · rw [l]
      · exact absurd (ha i' x' l hx') (by rw [hb']; decide)
    | twice e ha' => rw [h] at e; cases e; exact absurd (ha' i x hx) (by rw [hb]; decide)
    | stop e ha' => rw [h] at e; cases e; exact absurd (ha' i x hx) (by rw [hb]; decide)
    | fine e ha' => rw [h] at e; cases e; exact absurd (ha' i x hx) (by rw [hb]; decide)
  | @twice s ds i h ha hb hl =>
    cases h' with
    | form e => rw [h] at e; cases e
    | @thing s' x' ds' i' e hx' hb' ha' => rw [h] at e; cases e; exact absurd (ha i' x' hx') (by rw [hb']; decide)
    | @twice s' ds' i' e ha' hb' hl' =>
      rw [h] at e
      cases e
      rcases Nat.lt_trichotomy i i' with l | l | l
      · exact absurd hb (hl' i l)
      · rw [l]
      · exact absurd hb' (hl i' l)
    | stop e ha' hl' => rw [h] at e; cases e; exact absurd hb (hl' i)
    | fine e ha' hl' => rw [h] at e; cases e; exact absurd hb (hl' i)
  | @stop s ds h ha hl hs =>
    cases h' with
    | form e => rw [h] at e; cases e
    | @thing s' x' ds' i' e hx' hb' ha' => rw [h] at e; cases e; exact absurd (ha i' x' hx') (by rw [hb']; decide)
    | @twice s' ds' i' e ha' hb' hl' => rw [h] at e; cases e; exact absurd hb' (hl i')
    | stop => rfl
    | fine e ha' hl' hs' => rw [h] at e; cases e; rw [hs] at hs'; cases hs'
  | @fine s ds h ha hl hs =>
    cases h' with
    | form e => rw [h] at e; cases e
    | @thing s' x' ds' i' e hx' hb' ha' => rw [h] at e; cases e; exact absurd (ha i' x' hx') (by rw [hb']; decide)
    | @twice s' ds' i' e ha' hb' hl' => rw [h] at e; cases e; exact absurd hb' (hl i')
    | stop e ha' hl' hs' => rw [h] at e; cases e; rw [hs] at hs'; cases hs'
    | fine => rfl
theorem row_tup {n : Int} {d : D} (h : isT "tuple" d = false) : rowOf n d = none := by
  cases d <;> simp_all [isT, rowOf]
theorem row_pair {n : Int} {d : D} (h : isPair d = false) : rowOf n d = none := by
  cases d with
  | tup ds =>
    match ds, h with
    | [], _ => rfl
    | [_], _ => simp [rowOf]
    | [_, _], h => cases h
    | _ :: _ :: _ :: _, _ => simp [rowOf]
  | _ => rfl
theorem row_no {n : Int} {a b : D} (h : isT "tuple" a = false) : rowOf n (.tup [a, b]) = none := by
  cases a <;> simp_all [isT, rowOf]
theorem row_len {n : Int} {ds : List D} {b : D} : rowOf n (.tup [.tup ds, b]) = if (ds.length : Int) = n + 1 then some (ds, b) else none := rfl
theorem whole_int {lo hi : Int} {d : D} (h : isWhole lo hi d = true) : ∃ i, d = .int i := by
  cases d <;> first | exact ⟨_, rfl⟩ | (cases h)
/-- the first things of a row of whole numbers: a thing that stands among them -/
theorem in_cut {K : PySem.W.Frag} {H : Hp} {ds : List D} {ys : List V} {cs : List Addr} {n : Int} (hds : RepAll K H ds ys cs) (hw : ∀ (j : Nat) (y : D), ds[j]? = some y → isWhole 0 n y = true) {i : Nat} {v : Int} (hi : ds[i]? = some (.int v)) :
    (cutV ys none (some (i : Int))).all flatV = true ∧ (inV (.int v) (cutV ys none (some (i : Int))) = true ↔ Twice ds i) := by
  have hlt : i < ys.length := by
    rw [hds.len]
    exact (List.getElem?_eq_some_iff.mp hi).1
  have ec : cutV ys none (some (i : Int)) = ys.take i := by
    unfold cutV
    rw [HT.sIx_none, HT.sIx_nat, Nat.min_eq_left (Nat.le_of_lt hlt), List.drop_zero, Nat.sub_zero]
  have each : ∀ (j : Nat) (x : V), ys[j]? = some x → ∃ u, ds[j]? = some (.int u) ∧ x = .int u := fun j x hx => by
    obtain ⟨d, bs, h1, h2, _⟩ := hds.at2 hx
    obtain ⟨u, rfl⟩ := whole_int (hw j d h1)
    simp only [Rep] at h2
    exact ⟨u, h1, h2.1⟩
  have mem : ∀ x ∈ ys.take i, ∃ j u, j < i ∧ ds[j]? = some (.int u) ∧ x = .int u := fun x hx => by
    obtain ⟨j, hj, e⟩ := List.getElem_of_mem hx
    rw [List.length_take] at hj
    have hx2 : ys[j]? = some x := by
      rw [List.getElem?_eq_getElem (by omega)]
      rw [List.getElem_take] at e
      rw [e]
    obtain ⟨u, h1, h2⟩ := each j x hx2
    exact ⟨j, u, by omega, h1, h2⟩
  rw [ec]
  refine ⟨List.all_eq_true.mpr fun x hx => ?_, ?_, ?_⟩
  · obtain ⟨j, u, _, _, rfl⟩ := mem x hx
    rfl
  · intro h
    obtain ⟨x, hx, e⟩ := List.any_eq_true.mp h
    obtain ⟨j, u, hj, hu, rfl⟩ := mem x hx
    have e : (u == v) = true := e
    rw [beq_iff_eq.mp e] at hu
    exact ⟨v, j, hi, hj, hu⟩
  · rintro ⟨v', j, h1, hj, h2⟩
    rw [hi] at h1
    cases h1
    obtain ⟨x, bs, h3, h4, _⟩ := hds.at h2
    simp only [Rep] at h4
    obtain ⟨rfl, _⟩ := h4
    refine List.any_eq_true.mpr ⟨.int v, ?_, beq_self_eq_true v⟩
    refine List.mem_of_getElem? (i := j) ?_
    rw [List.getElem?_take_of_lt hj]
    exact h3
def spSt (K : PySem.W.Frag) : Sp := fun vs H Q _ => ∃ (n : Int) (x : V) (d : D) (as : List Addr), vs = [.int n, x] ∧ Rep K H d x as ∧ wt d ≤ 10000000 ∧ 1 ≤ n ∧ n ≤ 12 ∧
  ∀ (r : D) (v : V) (bs : List Addr) (H' : Hp), IsErrS n d r → Same H H' → Rep K H' r v bs → small r → wt r ≤ 100 → dep r ≤ 1 → Q v H'
/-- the answers, each with what it asks -/
theorem err_str {K : PySem.W.Frag} {H : Hp} {z : Str} (h : (reprText z).length ≤ 100) : Rep K H (.str z) (.str z) [] ∧ small (.str z) ∧ wt (.str z) ≤ 100 ∧ dep (.str z) ≤ 1 :=
  ⟨by simp [Rep], by simp only [small], by simp only [wt]; exact h, by simp only [dep]; decide⟩
theorem err_pair {K : PySem.W.Frag} {H : Hp} {p : Addr} {z : Str} {i : Nat} (hz : (reprText z).length ≤ 20) (hi : i ≤ sizeLine) (np : H p = none) : Rep K (upd H p (.tup [.str z, .int i])) (.tup [.str z, .int i]) (.ref p) [p] ∧ small (.tup [.str z, .int i]) ∧ wt (.tup [.str z, .int i]) ≤ 100 ∧ dep (.tup [.str z, .int i]) ≤ 1 := by
  have hw := int_wt hi
  refine ⟨rep_err np, ?_, ?_, ?_⟩
  · simp only [small, smallAll]
    exact ⟨trivial, hw.2, trivial⟩
  · simp only [wt, wtAll]
    omega
  · simp only [dep, depAll]
    decide
end Sw
namespace Sw
open PySem L2
abbrev sDueS : Stmt := top 18
abbrev nDueS : List Str := ["n", "value", "row", "place", "thing"]
theorem scDueS : FnScope nDueS ["n", "value"] (defScope sDueS) := ⟨rfl, rfl, rfl, by decide +kernel, rfl, by decide +kernel, by decide +kernel⟩
section
variable {P : Program} {w : World} {K : PySem.W.Frag} {mg : Str → Option Value} {base : Heap}
theorem ok_dueS {f : Addr} {fd : FuncData} (F : Fun K "_law_due" "_law_due" sDueS f fd) (B : NoNames mg) (O : Own P w K mg base 1 "_law_is_whole" ["value", "low", "high"] (spBetween K)) : FnOk P w K mg base CX0 2 f fd ["n", "value"] (spSt K) := by
  obtain ⟨fS, fdS, GS, mS, kS, bS⟩ := O.ex
  refine F.ok scDueS (fun vs H Q E h => ?_) (fun cdv A outer s H vs Q E hr h => ?_)
  · obtain ⟨n, x, d, as, rfl, _⟩ := h
    rfl
  · obtain ⟨n, x, d, as, rfl, hd, hw, n1, n2, k⟩ := h
    refine ⟨_, pss_cons (ps_if (PW.pt (pw_or (pt_not (pt_val (pe_isi (i := 1) (TN := "tuple") rfl (Or.inl rfl) (by decide) (by decide) B.isi B.tuple rfl rfl (by decide +kernel) (by decide) (by decide))))
        (pw_or1 (pt_cmpR op_ne (pe_callB call_len_seq (by rfl) B.len PySem.boot_len (pa_cons (pv 1) pa_nil)) pe_int (nomark _))))) (pss_one (ps_ret pe_str)) pss_nil) <|
      pss_cons (ps_set (i := 2) scDueS.nd rfl (.inl rfl) (pe_ix ix_tup (pv 1) pe_int (fun _ _ => rfl))) <|
      pss_cons (ps_if (PW.pt (pw_or (pt_not (pt_val (pe_isi (i := 2) (TN := "tuple") rfl (Or.inl rfl) (by decide) (by decide) B.isi B.tuple rfl rfl (by decide +kernel) (by decide) (by decide))))
        (pw_or1 (pt_cmpR op_ne (pe_callB call_len_seq (by rfl) B.len PySem.boot_len (pa_cons (pv 2) pa_nil)) (pe_op op_add (pv 0) pe_int) (nomark _))))) (pss_one (ps_ret pe_str)) pss_nil) <|
      pss_cons (ps_for PassesOwn.never rfl (pi_enumT (by rfl) B.enumerate (pa_cons (pv 2) pa_nil)) (pg_tup rfl (pgs_cons (pg_name (i := 3) scDueS.nd rfl (.inl rfl)) (pgs_cons (pg_name (i := 4) scDueS.nd rfl (.inl rfl)) pgs_nil)))
        (pss_one (ps_if (pt_not (pt_val (pe_call GS hr rfl mS kS bS .nil pass0 (pa_cons (pv 4) (pa_cons pe_int (pa_cons (pv 0) pa_nil)))))) (pss_one (ps_ret (pe_tup (pa_cons pe_str (pa_cons (pv 3) pa_nil))))) pss_nil))) <|
      pss_cons (ps_for PassesOwn.never rfl (pi_enumT (by rfl) B.enumerate (pa_cons (pv 2) pa_nil)) (pg_tup rfl (pgs_cons (pg_name (i := 3) scDueS.nd rfl (.inl rfl)) (pgs_cons (pg_name (i := 4) scDueS.nd rfl (.inl rfl)) pgs_nil)))
        (pss_one (ps_if (pt_cmpR op_in_seq (pv 4) (pe_slice sl_tup (pv 2) po_none (po_some (pv 3))) (by with_unfolding_all rfl)) (pss_one (ps_ret (pe_tup (pa_cons pe_str (pa_cons (pv 3) pa_nil))))) pss_nil))) <|
      pss_one (ps_ret (pe_ifExp (pt_val (pe_call GS hr rfl mS kS bS .nil pass0 (pa_cons (pe_ix ix_tup (pv 1) pe_int (fun _ _ => rfl)) (pa_cons pe_int (pa_cons (pe_op op_sub (pv 0) pe_int) pa_nil))))) pe_non pe_str)), ?_⟩
    have kform : rowOf n d = none → Q (.str "form") H := fun hf => by
      obtain ⟨q1, q2, q3, q4⟩ := err_str (K := K) (H := H) (z := "form") (by decide +kernel)
      exact k _ _ _ H (.form hf) (Same.refl H) q1 q2 q3 q4
    refine ⟨_, rfl, x, d, as, "tuple", rfl, by decide, hd, _, rfl, ?_⟩
    cases e : isT "tuple" d with
    | false =>
      refine iteT (iteT ?_)
      exact kform (row_tup e)
    | true =>
      refine iteF ?_
      obtain ⟨ds0, rfl⟩ := tup_of e
      simp only [Rep] at hd
      obtain ⟨p, xs, bs, rfl, hp, ra, nap, rfl⟩ := hd
      refine ⟨_, rfl, p, xs, rfl, .inr (SqT.of hp), rfl, _, rfl, ?_⟩
      rw [← pair_len ra.len]
      cases ep : isPair (.tup ds0) with
      | false =>
        refine iteT ?_
        exact kform (row_pair ep)
      | true =>
        refine iteF ?_
        obtain ⟨a1, b1, e3⟩ := two_of ep
        cases e3
        simp only [RepAll] at ra
        obtain ⟨y, r, c1, c2, rfl, ha1, ⟨z, r2, d1, d2, rfl, hb1, ⟨rfl, rfl⟩, rfl⟩, rfl⟩ := ra
        refine ⟨_, rfl, p, _, 0, y, rfl, rfl, SqT.of hp, at_of (j := 0) rfl rfl, ?_⟩
        refine ⟨_, rfl, y, a1, c1, "tuple", rfl, by decide, ha1, _, rfl, ?_⟩
        cases e1 : isT "tuple" a1 with
        | false =>
          refine iteT (iteT ?_)
          exact kform (row_no e1)
        | true =>
          refine iteF ?_
          obtain ⟨ds, rfl⟩ := tup_of e1
          simp only [Rep] at ha1
          obtain ⟨a, ys, cs, rfl, ha, hds, na, rfl⟩ := ha1
          have hl := hds.len
          have hsz : ys.length ≤ sizeLine := by
            simp only [wt, wtAll] at hw
            have h2 := wt_len ds
            rw [hl, sizeLine_eq]
            omega
          refine ⟨_, rfl, a, ys, rfl, .inr (SqT.of ha), _, rfl, _, _, rfl, rfl, rfl, _, rfl, ?_⟩
          by_cases el : (ds.length : Int) = n + 1
          case neg =>
            have hf : rowOf n (.tup [.tup ds, b1]) = none := by rw [row_len, if_neg el]
            have : (!decide (V.int (ys.length : Int) = V.int (n + 1))) = true := by
              rw [hl, decide_eq_false (fun q => el (V.int.inj q))]
              rfl
            rw [this]
            refine iteT ?_
            exact kform hf
          case pos =>
          have hf : rowOf n (.tup [.tup ds, b1]) = some (ds, b1) := by rw [row_len, if_pos el]
          have : (!decide (V.int (ys.length : Int) = V.int (n + 1))) = false := by
            rw [hl, el, decide_eq_true rfl]
            rfl
          rw [this]
          refine iteF ?_
          refine ⟨_, rfl, a, ys, rfl, SqT.of ha, for_it walk_te (fun i σ H' => (∃ s3 s4, σ = [some (.int n), some (.ref p), some (.ref a), s3, s4]) ∧ Same H H' ∧ ∀ (j : Nat) (y : D), j < i → ds[j]? = some y → isWhole 0 n y = true)
            ⟨⟨_, _, rfl⟩, Same.refl H, fun j y h => absurd h (Nat.not_lt_zero _)⟩ (fun i σ H' _ h => SqT.of (h.2.1 _ _ ha)) ?_ ?_⟩
          · rintro i x σ1 H1 H2 hi ⟨⟨s3, s4, rfl⟩, s1, q⟩ ⟨T, x1, x2, rfl, nT, rfl, e1, e2⟩
            obtain rfl : V.int (i : Nat) = x1 := Option.some.inj e1
            refine ⟨T, [.int (i : Nat), x2], rfl, .inl (.inl upd_same), rfl, _, [x2], rfl, x2, [], rfl, rfl, ?_⟩
            have s2 : Same H (upd H1 T (.tup [.int (i : Nat), x2])) := s1.trans (same_new nT)
            obtain ⟨d2, b2, hd2, hr2, _⟩ := hds.at2 e2
            refine ⟨_, rfl, _, rfl, x2, d2, b2, 0, n, rfl, hr2.same s2, _, rfl, ?_⟩
            cases ea : isWhole 0 n d2 with
            | true =>
              refine iteF ⟨⟨_, _, rfl⟩, s2, fun j y hj hy => ?_⟩
              rcases Nat.lt_succ_iff_lt_or_eq.mp hj with z | z
              · exact q j y z hy
              · subst z
                rw [hd2] at hy
                cases hy
                exact ea
            | false =>
              refine iteT ⟨_, rfl, by show 2 ≤ sizeLine; decide, fun p2 np2 => ?_⟩
              obtain ⟨q1, q2, q3, q4⟩ := err_pair (K := K) (z := "thing") (i := i) (by decide +kernel) (Nat.le_trans (Nat.le_of_lt hi) hsz) np2
              exact k _ _ _ _ (.thing hf hd2 ea q) (s2.trans (same_new np2)) q1 q2 q3 q4
          · rintro σ H1 ⟨⟨s3, s4, rfl⟩, s1, q⟩
            have qa : ∀ (j : Nat) (y : D), ds[j]? = some y → isWhole 0 n y = true := fun j y hy => q j y (by rw [hl]; exact (List.getElem?_eq_some_iff.mp hy).1) hy
            refine ⟨_, rfl, a, ys, rfl, SqT.of (s1 _ _ ha), for_it walk_te (fun i σ H' => (∃ s3 s4, σ = [some (.int n), some (.ref p), some (.ref a), s3, s4]) ∧ Same H H' ∧ ∀ j, j < i → ¬ Twice ds j)
              ⟨⟨_, _, rfl⟩, s1, fun j h => absurd h (Nat.not_lt_zero _)⟩ (fun i σ H' _ h => SqT.of (h.2.1 _ _ ha)) ?_ ?_⟩
            · rintro i x σ2 H2 H3 hi ⟨⟨s3, s4, rfl⟩, s1, ql⟩ ⟨T, x1, x2, rfl, nT, rfl, e1, e2⟩
              obtain rfl : V.int (i : Nat) = x1 := Option.some.inj e1
              refine ⟨T, [.int (i : Nat), x2], rfl, .inl (.inl upd_same), rfl, _, [x2], rfl, x2, [], rfl, rfl, ?_⟩
              have s2 : Same H (upd H2 T (.tup [.int (i : Nat), x2])) := s1.trans (same_new nT)
              obtain ⟨d2, b2, hd2, hr2, _⟩ := hds.at2 e2
              obtain ⟨v, rfl⟩ := whole_int (qa i d2 hd2)
              simp only [Rep] at hr2
              obtain ⟨rfl, rfl⟩ := hr2
              obtain ⟨fl, iff⟩ := in_cut hds qa hd2
              refine ⟨_, rfl, _, rfl, _, rfl, (i : Int), rfl, a, ys, rfl, SqT.of (s2 _ _ ha), ?_, fun c nc => ?_⟩
              · rintro ⟨_, h2⟩
                rw [HT.sIx_nat] at h2
                omega
              have s3 := s2.trans (same_new (o := .tup (cutV ys none (some (i : Int)))) nc)
              refine ⟨c, _, rfl, .inr (SqT.of upd_same), rfl, fl, _, rfl, ?_⟩
              cases ei : inV (.int v) (cutV ys none (some (i : Int))) with
              | true =>
                refine iteT ⟨_, rfl, by show 2 ≤ sizeLine; decide, fun p2 np2 => ?_⟩
                obtain ⟨q1, q2, q3, q4⟩ := err_pair (K := K) (z := "twice") (i := i) (by decide +kernel) (Nat.le_trans (Nat.le_of_lt hi) hsz) np2
                exact k _ _ _ _ (.twice hf qa (iff.mp ei) ql) (s3.trans (same_new np2)) q1 q2 q3 q4
              | false =>
                refine iteF ⟨⟨_, _, rfl⟩, s3, fun j hj hb => ?_⟩
                rcases Nat.lt_succ_iff_lt_or_eq.mp hj with z | z
                · exact ql j z hb
                · subst z
                  rw [iff.mpr hb] at ei
                  cases ei
            · rintro σ2 H2 ⟨⟨s3, s4, rfl⟩, s2, ql⟩
              have no : ∀ j, ¬ Twice ds j := fun j hb => by
                obtain ⟨v, _, h1, _⟩ := id hb
                exact ql j (by rw [hl]; exact (List.getElem?_eq_some_iff.mp h1).1) hb
              refine ⟨_, rfl, p, _, 1, z, rfl, rfl, SqT.of (s2 _ _ hp), at_of (j := 1) rfl rfl, _, rfl, _, _, rfl, rfl, z, b1, d1, 0, n - 1, rfl, hb1.same s2, _, rfl, ?_⟩
              cases es : isWhole 0 (n - 1) b1 with
              | true => exact iteT (k .non .non [] H2 (.fine hf qa no es) s2 (by simp [Rep]) (by simp only [small]) (by simp only [wt]; decide) (by simp only [dep]; decide))
              | false =>
                obtain ⟨q1, q2, q3, q4⟩ := err_str (K := K) (H := H2) (z := "stop") (by decide +kernel)
                exact iteF (k _ _ _ H2 (.stop hf qa no es) s2 q1 q2 q3 q4)
end
end Sw
namespace Sw
open PySem L2
/-! ### "0" so often -/
def zeros (n : Nat) : Str := ⟨(List.replicate n ("0" : Str).cps).foldl (· ++ ·) #[]⟩
theorem zeros_repr : ∀ n, n < 20 → (reprText (zeros n)).length ≤ 30 := by decide +kernel
theorem zeros_len : ∀ n, n < 20 → (zeros n).length ≤ 100 := by decide +kernel
theorem op_zeros {X : Cx} : OpR X (binaryOp .Mult) (fun x y H Q => ∃ n : Nat, x = .str "0" ∧ y = .int (n : Int) ∧ 2 ≤ n ∧ n < 20 ∧ Q (.str (zeros n)) H) := by
  intro pins s σ H x y v u Q I rx ry h
  obtain ⟨n, rfl, rfl, h2, h20, q⟩ := h
  obtain ⟨t, rfl⟩ := rx
  obtain ⟨t', rfl⟩ := ry
  have l1 : ("0" : Str).length = 1 := by decide +kernel
  refine PySem.P.mul_str ?_ (fun _ _ => ?_) (fun _ _ => ?_) ?_
  · have e1 : decide ((n : Int) < -(2 ^ 63 : Int)) = false := decide_eq_false (by omega)
    have e2 : decide ((n : Int) ≥ 2 ^ 63) = false := decide_eq_false (by omega)
    rw [e1, e2]
    rfl
  · rw [l1]
    have : (1 : Int) ≤ (2 ^ 63 - 1) / (n : Int) := by
      rw [Int.le_ediv_iff_mul_le (by omega)]
      omega
    omega
  · rw [l1, Int.toNat_natCast]
    exact decide_eq_false (by rw [sizeLine_eq] at *; omega)
  · rw [if_neg (by omega), l1]
    have e : ((n : Int) == 1 || (1 : Nat) == 0) = false := by
      have : ((n : Int) == 1) = false := beq_eq_false_iff_ne.mpr (by omega)
      rw [this]
      rfl
    rw [e, if_neg Bool.false_ne_true, Int.toNat_natCast]
    exact ⟨Nat.le_trans (zeros_len n h20) (by decide), .str (zeros n), H, I.tok _, ⟨_, rfl⟩, q⟩
end Sw
namespace Sw
open PySem L2
/-! ### standings as they lie -/
theorem ints_rep {K : PySem.W.Frag} {H : Hp} : ∀ {os : List Int}, (∀ o ∈ os, 0 ≤ o ∧ o < 14) → RepAll K H (os.map D.int) (os.map V.int) [] ∧ smallAll (os.map D.int) ∧ wtAll (os.map D.int) ≤ os.length * 6 ∧ depAll (os.map D.int) = 0
  | [], _ => ⟨by simp [RepAll], by simp [smallAll], by simp [wtAll], by simp [depAll]⟩
  | o :: r, h => by
    obtain ⟨i1, i2, i3, _⟩ := int_ok (K := K) (H := H) (i := o) (w := 3) (k := 0) (by have := h o (by simp); omega) (by decide) (by decide)
    obtain ⟨l1, l2, l3, l4⟩ := ints_rep (K := K) (H := H) (os := r) fun x hx => h x (by simp [hx])
    refine ⟨?_, ?_, ?_, ?_⟩
    · simp only [List.map_cons, RepAll]
      exact ⟨_, _, [], [], rfl, i1, l1, rfl⟩
    · simp only [List.map_cons, smallAll]
      exact ⟨i2, l2⟩
    · simp only [List.map_cons, wtAll, List.length_cons]
      omega
    · simp only [List.map_cons, depAll, dep, l4]
      decide
structure StAt (n s0 : Int) (H : Hp) (st q : Addr) (os : List Int) : Prop where
  a : H st = some (.tup [.ref q, .int s0])
  b : H q = some (.tup (os.map V.int))
  len : (os.length : Int) = n + 1
  each : ∀ o ∈ os, 0 ≤ o ∧ o < 14
  s : 0 ≤ s0 ∧ s0 < 14
  n1 : 1 ≤ n
  n2 : n ≤ 12
theorem StAt.keep {n s0 : Int} {H H' : Hp} {st q : Addr} {os : List Int} (S : StAt n s0 H st q os) (t : TupS H H') : StAt n s0 H' st q os := ⟨t _ _ S.a, t _ _ S.b, S.len, S.each, S.s, S.n1, S.n2⟩
/-- its two things, as data; the same with a number behind -/
theorem StAt.repAB {K : PySem.W.Frag} {n s0 : Int} {H : Hp} {st q : Addr} {os : List Int} (S : StAt n s0 H st q os) : RepAll K H [.tup (os.map D.int), .int s0] [.ref q, .int s0] [q] ∧ smallAll [.tup (os.map D.int), .int s0] ∧ wtAll [.tup (os.map D.int), .int s0] ≤ 100 ∧ depAll [.tup (os.map D.int), .int s0] ≤ 1 := by
  obtain ⟨l1, l2, l3, l4⟩ := ints_rep (K := K) (H := H) S.each
  obtain ⟨i1, i2, i3, _⟩ := int_ok (K := K) (H := H) (i := s0) (w := 3) (k := 0) (by have := S.s; omega) (by decide) (by decide)
  have := S.len
  have := S.n2
  refine ⟨?_, ?_, ?_, ?_⟩
  · simp only [RepAll, Rep]
    exact ⟨_, _, [q], [], rfl, ⟨q, _, [], rfl, S.b, l1, by simp, rfl⟩, ⟨_, _, [], [], rfl, ⟨rfl, rfl⟩, ⟨rfl, rfl⟩, rfl⟩, rfl⟩
  · simp only [smallAll, small] at i2 ⊢
    exact ⟨l2, i2, trivial⟩
  · simp only [wtAll, wt] at i3 ⊢
    omega
  · simp only [depAll, dep, l4]
    decide
theorem StAt.repABZ {K : PySem.W.Frag} {n s0 : Int} {H : Hp} {st q : Addr} {os : List Int} (S : StAt n s0 H st q os) : RepAll K H [.tup (os.map D.int), .int s0, .int 0] ([.ref q, .int s0] ++ [.int 0]) [q] ∧ smallAll [.tup (os.map D.int), .int s0, .int 0] ∧ wtAll [.tup (os.map D.int), .int s0, .int 0] ≤ 120 ∧ depAll [.tup (os.map D.int), .int s0, .int 0] ≤ 1 := by
  obtain ⟨l1, l2, l3, l4⟩ := ints_rep (K := K) (H := H) S.each
  obtain ⟨i1, i2, i3, _⟩ := int_ok (K := K) (H := H) (i := s0) (w := 3) (k := 0) (by have := S.s; omega) (by decide) (by decide)
  obtain ⟨z1, z2, z3, _⟩ := int_ok (K := K) (H := H) (i := 0) (w := 3) (k := 0) (by decide) (by decide) (by decide)
  have := S.len
  have := S.n2
  refine ⟨?_, ?_, ?_, ?_⟩
  · simp only [RepAll, Rep]
    exact ⟨_, _, [q], [], rfl, ⟨q, _, [], rfl, S.b, l1, by simp, rfl⟩, ⟨_, _, [], [], rfl, ⟨rfl, rfl⟩, ⟨_, _, [], [], rfl, ⟨rfl, rfl⟩, ⟨rfl, rfl⟩, rfl⟩, rfl⟩, rfl⟩
  · simp only [smallAll, small] at i2 z2 ⊢
    exact ⟨l2, i2, z2, trivial⟩
  · simp only [wtAll, wt] at i3 z3 ⊢
    omega
  · simp only [depAll, dep, l4]
    decide
theorem StAt.ne {n s0 : Int} {H : Hp} {st q : Addr} {os : List Int} (S : StAt n s0 H st q os) : st ≠ q := fun z => by
  have e := S.b
  rw [← z, S.a] at e
  have e2 := Option.some.inj e
  injection e2 with e3
  have := S.len
  match os, e3 with
  | [], e3 => cases e3
  | _ :: _, e3 => cases e3
theorem StAt.dat {K : PySem.W.Frag} {U : Addr → Prop} {n s0 : Int} {H : Hp} {p d st q : Addr} {os : List Int} (S : StAt n s0 H st q os) (DU : Dk H p d U) : Dat K U 200 3 H (.ref st) := by
  obtain ⟨h1, h2, h3, h4⟩ := S.repAB (K := K)
  refine ⟨.tup [.tup (os.map D.int), .int s0], [st, q], ?_, fun c hc => ?_, by simp only [small]; exact h2, by simp only [wt]; omega, by simp only [dep]; omega⟩
  · rw [Rep]
    exact ⟨st, _, [q], rfl, S.a, h1, by simp [S.ne], rfl⟩
  · simp only [List.mem_cons, List.not_mem_nil, or_false] at hc
    rcases hc with rfl | rfl
    · exact DU.tup _ _ S.a
    · exact DU.tup _ _ S.b
/-- ahead of what is turned -/
def SOS (p st : Addr) (n : Int) : SH := fun σ H => ∃ (r : Addr) (os : List Int) (s0 srt spot oth : Int) (o8 : Option V), σ = [some (.ref p), some (.int n), some (.ref st), some (.ref r), some (.int s0), some (.int srt), some (.int spot), some (.int oth), o8, none] ∧
  H r = some (.lst (os.map V.int)) ∧ (os.length : Int) = n + 1 ∧ (∀ o ∈ os, 0 ≤ o ∧ o < 14) ∧ (1 ≤ n ∧ n ≤ 12) ∧ (0 ≤ spot ∧ spot < n + 1)
def U3 (U : Addr → Prop) : L2.St → Addr → Prop := fun σ a => U a ∧ σ[3]? ≠ some (some (.ref a))
theorem SOS.mono {p st : Addr} {n : Int} : SMono (SOS p st n) := by
  rintro _ H H' ⟨r, os, s0, srt, spot, oth, o8, rfl, h, r'⟩ s
  exact ⟨r, os, s0, srt, spot, oth, o8, rfl, s _ _ h, r'⟩
def U38 (U : Addr → Prop) : L2.St → Addr → Prop := fun σ a => U3 U σ a ∧ σ[8]? ≠ some (some (.ref a))
/-- a number from n -/
theorem SOS.n {p st : Addr} {n : Int} : SInt (SOS p st n) 1 := by
  rintro σ H ⟨r, os, s0, srt, spot, oth, o8, rfl, h, _, _, h2, _⟩
  exact ⟨n, rfl, by omega⟩
theorem SOS.at {K : PySem.W.Frag} {p st : Addr} {n : Int} {σ : L2.St} {H : Hp} {Q : VK} (h : SOS p st n σ H) (q : ∀ v : Int, 0 ≤ v → v < 14 → Q (.int v) H) : tOp (rIxL K) (tVar 3) (tVar 6) σ H Q := by
  obtain ⟨r, os, s0, srt, spot, oth, o8, rfl, h, hl, ho, _, h1, h2⟩ := h
  obtain ⟨i, rfl⟩ := Int.eq_ofNat_of_zero_le h1
  have hi : i < os.length := by omega
  have hm := ho os[i] (List.getElem_mem hi)
  exact ⟨_, rfl, _, rfl, r, _, _, .int os[i], rfl, rfl, SqL.of h, at_of (j := i) rfl (by rw [List.getElem?_map, List.getElem?_eq_getElem hi]; rfl), q _ hm.1 hm.2⟩
/-- while things are turned: the row r, the odd things at L -/
def SJS (K : PySem.W.Frag) (p d st q : Addr) (U : Addr → Prop) (n s0 : Int) (H0 : Hp) (b : Bool) : SH := fun σ H => ∃ (r L : Addr) (stop : V) (srt spot oth : Int) (rest : Option V) (xs ods : List V) (os : List Int),
  σ = [some (.ref p), some (.int n), some (.ref st), some (.ref r), some stop, some (.int srt), some (.int spot), some (.int oth), some (.ref L), rest] ∧ Dk H p d U ∧ Kp p d H0 H ∧ StAt n s0 H st q os ∧
  (H r = some (.lst xs) ∧ H0 r = none ∧ U r ∧ (xs.length : Int) = n + 1 ∧ r ≠ L ∧ ∀ x ∈ xs, Dat K (fun c => U c ∧ c ≠ r) 200 6 H x) ∧
  (H L = some (.lst ods) ∧ U L ∧ ods ≠ [] ∧ ods.length ≤ 20 ∧ ∀ x ∈ ods, Dat K (fun c => U c ∧ c ≠ r) 200 6 H x) ∧ ((0 ≤ spot ∧ spot < n + 1) ∧ (0 ≤ oth ∧ oth < n + 1)) ∧ ((b = false → stop = .int s0) ∧ Dat K (fun c => U c ∧ c ≠ r) 200 6 H stop)
/-- behind that -/
def SJE (K : PySem.W.Frag) (p d st q : Addr) (U : Addr → Prop) (n s0 : Int) (H0 : Hp) : SH := fun σ H => ∃ (r : Addr) (stop : V) (srt : Int) (o6 o7 o8 rest : Option V) (xs : List V) (os : List Int),
  σ = [some (.ref p), some (.int n), some (.ref st), some (.ref r), some stop, some (.int srt), o6, o7, o8, rest] ∧ Dk H p d U ∧ Kp p d H0 H ∧ StAt n s0 H st q os ∧
  (H r = some (.lst xs) ∧ U r ∧ xs.length ≤ 30 ∧ ∀ x ∈ xs, Dat K U 200 6 H x) ∧ Dat K U 200 6 H stop
section
variable {K : PySem.W.Frag} {p d st q : Addr} {U : Addr → Prop} {n s0 : Int} {H0 : Hp} {b : Bool}
theorem Dat.sub {U V' : Addr → Prop} {w k : Nat} {H : Hp} {x : V} (h : Dat K U w k H x) (o : ∀ a, U a → V' a) : Dat K V' w k H x := by
  obtain ⟨dd, as, h1, h2, h3⟩ := h
  exact ⟨dd, as, h1, fun a ha => o a (h2 a ha), h3⟩
theorem SJS.keep {σ : L2.St} {H H' : Hp} (j : SJS K p d st q U n s0 H0 b σ H) (kp : Kp p d H H') (D' : Deck H' p d 63) : SJS K p d st q U n s0 H0 b σ H' := by
  obtain ⟨r, L, stop, srt, spot, oth, rest, xs, ods, os, rfl, h1, h2, h3, ⟨r1, r2, r3, r4, r5, r6⟩, ⟨l1, l2, l3, l4, l5⟩, h4, h5, h6⟩ := j
  have off : ∀ a, (U a ∧ a ≠ r) → Off p d a := fun a ha => h1.off a ha.1
  exact ⟨r, L, stop, srt, spot, oth, rest, xs, ods, os, rfl, h1.kp kp D', h2.trans kp, h3.keep (.kp h1.dk kp), ⟨kp _ _ r1 (h1.off _ r3).1 (h1.off _ r3).2, r2, r3, r4, r5, fun x hx => (r6 x hx).keep off kp⟩,
    ⟨kp _ _ l1 (h1.off _ l2).1 (h1.off _ l2).2, l2, l3, l4, fun x hx => (l5 x hx).keep off kp⟩, h4, h5, h6.keep off kp⟩
theorem SJS.same {σ : L2.St} {H H' : Hp} (j : SJS K p d st q U n s0 H0 b σ H) (s : Same H H') : SJS K p d st q U n s0 H0 b σ H' := j.keep (.of s) (by
  obtain ⟨r, L, stop, srt, spot, oth, rest, xs, ods, os, rfl, h1, _⟩ := j
  exact h1.dk.same s)
theorem SJS.mono : SMono (SJS K p d st q U n s0 H0 b) := fun _ _ _ j s => j.same s
theorem SJE.keep {σ : L2.St} {H H' : Hp} (j : SJE K p d st q U n s0 H0 σ H) (kp : Kp p d H H') (D' : Deck H' p d 63) : SJE K p d st q U n s0 H0 σ H' := by
  obtain ⟨r, stop, srt, o6, o7, o8, rest, xs, os, rfl, h1, h2, h3, ⟨r1, r2, r3, r4⟩, h4⟩ := j
  exact ⟨r, stop, srt, o6, o7, o8, rest, xs, os, rfl, h1.kp kp D', h2.trans kp, h3.keep (.kp h1.dk kp), ⟨kp _ _ r1 (h1.off _ r2).1 (h1.off _ r2).2, r2, r3, fun x hx => (r4 x hx).keep h1.off kp⟩, h4.keep h1.off kp⟩
theorem SJE.same {σ : L2.St} {H H' : Hp} (j : SJE K p d st q U n s0 H0 σ H) (s : Same H H') : SJE K p d st q U n s0 H0 σ H' := j.keep (.of s) (by
  obtain ⟨r, stop, srt, o6, o7, o8, rest, xs, os, rfl, h1, _⟩ := j
  exact h1.dk.same s)
theorem SJE.mono : SMono (SJE K p d st q U n s0 H0) := fun _ _ _ j s => j.same s
/-- the row is written -/
theorem SJS.store {r L : Addr} {stop : V} {srt spot oth : Int} {rest : Option V} {ys : List V} {H : Hp} (j : SJS K p d st q U n s0 H0 b [some (.ref p), some (.int n), some (.ref st), some (.ref r), some stop, some (.int srt), some (.int spot), some (.int oth), some (.ref L), rest] H)
    (hl : (ys.length : Int) = n + 1) (hy : ∀ x ∈ ys, Dat K (fun c => U c ∧ c ≠ r) 200 6 H x) : SJS K p d st q U n s0 H0 b [some (.ref p), some (.int n), some (.ref st), some (.ref r), some stop, some (.int srt), some (.int spot), some (.int oth), some (.ref L), rest] (upd H r (.lst ys)) := by
  obtain ⟨r', L', stop', srt', spot', oth', rest', xs', ods, os, e, h1, h2, h3, ⟨r1, r2, r3, r4, r5, r6⟩, ⟨l1, l2, l3, l4, l5⟩, h4, h5, h6⟩ := j
  cases e
  have off := h1.off r r3
  have kd : ∀ {x : V}, Dat K (fun c => U c ∧ c ≠ r) 200 6 H x → Dat K (fun c => U c ∧ c ≠ r) 200 6 (upd H r (.lst ys)) x := fun {x} h => by
    obtain ⟨dd, as, a1, a2, a3⟩ := h
    exact ⟨dd, as, a1.keep fun c hc o e => by
      rw [upd_ne (a2 c hc).2]
      exact e, a2, a3⟩
  have fr : ∀ a, (upd H r (.lst ys)) a = none → a ≠ r ∧ H a = none := fun a ha => by
    by_cases e : a = r
    · rw [e, upd_same] at ha
      cases ha
    · rw [upd_ne e] at ha
      exact ⟨e, ha⟩
  refine ⟨r, L, stop, srt, spot, oth, rest, ys, ods, os, rfl, ⟨h1.dk.upd off.1 off.2, h1.off, fun a ha => h1.free a (fr a ha).2, fun a zs ha => ?_⟩, fun c o e q1 q2 => ?_, h3.keep (TupS.upd fun zs z => by rw [r1] at z; cases z),
    ⟨upd_same, r2, r3, hl, r5, fun x hx => kd (hy x hx)⟩, ⟨by rw [upd_ne r5.symm]; exact l1, l2, l3, l4, fun x hx => kd (l5 x hx)⟩, h4, h5, kd h6⟩
  · by_cases e : a = r
    · rw [e, upd_same] at ha
      cases ha
    · rw [upd_ne e] at ha
      exact h1.tup a zs ha
  · rw [upd_ne (ne_of_none e r2)]
    exact h2 _ _ e q1 q2
end
end Sw
namespace Sw
open PySem L2
abbrev sSpoiltS : Stmt := top 19
abbrev nSpoiltS : List Str := ["deck", "n", "standing", "row", "stop", "sort", "spot", "other", "odd", "rest"]
theorem scSpoiltS : FnScope nSpoiltS ["deck", "n", "standing"] (defScope sSpoiltS) := ⟨rfl, rfl, rfl, by decide +kernel, rfl, by decide +kernel, by decide +kernel⟩
section
variable {X : Cx} {p d st q : Addr} {U : Addr → Prop} {n s0 : Int} {H0 : Hp} {e : Expr} {k : Nat}
theorem SJE.sn {K : PySem.W.Frag} : SInt (SJE K p d st q U n s0 H0) 1 := by
  rintro σ H ⟨r, stop, srt, o6, o7, o8, rest, xs, os, rfl, h1, h2, h3, _⟩
  exact ⟨n, rfl, by have := h3.n1; have := h3.n2; omega⟩
theorem dat_stop (h : PE X e (tVar 4)) : PE X e (tDat X.K (SJE X.K p d st q U n s0 H0) (fun _ => U) 200 (k + 6)) :=
  pe_weak h fun σ H Q z => by
    obtain ⟨⟨⟨r, stop, srt, o6, o7, o8, rest, xs, os, rfl, h1, h2, h3, h4, h5⟩, _⟩, z⟩ := z
    obtain ⟨dd, as, l1, l2, l3, l4, l5⟩ := h5
    exact ⟨_, rfl, z _ dd as H l1 l2 (Same.refl H) l3 l4 (by omega)⟩
theorem dat_stand (h : PE X e (tVar 2)) : PE X e (tDat X.K (SJE X.K p d st q U n s0 H0) (fun _ => U) 200 (k + 3)) :=
  pe_weak h fun σ H Q z => by
    obtain ⟨⟨⟨r, stop, srt, o6, o7, o8, rest, xs, os, rfl, h1, h2, h3, h4, h5⟩, _⟩, z⟩ := z
    obtain ⟨dd, as, l1, l2, l3, l4, l5⟩ := h3.dat (K := X.K) h1
    exact ⟨_, rfl, z _ dd as H l1 l2 (Same.refl H) l3 l4 (by omega)⟩
theorem dat_listStand {t : TE} (h : PE X e t) (ht : ∀ σ H Q, (∃ v, σ[2]? = some (some v) ∧ ∃ p ys, v = .ref p ∧ (SqL X.K H p ys ∨ SqT X.K H p ys) ∧ ∀ l, H l = none → Q (.ref l) (upd H l (.lst ys))) → t σ H Q) : PE X e (tDat X.K (SJE X.K p d st q U n s0 H0) (fun _ => U) 200 (k + 3)) :=
  pe_weak h fun σ H Q z => ht σ H Q (by
    obtain ⟨⟨⟨r, stop, srt, o6, o7, o8, rest, xs, os, rfl, h1, h2, h3, h4, h5⟩, hu⟩, z⟩ := z
    obtain ⟨l1, l3, l4, l5⟩ := h3.repAB (K := X.K)
    refine ⟨_, rfl, st, _, rfl, .inr (SqT.of h3.a), fun l nl => z _ (.lst _) (l :: [q]) _ ?_ (fun c hc => ?_) (same_new nl) (by simp only [small]; exact l3) (by simp only [wt]; omega) (by simp only [dep]; omega)⟩
    · rw [Rep]
      exact ⟨l, _, [q], rfl, upd_same, l1.same (same_new nl), nmem l1 nl, rfl⟩
    · simp only [List.mem_cons, List.not_mem_nil, or_false] at hc
      rcases hc with rfl | rfl
      · exact hu _ nl
      · exact h1.tup _ _ h3.b)
theorem dat_standPlus (h : PE X e (tOp (rCatA X.K) (tVar 2) (tTup (tCons (tC (.int 0)) tNil)))) : PE X e (tDat X.K (SJE X.K p d st q U n s0 H0) (fun _ => U) 200 (k + 3)) :=
  pe_weak h fun σ H Q z => by
    obtain ⟨⟨⟨r, stop, srt, o6, o7, o8, rest, xs, os, rfl, h1, h2, h3, h4, h5⟩, hu⟩, z⟩ := z
    refine ⟨_, rfl, by show 1 ≤ sizeLine; decide, fun T nT => ?_⟩
    have s1 : Same H (upd H T (.tup [.int 0])) := same_new nT
    have S := h3.keep (.of s1)
    have D1 := h1.same s1
    obtain ⟨l1, l3, l4, l5⟩ := S.repABZ (K := X.K)
    refine ⟨st, T, [.ref q, .int s0], [.int 0], rfl, rfl, SqT.of S.a, SqT.of upd_same, by show 3 ≤ sizeLine; decide, fun z => (nomatch z), fun _ z => (nomatch z), fun _ _ l nl => ?_⟩
    refine z _ (.tup _) (l :: [q]) _ ?_ (fun c hc => ?_) (s1.trans (same_new nl)) (by simp only [small]; exact l3) (by simp only [wt]; omega) (by simp only [dep]; omega)
    · rw [Rep]
      exact ⟨l, _, [q], rfl, upd_same, l1.same (same_new nl), nmem l1 nl, rfl⟩
    · simp only [List.mem_cons, List.not_mem_nil, or_false] at hc
      rcases hc with rfl | rfl
      · exact hu _ (s1.free nl)
      · exact D1.tup _ _ S.b
theorem dat_listRowS {t : TE} (h : PE X e t) (ht : ∀ σ H Q, (∃ v, σ[3]? = some (some v) ∧ ∃ p ys, v = .ref p ∧ SqL X.K H p ys ∧ ∀ l, H l = none → Q (.ref l) (upd H l (.lst ys))) → t σ H Q) : PE X e (tDat X.K (SJE X.K p d st q U n s0 H0) (fun _ => U) 6070 (k + 7)) :=
  pe_weak h fun σ H Q z => ht σ H Q (by
    obtain ⟨⟨⟨r, stop, srt, o6, o7, o8, rest, xs, os, rfl, h1, h2, h3, ⟨r1, r2, r3, r4⟩, h5⟩, hu⟩, z⟩ := z
    obtain ⟨ds, as, l1, l2, l3, l4, l5⟩ := dats_rep r4
    refine ⟨_, rfl, r, xs, rfl, SqL.of r1, fun l nl => z _ (.lst ds) (l :: as) _ ?_ (fun c hc => ?_) (same_new nl) (by simp only [small]; exact l3) (by simp only [wt]; omega) (by simp only [dep]; omega)⟩
    · simp only [Rep]
      exact ⟨l, _, as, rfl, upd_same, l1.same (same_new nl), nmem l1 nl, rfl⟩
    · rcases List.mem_cons.mp hc with z | z
      · rw [z]; exact hu l nl
      · exact l2 c z)
theorem dat_tupRowS {t : TE} (h : PE X e t) (ht : ∀ σ H Q, (∃ v, σ[3]? = some (some v) ∧ ∃ p ys, v = .ref p ∧ SqL X.K H p ys ∧ ∀ l, H l = none → Q (.ref l) (upd H l (.tup ys))) → t σ H Q) : PE X e (tDat X.K (SJE X.K p d st q U n s0 H0) (fun _ => U) 6070 (k + 7)) :=
  pe_weak h fun σ H Q z => ht σ H Q (by
    obtain ⟨⟨⟨r, stop, srt, o6, o7, o8, rest, xs, os, rfl, h1, h2, h3, ⟨r1, r2, r3, r4⟩, h5⟩, hu⟩, z⟩ := z
    obtain ⟨ds, as, l1, l2, l3, l4, l5⟩ := dats_rep r4
    refine ⟨_, rfl, r, xs, rfl, SqL.of r1, fun l nl => z _ (.tup ds) (l :: as) _ ?_ (fun c hc => ?_) (same_new nl) (by simp only [small]; exact l3) (by simp only [wt]; omega) (by simp only [dep]; omega)⟩
    · simp only [Rep]
      exact ⟨l, _, as, rfl, upd_same, l1.same (same_new nl), nmem l1 nl, rfl⟩
    · rcases List.mem_cons.mp hc with z | z
      · rw [z]; exact hu l nl
      · exact l2 c z)
end
section
variable {P : Program} {w : World} {K : PySem.W.Frag} {mg : Str → Option Value} {base : Heap}
def spSpoiltS (K : PySem.W.Frag) : Sp := fun vs H Q _ => ∃ (p d st q : Addr) (n s0 : Int) (os : List Int) (U : Addr → Prop), vs = [.ref p, .int n, .ref st] ∧ Dk H p d U ∧ StAt n s0 H st q os ∧ ∀ (x : V) (H' : Hp), Deck H' p d 63 → Kp p d H H' → Dat K U 40000 20 H' x → Q x H'
theorem ok_spoiltS {f : Addr} {fd : FuncData} (F : Fun K "_law_spoilt" "_law_spoilt" sSpoiltS f fd) (B : NoNames mg) (EU : XU K mg "Unfit") (ES : XE P K mg "BadStanding" "the value is no standing" "error") (O : Own P w K mg base 1 "_law_draw" ["deck", "many"] spDraw)
    (OP : Own P w K mg base 2 "_law_pick" ["deck", "items"] spPick) : FnOk P w K mg base CX0 3 f fd ["deck", "n", "standing"] (spSpoiltS K) := by
  obtain ⟨fD, fdD, GD, mD, kD, bD⟩ := O.ex
  obtain ⟨fP, fdP, GP, mP, kP, bP⟩ := OP.ex
  refine F.ok scSpoiltS (fun vs H Q E h => ?_) (fun cdv A outer s H vs Q E hr h => ?_)
  · obtain ⟨p, d, st, q, n, s0, os, U, rfl, _⟩ := h
    rfl
  · obtain ⟨p, d, st, q, n, s0, os, U, rfl, DU, S0, k⟩ := h
    have D := DU.dk
    have hr1 : Room 1 _ := hr.mono (by decide)
    have M0 := SOS.mono (p := p) (st := st) (n := n)
    have M1 := SJS.mono (K := K) (p := p) (d := d) (st := st) (q := q) (U := U) (n := n) (s0 := s0) (H0 := H) (b := false)
    have M2 := SJE.mono (K := K) (p := p) (d := d) (st := st) (q := q) (U := U) (n := n) (s0 := s0) (H0 := H)
    have N2 := SJE.sn (K := K) (p := p) (d := d) (st := st) (q := q) (U := U) (n := n) (s0 := s0) (H0 := H)
    have p30 : ∀ (σ : L2.St) (H : Hp) (Q : VK), Q (.int (10 ^ 30)) H → tOp (rI CPow fun i j => .int (i ^ j.toNat)) (tC (.int 10)) (tC (.int 30)) σ H Q := fun σ H Q q =>
      ⟨10, 30, rfl, rfl, ⟨by decide, by decide, by decide⟩, q⟩
    have num : ∀ {H1 : Hp} {Q : VK} {i : Int} {k : Nat}, i.natAbs < 100 → (∀ v dd, Rep K H1 dd v [] → small dd → wt dd ≤ 4 → dep dd ≤ k → Q v H1) → Q (.int i) H1 := fun {H1 Q i k} hi z => by
      obtain ⟨i1, i2, i3, i4⟩ := int_ok (K := K) (H := H1) (i := i) (w := 3) (k := k) (Nat.lt_of_lt_of_le hi (by decide)) (by decide) (by decide)
      exact z _ _ i1 i2 i3 i4
    have txt : ∀ {H1 : Hp} {Q : VK} {i : Int} {k : Nat}, 0 ≤ i → i < 14 → (∀ v dd, Rep K H1 dd v [] → small dd → wt dd ≤ 10 → dep dd ≤ k → Q v H1) → i.natAbs.log2 < 1920 ∧ Q (.str (toString i)) H1 := fun {H1 Q i k} h0 h1 z => by
      obtain ⟨m, rfl⟩ := Int.eq_ofNat_of_zero_le h0
      obtain ⟨_, i2, _⟩ := int_ok (K := K) (H := H1) (i := (m : Int)) (w := 3) (k := 5) (by omega) (by decide) (by decide)
      have e := (by decide +kernel : ∀ m : Nat, m < 14 → (reprText (Str.ofString (toString ((m : Nat) : Int)))).length ≤ 10) m (by omega)
      refine ⟨i2, z _ (.str (toString (m : Int))) (by simp [Rep]) (by simp only [small]) ?_ (by simp only [dep]; omega)⟩
      simp only [wt]
      exact e
    refine ⟨_, pss_cons (ps_par3 (i := 3) (j := 4) (l := 5) rfl scSpoiltS.nd rfl rfl rfl (by decide) (by decide) (by decide) rfl rfl rfl (pa_cons (pe_callTy call_list_of (by rfl) B.list (by decide +kernel) (pa_cons (pe_ix ix_tup (pv 2) pe_int (fun _ _ => rfl)) pa_nil))
          (pa_cons (pe_ix ix_tup (pv 2) pe_int (fun _ _ => rfl)) (pa_cons (pe_call GD hr1 rfl mD kD bD .nil pass0 (pa_cons (pv 0) (pa_cons pe_int pa_nil))) pa_nil))) (by rfl)) <|
      pss_cons (ps_par (i := 6) (j := 7) rfl scSpoiltS.nd rfl rfl (by decide) rfl rfl (pa_cons (pe_call GD hr1 rfl mD kD bD .nil pass0 (pa_cons (pv 0) (pa_cons (pe_op op_add (pv 1) pe_int) pa_nil))) (pa_cons (pe_call GD hr1 rfl mD kD bD .nil pass0 (pa_cons (pv 0) (pa_cons (pe_op op_add (pv 1) pe_int) pa_nil))) pa_nil)) (by rfl)) <|
      pss_cons (ps_set (i := 8) scSpoiltS.nd rfl (.inl rfl) (datL_lst (S := SOS p st n) (U := U3 U) (k := 5)
        (dats_cons M0 (dat_of (w := 4) (pe_op op_add (pv 1) pe_int) ?o1)
        (dats_cons M0 (dat_int (i := -1) (w := 3) (pe_un un_neg pe_int) (fun σ H Q q => ⟨1, rfl, q⟩))
        (dats_cons M0 (dat_bl (pe_cmpR op_eq (pe_ix ix_list (pv 3) (pv 6) (fun _ _ => rfl)) pe_int (nomark _)) ?o2)
        (dats_cons M0 (dat_non pe_non)
        (dats_cons M0 (dat_of (w := 10) (pe_callTy call_str_int (by rfl) B.str (by decide +kernel) (pa_cons (pe_ix ix_list (pv 3) (pv 6) (fun _ _ => rfl)) pa_nil)) ?o3)
        (dats_cons M0 (dat_tup (dats_cons M0 (dat_of (w := 4) (pe_ix ix_list (pv 3) (pv 6) (fun _ _ => rfl)) ?o4) dats_nil) M0)
        (dats_cons M0 (dat_lst dats_nil M0)
        (dats_cons M0 dat_dct
        (dats_cons M0 (dat_int (i := 10 ^ 30) (w := 39) (pe_op op_pow pe_int pe_int) p30)
        (dats_cons M0 (dat_int (i := -(10 ^ 30)) (w := 39) (pe_un un_neg (pe_op op_pow pe_int pe_int)) (fun σ H Q q => p30 σ H _ ⟨_, rfl, q⟩))
        (dats_cons M0 (dat_true pe_bl)
        (dats_cons M0 (dat_true pe_bl)
        dats_nil)))))))))))) M0)) <|
      pss_cons (ps_expr (pe_bm PySem.F.plainAttrs_list PySem.F.slot_list_append PySem.F.type_list_append mt_append (pv 8) (pa_cons (dat_xu (S := SOS p st n) (U := U38 U) (k := 3) EU (by decide) (by rfl)) pa_nil))) <|
      pss_cons (ps_cut (J := SJS K p d st q U n s0 H false) (J' := SJS K p d st q U n s0 H false) (ps_if (pt_cmpR op_lt (pv 5) pe_int (nomark _))
        (pss_one (ps_asg (pe_call GP hr rfl mP kP bP .nil pass0 (pa_cons (pv 0) (pa_cons (pv 8) pa_nil))) (pg_sub (pv 3) (pv 6) set_list))) pss_nil) ?s1) <|
      pss_cons (ps_cut (J := SJS K p d st q U n s0 H false) (J' := SJS K p d st q U n s0 H false) (ps_if (pt_cmpR op_in_seq (pv 5) (pe_tup (pa_cons pe_int (pa_cons pe_int (pa_cons pe_int pa_nil)))) (by with_unfolding_all rfl))
        (pss_one (ps_asg (pe_ix ix_list (pv 3) (pe_call GD hr1 rfl mD kD bD .nil pass0 (pa_cons (pv 0) (pa_cons (pe_op op_add (pv 1) pe_int) pa_nil))) (fun _ _ => rfl)) (pg_sub (pv 3) (pv 7) set_list))) pss_nil) ?s2) <|
      pss_cons (ps_cut (J := SJS K p d st q U n s0 H false) (J' := SJS K p d st q U n s0 H true) (ps_if (pt_cmpR op_in_seq (pv 5) (pe_tup (pa_cons pe_int (pa_cons pe_int pa_nil))) (by with_unfolding_all rfl))
        (pss_one (ps_set (i := 4) scSpoiltS.nd rfl (.inl rfl) (pe_call GP hr rfl mP kP bP .nil pass0 (pa_cons (pv 0) (pa_cons (datL_lst (S := SJS K p d st q U n s0 H false) (U := U3 U) (k := 5)
          (dats_cons M1 (dat_of (w := 4) (pv 1) ?t0)
          (dats_cons M1 (dat_int (i := -1) (w := 3) (pe_un un_neg pe_int) (fun σ H Q q => ⟨1, rfl, q⟩))
          (dats_cons M1 (dat_bl (pe_cmpR op_eq (pv 4) pe_int (nomark _)) ?t1)
          (dats_cons M1 (dat_non pe_non)
          (dats_cons M1 (dat_of (w := 10) (pe_callTy call_str_int (by rfl) B.str (by decide +kernel) (pa_cons (pv 4) pa_nil)) ?t2)
          (dats_cons M1 (dat_tup (dats_cons M1 (dat_of (w := 4) (pv 4) ?t3) dats_nil) M1)
          (dats_cons M1 (dat_lst dats_nil M1)
          (dats_cons M1 (dat_of (w := 4) (pe_op op_sub (pv 1) pe_int) ?t4)
          (dats_cons M1 (dat_true pe_bl)
          (dats_cons M1 (dat_true pe_bl)
          (dats_cons M1 (dat_int (i := 10 ^ 30) (w := 39) (pe_op op_pow pe_int pe_int) p30)
          dats_nil))))))))))) M1) pa_nil))))) pss_nil) ?s3) <|
      pss_cons (ps_cut (J := SJS K p d st q U n s0 H true) (J' := SJE K p d st q U n s0 H) (ps_if (pt_cmpR op_eq (pv 5) pe_int (nomark _))
        (pss_one (ps_set (i := 3) scSpoiltS.nd rfl (.inl rfl) (pe_call GP hr rfl mP kP bP .nil pass0 (pa_cons (pv 0) (pa_cons (pe_lst (pa_cons (pe_slice sl_list (pv 3) po_none (po_some (pe_un un_neg pe_int)))
          (pa_cons (pe_op op_cat (pv 3) (pe_lst (pa_cons (pe_op op_add (pv 1) pe_int) pa_nil)))
          (pa_cons (pe_op op_cat (pv 3) (pe_slice sl_list (pv 3) po_none (po_some pe_int)))
          (pa_cons (pe_revL (pv 3)) (pa_cons (pe_lst pa_nil) pa_nil)))))) pa_nil))))) pss_nil) ?s4) <|
      pss_cons (ps_if (pt_cmpR op_eq (pv 5) pe_int (nomark _))
        (pss_cons (ps_set (i := 9) scSpoiltS.nd rfl (.inl rfl) (datL_lst (S := SJE K p d st q U n s0 H) (U := fun _ => U) (k := 12)
          (dats_cons M2 (dat_tup (dats_cons M2 (dat_listRowS (pe_callTy call_list_of (by rfl) B.list (by decide +kernel) (pa_cons (pv 3) pa_nil)) ?l1) (dats_cons M2 (dat_stop (pv 4)) dats_nil)) M2)
          (dats_cons M2 (dat_listStand (pe_callTy call_list_of (by rfl) B.list (by decide +kernel) (pa_cons (pv 2) pa_nil)) ?l2)
          (dats_cons M2 (dat_tup (dats_cons M2 (dat_tupRowS (pe_callTy call_tuple_of (by rfl) B.tuple (by decide +kernel) (pa_cons (pv 3) pa_nil)) ?l3) dats_nil) M2)
          (dats_cons M2 (dat_standPlus (pe_op op_catA (pv 2) (pe_tup (pa_cons pe_int pa_nil))))
          (dats_cons M2 (dat_tupRowS (pe_callTy call_tuple_of (by rfl) B.tuple (by decide +kernel) (pa_cons (pv 3) pa_nil)) ?l4)
          (dats_cons M2 (dat_non pe_non)
          (dats_cons M2 (dat_int (i := 0) (w := 3) pe_int (fun _ _ _ q => q))
          (dats_cons M2 dat_dct
          (dats_cons M2 (dat_str (w := 10) pe_str)
          dats_nil))))))))) M2)) <|
        pss_cons (ps_set (i := 9) scSpoiltS.nd rfl (.inl rfl) (pe_op op_cat (pv 9) (datL_lst (S := SJE K p d st q U n s0 H) (U := fun _ => U) (k := 12)
          (dats_cons M2 (dat_xe ES (by decide +kernel) (by decide) B hr (by decide) M2 (by rfl) (dat_str (w := 10) (k := 9) pe_str))
          (dats_cons M2 (dat_xe ES (by decide +kernel) (by decide) B hr (by decide) M2 (by rfl) (dat_stand (k := 6) (pv 2)))
          (dats_cons M2 (dat_tup (dats_cons M2 (dat_tupRowS (pe_callTy call_tuple_of (by rfl) B.tuple (by decide +kernel) (pa_cons (pv 3) pa_nil)) ?l5) (dats_cons M2 (dat_xu EU (by decide) (by rfl)) dats_nil)) M2)
          (dats_cons M2 (dat_tup (dats_cons M2 (dat_xe ES (by decide +kernel) (by decide) B hr (by decide) M2 (by rfl) (dat_stop (k := 2) (pv 4))) (dats_cons M2 (dat_stop (pv 4)) dats_nil)) M2)
          dats_nil)))) M2))) <|
        pss_one (ps_ret (pe_call GP hr rfl mP kP bP .nil pass0 (pa_cons (pv 0) (pa_cons (pe_op op_cat (pv 9) (datL_lst (S := SJE K p d st q U n s0 H) (U := fun _ => U) (k := 12)
          (dats_cons M2 (dat_tup (dats_cons M2 (dat_stop (pv 4)) (dats_cons M2 (dat_tupRowS (pe_callTy call_tuple_of (by rfl) B.tuple (by decide +kernel) (pa_cons (pv 3) pa_nil)) ?l6) dats_nil)) M2)
          (dats_cons M2 (dat_tup (dats_cons M2 (dat_tup dats_nil M2) (dats_cons M2 (dat_stop (pv 4)) dats_nil)) M2)
          (dats_cons M2 (dat_tup (dats_cons M2 (dat_non pe_non) (dats_cons M2 (dat_stop (pv 4)) dats_nil)) M2)
          (dats_cons M2 (dat_tup (dats_cons M2 (dat_of (w := 30) (pe_op op_zeros pe_str (pe_op op_add (pv 1) pe_int)) ?z1) (dats_cons M2 (dat_stop (pv 4)) dats_nil)) M2)
          (dats_cons M2 (dat_tup dats_nil M2)
          dats_nil))))) M2)) pa_nil))))) pss_nil) <|
      pss_one (ps_ret (pe_tup (pa_cons (pe_callTy call_tuple_of (by rfl) B.tuple (by decide +kernel) (pa_cons (pv 3) pa_nil)) (pa_cons (pv 4) pa_nil)))), ?main⟩
    case o1 =>
      rintro σ H1 Q ⟨r, os, s1, srt, spot, oth, o8, rfl, _, _, _, hn, _⟩ z
      exact ⟨_, rfl, _, _, rfl, rfl, num (by omega) z⟩
    case o2 =>
      intro σ H1 Q hs z
      exact SOS.at (K := K) hs fun v _ _ => ⟨rfl, z _⟩
    case o3 =>
      intro σ H1 Q hs z
      exact SOS.at (K := K) hs fun v v0 v1 => ⟨v, rfl, (txt (Q := Q) v0 v1 z).1, (txt (Q := Q) v0 v1 z).2⟩
    case o4 =>
      intro σ H1 Q hs z
      exact SOS.at (K := K) hs fun v v0 v1 => num (by omega) z
    case t0 =>
      rintro σ H1 Q ⟨r, L, stop, srt, spot, oth, rest, xs, ods, os', rfl, h1, h2, h3, _⟩ z
      exact ⟨_, rfl, num (by have := h3.n1; have := h3.n2; omega) z⟩
    case t1 =>
      rintro σ H1 Q ⟨r, L, stop, srt, spot, oth, rest, xs, ods, os', rfl, h1, h2, h3, _, _, _, h5, _⟩ z
      rw [h5 rfl]
      exact ⟨_, rfl, rfl, z _⟩
    case t2 =>
      rintro σ H1 Q ⟨r, L, stop, srt, spot, oth, rest, xs, ods, os', rfl, h1, h2, h3, _, _, _, h5, _⟩ z
      rw [h5 rfl]
      exact ⟨_, rfl, s0, rfl, (txt (Q := Q) h3.s.1 h3.s.2 z).1, (txt (Q := Q) h3.s.1 h3.s.2 z).2⟩
    case t3 =>
      rintro σ H1 Q ⟨r, L, stop, srt, spot, oth, rest, xs, ods, os', rfl, h1, h2, h3, _, _, _, h5, _⟩ z
      rw [h5 rfl]
      exact ⟨_, rfl, num (by have := h3.s; omega) z⟩
    case t4 =>
      rintro σ H1 Q ⟨r, L, stop, srt, spot, oth, rest, xs, ods, os', rfl, h1, h2, h3, _⟩ z
      exact ⟨_, rfl, _, _, rfl, rfl, num (by have := h3.n1; have := h3.n2; omega) z⟩
    case z1 =>
      rintro σ H1 Q ⟨r, stop, srt, o6, o7, o8, rest, xs, os', rfl, h1, h2, h3, _⟩ z
      have n1 := h3.n1
      have n2 := h3.n2
      refine ⟨_, rfl, _, _, rfl, rfl, (n + 1).toNat, rfl, ?_, by omega, by omega, z _ (.str (zeros (n + 1).toNat)) (by simp [Rep]) (by simp only [small]) ?_ (by simp only [dep]; omega)⟩
      · rw [Int.toNat_of_nonneg (by omega)]
      · simp only [wt]
        exact zeros_repr _ (by omega)
    case l1 =>
      rintro σ H1 Q ⟨v, e, p', ys, rfl, hq, kq⟩
      exact ⟨_, e, p', ys, rfl, .inl hq, kq⟩
    case l2 =>
      rintro σ H1 Q ⟨v, e, p', ys, rfl, hq, kq⟩
      exact ⟨_, e, p', ys, rfl, hq, kq⟩
    case l3 =>
      rintro σ H1 Q ⟨v, e, p', ys, rfl, hq, kq⟩
      exact ⟨_, e, p', ys, rfl, .inl ⟨hq, kq⟩⟩
    case l4 =>
      rintro σ H1 Q ⟨v, e, p', ys, rfl, hq, kq⟩
      exact ⟨_, e, p', ys, rfl, .inl ⟨hq, kq⟩⟩
    case l5 =>
      rintro σ H1 Q ⟨v, e, p', ys, rfl, hq, kq⟩
      exact ⟨_, e, p', ys, rfl, .inl ⟨hq, kq⟩⟩
    case l6 =>
      rintro σ H1 Q ⟨v, e, p', ys, rfl, hq, kq⟩
      exact ⟨_, e, p', ys, rfl, .inl ⟨hq, kq⟩⟩
    case s1 =>
      rintro DD σ1 H1 j1 kk
      obtain ⟨r, L, stop, srt, spot, oth, rest, xs, ods, os', rfl, h1, h2, h3, ⟨r1, r2, r3, r4, r5, r6⟩, ⟨l1, l2, l3, l4, l5⟩, ⟨⟨b1, b2⟩, b3, b4⟩, h5, h6⟩ := id j1
      have off : ∀ a, (U a ∧ a ≠ r) → Off p d a := fun a ha => h1.off a ha.1
      have ro := h1.off r r3
      refine ⟨_, rfl, _, _, rfl, rfl, _, rfl, ?_⟩
      refine ite2 (fun _ => ?_) (fun _ => kk _ _ j1)
      refine ⟨_, rfl, _, rfl, p, d, L, ods, rfl, h1.dk, l1, (h1.off _ l2).2, l3, by omega, fun x H' hx D' kp => ?_⟩
      have j2 := j1.keep kp D'
      have dx := (l5 x hx).keep off kp
      obtain ⟨i, rfl⟩ := Int.eq_ofNat_of_zero_le b1
      refine ⟨_, rfl, _, rfl, r, xs, (i : Int), i, rfl, rfl, kp _ _ r1 ro.1 ro.2, ?_, ?_⟩
      · unfold ixN
        rw [if_pos (by omega), if_pos (by omega), Int.toNat_natCast]
      · refine kk _ _ (j2.store (by rw [List.length_set]; exact r4) fun y hy => ?_)
        rcases List.mem_or_eq_of_mem_set hy with hy | rfl
        · exact (r6 y hy).keep off kp
        · exact dx
    case s2 =>
      rintro DD σ1 H1 j1 kk
      obtain ⟨r, L, stop, srt, spot, oth, rest, xs, ods, os', rfl, h1, h2, h3, ⟨r1, r2, r3, r4, r5, r6⟩, ⟨l1, l2, l3, l4, l5⟩, ⟨⟨b1, b2⟩, b3, b4⟩, h5, h6⟩ := id j1
      have off : ∀ a, (U a ∧ a ≠ r) → Off p d a := fun a ha => h1.off a ha.1
      have ro := h1.off r r3
      refine ⟨_, rfl, by show 3 ≤ sizeLine; decide, fun T nT => ⟨T, _, rfl, .inr (SqT.of upd_same), rfl, rfl, _, rfl, ?_⟩⟩
      have sT : Same H1 (upd H1 T (.tup [.int 1, .int 2, .int 3])) := same_new nT
      refine ite2 (fun _ => ?_) (fun _ => kk _ _ (j1.same sT))
      have jT := j1.same sT
      refine ⟨_, rfl, _, rfl, _, rfl, _, _, rfl, rfl, p, d, n + 1, rfl, h1.dk.same sT, by have := h3.n2; omega, fun m H' m0 m1 m2 D' kp => ?_⟩
      have j2 := jT.keep kp D'
      have kp2 := (Kp.of (p := p) (d := d) sT).trans kp
      have rH := kp2 _ _ r1 ro.1 ro.2
      have m1 := m1 (by have := h3.n1; omega)
      obtain ⟨i, rfl⟩ := Int.eq_ofNat_of_zero_le m0
      have hi : i < xs.length := by omega
      refine ⟨r, xs, _, xs[i], rfl, rfl, SqL.of rH, at_of (j := i) rfl (List.getElem?_eq_getElem hi), ?_⟩
      obtain ⟨o, rfl⟩ := Int.eq_ofNat_of_zero_le b3
      refine ⟨_, rfl, _, rfl, r, xs, (o : Int), o, rfl, rfl, rH, ?_, ?_⟩
      · unfold ixN
        rw [if_pos (by omega), if_pos (by omega), Int.toNat_natCast]
      · refine kk _ _ (j2.store (by rw [List.length_set]; exact r4) fun y hy => ?_)
        rcases List.mem_or_eq_of_mem_set hy with hy | rfl
        · exact (r6 y hy).keep off kp2
        · exact (r6 _ (List.getElem_mem hi)).keep off kp2
    case s3 =>
      rintro DD σ1 H1 j1 kk
      obtain ⟨r, L, stop, srt, spot, oth, rest, xs, ods, os', rfl, h1, h2, h3, ⟨r1, r2, r3, r4, r5, r6⟩, ⟨l1, l2, l3, l4, l5⟩, ⟨⟨b1, b2⟩, b3, b4⟩, h5, h6⟩ := id j1
      have off : ∀ a, (U a ∧ a ≠ r) → Off p d a := fun a ha => h1.off a ha.1
      have ro := h1.off r r3
      refine ⟨_, rfl, by show 2 ≤ sizeLine; decide, fun T nT => ⟨T, _, rfl, .inr (SqT.of upd_same), rfl, rfl, _, rfl, ?_⟩⟩
      have sT : Same H1 (upd H1 T (.tup [.int 3, .int 4])) := same_new nT
      have jT := j1.same sT
      have up : ∀ {v : V} {H' : Hp}, Kp p d H1 H' → Deck H' p d 63 → Dat K (fun c => U c ∧ c ≠ r) 200 6 H' v → SJS K p d st q U n s0 H true [some (.ref p), some (.int n), some (.ref st), some (.ref r), some v, some (.int srt), some (.int spot), some (.int oth), some (.ref L), rest] H' := fun {v H'} kp D' dv => by
        obtain ⟨r', L', stop', srt', spot', oth', rest', xs', ods', os2, e, g1, g2, g3, g4, g5, g6, g7⟩ := j1.keep kp D'
        cases e
        exact ⟨r, L, v, srt, spot, oth, rest, xs', ods', os2, rfl, g1, g2, g3, g4, g5, g6, fun z => (nomatch z), dv⟩
      refine ite2 (fun _ => ?_) (fun _ => kk _ _ (up (.of sT) (h1.dk.same sT) (h6.keep off (.of sT))))
      have DT := h1.same sT
      have rT := sT _ _ r1
      refine ⟨_, rfl, ⟨jT, fun a ha => ⟨DT.free a ha, fun z => ?_⟩⟩, fun l ys ds as H2 nl hl nas hm ra ua s2 sm wm dm => ?_⟩
      · have z : some (some (V.ref r)) = some (some (V.ref a)) := z
        cases z
        rw [rT] at ha
        cases ha
      have D2 := DT.same s2
      refine ⟨p, d, l, ys, rfl, D2.dk, hl, (DT.dk.ne_none nl).2, fun z => ?_, by rw [hm]; decide, fun x H' hx D' kp => ?_⟩
      · rw [z] at hm
        cases hm
      have wm := Nat.le_trans wm (show _ ≤ 200 by decide)
      have dx := Dat.all (U := fun c => U c ∧ c ≠ r) ra (fun a ha => ⟨(ua a ha).1, fun z => (ua a ha).2 (by rw [z]; rfl)⟩) sm wm dm x hx
      exact kk _ _ (up (((Kp.of sT).trans (.of s2)).trans kp) D' ((dx.keep off kp).le (by decide) (by decide)))
    case s4 =>
      rintro DD σ1 H1 j1 kk
      obtain ⟨r, L, stop, srt, spot, oth, rest, xs, ods, os', rfl, h1, h2, h3, ⟨r1, r2, r3, r4, r5, r6⟩, ⟨l1, l2, l3, l4, l5⟩, ⟨⟨b1, b2⟩, b3, b4⟩, h5, h6⟩ := id j1
      have off : ∀ a, (U a ∧ a ≠ r) → Off p d a := fun a ha => h1.off a ha.1
      have ro := h1.off r r3
      have nn1 := h3.n1
      have nn2 := h3.n2
      have toE : ∀ {v : Addr} {ys : List V} {H' : Hp}, Kp p d H1 H' → Deck H' p d 63 → H' v = some (.lst ys) → U v → ys.length ≤ 30 → (∀ y ∈ ys, Dat K U 200 6 H' y) → SJE K p d st q U n s0 H [some (.ref p), some (.int n), some (.ref st), some (.ref v), some stop, some (.int srt), some (.int spot), some (.int oth), some (.ref L), rest] H' := fun {v ys H'} kp D' hv uv lv dv =>
        ⟨v, stop, srt, _, _, _, rest, ys, os', rfl, h1.kp kp D', h2.trans kp, h3.keep (.kp h1.dk kp), ⟨hv, uv, lv, dv⟩, (h6.keep off kp).sub fun a ha => ha.1⟩
      have dxs : ∀ {H' : Hp}, Kp p d H1 H' → ∀ x ∈ xs, Dat K U 200 6 H' x := fun {H'} kp x hx => ((r6 x hx).keep off kp).sub fun a ha => ha.1
      refine ⟨_, rfl, rfl, _, rfl, ?_⟩
      refine ite2 (fun _ => ?_) (fun _ => kk _ _ (toE .refl h1.dk r1 r3 (by omega) (dxs .refl)))
      refine ⟨_, rfl, _, rfl, 1, rfl, _, rfl, r, xs, rfl, SqL.of r1, fun c1 n1 => ?_⟩
      have s1 : Same H1 (upd H1 c1 (.lst (cutV xs none (some (-1))))) := same_new n1
      refine ⟨_, rfl, _, rfl, _, _, rfl, rfl, by show 1 ≤ sizeLine; decide, fun c2 n2 => ?_⟩
      have s2 := s1.trans (same_new (o := .lst [.int (n + 1)]) n2)
      refine ⟨r, c2, _, _, rfl, rfl, s2 _ _ r1, upd_same, by rw [sizeLine_eq]; show xs.length + 1 ≤ _; omega, fun c3 n3 => ?_⟩
      have s3 := s2.trans (same_new (o := .lst (xs ++ [.int (n + 1)])) n3)
      refine ⟨_, rfl, _, rfl, 1, rfl, r, xs, rfl, SqL.of (s3 _ _ r1), fun c4 n4 => ?_⟩
      have s4 := s3.trans (same_new (o := .lst (cutV xs none (some 1))) n4)
      have L1 := cutV_length xs none (some 1)
      have L2 := cutV_length xs none (some (-1))
      refine ⟨r, c4, _, _, rfl, rfl, s4 _ _ r1, upd_same, by rw [sizeLine_eq]; omega, fun c5 n5 => ?_⟩
      have s5 := s4.trans (same_new (o := .lst (xs ++ cutV xs none (some 1))) n5)
      refine ⟨_, rfl, r, xs, rfl, SqL.of (s5 _ _ r1), fun c6 n6 => ?_⟩
      have s6 := s5.trans (same_new (o := .lst xs.reverse) n6)
      refine ⟨by show 0 ≤ sizeLine; exact Nat.zero_le _, fun c7 n7 => ?_⟩
      have s7 := s6.trans (same_new (o := .lst []) n7)
      refine ⟨by show 5 ≤ sizeLine; decide, fun c8 n8 => ?_⟩
      have s8 := s7.trans (same_new (o := .lst [.ref c1, .ref c3, .ref c5, .ref c6, .ref c7]) n8)
      refine ⟨p, d, c8, _, rfl, h1.dk.same s8, upd_same, ((h1.dk.same s7).ne_none n8).2, fun z => (nomatch z), by show 5 < 1000000; decide, fun x H' hx D' kp => ?_⟩
      have kall := (Kp.of (p := p) (d := d) s8).trans kp
      simp only [List.mem_cons, List.not_mem_nil, or_false] at hx
      rcases hx with rfl | rfl | rfl | rfl | rfl
      · have o := h1.dk.ne_none n1
        refine kk _ _ (toE kall D' (kp _ _ ((same_new n8) _ _ ((same_new n7) _ _ ((same_new n6) _ _ ((same_new n5) _ _ ((same_new n4) _ _ ((same_new n3) _ _ ((same_new n2) _ _ upd_same))))))) o.1 o.2) (h1.free _ n1) (by omega) fun y hy => dxs kall y (List.mem_of_mem_drop (List.mem_of_mem_take hy)))
      · have o := (h1.dk.same s2).ne_none n3
        refine kk _ _ (toE kall D' (kp _ _ ((same_new n8) _ _ ((same_new n7) _ _ ((same_new n6) _ _ ((same_new n5) _ _ ((same_new n4) _ _ upd_same))))) o.1 o.2) ((h1.same s2).free _ n3) (by show (xs ++ [V.int (n + 1)]).length ≤ 30; rw [List.length_append]; show xs.length + 1 ≤ 30; omega) fun y hy => ?_)
        rcases List.mem_append.mp hy with hy | hy
        · exact dxs kall y hy
        · rw [List.mem_singleton.mp hy]
          exact Dat.int (by omega) (by decide)
      · have o := (h1.dk.same s4).ne_none n5
        refine kk _ _ (toE kall D' (kp _ _ ((same_new n8) _ _ ((same_new n7) _ _ ((same_new n6) _ _ upd_same))) o.1 o.2) ((h1.same s4).free _ n5) (by show (xs ++ cutV xs none (some 1)).length ≤ 30; rw [List.length_append]; omega) fun y hy => ?_)
        rcases List.mem_append.mp hy with hy | hy
        · exact dxs kall y hy
        · exact dxs kall y (List.mem_of_mem_drop (List.mem_of_mem_take hy))
      · have o := (h1.dk.same s5).ne_none n6
        refine kk _ _ (toE kall D' (kp _ _ ((same_new n8) _ _ ((same_new n7) _ _ upd_same)) o.1 o.2) ((h1.same s5).free _ n6) (by rw [List.length_reverse]; omega) fun y hy => dxs kall y (List.mem_reverse.mp hy))
      · have o := (h1.dk.same s6).ne_none n7
        exact kk _ _ (toE kall D' (kp _ _ ((same_new n8) _ _ upd_same) o.1 o.2) ((h1.same s6).free _ n7) (Nat.zero_le _) fun y hy => absurd hy (by simp))
    case main =>
      have nn1 := S0.n1
      have nn2 := S0.n2
      refine ⟨_, rfl, st, _, 0, .ref q, rfl, rfl, SqT.of S0.a, at_of (j := 0) rfl rfl, q, _, rfl, .inr (SqT.of S0.b), fun r nr => ?_⟩
      have s0' : Same H (upd H r (.lst (os.map V.int))) := same_new nr
      have S1 := S0.keep (.of s0')
      refine ⟨_, rfl, st, _, 1, .int s0, rfl, rfl, SqT.of S1.a, at_of (j := 1) rfl rfl, _, rfl, p, d, 8, rfl, D.same s0', by decide, fun srt H1 a0 a1 a2 D1 k1 => ⟨_, _, _, rfl, ?_⟩⟩
      have ro := D.ne_none nr
      refine ⟨_, rfl, _, rfl, _, _, rfl, rfl, p, d, n + 1, rfl, D1, by omega, fun spot H2 b0 b1 b2 D2 k2 => ⟨_, rfl, _, rfl, _, _, rfl, rfl, p, d, n + 1, rfl, D2, by omega, fun oth H3 c0 c1 c2 D3 k3 => ⟨_, _, rfl, ?_⟩⟩⟩
      have k03 := (Kp.of (p := p) (d := d) s0').trans (k1.trans (k2.trans k3))
      have r3 : H3 r = some (.lst (os.map V.int)) := k3 _ _ (k2 _ _ (k1 _ _ upd_same ro.1 ro.2) ro.1 ro.2) ro.1 ro.2
      have DU3 := DU.kp k03 D3
      have S3 := S0.keep (.kp D k03)
      have b1 := b1 (by omega)
      have c1 := c1 (by omega)
      have so : ∀ {o8 : Option V} {H' : Hp}, H' r = some (.lst (os.map V.int)) → SOS p st n [some (.ref p), some (.int n), some (.ref st), some (.ref r), some (.int s0), some (.int srt), some (.int spot), some (.int oth), o8, none] H' := fun {o8 H'} hr =>
        ⟨r, os, s0, srt, spot, oth, o8, rfl, hr, S0.len, S0.each, ⟨nn1, nn2⟩, ⟨b0, b1⟩⟩
      have fr : ∀ {H' : Hp}, Dk H' p d U → H' r = some (.lst (os.map V.int)) → ∀ a, H' a = none → U a ∧ a ≠ r := fun {H'} D' hr a ha => ⟨D'.free a ha, fun z => by rw [z, hr] at ha; cases ha⟩
      have u3 : ∀ {o8 : Option V} {a : Addr}, U3 U [some (.ref p), some (.int n), some (.ref st), some (.ref r), some (.int s0), some (.int srt), some (.int spot), some (.int oth), o8, none] a → U a ∧ a ≠ r := fun {o8 a} h => ⟨h.1, fun z => h.2 (by rw [z]; rfl)⟩
      have u3' : ∀ {o8 : Option V} {a : Addr}, U a ∧ a ≠ r → U3 U [some (.ref p), some (.int n), some (.ref st), some (.ref r), some (.int s0), some (.int srt), some (.int spot), some (.int oth), o8, none] a := fun {o8 a} h => ⟨h.1, fun z => by
        have z : some (some (V.ref r)) = some (some (V.ref a)) := z
        cases z
        exact h.2 rfl⟩
      refine ⟨⟨so r3, fun a ha => u3' (fr DU3 r3 a ha)⟩, fun L ods ds as H4 nL hL nas hm ra ua s4 sm wm dm => ?_⟩
      have D4 := DU3.same s4
      have r4 := s4 _ _ r3
      have wm := Nat.le_trans wm (show _ ≤ 200 by decide)
      have dods : ∀ x ∈ ods, Dat K (fun c => (U c ∧ c ≠ r) ∧ c ≠ L) 200 6 H4 x := fun x hx => (Dat.all ra (fun a ha => ⟨u3 (ua a ha), fun z => nas (by rw [← z]; exact ha)⟩) sm wm dm x hx).le (by decide) (by decide)
      have rL : r ≠ L := fun z => by
        rw [← z, r3] at nL
        cases nL
      refine ⟨_, rfl, .inl ⟨rfl, _, SqL.of hL⟩, ⟨so r4, fun a ha => ⟨u3' (fr D4 r4 a ha), fun z => ?_⟩⟩, fun x dd as' H5 rx ux s5 sx wx dx => ⟨L, ods, x, rfl, rfl, s5 _ _ hL, by rw [hm, sizeLine_eq]; decide, ?_⟩⟩
      · have z : some (some (V.ref L)) = some (some (V.ref a)) := z
        cases z
        rw [hL] at ha
        cases ha
      have D5 := D4.same s5
      have oL := DU3.dk.ne_none nL
      have uL := DU3.free L nL
      have hL5 := s5 _ _ hL
      have kp5 : Kp p d H H5 := k03.trans ((Kp.of s4).trans (.of s5))
      have nLH : H L = none := k03.free D3 nL
      have ts5 : TupS H5 (upd H5 L (.lst (ods ++ [x]))) := TupS.upd fun zs z => by
        rw [hL5] at z
        cases z
      have kL : ∀ {v : V}, Dat K (fun c => (U c ∧ c ≠ r) ∧ c ≠ L) 200 6 H5 v → Dat K (fun c => U c ∧ c ≠ r) 200 6 (upd H5 L (.lst (ods ++ [x]))) v := fun {v} h => by
        obtain ⟨dd, as, e1, e2, e3⟩ := h
        exact ⟨dd, as, e1.keep fun c hc o e => by
          rw [upd_ne (e2 c hc).2]
          exact e, fun c hc => (e2 c hc).1, e3⟩
      have dX : Dat K (fun c => (U c ∧ c ≠ r) ∧ c ≠ L) 200 6 H5 x := ⟨dd, as', rx, fun a ha => ⟨u3 (ux a ha).1, fun z => (ux a ha).2 (by rw [z]; rfl)⟩, sx, by omega, dx⟩
      have frL : ∀ a, (upd H5 L (.lst (ods ++ [x]))) a = none → H5 a = none := fun a ha => by
        by_cases e : a = L
        · rw [e, upd_same] at ha
          cases ha
        · rw [upd_ne e] at ha
          exact ha
      refine ⟨⟨r, L, .int s0, srt, spot, oth, none, os.map V.int, ods ++ [x], os, rfl, ⟨D5.dk.upd oL.1 oL.2, D5.off, fun a ha => D5.free a (frL a ha), fun a zs ha => ?_⟩, fun c o e q1 q2 => ?_, (S3.keep (.of (s4.trans s5))).keep ts5,
        ⟨by rw [upd_ne rL]; exact s5 _ _ r4, nr, DU.free r nr, by rw [List.length_map]; exact S0.len, rL, fun y hy => ?_⟩, ⟨upd_same, uL, by simp, by rw [List.length_append, hm]; show 12 + 1 ≤ 20; decide, fun y hy => ?_⟩, ⟨⟨b0, b1⟩, c0, c1⟩, fun _ => rfl, Dat.int (by have := S0.s; omega) (by decide)⟩,
        fun σ' H' j1 => ⟨j1, fun σ' H' j1 => ⟨j1, fun σ' H' j1 => ⟨j1, fun σ' H' j1 => ?_⟩⟩⟩⟩
      · by_cases e : a = L
        · rw [e, upd_same] at ha
          cases ha
        · rw [upd_ne e] at ha
          exact D5.tup a zs ha
      · rw [upd_ne (ne_of_none e nLH)]
        exact kp5 _ _ e q1 q2
      · obtain ⟨o, ho, rfl⟩ := List.mem_map.mp hy
        exact Dat.int (by have := S0.each o ho; omega) (by decide)
      · rcases List.mem_append.mp hy with hy | hy
        · exact kL ((dods y hy).keep (p := p) (d := d) (fun a ha => DU.off a ha.1.1) (.of s5))
        · rw [List.mem_singleton.mp hy]
          exact kL dX
      obtain ⟨r, stop, srt, o6, o7, o8, rest, xs, os2, rfl, h1, h2, h3, ⟨r1, r2, r3, r4⟩, h4⟩ := id j1
      refine ⟨_, rfl, rfl, _, rfl, ?_⟩
      refine ite2 (fun _ => ?_) (fun _ => ?_)
      · have fitE : ∀ {σ2 : L2.St} {H2 : Hp}, SJE K p d st q U n s0 H σ2 H2 → Fit (SJE K p d st q U n s0 H) (fun _ => U) σ2 H2 := fun {σ2 H2} j => ⟨j, by
          obtain ⟨_, _, _, _, _, _, _, _, _, _, g, _⟩ := j
          exact g.free⟩
        have rest9 : ∀ {v : Option V} {H2 : Hp} {y : Option V}, SJE K p d st q U n s0 H [some (.ref p), some (.int n), some (.ref st), some (.ref r), some stop, some (.int srt), o6, o7, o8, y] H2 → SJE K p d st q U n s0 H [some (.ref p), some (.int n), some (.ref st), some (.ref r), some stop, some (.int srt), o6, o7, o8, v] H2 := fun {v H2 y} j => by
          obtain ⟨r', stop', srt', o6', o7', o8', rest', xs', os', e, g⟩ := j
          cases e
          exact ⟨_, _, _, _, _, _, v, xs', os', rfl, g⟩
        refine ⟨fitE j1, fun l1 ys1 ds1 as1 H1 nl1 hl1 _ hm1 ra1 ua1 s1 sm1 wm1 dm1 => ?_⟩
        have wm1 := Nat.le_trans wm1 (show _ ≤ 40000 by decide)
        have j2 := rest9 (v := some (.ref l1)) (j1.same s1)
        refine ⟨_, rfl, fitE j2, fun l2 ys2 ds2 as2 H2 nl2 hl2 _ hm2 ra2 ua2 s2 sm2 wm2 dm2 => ?_⟩
        have wm2 := Nat.le_trans wm2 (show _ ≤ 40000 by decide)
        refine ⟨l1, l2, ys1, ys2, rfl, rfl, s2 _ _ hl1, hl2, by rw [hm1, hm2, sizeLine_eq]; decide, fun c nc => ?_⟩
        have s3 : Same H2 (upd H2 c (.lst (ys1 ++ ys2))) := same_new nc
        have j3 := rest9 (v := some (.ref c)) ((j2.same s2).same s3)
        refine ⟨_, rfl, _, rfl, fitE j3, fun l3 ys3 ds3 as3 H3 nl3 hl3 _ hm3 ra3 ua3 s4 sm3 wm3 dm3 => ?_⟩
        have wm3 := Nat.le_trans wm3 (show _ ≤ 40000 by decide)
        refine ⟨c, l3, _, ys3, rfl, rfl, s4 _ _ upd_same, hl3, by rw [List.length_append, hm1, hm2, hm3, sizeLine_eq]; decide, fun c2 nc2 => ?_⟩
        have s5 : Same H3 (upd H3 c2 (.lst ((ys1 ++ ys2) ++ ys3))) := same_new nc2
        have sAll := ((s1.trans s2).trans s3).trans s4
        have D3' := h1.same sAll
        refine ⟨p, d, c2, _, rfl, (D3'.same s5).dk, upd_same, (D3'.dk.ne_none nc2).2, fun z => ?_, by rw [List.length_append, List.length_append, hm1, hm2, hm3]; decide, fun x H7 hx D7 k7 => ?_⟩
        · have e := congrArg List.length z
          rw [List.length_append, List.length_append, hm1, hm2, hm3] at e
          cases e
        refine k x H7 D7 (h2.trans ((Kp.of (sAll.trans s5)).trans k7)) ?_
        rcases List.mem_append.mp hx with hx | hx
        · rcases List.mem_append.mp hx with hx | hx
          · exact ((Dat.all ra1 ua1 sm1 wm1 dm1 x hx).keep h1.off ((Kp.of ((s2.trans s3).trans (s4.trans s5))).trans k7)).le (by decide) (by decide)
          · exact ((Dat.all ra2 ua2 sm2 wm2 dm2 x hx).keep h1.off ((Kp.of (s3.trans (s4.trans s5))).trans k7)).le (by decide) (by decide)
        · exact ((Dat.all ra3 ua3 sm3 wm3 dm3 x hx).keep h1.off ((Kp.of s5).trans k7)).le (by decide) (by decide)
      · refine ⟨_, rfl, r, xs, rfl, .inl ⟨SqL.of r1, fun T nT => ?_⟩⟩
        refine ⟨_, rfl, by show 2 ≤ sizeLine; decide, fun T2 nT2 => ?_⟩
        have s1 : Same H' (upd H' T (.tup xs)) := same_new nT
        have tD := (Dat.newTup r4 nT (h1.free T nT)).le (w' := 7000) (k' := 7) (by omega) (by decide)
        have sD := (h4.keep (p := p) (d := d) h1.off (.of s1)).le (w' := 7000) (k' := 7) (by decide) (by decide)
        refine k (.ref T2) _ ((h1.dk.same s1).same (same_new nT2)) (h2.trans ((Kp.of s1).trans (Kp.new nT2))) ?_
        refine (Dat.newTup (w := 7000) (k := 7) (fun y hy => ?_) nT2 ((h1.same s1).free T2 nT2)).le (by show 2 * (7000 + 2) + 3 ≤ 40000; decide) (by decide)
        simp only [List.mem_cons, List.not_mem_nil, or_false] at hy
        rcases hy with rfl | rfl
        · exact tD
        · exact sD
end
end Sw
namespace Sw
open PySem PySem.Spec PyProof.Rows L2
section
variable {X : Cx} {CX : CXT} {k : Nat} {f : Addr} {fd : FuncData} {ps ks : List Str} {sp : Sp} {E : XK} {x : Str} {p pos : Pos} {kws : List Keyword} {tk : TA} {g : List Value → List Value → List Value} {gV : List V → List V → List V}
/-- f(k = v): words alone -/
theorem pe_callW (F : FnOk X.prog X.w X.K X.mg X.base CX k f fd ps sp) (hr : Room k X.A) (hg : Gl X x) (hm : X.mg x = some (.ref f)) (hk : PySem.W.keepIn X.K (.ref f) = true) (hb : KBinds X.K fd ps ks g gV) (hx : Passes CX X E)
    (hkw : PK X kws tk) (hall : (backToKw pos (keywordEach kws X.env)).all (·.1.isSome) = true := by rfl) (hks : (backToKw pos (keywordEach kws X.env)).filterMap (·.1) = ks := by rfl)
    (hdb : (x == ("__debug__" : Str)) = false := by decide)
    (hpl : ((backTo pos (starEach [] X.env)).any (·.1) || (backToKw pos (keywordEach kws X.env)).any (·.1.isNone)) = false := by rfl) :
    PE X (.Call (.Name x p) [] kws pos) (fun σ H Q => tk σ H fun zs H2 => sp (gV [] zs) H2 Q E) := by
  refine ⟨fun pins s σ H Q I h => wpAny_Call_Name_kw (ld_glob I hg hm ?_ hdb)⟩
  refine PySem.W.callWith_KW0 (first := []) (h₀ := X.base) I.ok.mod.kin hk hall (thn (hkw.run pos pins s σ H _ I h) fun ws s2 ⟨zs, H2, I2, rz, q2⟩ => ⟨I2.kIn, ?_⟩) hpl
  rw [hks]
  exact run_fnk (us := []) F hr hb hx I2 .nil rz q2
end
/-- a new list of two things -/
theorem rep_pair {K : PySem.W.Frag} {H : Hp} {L : Addr} {r r' : D} {v v' : V} {bs bs' : List Addr} (h : Rep K H r v bs) (h' : Rep K H r' v' bs') (nL : H L = none) : ∃ as, Rep K (upd H L (.lst [v, v'])) (.lst [r, r']) (.ref L) as := by
  have ra : RepAll K H [r, r'] [v, v'] (bs ++ (bs' ++ [])) := by
    rw [RepAll]
    refine ⟨_, _, bs, bs' ++ [], rfl, h, ?_, rfl⟩
    rw [RepAll]
    exact ⟨_, _, bs', [], rfl, h', by simp [RepAll], rfl⟩
  refine ⟨L :: (bs ++ (bs' ++ [])), ?_⟩
  rw [Rep]
  exact ⟨L, _, _, rfl, upd_same, ra.same (same_new nL), nmem ra nL, rfl⟩
theorem same_str {x y : Str} (h : x = y) : (!decide (V.str x = V.str y)) = false := by
  rw [h, decide_eq_true rfl]
  rfl
def spLaw (K : PySem.W.Frag) : Sp := fun vs H Q _ => ∃ (a : Addr) (ns : List Int), vs = [.ref a] ∧ SqL K H a (ns.map V.int) ∧ ns.length ≤ 63 ∧ ∀ H', Q (.bl true) H'
section
variable {P : Program} {w : World} {K : PySem.W.Frag} {mg : Str → Option Value} {base : Heap}
/-- one call of a def of the text, what is around it given -/
theorem run_def {x qual : Str} {st : Stmt} {f : Addr} {fd : FuncData} {N ps : List Str} {k : Nat} {A : Around} {outer : List Env} {s : Shared} {H : Hp} {args : Args} {us : List Value} {vs : List V} {Q : VK} {E : XK} (F : Fun K x qual st f fd) (S : FnScope N ps (defScope st))
    (rm : Room (k + 1) A) (ev : Env0 P w K mg base A outer s H) (hb : BindsTo s fd args (ps.zip us)) (rv : Vals vs us) (hl : vs.length = ps.length)
    (body : ∀ cdv : Value, ∃ t, PSs (cxOf CX0 P w K mg base N qual (defScope st) f cdv A outer s H E).nox (defBody st) t ∧ t { nx := fun _ H' => Q .non H', rt := Q } (start N vs) H) :
    codeAny (model P w) A (.call (.ref f) args) (CR CX0 outer P w H s Q E) s := by
  obtain ⟨oc, od, kV, doc, pm, an, cdv, ct, osl, rfl, lk, hcd⟩ := F.ex
  have kin : K.In s.heap := ev.mod.kin.keeps fun b o z => (ev.bs b o z).1
  have nolim : s.heap.NoLimit := ev.mod.nolimit.keeps fun b o z => (ev.bs b o z).1
  have kinds : ∀ y ∈ ps.zip us, (defScope st).names.lookup y.1 = some .local ∨ ((defScope st).names.lookup y.1 = some .cell ∧ ((cellsFrom (s.heap.objs.size + 1) (defScope st).names []).lookup y.1).isSome = true) := by
    rintro ⟨n, v⟩ hy
    exact (S.par n (List.of_mem_zip hy).1).elim .inl fun q => .inr ⟨q, PySem.W.cellsFrom_some _ _ _ (.inl q)⟩
  refine codeAny_call_function rm.depth (kin _ _ lk) rfl S.co S.gen rfl (PySem.W.codeRec_of kin hcd) (hb _ _ _ _ (wpAny_newFunctionEnv_cells S.kind kinds fun env he s1 ic => ?_))
  subst he
  obtain ⟨t, ht, hq⟩ := body cdv
  have inv := inv_start S rm.hd ev hl rv ic (CX := CX0) (P := P) (w := w) (E := E)
  refine ⟨nolim.keeps ic.toInCall.keep, codeAny_func (wpAny_mono (ht.nox.run [] s1 (start N vs) H _ inv hq) (fun fl s' hs => ?_) fun _ _ hs => hs)⟩
  cases fl with
  | next =>
    obtain ⟨_, H', J, q⟩ := hs
    exact ⟨V.non, H', J.os, J.bare, J.base, J.hok, (rfl : RelV V.non Value.none), q⟩
  | ret u =>
    obtain ⟨v, _, H', J, ru, q⟩ := hs
    exact ⟨v, H', J.os, J.bare, J.base, J.hok, ru, q⟩
  | brk =>
    obtain ⟨_, _, _, q⟩ := hs
    cases q
  | cont =>
    obtain ⟨_, _, _, q⟩ := hs
    cases q
end
/-- the script alone is known -/
def scriptH (a : Addr) (o : Obj) (ns : List Int) : Hp := fun b => if b = a then some (.frz o (.lst (ns.map V.int))) else none
theorem scriptH_at {a : Addr} {o : Obj} {ns : List Int} : scriptH a o ns a = some (.frz o (.lst (ns.map V.int))) := if_pos rfl
theorem scriptH_ne {a b : Addr} {o : Obj} {ns : List Int} (h : b ≠ a) : scriptH a o ns b = none := if_neg h
/-- the law's call, at the heap behind the top -/
theorem call_law {P : Program} {w : World} {K : PySem.W.Frag} {mg mb : Str → Option Value} {fa a : Addr} {s₁ : Shared} {vs : List Value} {ns : List Int} (kin : K.In s₁.heap) (hmg : s₁.heap.Ns mainGlobals mg) (hmb : s₁.heap.Ns builtinsNs mb)
    (hboot : ∀ x : Str, x ≠ "__name__" → mb x = bootBuiltins x) (nolim : s₁.heap.NoLimit) (hgen : s₁.gens = #[])
    (ha : s₁.heap.get? a = some { cls := .type "list", data := .seq vs.toArray }) (hi : IntsAre vs ns) (hlen : ns.length ≤ 63)
    (run : ∀ (base : Heap) (H : Hp), K.In base → base.Ns mainGlobals mg → Env0 P w K mg base callerA [] s₁ H → SqL K H a (ns.map V.int) →
      codeAny (model P w) callerA (.call (.ref fa) ⟨[.ref a], []⟩) (CR CX0 [] P w H s₁ (fun v _ => v = .bl true) fun _ _ _ => False) s₁) :
    codeAny (model P w) callerA (.call (.ref fa) ⟨[.ref a], []⟩) (fun r s' => r = .ok (.ret (.bool true)) ∧ OldK s₁.heap s'.heap ∧ s'.os = s₁.os ∧ AllBare s'.gens) s₁ := by
  have rv := vals_ints hi
  have le63 : ns.length ≤ sizeLine := by
    rw [sizeLine_eq]
    omega
  have go : ∀ H : Hp, (∀ b, H b ≠ none → b = a ∧ K.lookup a = none ∧ H a = some (.frz { cls := .type "list", data := .seq vs.toArray } (.lst (ns.map V.int)))) → SqL K H a (ns.map V.int) →
      codeAny (model P w) callerA (.call (.ref fa) ⟨[.ref a], []⟩) (fun r s' => r = .ok (.ret (.bool true)) ∧ OldK s₁.heap s'.heap ∧ s'.os = s₁.os ∧ AllBare s'.gens) s₁ := by
    intro H only sq
    have plain : ∀ {b : Addr} {o : Obj} {es : Array DictEntry} {ep : Nat}, s₁.heap.get? b = some o → o.data = .dict es ep → H b = none := by
      intro b o es ep e dd
      refine Classical.byContradiction fun q => ?_
      obtain ⟨rfl, _⟩ := only b q
      rw [ha] at e
      cases e
      exact nomatch dd
    have spaces : ∀ {b : Addr} {m : Str → Option Value}, s₁.heap.Ns b m → (hidT s₁.heap H).Ns b m := by
      rintro b m ⟨o, es, ep, e, dd, r⟩
      exact ⟨o, es, ep, hidT_get e (plain e dd), dd, r⟩
    have kin' : K.In (hidT s₁.heap H) := by
      intro b o e
      refine hidT_get (kin b o e) (Classical.byContradiction fun q => ?_)
      obtain ⟨rfl, n, _⟩ := only b q
      rw [n] at e
      cases e
    have hok : HOk P w H s₁.heap := by
      intro b u e
      obtain ⟨rfl, _, q⟩ := only b (by rw [e]; exact fun z => nomatch z)
      rw [q] at e
      cases e
      exact ⟨ha, by rw [List.length_map]; exact le63, vs, _, rv, ha⟩
    obtain ⟨ml, l1, l2⟩ := nolim
    have ev : Env0 P w K mg (hidT s₁.heap H) callerA [] s₁ H :=
      ⟨rfl, ⟨kin', spaces hmg, ⟨mb, spaces hmb, hboot⟩, ⟨ml, spaces l1, l2⟩⟩, fun _ _ z => of_hidT z, Nat.le_of_eq (hidT_size _ _), trivial, fun b z => (by cases z), hok, .of_eq hgen⟩
    refine codeAny_mono (run _ H kin' (spaces hmg) ev sq) fun r s' hr => ?_
    rcases r with e | fl
    · exact False.elim hr
    rcases fl with _ | _ | _ | u
    all_goals first | exact False.elim hr | skip
    obtain ⟨v, H', os, bare, un, hok', ru, rfl⟩ := hr
    obtain rfl : u = Value.bool true := ru
    refine ⟨rfl, OldK.of_keep fun b o e => ?_, os, bare⟩
    cases q : H b with
    | none => exact un.keep b o e q (fun z => by cases z) (fun z => by simp at z)
    | some y =>
      obtain ⟨rfl, _, q2⟩ := only b (by rw [q]; exact fun z => nomatch z)
      have old := (hok _ _ q2).1
      have new := (hok' _ _ (un.frzs _ _ _ q2)).1
      rw [e] at old
      cases old
      exact new
  cases z : K.lookup a with
  | none =>
    refine go (scriptH a { cls := .type "list", data := .seq vs.toArray } ns) (fun b q => ?_) (.inl (.inr ⟨_, scriptH_at⟩))
    by_cases e : b = a
    · exact ⟨e, z, scriptH_at⟩
    · exact absurd (scriptH_ne e) q
  | some o =>
    have e := kin a o z
    rw [ha] at e
    cases e
    exact go (fun _ => none) (fun _ q => absurd rfl q) (.inr ⟨_, vs.toArray, _, z, rfl, rfl, rfl, by rw [List.size_toArray, hi.length]; exact le63, by simpa using rv⟩)
/-- a def of the text stands behind the top by its name -/
def Has (K : PySem.W.Frag) (mg : Str → Option Value) (x : Str) (st : Stmt) : Prop := ∃ f fd, Fun K x x st f fd ∧ mg x = some (.ref f)
section
variable {P : Program} {w : World} {K : PySem.W.Frag} {mg : Str → Option Value} {h : Heap}
theorem has_mk {x : Str} {st : Stmt} {f : Addr} {oc kV dc pm cd ct : Value} {od an : Option Addr} {sl : Array (Option Value)} (X : K.In h) (G : h.Ns mainGlobals mg) (a : PySem.W.nsIn K mainGlobals x = some (some (.ref f)))
    (l : K.lookup f = some ⟨oc, od, .func (PySem.W.fnOf x x (defArgs st) (defBody st) (defScope st) .none kV dc pm an cd ct), sl⟩) (c : PySem.W.codeIn K cd x = true) (k : PySem.W.keepIn K (.ref f) = true) : Has K mg x st :=
  ⟨f, _, fun_mk l c k, PySem.W.mg_of X G a⟩
/-- the def that it is: one promise, from the def's own theorem -/
theorem Has.own {base : Heap} {k : Nat} {x : Str} {st : Stmt} {ps : List Str} {sp : Sp} (hs : Has K mg x st) (ok : ∀ f fd, Fun K x x st f fd → FnOk P w K mg base CX0 k f fd ps sp)
    (b : ∀ (kV doc pm : Value) (an : Option Addr) (cdv ct : Value) (us : List Value), us.length = ps.length → bindArgs (PySem.W.fnOf x x (defArgs st) (defBody st) (defScope st) .none kV doc pm an cdv ct) ⟨us, []⟩ = pure (ps.zip us)) : Own P w K mg base k x ps sp := by
  obtain ⟨f, fd, F, m⟩ := hs
  exact ⟨f, fd, ok f fd F, m, F.kp, F.binds b⟩
/-- the end of the row, from what the top has written -/
theorem walk_law {l : PySem.W.OpenLaw} {q : Program} {loose : List Str} {XP : (Str → Option Value) → Heap → Prop} {YP : World → Heap → Prop} {d : DefRec} {K : Params → PySem.W.Frag} (hn : l.most = some 63) (hdf : d.params.defaults = [])
    (hY : ∀ (w : World) (h : Heap), YP w h → (K w.params).In h)
    (F : ∀ (w : World) (mg : Str → Option Value) (fa : Addr) (h : Heap), (K w.params).In h → h.Ns mainGlobals mg → mg d.name = some (.ref fa) →
      ∀ (base : Heap) (s₁ : Shared) (H : Hp) (a : Addr) (ns : List Int), Env0 l.prog w (K w.params) mg base callerA [] s₁ H → SqL (K w.params) H a (ns.map V.int) → ns.length ≤ 63 →
        codeAny (model l.prog w) callerA (.call (.ref fa) ⟨[.ref a], []⟩) (CR CX0 [] l.prog w H s₁ (fun v _ => v = .bl true) fun _ _ _ => False) s₁) :
    PySem.W.WalkO q loose XP YP l.row.toRowW d [] (fun f vs => PySem.call f vs) := by
  refine Att.attach_call hn hdf fun w s₀ s₁ mg mb fa o pm cd doc a vs ns G Y _ _ _ hmg hobj hints hlen hg => ?_
  exact call_law (hY w _ Y) G.T.g G.T.b G.T.builtins G.T.nolimit hg hobj hints hlen fun base H _ _ ev sq => F w mg fa _ (hY w _ Y) G.T.g hmg base s₁ H a ns ev sq hlen
end
end Sw
namespace Sw
open PySem PySem.Spec PyProof.Rows L2
abbrev sLawS : Stmt := top 20
abbrev nLawS : List Str := ["script", "deck", "turn", "n", "standing", "values", "kept", "spot", "value", "seen", "again"]
theorem scLawS : FnScope nLawS ["script"] (defScope sLawS) := ⟨rfl, rfl, rfl, by decide +kernel, rfl, by decide +kernel, by decide +kernel⟩
/-- standing_error: by place, and by the words value, n -/
structure OwnS (P : Program) (w : World) (K : PySem.W.Frag) (mg : Str → Option Value) (base : Heap) (k : Nat) : Prop where
  ex : ∃ f fd, FnOk P w K mg base CX0 k f fd ["n", "value"] (spSt K) ∧ mg "standing_error" = some (.ref f) ∧ PySem.W.keepIn K (.ref f) = true ∧ Binds K fd ["n", "value"] [] ∧ KBinds K fd ["n", "value"] ["value", "n"] (fun us ws => us ++ ws.reverse) (fun us ws => us ++ ws.reverse)
section
variable {P : Program} {w : World} {K : PySem.W.Frag} {mg : Str → Option Value} {base : Heap}
theorem law_bodyS (B : NoNames mg) (O1 : Own P w K mg base 1 "_law_deck" ["script"] (spDeck K)) (O2 : Own P w K mg base 1 "_law_draw" ["deck", "many"] spDraw) (OP : Own P w K mg base 2 "_law_pick" ["deck", "items"] spPick) (OM : Own P w K mg base 2 "_law_mixed" ["deck", "items"] spMixed)
    (O4 : Own P w K mg base 3 "_law_spoilt" ["deck", "n", "standing"] (spSpoiltS K)) (O5 : OwnS P w K mg base 4) (O6 : Own P w K mg base 2 "_law_due" ["n", "value"] (spSt K))
    {f : Addr} {cdv : Value} {A : Around} {outer : List Env} {s : Shared} {H : Hp} {vs : List V} {Q : VK} {E : XK}
    (hr : Room 4 (A.deeper (envOfC "law" (defScope sLawS) s.heap.objs.size f cdv))) (hgd : (A.deeper (envOfC "law" (defScope sLawS) s.heap.objs.size f cdv)).guards = some []) (h : spLaw K vs H Q E) :
    ∃ t, PSs (cxOf CX0 P w K mg base nLawS "law" (defScope sLawS) f cdv A outer s H E).nox (defBody sLawS) t ∧ t { nx := fun _ H' => Q .non H', rt := Q } (start nLawS vs) H := by
  obtain ⟨fK, fdK, GK, mK, kK, bK⟩ := O1.ex
  obtain ⟨fD, fdD, GD, mD, kD, bD⟩ := O2.ex
  obtain ⟨fP, fdP, GP, mP, kP, bP⟩ := OP.ex
  obtain ⟨fM, fdM, GM, mM, kM, bM⟩ := OM.ex
  obtain ⟨fS, fdS, GS, mS, kS, bS⟩ := O4.ex
  obtain ⟨fE, fdE, GE, mE, kE, bE, wE⟩ := O5.ex
  obtain ⟨fU, fdU, GU, mU, kU, bU⟩ := O6.ex
  obtain ⟨a, ns, rfl, hS, hl, k⟩ := h
  have hr1 : Room 1 _ := hr.mono (by decide)
  have hr2 : Room 2 _ := hr.mono (by decide)
  have hr3 : Room 3 _ := hr.mono (by decide)
  refine ⟨_, pss_cons (ps_set (i := 1) scLawS.nd rfl (.inr rfl) (pe_call GK hr1 rfl mK kK bK .nil pass0 (pa_cons (pv 0) pa_nil))) <|
    pss_cons (ps_for PassesOwn.never rfl (pi_range1 (by rfl) B.range (pa_cons pe_int pa_nil)) (pg_name (i := 2) scLawS.nd rfl (.inl rfl))
      (pss_cons (ps_set (i := 3) scLawS.nd rfl (.inr rfl) (pe_call GP hr2 rfl mP kP bP .nil pass0 (pa_cons (pv 1) (pa_cons (pe_lst (pa_cons (pe_op op_add (pv 2) pe_int) (pa_cons (pe_op op_add (pv 2) pe_int) (pa_cons pe_int (pa_cons pe_int pa_nil))))) pa_nil)))) <|
      pss_cons (ps_set (i := 4) scLawS.nd rfl (.inr rfl) (pe_tup (pa_cons (pe_callTy call_tuple_of (by rfl) B.tuple (by decide +kernel) (pa_cons (pe_call GM hr2 rfl mM kM bM .nil pass0 (pa_cons (pv 1) (pa_cons (pe_listRg rfl (by rfl) B.list (prg_1 (by rfl) B.range (pe_op op_add (pv 3) pe_int))) pa_nil))) pa_nil))
        (pa_cons (pe_call GD hr1 rfl mD kD bD .nil pass0 (pa_cons (pv 1) (pa_cons (pv 3) pa_nil))) pa_nil)))) <|
      pss_cons (ps_set (i := 5) scLawS.nd rfl (.inl rfl) (pe_op op_cat (pe_lst (pa_cons (pv 4) pa_nil)) (pe_lc (own := [("again", 10)]) (g := gName 10) (tt := tYes) rfl scLawS.nd (pi_range1 (by rfl) B.range (pa_cons pe_int pa_nil))
        (blkOk_by (own := [("again", 10)]) (N := nLawS) (sc := defScope sLawS) (by decide +kernel)) (fun _ _ _ _ _ => pg_name (i := 10) scLawS.nd rfl (Or.inl rfl)) (fun _ _ _ _ _ => pts_nil)
        (fun _ _ _ _ _ => pe_call GS hr3 rfl mS kS bS .nil pass0 (pa_cons (pv 1) (pa_cons (pv 3) (pa_cons (pv 4) pa_nil))))))) <|
      pss_cons (ps_set (i := 6) scLawS.nd rfl (.inl rfl) (pe_callB (call_repr hr hgd) (by rfl) B.repr (by decide +kernel) (pa_cons (pv 5) pa_nil))) <|
      pss_cons (ps_for PassesOwn.never rfl (pi_enum (by rfl) B.enumerate (pa_cons (pv 5) pa_nil)) (pg_tup rfl (pgs_cons (pg_name (i := 7) scLawS.nd rfl (.inl rfl)) (pgs_cons (pg_name (i := 8) scLawS.nd rfl (.inl rfl)) pgs_nil)))
        (pss_cons (ps_set (i := 9) scLawS.nd rfl (.inl rfl) (pe_ifExp (pt_cmpR op_eq (pv 7) (pv 2) (nomark _)) (pe_callW GE hr rfl mE kE wE pass0 (pk_cons (pv 8) (pk_cons (pv 3) pk_nil))) (pe_call GE hr rfl mE kE bE .nil pass0 (pa_cons (pv 3) (pa_cons (pv 8) pa_nil))))) <|
        pss_one (ps_if (pt_cmpR op_ne (pe_callB (call_repr hr hgd) (by rfl) B.repr (by decide +kernel) (pa_cons (pe_lst (pa_cons (pv 9) (pa_cons (pe_call GE hr rfl mE kE bE .nil pass0 (pa_cons (pv 3) (pa_cons (pv 8) pa_nil))) pa_nil))) pa_nil))
          (pe_callB (call_repr hr hgd) (by rfl) B.repr (by decide +kernel) (pa_cons (pe_op op_rep (pe_lst (pa_cons (pe_call GU hr2 rfl mU kU bU .nil pass0 (pa_cons (pv 3) (pa_cons (pv 8) pa_nil))) pa_nil)) pe_int) pa_nil)) (nomark _)) (pss_one (ps_ret pe_bl)) pss_nil))) <|
      pss_one (ps_if (pt_cmpR op_ne (pe_callB (call_repr hr hgd) (by rfl) B.repr (by decide +kernel) (pa_cons (pv 5) pa_nil)) (pv 6) (nomark _)) (pss_one (ps_ret pe_bl)) pss_nil))) <|
    pss_one (ps_ret pe_bl), ?_⟩
  refine ⟨_, rfl, a, ns, rfl, hS, hl, fun p d H1 s1 np nd D1 => ?_⟩
  refine ⟨12, rfl, by decide, by decide, for_range (lo := 0) (n := 12) (fun i σ H' => (∃ t2 t3 t4 t5 t6 t7 t8 t9 t10, σ = [some (.ref a), some (.ref p), t2, t3, t4, t5, t6, t7, t8, t9, t10]) ∧ Deck H' p d 63)
    ⟨⟨_, _, _, _, _, _, _, _, _, rfl⟩, D1⟩ ?_ ?_⟩
  · rintro i σ H2 hi ⟨⟨t2, t3, t4, t5, t6, t7, t8, t9, t10, rfl⟩, D2⟩
    refine ⟨_, rfl, _, rfl, _, _, rfl, rfl, _, rfl, _, _, rfl, rfl, by show 4 ≤ sizeLine; decide, fun L nL => ?_⟩
    refine ⟨p, d, L, _, rfl, D2.same (same_new nL), upd_same, (D2.ne_none nL).2, fun z => (nomatch z), by show 4 < 1000000; decide, fun x H3 hx D3 k3 => ?_⟩
    obtain ⟨n, rfl, n1, n2⟩ : ∃ n : Int, x = .int n ∧ 1 ≤ n ∧ n ≤ 12 := by
      simp only [List.mem_cons, List.not_mem_nil, or_false] at hx
      rcases hx with rfl | rfl | rfl | rfl
      · exact ⟨_, rfl, by omega, by omega⟩
      · exact ⟨_, rfl, by omega, by omega⟩
      · exact ⟨_, rfl, by omega, by omega⟩
      · exact ⟨_, rfl, by omega, by omega⟩
    clear hx k3
    refine ⟨_, rfl, _, rfl, _, _, rfl, rfl, n + 1, rfl, RgOk.of_le (by decide) (by omega) (by decide) (by omega), fun q0 nq => ?_⟩
    have eR : rgV 0 (n + 1) = ((List.range (n + 1).toNat).map fun i => (0 : Int) + (i : Nat)).map V.int := by
      unfold rgV
      rw [List.map_map, Int.sub_zero]
      rfl
    rw [eR]
    refine ⟨p, d, q0, _, rfl, D3.same (same_new nq), upd_same, by rw [List.length_map, List.length_range]; omega, fun o os Hb Db kb no ho lo mo => ?_⟩
    rw [List.length_map, List.length_range] at lo
    have mo2 : ∀ z ∈ os, 0 ≤ z ∧ z < 14 := fun z hz => by
      obtain ⟨j, hj, rfl⟩ := List.mem_map.mp (mo z hz)
      have := List.mem_range.mp hj
      exact ⟨by omega, by omega⟩
    refine ⟨o, _, rfl, .inl ⟨SqL.of ho, fun q nq2 => ?_⟩⟩
    have sq : Same Hb (upd Hb q (.tup (os.map V.int))) := same_new nq2
    have oq := Db.ne_none nq2
    refine ⟨_, rfl, _, rfl, p, d, n, rfl, Db.same sq, by omega, fun s0 Hc c0 c1 c2 Dc kc => ⟨by show 2 ≤ sizeLine; decide, fun st nst => ?_⟩⟩
    have c1 := c1 (by omega)
    have sst : Same Hc (upd Hc st (.tup [.ref q, .int s0])) := same_new nst
    have S4 : StAt n s0 (upd Hc st (.tup [.ref q, .int s0])) st q os := ⟨upd_same, sst _ _ (kc _ _ upd_same oq.1 oq.2), by omega, mo2, by omega, n1, n2⟩
    have D4 := Dc.same sst
    clear kc sq nq2 Db kb ho lo mo nq sst
    generalize (upd Hc st (.tup [.ref q, .int s0])) = H4 at S4 D4 ⊢
    refine ⟨_, rfl, by show 1 ≤ sizeLine; decide, fun L1 nL1 => ?_⟩
    have sA : Same H4 (upd H4 L1 (.lst [.ref st])) := same_new nL1
    have DA := D4.same sA
    have oL1 := D4.ne_none nL1
    refine ⟨5, rfl, by decide, by decide, fun L2 nL2 => ?_⟩
    have sB : Same H4 (upd (upd H4 L1 (.lst [.ref st])) L2 (.lst [])) := sA.trans (same_new nL2)
    have oL2 := DA.ne_none nL2
    have hU : ∀ {H' : Hp} {zs : List V}, Deck H' p d 63 → H' L2 = some (.lst zs) → Dk H' p d (fun c => (c ≠ p ∧ c ≠ d) ∧ c ≠ L2) := fun {H' zs} D' hl2 =>
      ⟨D', fun c hc => hc.1, fun c hc => ⟨D'.ne_none hc, fun z => by rw [z, hl2] at hc; cases hc⟩, fun c ws hc => ⟨D'.tne hc, fun z => by rw [z, hl2] at hc; cases hc⟩⟩
    refine lc_it walk_range (fun j H' => Deck H' p d 63 ∧ StAt n s0 H' st q os ∧ H' L1 = some (.lst [.ref st]) ∧ ∃ xs, H' L2 = some (.lst xs) ∧ xs.length = j ∧ ∀ x ∈ xs, Dat K (fun c => (c ≠ p ∧ c ≠ d) ∧ c ≠ L2) 40000 20 H' x)
      ⟨D4.same sB, S4.keep (.of sB), (same_new nL2) _ _ upd_same, [], upd_same, rfl, fun _ h => absurd h (by simp)⟩ (fun _ _ _ _ => trivial) ?_ ?_
    · rintro j x Ha Hb hj ⟨Da, Sa, h1, xs, h2, lx, dx⟩ ⟨rfl, rfl⟩
      refine ⟨rfl, ?_⟩
      refine ⟨_, rfl, _, rfl, _, rfl, p, d, st, q, n, s0, os, _, rfl, hU Da h2, Sa, fun y H5 D5 k5 dy => ?_⟩
      have h15 := k5 _ _ h1 oL1.1 oL1.2
      have h25 := k5 _ _ h2 oL2.1 oL2.2
      have L12 : L1 ≠ L2 := fun z => by
        rw [z, upd_same] at nL2
        cases nL2
      have ts5 : TupS H5 (upd H5 L2 (.lst (xs ++ [y]))) := TupS.upd fun zs z => by
        rw [h25] at z
        cases z
      refine ⟨xs, h25, by rw [lx, sizeLine_eq]; omega, D5.upd oL2.1 oL2.2, (Sa.keep (.kp Da k5)).keep ts5, by rw [upd_ne L12]; exact h15, xs ++ [y], upd_same, by rw [List.length_append, lx]; rfl, fun z hz => ?_⟩
      have dz : Dat K (fun c => (c ≠ p ∧ c ≠ d) ∧ c ≠ L2) 40000 20 H5 z := by
        rcases List.mem_append.mp hz with q | q
        · exact (dx z q).keep (fun c hc => hc.1) k5
        · rw [List.mem_singleton.mp q]
          exact dy
      obtain ⟨dd, as, l1, l2, l3⟩ := dz
      exact ⟨dd, as, l1.keep fun b hb o e => by
        rw [upd_ne (l2 b hb).2]
        exact e, l2, l3⟩
    · rintro Ha ⟨Da, Sa, h1, xs, h2, lx, dx⟩
      refine ⟨L1, L2, _, xs, rfl, rfl, h1, h2, by rw [lx, sizeLine_eq]; show 1 + 5 ≤ 16777216; decide, fun L nL => ?_⟩
      have hall : ∀ x ∈ [V.ref st] ++ xs, Dat K (fun c => (c ≠ p ∧ c ≠ d) ∧ c ≠ L2) 40000 20 Ha x := fun x hx => by
        rcases List.mem_append.mp hx with q | q
        · rw [List.mem_singleton.mp q]
          exact (Sa.dat (hU Da h2)).le (by decide) (by decide)
        · exact dx x q
      have hlen : ([V.ref st] ++ xs).length = 6 := by
        rw [List.length_append, lx]
        rfl
      generalize [V.ref st] ++ xs = zs at hall hlen
      have hz : zs.length ≤ sizeLine := by
        rw [hlen, sizeLine_eq]
        decide
      obtain ⟨ds, as, ra, _, sm, wm, dm⟩ := dats_rep hall
      rw [hlen] at wm
      have sL : Same Ha (upd Ha L (.lst zs)) := same_new nL
      have rL : Rep K (upd Ha L (.lst zs)) (.lst ds) (.ref L) (L :: as) := by
        simp only [Rep]
        exact ⟨L, zs, as, rfl, upd_same, ra.same sL, nmem ra nL, rfl⟩
      have ra5 := ra.same sL
      have hL5 : (upd Ha L (.lst zs)) L = some (.lst zs) := upd_same
      have D5 := Da.same sL
      clear hall dx hU h1 h2 nL sL Sa ra
      generalize (upd Ha L (.lst zs)) = H5 at rL ra5 hL5 D5 ⊢
      refine ⟨_, rfl, .ref L, ds, _, rfl, rL, sm, by omega, by omega, ?_⟩
      refine ⟨_, rfl, L, zs, rfl, SqL.of hL5, for_it walk_enum (fun j σ H' => (∃ s6 s7 s8 s9, σ = [some (.ref a), some (.ref p), some (.int (0 + (i : Int))), some (.int n), some (.ref st), some (.ref L), some (.str (shown (.lst ds))), s6, s7, s8, s9]) ∧ Same H5 H')
        ⟨⟨_, _, _, _, rfl⟩, Same.refl _⟩ (fun j σ H' _ q => SqL.of (q.2 _ _ hL5)) ?_ ?_⟩
      · rintro j x σ H6 H7 hj ⟨⟨s6, s7, s8, s9, rfl⟩, s56⟩ ⟨T, x1, x2, rfl, nT, rfl, e1, e2⟩
        obtain rfl : V.int (j : Nat) = x1 := Option.some.inj e1
        refine ⟨T, _, rfl, SqT.of upd_same, rfl, _, _, rfl, _, _, rfl, rfl, ?_⟩
        have s57 : Same H5 (upd H6 T (.tup [.int (j : Nat), x2])) := s56.trans (same_new nT)
        generalize (upd H6 T (.tup [.int (j : Nat), x2])) = H7 at s57
        obtain ⟨dd, bs, hd, rd, _⟩ := ra5.at2 e2
        have hm := List.mem_of_getElem? hd
        have wdd := wt_mem hm
        have go : ∀ (r : D) (v : V) (cs : List Addr) (H8 : Hp), IsErrS n dd r → Same H7 H8 → Rep K H8 r v cs → small r → wt r ≤ 100 → dep r ≤ 1 → True := fun _ _ _ _ _ _ _ _ _ _ => trivial
        refine ⟨_, rfl, _, rfl, rfl, _, rfl, ?_⟩
        refine ite2 (fun _ => ?yes) (fun _ => ?no)
        case' yes => refine ⟨_, rfl, _, rfl, n, x2, dd, bs, rfl, rd.same s57, by omega, n1, n2, fun r v cs H8 i1 s78 rp sr wr dr => ?_⟩
        case' no => refine ⟨_, rfl, _, rfl, n, x2, dd, bs, rfl, rd.same s57, by omega, n1, n2, fun r v cs H8 i1 s78 rp sr wr dr => ?_⟩
        all_goals
          refine ⟨_, rfl, _, rfl, _, rfl, n, x2, dd, bs, rfl, rd.same (s57.trans s78), by omega, n1, n2, fun r' v' cs' H9 i2 s89 rp' sr' wr' dr' => ?_⟩
          obtain rfl := i1.det i2
          refine ⟨by show 2 ≤ sizeLine; decide, fun L5 nL5 => ?_⟩
          obtain ⟨as5, rp5⟩ := rep_pair (rp.same s89) rp' nL5
          have s95 : Same H9 (upd H9 L5 (.lst [v, v'])) := same_new nL5
          refine ⟨.ref L5, [r, r], as5, rfl, rp5, ⟨sr, sr, trivial⟩, by simp only [wtAll]; omega, by simp only [depAll]; omega, ?_⟩
          have s5A := (s57.trans s78).trans (s89.trans s95)
          refine ⟨_, rfl, _, rfl, n, x2, dd, bs, rfl, rd.same s5A, by omega, n1, n2, fun r3 v3 cs3 HB i3 sAB rp3 sr3 wr3 dr3 => ?_⟩
          obtain rfl := i1.det i3
          refine ⟨by show 1 ≤ sizeLine; decide, fun L6 nL6 => ?_⟩
          have sB6 : Same HB (upd HB L6 (.lst [v3])) := same_new nL6
          refine ⟨L6, 2, [v3], rfl, rfl, upd_same, by decide, by decide, by show 2 ≤ sizeLine; decide, fun L7 nL7 => ?_⟩
          obtain ⟨as7, rp7⟩ := rep_pair (rp3.same sB6) (rp3.same sB6) nL7
          have s67 : Same (upd HB L6 (.lst [v3])) (upd (upd HB L6 (.lst [v3])) L7 (.lst [v3, v3])) := same_new nL7
          refine ⟨.ref L7, [r, r], as7, rfl, rp7, ⟨sr, sr, trivial⟩, by simp only [wtAll]; omega, by simp only [depAll]; omega, ?_⟩
          refine ⟨rfl, _, rfl, ?_⟩
          rw [same_str rfl]
          exact iteF ⟨⟨_, _, _, _, rfl⟩, s5A.trans (sAB.trans (sB6.trans s67))⟩
      · rintro σ H6 ⟨⟨s6, s7, s8, s9, rfl⟩, s56⟩
        refine ⟨_, rfl, .ref L, ds, _, rfl, rL.same s56, sm, by omega, by omega, ?_⟩
        refine ⟨_, rfl, rfl, _, rfl, ?_⟩
        rw [same_str rfl]
        exact iteF ⟨⟨_, _, _, _, _, _, _, _, _, rfl⟩, D5.same s56⟩
  · rintro σ H2 ⟨⟨t2, t3, t4, t5, t6, t7, t8, t9, t10, rfl⟩, D2⟩
    exact k H2
end
end Sw
namespace Sw
open PySem PySem.Spec PyProof.Rows L2 PySem.W
theorem good_mk {K : Frag} {C : Addr} {nm q n : Str} {N : Addr} {bs bm : List Value} {hd : Bool} {sn : List Str} {sub : List Value} {ab : Bool} {col : Option Bool} {dd : Option Addr} {m0 m1 m2 m3 m5 : Option Value} {nw : String}
    (xL : K.lookup C = some (excClassObj nm q C N bs bm hd sn sub ab col dd m0 m1 m2 m3 m5 nw)) (e : exN nm = n) (len : n.length ≤ 60)
    (rp : findIn K (.ref C) "__repr__" = some (some (.builtin "BaseException.__repr__"))) (sb : subIn K (.ref C) (.type "BaseException") = some true) (ga : findIn K (.ref C) "__getattribute__" = some (some (.builtin "BaseException.__getattribute__")))
    (gt : findIn K (.ref C) "__getattr__" = some none) (ca : findIn K (.ref C) "__class__" = some (some (.builtin "object.__class__"))) (cn : specialIn K (.builtin "object.__class__") "__get__" = some (some (.builtin "getset_descriptor.__get__")))
    (ct : takesIn K (.builtin "object.__class__") = some true) (mo : mroIn K C (.type "object") = some true) (ni : subIn K (.ref C) (.type "int") = some false) (nb : subIn K (.ref C) (.type "bool") = some false) (nt : subIn K (.ref C) (.type "tuple") = some false)
    (ns : subIn K (.ref C) (.type "str") = some false) (nl : subIn K (.ref C) (.type "list") = some false) (nd : subIn K (.ref C) (.type "dict") = some false) : XGood K C n := by
  have h : ∃ cd, clsIn K C = some cd ∧ cd.name = nm := by
    unfold clsIn
    rw [xL]
    exact ⟨_, rfl, rfl⟩
  obtain ⟨cd, h1, h2⟩ := h
  rw [← h2] at e
  exact ⟨⟨cd, h1, e⟩, len, rp, sb, ga, gt, ca, cn, ct, mo, ni, nb, nt, ns, nl, nd⟩
theorem init_mk {K : Frag} {C fI : Addr} {msg fld prm file qual : Str} {j : Nat} {p0 p1 p2 p3 p4 p5 p6 p7 p8 p9 : Pos} {params : Arguments} {dV kV doc pm ct oc ccl cl : Value} {an od cdd cld : Option Addr} {osl ccs csl : Array (Option Value)} {cc cda : Addr} {vs : Array Value} {tf : Tok} {ar : Arg}
    (l : K.lookup fI = some ⟨oc, od, .func (ksFn "__init__" qual params (initBody msg fld prm j p0 p1 p2 p3 p4 p5 p6 p7 p8 p9) (initScope prm) dV kV doc pm an (.ref cda) ct cc), osl⟩)
    (c : codeIn K (.ref cda) qual = true) (lc : K.lookup cda = some ⟨ccl, cdd, .fields vs, ccs⟩) (hv : vs[2]? = some (.str file tf)) (lcc : K.lookup cc = some ⟨cl, cld, .cell (some (.ref C)), csl⟩) (hl : (p2.endLine == p4.line) = true)
    (ha : (params.posonlyargs ++ params.args).head? = some ar) (har : ar.arg = "self")
    (hb : ∀ a u : Value, bindArgs (ksFn "__init__" qual params (initBody msg fld prm j p0 p1 p2 p3 p4 p5 p6 p7 p8 p9) (initScope prm) dV kV doc pm an (.ref cda) ct cc) ⟨[a, u], []⟩ = pure [(("self" : Str), a), (prm, u)])
    (pn : ¬ prm = "self") (pc : ¬ prm = "__class__") (ps : ¬ prm = "super") (pd : (prm == ("__debug__" : Str)) = false) (su : ks_superIn K C C "__init__" = some (some (.builtin "ValueError.__init__"))) (sub : subIn K (.ref C) (.type "ValueError") = some true)
    (self : mroIn K C (.ref C) = some true) (nf : findIn K (.ref C) fld = some none) (ty : typeIn K (.ref fI) = some (.type "function")) (fi : findIn K (.ref C) "__init__" = some (some (.ref fI))) : XInit K C fI msg fld prm file :=
  ⟨⟨qual, j, p0, p1, p2, p3, p4, p5, p6, p7, p8, p9, params, dV, kV, doc, pm, ct, oc, ccl, cl, an, od, cdd, cld, osl, ccs, csl, cc, cda, vs, tf, ar, l, c, lc, hv, lcc, hl, ha, har, hb⟩, pn, pc, ps, pd, su, sub, self, nf, ty, fi⟩
end Sw
namespace Sw
open PySem PySem.Spec PyProof.Rows L2 PySem.W
section
variable {P : Program} {w : World} {K : Frag} {mg : Str → Option Value} {h : Heap}
theorem xe_mk {C fI : Addr} {x msg fld file nm q : Str} {N : Addr} {bs bm : List Value} {sn : List Str} {sub : List Value} {ab : Bool} {col : Option Bool} {dd : Option Addr} {m0 m1 m2 m3 m5 : Option Value} (X : K.In h) (G : h.Ns mainGlobals mg)
    (F : XInit K C fI msg fld fld file) (aC : nsIn K mainGlobals x = some (some (.ref C))) (xL : K.lookup C = some (excClassObj nm q C N bs bm true sn sub ab col dd m0 m1 m2 m3 m5 "ValueError.__new__")) (hbm : PySem.HandSPX.refsVE bm = true)
    (sa : findIn K (.ref C) "__setattr__" = some (some (.builtin "object.__setattr__"))) (opq : nsIn K cStatics "thirdparty.any" = some none) (kp : keepIn K (.ref C) = true)
    (hf : ((P.main.file : Str) == file) = true) (ht : (P.main.scope.names.lookup ("super" : Str)).isSome = false) (g : XGood K C x) : XE P K mg x msg fld :=
  ⟨⟨C, fI, file, ⟨⟨nm, q, N, bs, bm, sn, sub, ab, col, dd, m0, m1, m2, m3, m5, xL, hbm⟩, sa, opq, kp⟩, F, mg_of X G aC, hf, ht, g⟩⟩
theorem xu_mk {C : Addr} {x : Str} (X : K.In h) (G : h.Ns mainGlobals mg) (a : nsIn K mainGlobals x = some (some (.ref C))) (e : excIn K C [.type "ValueError", .type "Exception", .type "BaseException", .type "object"] "ValueError.__new__" = true) (k : keepIn K (.ref C) = true) (g : XGood K C x) : XU K mg x :=
  ⟨⟨C, _, "ValueError", _, _, PySem.F.excBase_ValueError, e, k, mg_of X G a, g⟩⟩
/-- the program's standing_error is E -/
theorem run_allS {base : Heap} {fa a : Addr} {s₁ : Shared} {H : Hp} {ns : List Int} (B : NoNames mg) (EU : XU K mg "Unfit") (ES : XE P K mg "BadStanding" "the value is no standing" "error") (E : OwnS P w K mg base 4)
    (hDeck : Has K mg "_law_deck" sDeck) (hDraw : Has K mg "_law_draw" sDraw) (hPick : Has K mg "_law_pick" sPick) (hMixed : Has K mg "_law_mixed" sMixed) (hWhole : Has K mg "_law_is_whole" sWhole)
    (hDue : Has K mg "_law_due" sDueS) (hSpoilt : Has K mg "_law_spoilt" sSpoiltS) (hLaw : Has K mg "law" sLawS) (hfa : mg "law" = some (.ref fa))
    (ev : Env0 P w K mg base callerA [] s₁ H) (sq : SqL K H a (ns.map V.int)) (hlen : ns.length ≤ 63) :
    codeAny (model P w) callerA (.call (.ref fa) ⟨[.ref a], []⟩) (CR CX0 [] P w H s₁ (fun v _ => v = .bl true) fun _ _ _ => False) s₁ := by
  obtain ⟨f, fd, F, m⟩ := hLaw
  have e := hfa.symm.trans m
  cases e
  have L1 : Own P w K mg base 1 "_law_deck" ["script"] (spDeck K) := hDeck.own (fun f fd F => ok_deck F B) fun _ _ _ _ _ _ us hl => match us, hl with | [_], _ => rfl
  have L2 : Own P w K mg base 1 "_law_draw" ["deck", "many"] spDraw := hDraw.own (fun f fd F => ok_draw F B) fun _ _ _ _ _ _ us hl => match us, hl with | [_, _], _ => rfl
  have L3 : Own P w K mg base 2 "_law_pick" ["deck", "items"] spPick := hPick.own (fun f fd F => ok_pick F B L2) fun _ _ _ _ _ _ us hl => match us, hl with | [_, _], _ => rfl
  have L4 : Own P w K mg base 2 "_law_mixed" ["deck", "items"] spMixed := hMixed.own (fun f fd F => ok_mixed F B L2) fun _ _ _ _ _ _ us hl => match us, hl with | [_, _], _ => rfl
  have L6 : Own P w K mg base 1 "_law_is_whole" ["value", "low", "high"] (spBetween K) := hWhole.own (fun f fd F => ok_whole F B) fun _ _ _ _ _ _ us hl => match us, hl with | [_, _, _], _ => rfl
  have L8 : Own P w K mg base 2 "_law_due" ["n", "value"] (spSt K) := hDue.own (fun f fd F => ok_dueS F B L6) fun _ _ _ _ _ _ us hl => match us, hl with | [_, _], _ => rfl
  have L10 : Own P w K mg base 3 "_law_spoilt" ["deck", "n", "standing"] (spSpoiltS K) := hSpoilt.own (fun f fd F => ok_spoiltS F B EU ES L2 L3) fun _ _ _ _ _ _ us hl => match us, hl with | [_, _, _], _ => rfl
  have rm : Room 5 callerA := ⟨rfl, by decide, by decide⟩
  refine run_def (us := [.ref a]) (vs := [.ref a]) (Q := fun v _ => v = .bl true) (E := fun _ _ _ => False) F scLawS rm ev (F.binds (ps := ["script"]) (fun _ _ _ _ _ _ us hl => match us, hl with | [_], _ => rfl) s₁ [.ref a] ?_ rfl) (.cons rfl .nil) rfl fun cdv => ?_
  · exact ev.mod.kin.keeps fun b o z => (ev.bs b o z).1
  · exact law_bodyS (Q := fun v _ => v = .bl true) B L1 L2 L3 L4 L10 E L8 (rm.deeper _) rfl ⟨a, ns, rfl, sq, hlen, fun _ => rfl⟩
/-- standing_error may be called by the words value, n; st the def's statement -/
theorem kb_stand {st : Stmt} {f : Addr} {fd : FuncData} (F : Fun K "standing_error" "standing_error" st f fd)
    (b1 : ∀ (kV doc pm : Value) (an : Option Addr) (cdv ct u v : Value), bindArgs (fnOf "standing_error" "standing_error" (defArgs st) (defBody st) (defScope st) .none kV doc pm an cdv ct) ⟨[], (["value", "n"] : List Str).zip [u, v]⟩ = pure ((["n", "value"] : List Str).zip [v, u]))
    (b2 : ∀ (kV doc pm : Value) (an : Option Addr) (cdv ct u v : Value), bindArgs (fnOf "standing_error" "standing_error" (defArgs st) (defBody st) (defScope st) .none kV doc pm an cdv ct) ⟨[u], (["value", "n"] : List Str).zip [v]⟩ = pure ((["n", "value"] : List Str).zip [u, v]))
    (b3 : ∀ (kV doc pm : Value) (an : Option Addr) (cdv ct u v : Value), bindArgs (fnOf "standing_error" "standing_error" (defArgs st) (defBody st) (defScope st) .none kV doc pm an cdv ct) ⟨[u, v], (["value", "n"] : List Str).zip []⟩ = pure ((["n", "value"] : List Str).zip [u, v])) :
    KBinds K fd ["n", "value"] ["value", "n"] (fun us ws => us ++ ws.reverse) (fun us ws => us ++ ws.reverse) := by
  obtain ⟨oc, od, kV, doc, pm, an, cdv, ct, osl, rfl, lk, hcd⟩ := F.ex
  refine ⟨fun s us ws _ hl => ?_, fun r q => r.append q.reverse⟩
  have hl2 : us.length + ws.length = 2 := by
    rw [List.length_append, List.length_reverse] at hl
    exact hl
  rcases us with _ | ⟨u, _ | ⟨v, _ | ⟨z, us⟩⟩⟩
  · rcases ws with _ | ⟨a, _ | ⟨b, _ | ⟨z, ws⟩⟩⟩
    · cases hl2
    · cases hl2
    · exact .of_eq (b1 kV doc pm an cdv ct a b)
    · simp only [List.length_cons, List.length_nil] at hl2
      omega
  · rcases ws with _ | ⟨a, _ | ⟨z, ws⟩⟩
    · cases hl2
    · exact .of_eq (b2 kV doc pm an cdv ct u a)
    · simp only [List.length_cons, List.length_nil] at hl2
      omega
  · rcases ws with _ | ⟨z, ws⟩
    · exact .of_eq (b3 kV doc pm an cdv ct u v)
    · simp only [List.length_cons, List.length_nil] at hl2
      omega
  · simp only [List.length_cons] at hl2
    omega
end
end Sw
namespace Sw
open PySem L2
abbrev sBetween : Stmt := top 1
theorem scBetween : FnScope ["value", "least", "most"] ["value", "least", "most"] (defScope sBetween) := ⟨rfl, rfl, rfl, by decide +kernel, rfl, by decide +kernel, by decide +kernel⟩
section
variable {P : Program} {w : World} {K : PySem.W.Frag} {mg : Str → Option Value} {base : Heap}
theorem ok_between {f : Addr} {fd : FuncData} (F : Fun K "is_integer_between" "is_integer_between" sBetween f fd) (B : NoNames mg) : FnOk P w K mg base CX0 1 f fd ["value", "least", "most"] (spBetween K) := by
  refine F.ok scBetween (fun vs H Q E h => ?_) (fun cdv A outer s H vs Q E hr h => ?_)
  · obtain ⟨x, d, as, lo, hi, rfl, _⟩ := h
    rfl
  · obtain ⟨x, d, as, lo, hi, rfl, hd, k⟩ := h
    refine ⟨_, pss_cons (ps_if (PW.pt (pw_or (pt_val (pe_isi (i := 0) (TN := "bool") rfl (Or.inl rfl) (by decide) (by decide) B.isi B.bool rfl rfl (by decide +kernel) (by decide) (by decide)))
        (pw_or1 (pt_not (pt_val (pe_isi (i := 0) (TN := "int") rfl (Or.inl rfl) (by decide) (by decide) B.isi B.int rfl rfl (by decide +kernel) (by decide) (by decide))))))) (pss_one (ps_ret pe_bl)) pss_nil)
      (pss_one (ps_ret (pe_chain op_le op_le (pv 1) (pv 0) (pv 2)))), ?_⟩
    refine ⟨_, rfl, x, d, as, "bool", rfl, by decide, hd, _, rfl, ?_⟩
    have no : isT "bool" d = true → isWhole lo hi d = false := fun e => by cases d <;> simp_all [isT, isWhole]
    have no2 : isT "bool" d = false → isT "int" d = false → isWhole lo hi d = false := fun e e2 => by cases d <;> simp_all [isT, isWhole]
    have yes : isT "bool" d = false → isT "int" d = true → ∃ i, d = .int i := fun e e2 => by cases d <;> first | exact ⟨_, rfl⟩ | (simp_all [isT])
    cases e1 : isT "bool" d with
    | true =>
      refine iteT (iteT ?_)
      rw [no e1] at k
      exact k
    | false =>
      refine iteF ⟨_, rfl, x, d, as, "int", rfl, by decide, hd, _, rfl, ?_⟩
      cases e2 : isT "int" d with
      | false =>
        refine iteT ?_
        rw [no2 e1 e2] at k
        exact k
      | true =>
        refine iteF ?_
        obtain ⟨i, rfl⟩ := yes e1 e2
        simp only [Rep] at hd
        obtain ⟨rfl, rfl⟩ := hd
        refine ⟨_, rfl, _, rfl, _, _, rfl, rfl, _, rfl, ?_⟩
        refine ite2 (fun z => ?_) (fun z => ?_)
        · refine ⟨_, rfl, _, _, rfl, rfl, ?_⟩
          simp only [isWhole] at k
          rw [z] at k
          exact k
        · simp only [isWhole] at k
          rw [Bool.eq_false_iff.mpr z] at k
          exact k
end
end Sw
namespace Sw
open PySem L2
abbrev sPair : Stmt := top 2
theorem scPair : FnScope ["value"] ["value"] (defScope sPair) := ⟨rfl, rfl, rfl, by decide +kernel, rfl, by decide +kernel, by decide +kernel⟩
section
variable {P : Program} {w : World} {K : PySem.W.Frag} {mg : Str → Option Value} {base : Heap}
theorem ok_pair {f : Addr} {fd : FuncData} (F : Fun K "is_pair" "is_pair" sPair f fd) (B : NoNames mg) : FnOk P w K mg base CX0 1 f fd ["value"] (spPair K) := by
  refine F.ok scPair (fun vs H Q E h => ?_) (fun cdv A outer s H vs Q E hr h => ?_)
  · obtain ⟨x, d, as, rfl, _⟩ := h
    rfl
  · obtain ⟨x, d, as, rfl, hd, k⟩ := h
    refine ⟨_, pss_one (ps_ret (pe_and (pe_isi (i := 0) (TN := "tuple") rfl (Or.inl rfl) (by decide) (by decide) B.isi B.tuple rfl rfl (by decide +kernel) (by decide) (by decide))
      (pe_one (pe_cmpR op_eq (pe_callB call_len_seq (by rfl) B.len PySem.boot_len (pa_cons (pv 0) pa_nil)) pe_int (nomark _))))), ?_⟩
    refine ⟨_, rfl, x, d, as, "tuple", rfl, by decide, hd, _, rfl, ?_⟩
    have no : isT "tuple" d = false → isPair d = false := fun e => by cases d <;> simp_all [isT, isPair]
    have yes : isT "tuple" d = true → ∃ ds, d = .tup ds := fun e => by cases d <;> first | exact ⟨_, rfl⟩ | (simp_all [isT])
    cases e : isT "tuple" d with
    | false =>
      refine iteF ?_
      rw [no e] at k
      exact k
    | true =>
      refine iteT ?_
      obtain ⟨ds, rfl⟩ := yes e
      simp only [Rep] at hd
      obtain ⟨a, xs, bs, rfl, ha, ra, na, rfl⟩ := hd
      refine ⟨_, rfl, a, xs, rfl, .inr (SqT.of ha), rfl, ?_⟩
      have hl := ra.len
      have ep : isPair (.tup ds) = decide (V.int (xs.length : Int) = V.int 2) := by
        match ds, hl with
        | [], hl => rw [hl]; rfl
        | [_], hl => rw [hl]; rfl
        | [_, _], hl => rw [hl]; rfl
        | _ :: _ :: _ :: r, hl =>
          rw [hl]
          show false = _
          refine (decide_eq_false fun z => ?_).symm
          have z2 : ((_ : Nat) : Int) = 2 := V.int.inj z
          simp only [List.length_cons] at z2
          omega
      rw [ep] at k
      exact k
end
end Sw
namespace Sw
open PySem L2
/-! ### is_stop -/
abbrev sStop : Stmt := top 8
theorem scStop : FnScope ["n", "value"] ["n", "value"] (defScope sStop) := ⟨rfl, rfl, rfl, by decide +kernel, rfl, by decide +kernel, by decide +kernel⟩
section
variable {P : Program} {w : World} {K : PySem.W.Frag} {mg : Str → Option Value} {base : Heap}
def isStop (n : Int) (d : D) : Bool := isWhole 0 (n - 1) d
def spStop (K : PySem.W.Frag) : Sp := fun vs H Q _ => ∃ (x : V) (d : D) (as : List Addr) (n : Int), vs = [.int n, x] ∧ Rep K H d x as ∧ Q (.bl (isStop n d)) H
theorem ok_stop {f : Addr} {fd : FuncData} (F : Fun K "is_stop" "is_stop" sStop f fd) (O : Own P w K mg base 1 "is_integer_between" ["value", "least", "most"] (spBetween K)) : FnOk P w K mg base CX0 2 f fd ["n", "value"] (spStop K) := by
  obtain ⟨fB, fdB, GB, mB, kB, bB⟩ := O.ex
  refine F.ok scStop (fun vs H Q E h => ?_) (fun cdv A outer s H vs Q E hr h => ?_)
  · obtain ⟨x, d, as, n, rfl, _⟩ := h
    rfl
  · obtain ⟨x, d, as, n, rfl, hd, k⟩ := h
    refine ⟨_, pss_one (ps_ret (pe_call GB hr rfl mB kB bB .nil pass0 (pa_cons (pv 1) (pa_cons pe_int (pa_cons (pe_op op_sub (pv 0) pe_int) pa_nil))))), ?_⟩
    exact ⟨_, rfl, _, rfl, _, _, rfl, rfl, x, d, as, 0, n - 1, rfl, hd, k⟩
end
end Sw
namespace Sw
open PySem L2
abbrev sStForm : Stmt := top 11
abbrev nStForm : List Str := ["n", "value", "row"]
theorem scStForm : FnScope nStForm ["n", "value"] (defScope sStForm) := ⟨rfl, rfl, rfl, by decide +kernel, rfl, by decide +kernel, by decide +kernel⟩
abbrev sStand : Stmt := top 10
abbrev nStand : List Str := ["n", "value", "row", "stop", "place", "thing"]
theorem scStand : FnScope nStand ["n", "value"] (defScope sStand) := ⟨rfl, rfl, rfl, by decide +kernel, rfl, by decide +kernel, by decide +kernel⟩
section
variable {P : Program} {w : World} {K : PySem.W.Frag} {mg : Str → Option Value} {base : Heap}
def spStForm (K : PySem.W.Frag) : Sp := fun vs H Q _ => ∃ (n : Int) (x : V) (d : D) (as : List Addr), vs = [.int n, x] ∧ Rep K H d x as ∧ Q (.bl (rowOf n d).isSome) H
theorem ok_stForm {f : Addr} {fd : FuncData} (F : Fun K "has_standing_form" "has_standing_form" sStForm f fd) (B : NoNames mg) (O1 : Own P w K mg base 1 "is_pair" ["value"] (spPair K)) : FnOk P w K mg base CX0 2 f fd ["n", "value"] (spStForm K) := by
  obtain ⟨fP, fdP, GP, mP, kP, bP⟩ := O1.ex
  refine F.ok scStForm (fun vs H Q E h => ?_) (fun cdv A outer s H vs Q E hr h => ?_)
  · obtain ⟨n, x, d, as, rfl, _⟩ := h
    rfl
  · obtain ⟨n, x, d, as, rfl, hd, k⟩ := h
    refine ⟨_, pss_cons (ps_if (pt_not (pt_val (pe_call GP hr rfl mP kP bP .nil pass0 (pa_cons (pv 1) pa_nil)))) (pss_one (ps_ret pe_bl)) pss_nil) <|
      pss_cons (ps_set (i := 2) scStForm.nd rfl (.inl rfl) (pe_ix ix_tup (pv 1) pe_int (fun _ _ => rfl))) <|
      pss_one (ps_ret (pe_and (pe_isi (i := 2) (TN := "tuple") rfl (Or.inl rfl) (by decide) (by decide) B.isi B.tuple rfl rfl (by decide +kernel) (by decide) (by decide))
        (pe_one (pe_cmpR op_eq (pe_callB call_len_seq (by rfl) B.len PySem.boot_len (pa_cons (pv 2) pa_nil)) (pe_op op_add (pv 0) pe_int) (nomark _))))), ?_⟩
    refine ⟨_, rfl, x, d, as, rfl, hd, _, rfl, ?_⟩
    cases e : isPair d with
    | false =>
      refine iteT ?_
      rw [row_pair e] at k
      exact k
    | true =>
      refine iteF ?_
      obtain ⟨a1, b1, rfl⟩ := two_of e
      simp only [Rep, RepAll] at hd
      obtain ⟨p, xs, bs, rfl, hp, ⟨y, r, c1, c2, rfl, ha1, ⟨z, r2, d1, d2, rfl, hb1, ⟨rfl, rfl⟩, rfl⟩, rfl⟩, nap, rfl⟩ := hd
      refine ⟨_, rfl, p, _, 0, y, rfl, rfl, SqT.of hp, at_of (j := 0) rfl rfl, ?_⟩
      refine ⟨_, rfl, y, a1, c1, "tuple", rfl, by decide, ha1, _, rfl, ?_⟩
      cases e1 : isT "tuple" a1 with
      | false =>
        refine iteF ?_
        rw [row_no e1] at k
        exact k
      | true =>
        refine iteT ?_
        obtain ⟨ds, rfl⟩ := tup_of e1
        simp only [Rep] at ha1
        obtain ⟨a, ys, cs, rfl, ha, hds, na, rfl⟩ := ha1
        refine ⟨_, rfl, a, ys, rfl, .inr (SqT.of ha), _, rfl, _, _, rfl, rfl, rfl, ?_⟩
        have : (rowOf n (.tup [.tup ds, b1])).isSome = decide (V.int (ys.length : Int) = V.int (n + 1)) := by
          rw [row_len, hds.len]
          by_cases el : (ds.length : Int) = n + 1
          · rw [if_pos el, el, decide_eq_true rfl]
            rfl
          · rw [if_neg el, decide_eq_false (fun q => el (V.int.inj q))]
            rfl
        rw [this] at k
        exact k
theorem row_some {n : Int} {d : D} (h : (rowOf n d).isSome = true) : ∃ ds s, d = .tup [.tup ds, s] ∧ rowOf n d = some (ds, s) := by
  unfold rowOf at h ⊢
  split at h
  · rename_i ds s
    split at h
    · rename_i e
      exact ⟨ds, s, rfl, by rw [if_pos e]⟩
    · cases h
  · cases h
theorem ok_stand {f : Addr} {fd : FuncData} (F : Fun K "standing_error" "standing_error" sStand f fd) (B : NoNames mg) (O1 : Own P w K mg base 2 "has_standing_form" ["n", "value"] (spStForm K)) (O : Own P w K mg base 1 "is_integer_between" ["value", "least", "most"] (spBetween K))
    (O2 : Own P w K mg base 2 "is_stop" ["n", "value"] (spStop K)) : FnOk P w K mg base CX0 3 f fd ["n", "value"] (spSt K) := by
  obtain ⟨fP, fdP, GP, mP, kP, bP⟩ := O1.ex
  obtain ⟨fS, fdS, GS, mS, kS, bS⟩ := O.ex
  obtain ⟨fT, fdT, GT, mT, kT, bT⟩ := O2.ex
  refine F.ok scStand (fun vs H Q E h => ?_) (fun cdv A outer s H vs Q E hr h => ?_)
  · obtain ⟨n, x, d, as, rfl, _⟩ := h
    rfl
  · obtain ⟨n, x, d, as, rfl, hd, hw, n1, n2, k⟩ := h
    have hr1 : Room 1 _ := hr.mono (by decide)
    refine ⟨_, pss_cons (ps_if (pt_not (pt_val (pe_call GP hr rfl mP kP bP .nil pass0 (pa_cons (pv 0) (pa_cons (pv 1) pa_nil))))) (pss_one (ps_ret pe_str)) pss_nil) <|
      pss_cons (ps_asg (pv 1) (pg_tup (by rfl) (pgs_cons (pg_name (i := 2) scStand.nd rfl (.inl rfl)) (pgs_cons (pg_name (i := 3) scStand.nd rfl (.inl rfl)) pgs_nil)))) <|
      pss_cons (ps_for PassesOwn.never rfl (pi_enumT (by rfl) B.enumerate (pa_cons (pv 2) pa_nil)) (pg_tup rfl (pgs_cons (pg_name (i := 4) scStand.nd rfl (.inl rfl)) (pgs_cons (pg_name (i := 5) scStand.nd rfl (.inl rfl)) pgs_nil)))
        (pss_one (ps_if (pt_not (pt_val (pe_call GS hr1 rfl mS kS bS .nil pass0 (pa_cons (pv 5) (pa_cons pe_int (pa_cons (pv 0) pa_nil)))))) (pss_one (ps_ret (pe_tup (pa_cons pe_str (pa_cons (pv 4) pa_nil))))) pss_nil))) <|
      pss_cons (ps_for PassesOwn.never rfl (pi_enumT (by rfl) B.enumerate (pa_cons (pv 2) pa_nil)) (pg_tup rfl (pgs_cons (pg_name (i := 4) scStand.nd rfl (.inl rfl)) (pgs_cons (pg_name (i := 5) scStand.nd rfl (.inl rfl)) pgs_nil)))
        (pss_one (ps_if (pt_cmpR op_in_seq (pv 5) (pe_slice sl_tup (pv 2) po_none (po_some (pv 4))) (by with_unfolding_all rfl)) (pss_one (ps_ret (pe_tup (pa_cons pe_str (pa_cons (pv 4) pa_nil))))) pss_nil))) <|
      pss_cons (ps_if (pt_not (pt_val (pe_call GT hr rfl mT kT bT .nil pass0 (pa_cons (pv 0) (pa_cons (pv 3) pa_nil))))) (pss_one (ps_ret pe_str)) pss_nil) <|
      pss_one (ps_ret pe_non), ?_⟩
    have kform : rowOf n d = none → Q (.str "form") H := fun hf => by
      obtain ⟨q1, q2, q3, q4⟩ := err_str (K := K) (H := H) (z := "form") (by decide +kernel)
      exact k _ _ _ H (.form hf) (Same.refl H) q1 q2 q3 q4
    refine ⟨_, rfl, _, rfl, n, x, d, as, rfl, hd, _, rfl, ?_⟩
    cases e : (rowOf n d).isSome with
    | false =>
      refine iteT ?_
      exact kform (by cases q : rowOf n d with | none => rfl | some z => rw [q] at e; cases e)
    | true =>
      refine iteF ?_
      obtain ⟨ds, b1, rfl, hf⟩ := row_some e
      simp only [Rep, RepAll] at hd
      obtain ⟨p, xs, bs, rfl, hp, ⟨y, r, c1, c2, rfl, ⟨a, ys, cs, rfl, ha, hds, na, rfl⟩, ⟨z, r2, d1, d2, rfl, hb1, ⟨rfl, rfl⟩, rfl⟩, rfl⟩, nap, rfl⟩ := hd
      have hl := hds.len
      have hsz : ys.length ≤ sizeLine := by
        simp only [wt, wtAll] at hw
        have h2 := wt_len ds
        rw [hl, sizeLine_eq]
        omega
      refine ⟨_, rfl, p, _, rfl, SqT.of hp, rfl, _, _, rfl, _, [], rfl, rfl, ?_⟩
      refine ⟨_, rfl, a, ys, rfl, SqT.of ha, for_it walk_te (fun i σ H' => (∃ s3 s4, σ = [some (.int n), some (.ref p), some (.ref a), some z, s3, s4]) ∧ Same H H' ∧ ∀ (j : Nat) (y : D), j < i → ds[j]? = some y → isWhole 0 n y = true)
        ⟨⟨_, _, rfl⟩, Same.refl H, fun j y h => absurd h (Nat.not_lt_zero _)⟩ (fun i σ H' _ h => SqT.of (h.2.1 _ _ ha)) ?_ ?_⟩
      · rintro i x σ1 H1 H2 hi ⟨⟨s3, s4, rfl⟩, s1, q⟩ ⟨T, x1, x2, rfl, nT, rfl, e1, e2⟩
        obtain rfl : V.int (i : Nat) = x1 := Option.some.inj e1
        refine ⟨T, [.int (i : Nat), x2], rfl, .inl (.inl upd_same), rfl, _, [x2], rfl, x2, [], rfl, rfl, ?_⟩
        have s2 : Same H (upd H1 T (.tup [.int (i : Nat), x2])) := s1.trans (same_new nT)
        obtain ⟨d2, b2, hd2, hr2, _⟩ := hds.at2 e2
        refine ⟨_, rfl, _, rfl, x2, d2, b2, 0, n, rfl, hr2.same s2, _, rfl, ?_⟩
        cases ea : isWhole 0 n d2 with
        | true =>
          refine iteF ⟨⟨_, _, rfl⟩, s2, fun j y hj hy => ?_⟩
          rcases Nat.lt_succ_iff_lt_or_eq.mp hj with z | z
          · exact q j y z hy
          · subst z
            rw [hd2] at hy
            cases hy
            exact ea
        | false =>
          refine iteT ⟨_, rfl, by show 2 ≤ sizeLine; decide, fun p2 np2 => ?_⟩
          obtain ⟨q1, q2, q3, q4⟩ := err_pair (K := K) (z := "thing") (i := i) (by decide +kernel) (Nat.le_trans (Nat.le_of_lt hi) hsz) np2
          exact k _ _ _ _ (.thing hf hd2 ea q) (s2.trans (same_new np2)) q1 q2 q3 q4
      · rintro σ H1 ⟨⟨s3, s4, rfl⟩, s1, q⟩
        have qa : ∀ (j : Nat) (y : D), ds[j]? = some y → isWhole 0 n y = true := fun j y hy => q j y (by rw [hl]; exact (List.getElem?_eq_some_iff.mp hy).1) hy
        refine ⟨_, rfl, a, ys, rfl, SqT.of (s1 _ _ ha), for_it walk_te (fun i σ H' => (∃ s3 s4, σ = [some (.int n), some (.ref p), some (.ref a), some z, s3, s4]) ∧ Same H H' ∧ ∀ j, j < i → ¬ Twice ds j)
          ⟨⟨_, _, rfl⟩, s1, fun j h => absurd h (Nat.not_lt_zero _)⟩ (fun i σ H' _ h => SqT.of (h.2.1 _ _ ha)) ?_ ?_⟩
        · rintro i x σ2 H2 H3 hi ⟨⟨s3, s4, rfl⟩, s1, ql⟩ ⟨T, x1, x2, rfl, nT, rfl, e1, e2⟩
          obtain rfl : V.int (i : Nat) = x1 := Option.some.inj e1
          refine ⟨T, [.int (i : Nat), x2], rfl, .inl (.inl upd_same), rfl, _, [x2], rfl, x2, [], rfl, rfl, ?_⟩
          have s2 : Same H (upd H2 T (.tup [.int (i : Nat), x2])) := s1.trans (same_new nT)
          obtain ⟨d2, b2, hd2, hr2, _⟩ := hds.at2 e2
          obtain ⟨v, rfl⟩ := whole_int (qa i d2 hd2)
          simp only [Rep] at hr2
          obtain ⟨rfl, rfl⟩ := hr2
          obtain ⟨fl, iff⟩ := in_cut hds qa hd2
          refine ⟨_, rfl, _, rfl, _, rfl, (i : Int), rfl, a, ys, rfl, SqT.of (s2 _ _ ha), ?_, fun c nc => ?_⟩
          · rintro ⟨_, h2⟩
            rw [HT.sIx_nat] at h2
            omega
          have s3 := s2.trans (same_new (o := .tup (cutV ys none (some (i : Int)))) nc)
          refine ⟨c, _, rfl, .inr (SqT.of upd_same), rfl, fl, _, rfl, ?_⟩
          cases ei : inV (.int v) (cutV ys none (some (i : Int))) with
          | true =>
            refine iteT ⟨_, rfl, by show 2 ≤ sizeLine; decide, fun p2 np2 => ?_⟩
            obtain ⟨q1, q2, q3, q4⟩ := err_pair (K := K) (z := "twice") (i := i) (by decide +kernel) (Nat.le_trans (Nat.le_of_lt hi) hsz) np2
            exact k _ _ _ _ (.twice hf qa (iff.mp ei) ql) (s3.trans (same_new np2)) q1 q2 q3 q4
          | false =>
            refine iteF ⟨⟨_, _, rfl⟩, s3, fun j hj hb => ?_⟩
            rcases Nat.lt_succ_iff_lt_or_eq.mp hj with z | z
            · exact ql j z hb
            · subst z
              rw [iff.mpr hb] at ei
              cases ei
        · rintro σ2 H2 ⟨⟨s3, s4, rfl⟩, s2, ql⟩
          have no : ∀ j, ¬ Twice ds j := fun j hb => by
            obtain ⟨v, _, h1, _⟩ := id hb
            exact ql j (by rw [hl]; exact (List.getElem?_eq_some_iff.mp h1).1) hb
          refine ⟨_, rfl, _, rfl, z, b1, d1, n, rfl, hb1.same s2, _, rfl, ?_⟩
          cases es : isStop n b1 with
          | true => exact iteF (k .non .non [] H2 (.fine hf qa no es) s2 (by simp [Rep]) (by simp only [small]) (by simp only [wt]; decide) (by simp only [dep]; decide))
          | false =>
            obtain ⟨q1, q2, q3, q4⟩ := err_str (K := K) (H := H2) (z := "stop") (by decide +kernel)
            exact iteT (k _ _ _ H2 (.stop hf qa no es) s2 q1 q2 q3 q4)
end
end Sw
namespace Sw
open PySem PySem.Spec PyProof.Rows L2 PySem.W
theorem run_k03 {P : Program} {w : World} {K : Frag} {mg : Str → Option Value} {base : Heap} {fa a : Addr} {s₁ : Shared} {H : Hp} {ns : List Int} (B : NoNames mg) (EU : XU K mg "Unfit") (ES : XE P K mg "BadStanding" "the value is no standing" "error")
    (hBetween : Has K mg "is_integer_between" sBetween) (hPair : Has K mg "is_pair" sPair) (hStop : Has K mg "is_stop" sStop) (hForm : Has K mg "has_standing_form" sStForm) (hStand : Has K mg "standing_error" sStand)
    (hDeck : Has K mg "_law_deck" sDeck) (hDraw : Has K mg "_law_draw" sDraw) (hPick : Has K mg "_law_pick" sPick) (hMixed : Has K mg "_law_mixed" sMixed) (hWhole : Has K mg "_law_is_whole" sWhole)
    (hDue : Has K mg "_law_due" sDueS) (hSpoilt : Has K mg "_law_spoilt" sSpoiltS) (hLaw : Has K mg "law" sLawS) (hfa : mg "law" = some (.ref fa))
    (ev : Env0 P w K mg base callerA [] s₁ H) (sq : SqL K H a (ns.map V.int)) (hlen : ns.length ≤ 63) :
    codeAny (model P w) callerA (.call (.ref fa) ⟨[.ref a], []⟩) (CR CX0 [] P w H s₁ (fun v _ => v = .bl true) fun _ _ _ => False) s₁ := by
  obtain ⟨fE, fdE, FE, mE⟩ := hStand
  have O1 : Own P w K mg base 1 "is_integer_between" ["value", "least", "most"] (spBetween K) := hBetween.own (fun f fd F => ok_between F B) fun _ _ _ _ _ _ us hl => match us, hl with | [_, _, _], _ => rfl
  have O2 : Own P w K mg base 1 "is_pair" ["value"] (spPair K) := hPair.own (fun f fd F => ok_pair F B) fun _ _ _ _ _ _ us hl => match us, hl with | [_], _ => rfl
  have O3 : Own P w K mg base 2 "is_stop" ["n", "value"] (spStop K) := hStop.own (fun f fd F => ok_stop F O1) fun _ _ _ _ _ _ us hl => match us, hl with | [_, _], _ => rfl
  have O4 : Own P w K mg base 2 "has_standing_form" ["n", "value"] (spStForm K) := hForm.own (fun f fd F => ok_stForm F B O2) fun _ _ _ _ _ _ us hl => match us, hl with | [_, _], _ => rfl
  exact run_allS B EU ES ⟨fE, fdE, (ok_stand FE B O4 O1 O3).mono (by decide), mE, FE.kp, FE.binds fun _ _ _ _ _ _ us hl => match us, hl with | [_, _], _ => rfl, kb_stand FE (fun _ _ _ _ _ _ _ _ => rfl) (fun _ _ _ _ _ _ _ _ => rfl) fun _ _ _ _ _ _ _ _ => rfl⟩
    hDeck hDraw hPick hMixed hWhole hDue hSpoilt hLaw hfa ev sq hlen
end Sw
open PySem PySem.W PyProof.Rows
set_option maxHeartbeats 0 in
theorem PySem.Challenge.cw_swapstops_k03_what_is_a_standing_holds : PySem.Challenge.rw_swapstops_k03_what_is_a_standing.Holds := by
  w_on; o_law; k_head; (case hw => w_witness2)
  k_fill
  refine Sw.walk_law (l := PySem.Challenge.rw_swapstops_k03_what_is_a_standing) rfl rfl (fun w h Y => PySem.W.kIn_of Y) ?F
  case F =>
    intro w mg fa h KX G hmg base s₁ H a ns ev sq hlen
    refine' Sw.run_k03 ?qz0h ?qz1h ?qz2h ?qz3h ?qz4h ?qz5h ?qz6h ?qz7h ?qz8h ?qz9h ?qz10h ?qz11h ?qz12h ?qz13h ?qz14h ?qz15h hmg ev sq hlen
    case qz0h =>
      refine' ⟨PySem.W.mg_none_of KX G ?zn1, PySem.W.mg_none_of KX G ?zn2, PySem.W.mg_none_of KX G ?zn3, PySem.W.mg_none_of KX G ?zn4, PySem.W.mg_none_of KX G ?zn5, PySem.W.mg_none_of KX G ?zn6, PySem.W.mg_none_of KX G ?zn7, PySem.W.mg_none_of KX G ?zn8, PySem.W.mg_none_of KX G ?zn9, PySem.W.mg_none_of KX G ?zn10, PySem.W.mg_none_of KX G ?zn11, PySem.W.mg_none_of KX G ?zn12, PySem.W.mg_none_of KX G ?zn13, PySem.W.mg_none_of KX G ?zn14, PySem.W.mg_none_of KX G ?zn15⟩
      (case zn1 => k_is); (case zn2 => k_is); (case zn3 => k_is); (case zn4 => k_is); (case zn5 => k_is); (case zn6 => k_is); (case zn7 => k_is); (case zn8 => k_is); (case zn9 => k_is); (case zn10 => k_is); (case zn11 => k_is); (case zn12 => k_is); (case zn13 => k_is); (case zn14 => k_is); (case zn15 => k_is)
    case qz1h =>
      refine' Sw.xu_mk KX G ?uau1 ?ueu1 ?uku1 ?ugu1
      (case uau1 => k_is); (case ueu1 => k_exc); (case uku1 => k_is)
      case ugu1 =>
        refine' Sw.good_mk ?wxu1 ?weu1 ?wlu1 ?wrpu1 ?wsbu1 ?wgau1 ?wgtu1 ?wcau1 ?wcnu1 ?wctu1 ?wmou1 ?wniu1 ?wnbu1 ?wntu1 ?wnsu1 ?wnlu1 ?wndu1
        (case wxu1 => k_is); (case weu1 => decide +kernel); (case wlu1 => decide +kernel)
        (case wrpu1 => k_is); (case wsbu1 => k_is); (case wgau1 => k_is); (case wgtu1 => k_is); (case wcau1 => k_is); (case wcnu1 => k_is); (case wctu1 => k_is); (case wmou1 => k_is); (case wniu1 => k_is); (case wnbu1 => k_is); (case wntu1 => k_is); (case wnsu1 => k_is); (case wnlu1 => k_is); (case wndu1 => k_is)
    case qz2h =>
      refine' Sw.xe_mk KX G ?zFe2 ?zaCe2 ?zxLe2 ?zhbme2 ?zsae2 ?zopqe2 ?zkpe2 ?zhfe2 ?zhte2 ?zge2
      (case zaCe2 => k_is); (case zxLe2 => k_is); (case zhbme2 => decide +kernel); (case zsae2 => k_is); (case zopqe2 => k_is); (case zkpe2 => k_is)
      case zFe2 =>
        refine' Sw.init_mk ?yle2 ?yce2 ?ylce2 ?yhve2 ?ylcce2 ?yhle2 ?yhae2 ?yhare2 ?yhbe2 ?ypne2 ?ypce2 ?ypse2 ?ypde2 ?ysue2 ?ysube2 ?yselfe2 ?ynfe2 ?ytye2 ?yfie2
        (case yfie2 => k_is); (case yle2 => k_is); (case yce2 => k_is); (case ylce2 => k_is); (case yhve2 => rfl); (case ylcce2 => k_is)
        (case yhle2 => rfl); (case yhae2 => rfl); (case yhare2 => rfl); (case yhbe2 => exact fun _ _ => rfl)
        (case ypne2 => decide +kernel); (case ypce2 => decide +kernel); (case ypse2 => decide +kernel); (case ypde2 => decide +kernel)
        (case ysue2 => ks_is); (case ysube2 => k_is); (case yselfe2 => first | rfl | k_is); (case ynfe2 => k_is); (case ytye2 => k_is)
      (case zhfe2 => rfl); (case zhte2 => rfl)
      case zge2 =>
        refine' Sw.good_mk ?wxe2 ?wee2 ?wle2 ?wrpe2 ?wsbe2 ?wgae2 ?wgte2 ?wcae2 ?wcne2 ?wcte2 ?wmoe2 ?wnie2 ?wnbe2 ?wnte2 ?wnse2 ?wnle2 ?wnde2
        (case wxe2 => k_is); (case wee2 => decide +kernel); (case wle2 => decide +kernel)
        (case wrpe2 => k_is); (case wsbe2 => k_is); (case wgae2 => k_is); (case wgte2 => k_is); (case wcae2 => k_is); (case wcne2 => k_is); (case wcte2 => k_is); (case wmoe2 => k_is); (case wnie2 => k_is); (case wnbe2 => k_is); (case wnte2 => k_is); (case wnse2 => k_is); (case wnle2 => k_is); (case wnde2 => k_is)
    case qz3h =>
      refine' Sw.has_mk KX G ?va1 ?vl1 ?vc1 ?vk1
      (case va1 => k_is); (case vl1 => k_is); (case vc1 => k_is); (case vk1 => k_is)
    case qz4h =>
      refine' Sw.has_mk KX G ?va2 ?vl2 ?vc2 ?vk2
      (case va2 => k_is); (case vl2 => k_is); (case vc2 => k_is); (case vk2 => k_is)
    case qz5h =>
      refine' Sw.has_mk KX G ?va3 ?vl3 ?vc3 ?vk3
      (case va3 => k_is); (case vl3 => k_is); (case vc3 => k_is); (case vk3 => k_is)
    case qz6h =>
      refine' Sw.has_mk KX G ?va4 ?vl4 ?vc4 ?vk4
      (case va4 => k_is); (case vl4 => k_is); (case vc4 => k_is); (case vk4 => k_is)
    case qz7h =>
      refine' Sw.has_mk KX G ?va5 ?vl5 ?vc5 ?vk5
      (case va5 => k_is); (case vl5 => k_is); (case vc5 => k_is); (case vk5 => k_is)
    case qz8h =>
      refine' Sw.has_mk KX G ?va6 ?vl6 ?vc6 ?vk6
      (case va6 => k_is); (case vl6 => k_is); (case vc6 => k_is); (case vk6 => k_is)
    case qz9h =>
      refine' Sw.has_mk KX G ?va7 ?vl7 ?vc7 ?vk7
      (case va7 => k_is); (case vl7 => k_is); (case vc7 => k_is); (case vk7 => k_is)
    case qz10h =>
      refine' Sw.has_mk KX G ?va8 ?vl8 ?vc8 ?vk8
      (case va8 => k_is); (case vl8 => k_is); (case vc8 => k_is); (case vk8 => k_is)
    case qz11h =>
      refine' Sw.has_mk KX G ?va9 ?vl9 ?vc9 ?vk9
      (case va9 => k_is); (case vl9 => k_is); (case vc9 => k_is); (case vk9 => k_is)
    case qz12h =>
      refine' Sw.has_mk KX G ?va10 ?vl10 ?vc10 ?vk10
      (case va10 => k_is); (case vl10 => k_is); (case vc10 => k_is); (case vk10 => k_is)
    case qz13h =>
      refine' Sw.has_mk KX G ?va11 ?vl11 ?vc11 ?vk11
      (case va11 => k_is); (case vl11 => k_is); (case vc11 => k_is); (case vk11 => k_is)
    case qz14h =>
      refine' Sw.has_mk KX G ?va12 ?vl12 ?vc12 ?vk12
      (case va12 => k_is); (case vl12 => k_is); (case vc12 => k_is); (case vk12 => k_is)
    case qz15h =>
      refine' Sw.has_mk KX G ?va13 ?vl13 ?vc13 ?vk13
      (case va13 => k_is); (case vl13 => k_is); (case vc13 => k_is); (case vk13 => k_is)
