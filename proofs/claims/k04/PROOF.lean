import PyProof.Rows.All
import Wide.All
import OpenK.AllK
import Wide.FinOn
import KE.KExcSuper
import HandS.ForExc
import HandS.ExcInit
import HandS.ExcValue
import KE.KExcStr
import PyProof.ReprReads
import PyProof.ReprLen
import PyProof.StrHeap
import HandS.Call
import HandS.IsInst
import KE.KExcIs
import HandS.ForMost
import HandS.Walk
import KE.GoesMore
import KE.GoesEnum
import PyProof.Draws
import HandS.TupLe
import KE.KEqSeq
import HandS.TupAny
import HandS.ExcOwn
import HandS.Gcd
import HandS.Conv
import HandS.TryOnly
import KE.KMathGC
import HandS.ExcIs
import HandS.SetFor
import HandS.Ends
import PyProof.NeKinds
import HandS.Wide
import HandS.Style
import HandS.Iter
import PySem.Challenge.RW_swapstops_k04_whole_numbers_of_standings
set_option Elab.async false
set_option linter.all false
set_option maxRecDepth 100000
set_option maxHeartbeats 4000000
namespace Sw
/-! ### numbers of rows -/
def fac : Nat → Nat
  | 0 => 1
  | n + 1 => (n + 1) * fac n
theorem fac_pos : ∀ n, 0 < fac n
  | 0 => Nat.one_pos
  | n + 1 => Nat.mul_pos (Nat.succ_pos n) (fac_pos n)
/-- how many things of r are less than x -/
def less (x : Int) (r : List Int) : Nat := (r.filter fun y => decide (y < x)).length
/-- the number of a row, from the left -/
def rkAcc : Nat → List Int → Nat
  | acc, [] => acc
  | acc, x :: r => rkAcc (acc * (r.length + 1) + less x r) r
def rk : List Int → Nat
  | [] => 0
  | x :: r => less x r * fac r.length + rk r
theorem less_le (x : Int) (r : List Int) : less x r ≤ r.length := List.length_filter_le _ _
theorem rkAcc_eq : ∀ (r : List Int) (acc : Nat), rkAcc acc r = acc * fac r.length + rk r
  | [], acc => by simp [rkAcc, rk, fac]
  | x :: r, acc => by
    rw [rkAcc, rkAcc_eq r, rk]
    simp only [List.length_cons, fac]
    rw [Nat.add_mul, Nat.mul_assoc, Nat.add_assoc]
theorem rk_lt : ∀ r : List Int, rk r < fac r.length
  | [] => Nat.one_pos
  | x :: r => by
    have h := rk_lt r
    have h2 := less_le x r
    have h3 : less x r * fac r.length ≤ r.length * fac r.length := Nat.mul_le_mul_right _ h2
    simp only [rk, List.length_cons, fac, Nat.add_mul, Nat.one_mul]
    omega
/-- a row again: so many things of what is left are less -/
def unrk : List Int → Nat → Nat → List Int
  | _, 0, _ => []
  | left, m + 1, num => left.getD (num / fac m) 0 :: unrk (left.eraseIdx (num / fac m)) m (num % fac m)
/-- in an ascending list a thing stands behind just those that are less -/
theorem asc_at : ∀ {left : List Int} {x : Int} {i : Nat}, left.Pairwise (· < ·) → left[i]? = some x → less x left = i
  | [], x, i, _, h => by simp at h
  | y :: l, x, 0, hp, h => by
    obtain rfl : y = x := by simpa using h
    have h1 := (List.pairwise_cons.mp hp).1
    unfold less
    rw [List.filter_cons_of_neg (by simp), List.length_eq_zero_iff]
    refine List.filter_eq_nil_iff.mpr fun z hz => ?_
    have := h1 z hz
    simp only [decide_eq_true_eq]
    omega
  | y :: l, x, i + 1, hp, h => by
    obtain ⟨h1, h2⟩ := List.pairwise_cons.mp hp
    have h3 : l[i]? = some x := by simpa using h
    have := asc_at h2 h3
    have hy := h1 x (List.mem_of_getElem? h3)
    unfold less at this ⊢
    rw [List.filter_cons_of_pos (by simpa using hy), List.length_cons, this]
theorem less_perm {x : Int} {r s : List Int} (h : r.Perm s) : less x r = less x s := (h.filter _).length_eq
theorem less_self (x : Int) (r : List Int) : less x (x :: r) = less x r := by
  unfold less
  rw [List.filter_cons_of_neg (by simp)]
theorem erase_at : ∀ {l : List Int} {x : Int} {i : Nat}, l.Nodup → l[i]? = some x → l.eraseIdx i = l.erase x
  | [], x, i, _, h => by simp at h
  | y :: l, x, 0, hn, h => by
    obtain rfl : y = x := by simpa using h
    simp
  | y :: l, x, i + 1, hn, h => by
    obtain ⟨h1, h2⟩ := List.nodup_cons.mp hn
    have h3 : l[i]? = some x := by simpa using h
    have ne : ¬ y = x := fun z => h1 (z ▸ List.mem_of_getElem? h3)
    rw [List.eraseIdx_cons_succ, List.erase_cons_tail (by simpa using ne), erase_at h2 h3]
theorem asc_nodup {l : List Int} (h : l.Pairwise (· < ·)) : l.Nodup := List.Pairwise.imp (fun {a b} h => by omega) h
theorem unrk_rk : ∀ (row left : List Int), left.Pairwise (· < ·) → row.Perm left → unrk left row.length (rk row) = row
  | [], left, _, _ => rfl
  | x :: r, left, hp, pm => by
    have hx : x ∈ left := pm.mem_iff.mp (by simp)
    obtain ⟨i, hi, e⟩ := List.getElem_of_mem hx
    have ei : left[i]? = some x := by rw [List.getElem?_eq_getElem hi, e]
    have el : less x r = i := by
      rw [← less_self, less_perm pm]
      exact asc_at hp ei
    have hf := fac_pos r.length
    have hlt := rk_lt r
    have d1 : (i * fac r.length + rk r) / fac r.length = i := by
      rw [Nat.mul_comm, Nat.mul_add_div hf, Nat.div_eq_of_lt hlt, Nat.add_zero]
    have d2 : (i * fac r.length + rk r) % fac r.length = rk r := by
      rw [Nat.mul_comm, Nat.mul_add_mod, Nat.mod_eq_of_lt hlt]
    have pe : r.Perm (left.eraseIdx i) := by
      rw [erase_at (asc_nodup hp) ei]
      have := pm.erase x
      rwa [List.erase_cons_head] at this
    have ae : (left.eraseIdx i).Pairwise (· < ·) := hp.sublist (List.eraseIdx_sublist _ _)
    rw [List.length_cons, unrk, rk, el, d1, d2, unrk_rk r _ ae pe, List.getD_eq_getElem?_getD, ei]
    rfl
/-- by the law: what is left is looked through -/
def lawAcc : Nat → List Int → List Int → Nat
  | acc, _, [] => acc
  | acc, left, x :: r => lawAcc (acc * left.length + left.idxOf x) (left.erase x) r
theorem idx_less {left : List Int} {x : Int} (hp : left.Pairwise (· < ·)) (hx : x ∈ left) : left.idxOf x = less x left := by
  have h := List.idxOf_lt_length_iff.mpr hx
  exact (asc_at hp (by rw [List.getElem?_eq_getElem h, List.getElem_idxOf])).symm
theorem lawAcc_eq : ∀ (row left : List Int) (acc : Nat), left.Pairwise (· < ·) → row.Perm left → lawAcc acc left row = rkAcc acc row
  | [], left, acc, _, _ => rfl
  | x :: r, left, acc, hp, pm => by
    have hx : x ∈ left := pm.mem_iff.mp (by simp)
    have pe := pm.erase x
    rw [List.erase_cons_head] at pe
    rw [lawAcc, rkAcc, lawAcc_eq r _ _ (hp.sublist List.erase_sublist) pe, idx_less hp hx, ← less_perm pm, less_self, ← pm.length_eq, List.length_cons]
end Sw
namespace Sw
open PySem PySem.Spec PyProof.Rows PySem.W
/-- an exception's record -/
abbrev xRec (C : Addr) (d : Option Addr) (t : Addr) : Obj := { cls := .ref C, dict := d, data := .fields #[.ref t, .none, .none, .none, .bool false, .none] }
abbrev xTup (vs : List Value) : Obj := { cls := .type "tuple", data := .seq vs.toArray }
/-- what the written part says of an own exception's class over ValueError -/
structure XCls (K : Frag) (C : Addr) : Prop where
  cls : ∃ nm q N bs bm sn sub ab col dd k0 k1 k2 k3 k5, K.lookup C = some (excClassObj nm q C N bs bm true sn sub ab col dd k0 k1 k2 k3 k5 "ValueError.__new__") ∧ PySem.HandSPX.refsVE bm = true
  sa : findIn K (.ref C) "__setattr__" = some (some (.builtin "object.__setattr__"))
  opq : nsIn K cStatics "thirdparty.any" = some none
  kp : keepIn K (.ref C) = true
section
variable {P : Program} {w : World} {A : Around} {E : Value → Shared → Prop} {h : Heap} {g : Array GenState} {d : Drawn} {t : Nat} {os : OsState} {K : Frag} {C x : Addr}
/-- super().__init__ as it was bound, called: the args are laid anew -/
theorem bound_call (T : XCls K C) (X : K.In h) {u t0 : Addr} {dv : Option Addr} {rest : List Value} {Q : Value → Shared → Prop}
    (hu : h.get? u = some (kxs_mw "ValueError.__init__" x)) (hx : h.get? x = some (xRec C dv t0)) (hz : rest.length ≤ sizeLine)
    (hq : ∀ h' t1, (∀ b o, b ≠ x → h.get? b = some o → h'.get? b = some o) → h.get? t1 = none → t1 ≠ x → h'.get? x = some (xRec C dv t1) → h'.get? t1 = some (xTup rest) → Q .none ⟨h', g, d, t, os⟩) :
    wpAny (model P w) A (call (.ref u) rest) Q E ⟨h, g, d, t, os⟩ := by
  obtain ⟨nm, q, N, bs, bm, sn, sub, ab, col, dd, k0, k1, k2, k3, k5, hC, hbm⟩ := T.cls
  refine wpAny_call (codeAny_of_tree ?_)
  show wpAny _ A.in1 (callAny (.ref u) ⟨rest, []⟩) _ _ _
  simp only [callAny]
  refine wpAny_bind (wpAny_load hu ?_)
  simp only [kxs_mw, show (Value.type "method-wrapper" == Value.type "method" || Value.type "method-wrapper" == Value.type "builtin_function_or_method" || Value.type "method-wrapper" == Value.type "method-wrapper") = true by decide, if_true]
  refine KFB.if_so (by decide) ?_
  refine wpAny_bind (check_bound_init PySem.F.excBase_ValueError.toExcCallFacts (X _ _ hC) hx rfl ?_)
  refine wpAny_bind (wpAny_pure (wpAny_pure ?_))
  refine ⟨plainId_quiet PySem.F.excBase_ValueError.init.plain _, codeAny_builtin PySem.F.excBase_ValueError.initEntry ?_⟩
  refine exc_init_tree (cls := .ref C) (t0 := t0) (dv := dv) (c2 := .none) (c3 := .none) (b4 := .bool false) hx hz fun h' k e1 e2 => ?_
  refine hq h' h.objs.size k (Heap.get?_none_of_le (Nat.le_refl _)) (fun z => ?_) e1 e2
  rw [← z] at hx
  exact absurd (Heap.lt_size hx) (Nat.lt_irrefl _)
end
end Sw
namespace Sw
open PySem PySem.Spec PyProof.Rows PySem.W PySem.Calls
/-- the body that super().__init__(msg); self.fld = prm makes -/
abbrev initBody (msg fld prm : Str) (j : Nat) (p0 p1 p2 p3 p4 p5 p6 p7 p8 p9 : Pos) : List Stmt :=
  [.Expr (.Call (.Attribute (.Call (.Name "super" p0) [] [] p1) "__init__" p2) [.Constant (.str msg) j p3] [] p4) p5,
   .Assign [.Attribute (.Name "self" p6) fld p7] (.Name prm p8) p9]
theorem call_base {o : Expr} {name : Str} {apos pos : Pos} {e : Expr} {env : Env} (hl : (apos.endLine == pos.line) = true) (hs : starEach [e] env = [(false, eval e env)]) :
    eval (.Call (.Attribute o name apos) [e] [] pos) env = (do
      let ov ← attributeBase o name env (eval o env)
      standAt apos.atName
      let (f, first) ← holding [ov] (getMethod ov name (do return (← importBound o env).getD true))
      callWith pos f first (backTo pos (starEach [e] env)) []) := by
  have e2 : methodCallPos true o env apos pos = pure pos := by
    unfold methodCallPos
    rw [hl]
    rfl
  show (do
    let ov ← attributeBase o name env (eval o env)
    standAt apos.atName
    methodCall o name apos pos env ov 1 (backTo pos (starEach [e] env)) (backToKw pos (keywordEach [] env))) = _
  unfold methodCall
  rw [hs]
  show (do
    let ov ← attributeBase o name env (eval o env)
    standAt apos.atName
    let (f, first) ← holding [ov] (calleeOf true o env ov name)
    let callPos ← methodCallPos true o env apos pos
    callWith callPos f first (backTo pos [(false, eval e env)]) []) = _
  rw [e2]
  simp only [pure_bind]
  rfl
abbrev initScope (prm : Str) : Scope := { kind := .function, names := [(PySem.Str.ofString "self", .local), (prm, .local), (PySem.Str.ofString "__class__", .free), (PySem.Str.ofString "super", .globalImplicit)], isGenerator := false, isCoroutine := false, more := [] }
/-- what the written part says of the def __init__ of such a class -/
structure XInit (K : Frag) (C fI : Addr) (msg fld prm file : Str) : Prop where
  ex : ∃ (qual : Str) (j : Nat) (p0 p1 p2 p3 p4 p5 p6 p7 p8 p9 : Pos) (params : Arguments) (dV kV doc pm ct oc ccl cl : Value) (an od cdd cld : Option Addr) (osl ccs csl : Array (Option Value)) (cc cda : Addr) (vs : Array Value) (tf : Tok) (ar : Arg),
    K.lookup fI = some ⟨oc, od, .func (ksFn "__init__" qual params (initBody msg fld prm j p0 p1 p2 p3 p4 p5 p6 p7 p8 p9) (initScope prm) dV kV doc pm an (.ref cda) ct cc), osl⟩ ∧
    codeIn K (.ref cda) qual = true ∧ K.lookup cda = some ⟨ccl, cdd, .fields vs, ccs⟩ ∧ vs[2]? = some (.str file tf) ∧ K.lookup cc = some ⟨cl, cld, .cell (some (.ref C)), csl⟩ ∧
    (p2.endLine == p4.line) = true ∧ (params.posonlyargs ++ params.args).head? = some ar ∧ ar.arg = "self" ∧
    (∀ a u : Value, bindArgs (ksFn "__init__" qual params (initBody msg fld prm j p0 p1 p2 p3 p4 p5 p6 p7 p8 p9) (initScope prm) dV kV doc pm an (.ref cda) ct cc) ⟨[a, u], []⟩ = pure [(("self" : Str), a), (prm, u)])
  pn : ¬ prm = "self"
  pc : ¬ prm = "__class__"
  ps : ¬ prm = "super"
  pd : (prm == ("__debug__" : Str)) = false
  su : ks_superIn K C C "__init__" = some (some (.builtin "ValueError.__init__"))
  sub : subIn K (.ref C) (.type "ValueError") = some true
  self : mroIn K C (.ref C) = some true
  nf : findIn K (.ref C) fld = some none
  ty : typeIn K (.ref fI) = some (.type "function")
  fi : findIn K (.ref C) "__init__" = some (some (.ref fI))
section
variable {P : Program} {w : World} {A : Around} {E : Value → Shared → Prop} {h : Heap} {g : Array GenState} {d : Drawn} {t : Nat} {os : OsState} {K : Frag} {C x fI t0 : Addr} {mg mb : Str → Option Value} {u : Value} {msg fld prm file : Str}
theorem init_code (T : XCls K C) (F : XInit K C fI msg fld prm file) (X : K.In h) {R : Result → Shared → Prop}
    (hroom : A.depth < recursionLimit) (hlim : h.NoLimit) (hmg : h.Ns mainGlobals mg) (hmb : h.Ns builtinsNs mb) (hg : mg "super" = none) (hb : mb "super" = some (.type "super"))
    (hfile : ((P.main.file : Str) == file) = true) (htop : (P.main.scope.names.lookup ("super" : Str)).isSome = false)
    (hx : h.get? x = some (xRec C none t0)) (hxK : K.lookup x = none)
    (hq : ∀ h' tk t1 dx, (∀ b o, b ≠ x → h.get? b = some o → h'.get? b = some o) → h.get? t1 = none → t1 ≠ x → h'.get? x = some (xRec C (some dx) t1) → (∃ tm, h'.get? t1 = some (xTup [.str msg tm])) → h.get? dx = none → dx ≠ x → dx ≠ t1 → (∃ o, h'.get? dx = some o) → R (.ok (.ret .none)) ⟨h', g, d, tk, os⟩) :
    codeAny (model P w) A (.call (.ref fI) ⟨[.ref x, u], []⟩) R ⟨h, g, d, t, os⟩ := by
  obtain ⟨nm, q, N, bs, bm, sn, sub, ab, col, dd, k0, k1, k2, k3, k5, hC, hbm⟩ := T.cls
  obtain ⟨qual, j, p0, p1, p2, p3, p4, p5, p6, p7, p8, p9, params, dV, kV, doc, pm, ct, oc, ccl, cl, an, od, cdd, cld, osl, ccs, csl, cc, cda, vs, tf, ar, lk, hcd, hcda, hvs, hcc, hln, har, hself, hbind⟩ := F.ex
  have ne1 : (("__class__" : Str) == "self") = false := by decide
  have ne2 : (("super" : Str) == "self") = false := by decide
  have ne3 : (("super" : Str) == "__class__") = false := by decide
  have nb : ∀ {a b : Str}, ¬ b = a → (a == b) = false := fun h => beq_eq_false_iff_ne.mpr fun z => h z.symm
  have hsl : (initScope prm).names.lookup ("self" : Str) = some .local := by
    show List.lookup ("self" : Str) ((("self" : Str), NameKind.local) :: _) = _
    rw [List.lookup_cons_self]
  have hpl : (initScope prm).names.lookup prm = some .local := by
    show List.lookup prm ((("self" : Str), NameKind.local) :: (prm, NameKind.local) :: _) = _
    rw [List.lookup_cons, beq_eq_false_iff_ne.mpr F.pn, List.lookup_cons_self]
  have hcls : (initScope prm).names.lookup ("__class__" : Str) = some .free := by
    show List.lookup ("__class__" : Str) ((("self" : Str), NameKind.local) :: (prm, NameKind.local) :: (("__class__" : Str), NameKind.free) :: _) = _
    rw [List.lookup_cons, ne1, List.lookup_cons, nb F.pc, List.lookup_cons_self]
  have hsup : (initScope prm).names.lookup ("super" : Str) = some .globalImplicit := by
    show List.lookup ("super" : Str) ((("self" : Str), NameKind.local) :: (prm, NameKind.local) :: (("__class__" : Str), NameKind.free) :: (("super" : Str), NameKind.globalImplicit) :: _) = _
    rw [List.lookup_cons, ne2, List.lookup_cons, nb F.ps, List.lookup_cons, ne3, List.lookup_cons_self]
  have hncell : ∀ x ∈ (initScope prm).names, x.2 ≠ .cell := fun x hx => by
    simp at hx
    rcases hx with rfl | rfl | rfl | rfl <;> (intro z; cases z)
  have hk : (initScope prm).kind = .function := rfl
  have hcl : clsIn K C = some { name := nm, bases := bs, mro := .ref C :: bm, ns := N, qualname := q, hasDict := true, slotNames := sn, subclasses := sub, abstract := ab, collection := col, hasDel := false } := by unfold clsIn; rw [hC] <;> rfl
  have hCd : ∃ cd, h.get? C = some (excClassObj nm q C N bs bm true sn sub ab col dd k0 k1 k2 k3 k5 "ValueError.__new__") ∧ (excClassObj nm q C N bs bm true sn sub ab col dd k0 k1 k2 k3 k5 "ValueError.__new__").data = .cls cd := ⟨_, X _ _ hC, rfl⟩
  obtain ⟨cdC, hC1, hC2⟩ := hCd
  have hloc : ∀ y ∈ [(("self" : Str), Value.ref x), (prm, u)], (initScope prm).names.lookup y.1 = some .local := fun y hy => by
    rcases List.mem_cons.mp hy with rfl | hy
    · exact hsl
    · obtain rfl := List.mem_singleton.mp hy
      exact hpl
  refine ks_codeAny_call_defAt (fd := ksFn "__init__" qual params (initBody msg fld prm j p0 p1 p2 p3 p4 p5 p6 p7 p8 p9) (initScope prm) dV kV doc pm an (.ref cda) ct cc) (binds := [(("self" : Str), Value.ref x), (prm, u)]) hroom (X _ _ lk) rfl hlim (codeRec_of X hcd) rfl (.of_eq (hbind _ _)) hncell hloc (fun h1 hns k1 => ?_) rfl rfl hk
  have mp : ([(("self" : Str), Value.ref x), (prm, u)].reverse.lookup prm) = some u := by
    show List.lookup prm [(prm, u), (("self" : Str), Value.ref x)] = some u
    rw [List.lookup_cons_self]
  have ms : ([(("self" : Str), Value.ref x), (prm, u)].reverse.lookup ("self" : Str)) = some (.ref x) := by
    show List.lookup ("self" : Str) [(prm, u), (("self" : Str), Value.ref x)] = some (.ref x)
    have e : (("self" : Str) == prm) = false := beq_eq_false_iff_ne.mpr fun z => F.pn z.symm
    rw [List.lookup_cons, e, List.lookup_cons_self]
  -- super().__init__(msg)
  refine ks_wpAt_execs_cons (ks_wpAt_Expr_any (ks_wpAt_MethodCall ?_ (call_base hln rfl)))
  refine ks_wpAt_super_base (env := ksEnv qual (initScope prm) h.objs.size fI (.ref cda) cc) (ar := ar) hsup hcls (by decide) rfl (k1 _ _ (X _ _ lk)) rfl har rfl (k1 _ _ (X _ _ hcda)) rfl hvs hfile htop ?_
  refine ks_loadName_global hk hsup (loadGlobal_builtin (env := ksEnv qual (initScope prm) h.objs.size fI (.ref cda) cc) (hmg.keeps k1) hg (hmb.keeps k1) hb ⟨rfl, ?_⟩)
  refine wpAny_loadName_free hk hcls rfl ⟨_, k1 _ _ (X _ _ hcc), rfl⟩ ?_
  rw [hself]
  refine wpAny_loadName_local hk hsl hns ms ?_
  refine ks_wpAny_isType_cls (k1 _ _ hC1) hC2 ⟨rfl, ?_⟩
  have X1 : K.In h1 := X.keeps k1
  refine ks_wpAny_call_super (k1 _ _ hC1) hC2 (k1 _ _ hx) rfl (fun c e => by cases e) (looks_mroIn X1 F.self) (fun h2 eso k2 => ?_)
  have X2 : K.In h2 := X1.keeps k2
  have hx2 := k2 _ _ (k1 _ _ hx)
  have I2 : InstAt h2 x (xRec C none t0) C none := ⟨hx2, rfl, rfl, trivial⟩
  have hm := F.su
  unfold ks_superIn at hm
  rw [hcl] at hm
  refine kxs_getMethod kxs_ValueError eso (looks_opaque X2 T.opq) (l₀ := .ref C :: bm) ?_ rfl X2 hm (I2.type.andThen (looks_subIn X2 F.sub)) (ks_ne X2 I2 hcl) (by decide) ?_
  · exact fun A Q E s k q => wpAny_bind ((looks_clsIn X2 hcl) A _ E s k (wpAny_pure q))
  have k3 : ∀ b o, h2.get? b = some o → (h2.push (kxs_mw "ValueError.__init__" x)).get? b = some o := fun b o e => Heap.get?_push_of_some _ e
  have hu3 : (h2.push (kxs_mw "ValueError.__init__" x)).get? h2.objs.size = some (kxs_mw "ValueError.__init__" x) := Heap.get?_push_at rfl rfl
  refine kxs_callWith (i := "ValueError.__init__") (x := x) rfl (evalArgs_plain ?_)
  show wpAny _ _ (spliced ((false, eval (.Constant (.str msg) j p3) _) :: backTo p4 (starEach [] _))) _ _ _
  refine Calls.spliced_cons (Calls.Constant_str ?_)
  refine Calls.spliced_nil ⟨hu3, ?_⟩
  show wpAny _ _ (call (.ref h2.objs.size) [.str msg _]) _ _ _
  refine bound_call T (X2.keeps k3) hu3 (k3 _ _ hx2) (by show 1 ≤ sizeLine; rw [sizeLine_eq]; omega) fun h4 t1 k4 nt1 nx e1 e2 => ?_
  -- self.fld = prm
  have kAll : ∀ b o, b ≠ x → h.get? b = some o → h4.get? b = some o := fun b o hb e => k4 b o hb (k3 _ _ (k2 _ _ (k1 _ _ e)))
  have hLx : h.objs.size ≠ x := fun z => by
    rw [← z] at hx
    exact absurd (Heap.lt_size hx) (Nat.lt_irrefl _)
  have hns4 : h4.Ns h.objs.size fun z => List.lookup z [(("self" : Str), Value.ref x), (prm, u)].reverse := by
    obtain ⟨o, es, ep, ho, r⟩ := hns
    exact ⟨o, es, ep, k4 _ _ hLx (k3 _ _ (k2 _ _ ho)), r⟩
  have X4 : K.In h4 := fun b o e => kAll b o (fun z => by
    rw [z, hxK] at e
    cases e) (X _ _ e)
  refine ks_wpAt_execs_cons (wpAt_of_wpAny (plainObj_wpAny_Assign_Attribute ?_))
  refine wpAny_Name (wpAny_loadName_local hk hpl hns4 mp ?_) F.pd
  refine wpAny_Name (wpAny_loadName_local hk hsl hns4 ms ?_) (by decide)
  refine set_plain X4 (ox := xRec C none t1) (od := none) ⟨e1, rfl, rfl, trivial⟩ T.sa ?_
  refine PySem.HandSPX.exc_osa X4 e1 hcl (show PySem.HandSPX.refsVE (.ref C :: bm) = true from hbm) rfl F.nf (fun h5 tk' dx k5 dn dne hx5 hn5 => ?_)
  refine wpAt_of_wpAny (wpAny_pure ?_)
  obtain ⟨oD, es, ep, hoD, hdD, _⟩ := hn5
  have e2' := k5 _ _ nx e2
  refine hq h5 tk' t1 dx (fun b o hb e => k5 b o hb (kAll b o hb e)) ?_ nx hx5 ⟨_, e2'⟩ ?_ dne (fun z => ?_) ⟨oD, hoD⟩
  rotate_left
  · cases e : h.get? dx with
    | none => rfl
    | some o =>
      have hb : dx ≠ x := dne
      exact absurd (Heap.lt_size (kAll _ _ hb e)) (Nat.not_lt.mpr dn)
  · rw [z, e2'] at hoD
    obtain rfl := Option.some.inj hoD
    cases hdD
  cases e : h.get? t1 with
  | none => rfl
  | some o =>
    rw [k3 _ _ (k2 _ _ (k1 _ _ e))] at nt1
    cases nt1
end
end Sw
namespace Sw
open PySem PySem.Spec PyProof.Rows L2
/-- an exception of the class at C that was made, its args at t -/
def xV (C t : Addr) (d : Option Addr) (a : Addr) : HO := .ext fun h => h.get? a = some (xRec C d t)
theorem xV_ok {P : Program} {w : World} {H : Hp} {h : Heap} {C t a : Addr} {d : Option Addr} (e : h.get? a = some (xRec C d t)) : ObjOk P w H h a (xV C t d a) :=
  ⟨e, ⟨_, e⟩, fun _ _ z k => k _ z⟩
theorem xV_at {P : Program} {w : World} {H : Hp} {h : Heap} {C t a : Addr} {d : Option Addr} (ok : HOk P w H h) (e : H a = some (xV C t d a)) : h.get? a = some (xRec C d t) := by
  have x : ObjOk P w H h a (.ext fun h => h.get? a = some (xRec C d t)) := ok a _ e
  exact x.1
section
variable {X : Cx} {pins : List (Addr × Obj)} {σ : L2.St} {H : Hp} {s : Shared}
/-- two new objects laid -/
theorem laid2 {h' : Heap} {a b : Addr} {o u : HO} {t' : Nat} (I : Inv X pins σ H s) (k : ∀ c v, s.heap.get? c = some v → h'.get? c = some v) (ha : s.heap.get? a = none) (hb : s.heap.get? b = none) (ne : b ≠ a)
    (new : ObjOk X.prog X.w (upd (upd H b u) a o) h' a o) (new2 : ObjOk X.prog X.w (upd (upd H b u) a o) h' b u) : Inv X pins σ (upd (upd H b u) a o) { s with heap := h', toks := t' } := by
  have na : H a = none := I.hok.gone ha
  have nb : H b = none := I.hok.gone hb
  have up : ∀ {c : Addr} {v : HO}, H c = some v → (upd (upd H b u) a o) c = some v := fun {c v} e => by
    rw [upd_ne (ne_of_none e na), upd_ne (ne_of_none e nb)]
    exact e
  have old : ∀ {c : Addr} {v : Obj}, s.heap.get? c = some v → c ≠ a ∧ c ≠ b := fun {c v} e => by
    constructor
    · intro z
      rw [z, ha] at e
      cases e
    · intro z
      rw [z, hb] at e
      cases e
  refine I.un ⟨fun c v e _ _ _ => k c v e, fun c v e _ _ _ => ⟨v.slots, k c v e⟩, fun c v e n _ => ?_, fun c v e _ => ⟨v, k c v e⟩, fun c xs e => up e, fun c v xs e => up e, fun c ps e => ⟨#[], by rw [up e]; simp⟩⟩ fun c v e => ?_
  · rw [upd_ne (old e).1, upd_ne (old e).2]
    exact n
  · by_cases ca : c = a
    · subst ca
      rw [upd_same] at e
      cases e
      exact new
    · by_cases cb : c = b
      · subst cb
        rw [upd_ne ca, upd_same] at e
        cases e
        exact new2
      · rw [upd_ne ca, upd_ne cb] at e
        exact (I.hok c v e).stay (fun d q _ z => k d q z) (fun d z => up z) fun d xs z => up z
/-- three -/
theorem laid3 {h' : Heap} {a b c : Addr} {o u v : HO} {t' : Nat} (I : Inv X pins σ H s) (k : ∀ x y, s.heap.get? x = some y → h'.get? x = some y) (ha : s.heap.get? a = none) (hb : s.heap.get? b = none) (hc : s.heap.get? c = none) (ne : b ≠ a) (ca : c ≠ a) (cb : c ≠ b)
    (new : ObjOk X.prog X.w (upd (upd (upd H c v) b u) a o) h' a o) (new2 : ObjOk X.prog X.w (upd (upd (upd H c v) b u) a o) h' b u) (new3 : ObjOk X.prog X.w (upd (upd (upd H c v) b u) a o) h' c v) : Inv X pins σ (upd (upd (upd H c v) b u) a o) { s with heap := h', toks := t' } := by
  have na : H a = none := I.hok.gone ha
  have nb : H b = none := I.hok.gone hb
  have nc : H c = none := I.hok.gone hc
  have up : ∀ {x : Addr} {y : HO}, H x = some y → (upd (upd (upd H c v) b u) a o) x = some y := fun {x y} e => by
    rw [upd_ne (ne_of_none e na), upd_ne (ne_of_none e nb), upd_ne (ne_of_none e nc)]
    exact e
  have old : ∀ {x : Addr} {y : Obj}, s.heap.get? x = some y → x ≠ a ∧ x ≠ b ∧ x ≠ c := fun {x y} e => by
    refine ⟨?_, ?_, ?_⟩
    · intro z
      rw [z, ha] at e
      cases e
    · intro z
      rw [z, hb] at e
      cases e
    · intro z
      rw [z, hc] at e
      cases e
  refine I.un ⟨fun x y e _ _ _ => k x y e, fun x y e _ _ _ => ⟨y.slots, k x y e⟩, fun x y e n _ => ?_, fun x y e _ => ⟨y, k x y e⟩, fun x xs e => up e, fun x y xs e => up e, fun x ps e => ⟨#[], by rw [up e]; simp⟩⟩ fun x y e => ?_
  · obtain ⟨z1, z2, z3⟩ := old e
    rw [upd_ne z1, upd_ne z2, upd_ne z3]
    exact n
  · by_cases xa : x = a
    · subst xa
      rw [upd_same] at e
      cases e
      exact new
    · by_cases xb : x = b
      · subst xb
        rw [upd_ne xa, upd_same] at e
        cases e
        exact new2
      · by_cases xc : x = c
        · subst xc
          rw [upd_ne xa, upd_ne xb, upd_same] at e
          cases e
          exact new3
        · rw [upd_ne xa, upd_ne xb, upd_ne xc] at e
          exact (I.hok x y e).stay (fun d q _ z => k d q z) (fun d z => up z) fun d xs z => up z
variable {e : Expr} {te : TE} {x : Str} {p pos : Pos} {C fI : Addr} {msg fld prm file : Str}
theorem boot_super : bootBuiltins "super" = some (.type "super") := by first | boot_by_name | rfl | kernel_rfl
/-- C(e), C an own class of errors whose __init__ says super().__init__(msg); self.fld = prm -/
theorem pe_xmk (T : XCls X.K C) (F : XInit X.K C fI msg fld prm file) (hr : Room 1 X.A) (hg : Gl X x) (hm : X.mg x = some (.ref C)) (hs : X.mg "super" = none)
    (hfile : ((X.prog.main.file : Str) == file) = true) (htop : (X.prog.main.scope.names.lookup ("super" : Str)).isSome = false) (he : PE X e te)
    (hst : starEach [e] X.env = (false, eval e X.env) :: starEach [] X.env := by rfl) (hdb : (x == ("__debug__" : Str)) = false := by decide) :
    PE X (.Call (.Name x p) [e] [] pos) (fun σ H Q => te σ H fun _ H1 => ∀ a t1 dx, H1 a = none → H1 t1 = none → H1 dx = none → t1 ≠ a → dx ≠ a → dx ≠ t1 → Q (.ref a) (upd (upd (upd H1 dx (.own a)) t1 (.tup [.str msg])) a (xV C t1 (some dx) a))) := by
  refine ⟨fun pins s σ H Q I h => ?_⟩
  obtain ⟨nm, q, N, bs, bm, sn, sub, ab, col, dd, k0, k1, k2, k3, k5, hC, hbm⟩ := T.cls
  refine wpAny_Call_Name_kw (ld_glob I hg hm ?_ hdb)
  refine PySem.W.callWith_K (h₀ := X.base) I.ok.mod.kin T.kp ?_ hst (by rfl)
  rw [hst]
  show wpAny _ _ (spliced ((false, eval e X.env) :: backTo pos (starEach [] X.env))) _ _ s
  refine Calls.spliced_cons (thn (he.run pins s σ H _ I h) fun u s1 ⟨v, H1, I1, r1, q1⟩ => ?_)
  refine Calls.spliced_nil ⟨I1.kIn, ?_⟩
  show wpAny _ _ (call (.ref C) [u]) _ _ _
  obtain ⟨hp, g, dr, tk, os⟩ := s1
  have kk : ∀ b o, hp.get? b = some o → ((hp.push (PySem.W.kdv_tup [u])).push (PySem.HandSPX.excO C hp.objs.size)).get? b = some o := fun b o e => Heap.get?_push_of_some _ (Heap.get?_push_of_some _ e)
  have hget : ((hp.push (PySem.W.kdv_tup [u])).push (PySem.HandSPX.excO C hp.objs.size)).get? (hp.objs.size + 1) = some (xRec C none hp.objs.size) := by
    show _ = some (PySem.HandSPX.excO C hp.objs.size)
    heap_get
  have na : hp.get? (hp.objs.size + 1) = none := Heap.get?_none_of_le (Nat.le_succ _)
  have kin := I1.kIn
  obtain ⟨mb, hb1, hb2⟩ := I1.mod.blt
  refine wpAny_call (PySem.HandSPX.call_own PySem.F.excBase_ValueError (fun Y => PySem.HandSPX.refsVE_contains Y bm hbm) (kin _ _ hC) (PySem.W.looks_findIn kin F.fi) (fun self => PySem.W.bind_fn kin self F.ty) (by show 1 ≤ sizeLine; rw [sizeLine_eq]; omega) ?_)
  refine init_code T F (kin.keeps kk) (mg := X.mg) (mb := mb) (hr.make C [u] []).depth (I1.nolimit.keeps kk) ((I1.mod.glob.keeps I1.bk).keeps kk) ((hb1.keeps I1.bk).keeps kk) hs ((hb2 _ (by decide)).trans boot_super) hfile htop hget ?_ fun h' tk' t1 dx k4 nt1 ne e1 e2 nd da dt eo => ?_
  · cases z : X.K.lookup (hp.objs.size + 1) with
    | none => rfl
    | some o =>
      rw [kin _ _ z] at na
      cases na
  · have k5 : ∀ b o, hp.get? b = some o → h'.get? b = some o := fun b o e => k4 b o (fun z => by
      rw [z, na] at e
      cases e) (kk b o e)
    have nt0 : hp.get? t1 = none := by
      cases z : hp.get? t1 with
      | none => rfl
      | some o =>
        rw [kk _ _ z] at nt1
        cases nt1
    have nd0 : hp.get? dx = none := by
      cases z : hp.get? dx with
      | none => rfl
      | some o =>
        rw [kk _ _ z] at nd
        cases nd
    obtain ⟨tm, e3⟩ := e2
    refine ⟨rfl, ⟨.ref (hp.objs.size + 1), _, laid3 (t' := tk') (o := xV C t1 (some dx) (hp.objs.size + 1)) (u := .tup [.str msg]) (v := .own (hp.objs.size + 1)) I1 k5 na nt0 nd0 ne da dt (xV_ok e1) ⟨?_, [.str msg tm], .cons ⟨tm, rfl⟩ .nil, ⟨_, e3, rfl, _, rfl⟩⟩ eo, rfl, q1 _ t1 dx (I1.hok.gone na) (I1.hok.gone nt0) (I1.hok.gone nd0) ne da dt⟩⟩
    show 1 ≤ sizeLine
    rw [sizeLine_eq]
    omega
/-- C(), C an own class of errors without __init__ -/
theorem pe_xmk0 {k : Nat} {bmB : List Value} {B newId initId : String} (F : ExcBaseFacts B newId initId bmB) (q : PySem.W.excIn X.K C bmB newId = true) (kC : PySem.W.keepIn X.K (.ref C) = true) (hg : Gl X x) (hm : X.mg x = some (.ref C))
    (hdb : (x == ("__debug__" : Str)) = false := by decide) :
    PE X (.Call (.Name x p) [] [] pos) (fun _ H Q => ∀ a t1, H a = none → H t1 = none → t1 ≠ a → Q (.ref a) (upd (upd H t1 (.tup [])) a (xV C t1 none a))) := by
  refine ⟨fun pins s σ H Q I h => ?_⟩
  refine wpAny_Call_Name_kw (ld_glob I hg hm ?_ hdb)
  refine PySem.W.callWith_K0 (first := []) I.kIn kC ?_
  show wpAny _ _ (call (.ref C) []) _ _ _
  obtain ⟨bm, N, nm, qn, bs, hdct, sn, sub, ab, col, dd, k0, k1, k2, k3, k5, mN, hC, hN, hni, T⟩ := exc_obj I.kIn q
  refine wpAny_call_exc_subT F T hC hN hni (fun h' a hm => ?_) (by show 0 ≤ sizeLine; omega)
  obtain ⟨t1, e1, nt, e2⟩ := hm.there
  have ne : t1 ≠ a := fun z => by
    rw [z, e1] at e2
    have e3 := Option.some.inj e2
    cases e3
  exact ⟨.ref a, _, laid2 (t' := s.toks) (o := xV C t1 none a) (u := .tup []) I hm.keeps hm.new nt ne (xV_ok e1) ⟨Nat.zero_le _, [], .nil, ⟨_, e2, rfl, _, rfl⟩⟩, rfl, h a t1 (I.hok.gone hm.new) (I.hok.gone nt) ne⟩
end
end Sw
namespace Sw
open PySem PySem.Spec PyProof.Rows PySem.W Builtin Builtin.BaseException
/-- how repr calls a class -/
def exN (nm : Str) : Str := ((nm.toString.cutAt '.').getLastD "")
/-- a class of errors, by what repr and isinstance ask -/
structure XGood (K : Frag) (C : Addr) (n : Str) : Prop where
  nm : ∃ cd, clsIn K C = some cd ∧ exN cd.name = n
  len : n.length ≤ 60
  rp : findIn K (.ref C) "__repr__" = some (some (.builtin "BaseException.__repr__"))
  sub : subIn K (.ref C) (.type "BaseException") = some true
  ga : findIn K (.ref C) "__getattribute__" = some (some (.builtin "BaseException.__getattribute__"))
  gt : findIn K (.ref C) "__getattr__" = some none
  ca : findIn K (.ref C) "__class__" = some (some (.builtin "object.__class__"))
  cn : specialIn K (.builtin "object.__class__") "__get__" = some (some (.builtin "getset_descriptor.__get__"))
  ct : takesIn K (.builtin "object.__class__") = some true
  mo : mroIn K C (.type "object") = some true
  ni : subIn K (.ref C) (.type "int") = some false
  nb : subIn K (.ref C) (.type "bool") = some false
  nt : subIn K (.ref C) (.type "tuple") = some false
  ns : subIn K (.ref C) (.type "str") = some false
  nl : subIn K (.ref C) (.type "list") = some false
  nd : subIn K (.ref C) (.type "dict") = some false
/-- the text of such an error, by its args (none or one text) -/
def xText (n : Str) : Option Str → Str
  | none => n ++ "()"
  | some m => n ++ "(" ++ reprText m ++ ")"
def xArgs : Option Str → List L2.V
  | none => []
  | some m => [.str m]
section
variable {prog : Program} {w : World} {A : Around} {E : Value → Shared → Prop} {s : Shared} {K : Frag} {C e t0 : Addr} {n : Str}
theorem typeNameWhole_C {M : Model} (G : XGood K C n) (x : ExcC K C e t0 s.heap) {Q : String → Shared → Prop} (h : ∀ nm : String, (((nm.cutAt '.').getLastD "" : String) : Str) = n → Q nm s) : wpAny M A (typeNameOfWhole (.ref e)) Q E s := by
  obtain ⟨cd, hc, hn⟩ := G.nm
  unfold typeNameOfWhole shownTypeOf
  refine wpAny_bind (wpAny_bind ((x.LT).here ?_))
  simp only [show (Value.ref C == Value.type "builtin_function_or_method") = false from rfl, Bool.false_eq_true, if_false]
  refine wpAny_pure ?_
  unfold typeNameWhole
  refine wpAny_bind ((looks_clsIn x.1 hc).here (wpAny_pure ?_))
  exact h _ hn
theorem bexcRepr_C (G : XGood K C n) (x : ExcC K C e t0 s.heap) (m : Option Str) {its : List Value} (hi : L2.Vals (xArgs m) its) (ht : s.heap.TupAt t0 its) (b : Nat) (hsz : b + (xText n m).length ≤ sizeLine)
    (g : List Code) (hg : A.guards = some g) (hcl : Clear g t0) (hu : A.units + 2 < cLine) {Q : Fin → Shared → Prop}
    (h : ∀ h' u tk, (∀ b o, s.heap.get? b = some o → h'.get? b = some o) → Q (.done (.ret (.str (xText n m) u))) { s with heap := h', toks := tk }) :
    wpAny (model prog w) A (Builtin.bexcReprAt b ⟨[.ref e], []⟩) Q E s := by
  unfold Builtin.bexcReprAt
  cases m with
  | some m =>
    cases hi with
    | cons r1 r2 =>
      cases r2
      obtain ⟨tk, rfl⟩ := r1
      have eP : (Str.ofString "(").length = 1 := by rw [PySem.ofString_length]; rfl
      have e1 : b + (n ++ Str.ofString "(" ++ reprText m ++ Str.ofString ")").length ≤ sizeLine := hsz
      have hsz2 : (n ++ Str.ofString "(" ++ reprText m ++ Str.ofString ")").length ≤ sizeLine := Nat.le_trans (Nat.le_add_left _ b) e1
      rw [strLen_append, strLen_append, strLen_append, eP] at e1
      have hsz1 : (reprText m).length ≤ sizeLine := by omega
      have hpile : b + (n.length + 1) ≤ sizeLine := by omega
      refine wpAny_bind (wpAny_pure ?_)
      refine wpAny_bind (typeNameWhole_C G x fun nm en => ?_)
      refine wpAny_bind (bexcArgs_C x ht ?_)
      show wpAny _ _ (rule "BaseException.__repr__.one-argument" >>= _) _ _ _
      refine wpAny_bind (wpAny_rule ?_)
      rw [en]
      refine wpAny_bind ?_
      rw [pyReprUnder_leaf (v := .str m tk) hpile (by intro a; nofun)]
      refine wpAny_pyRepr_str ?_ hsz1
      unfold retStr
      refine wpAny_bind (wpAny_mkStr (wpAny_pure ?_) hsz2)
      exact h s.heap _ _ fun _ _ e => e
  | none =>
    cases hi
    obtain ⟨ot, kk, hto, hc, hd⟩ := id ht
    have e1 : b + (n ++ Str.ofString "()").length ≤ sizeLine := hsz
    have e2 : (n ++ Str.ofString "()").length ≤ sizeLine := Nat.le_trans (Nat.le_add_left _ b) e1
    rw [strLen_append] at e1
    have e3 : (Str.ofString "()").length = 2 := by rw [PySem.ofString_length]; rfl
    have et : tupleText [] = ("()" : Str) := by decide +kernel
    refine wpAny_bind (wpAny_pure ?_)
    refine wpAny_bind (typeNameWhole_C G x fun nm en => ?_)
    refine wpAny_bind (bexcArgs_C x ht ?_)
    show wpAny _ _ (pyReprUnder (b + _) (.ref t0) >>= _) _ _ _
    rw [en]
    refine wpAny_bind ?_
    have hK := ReprK.tuple (prog := prog) (w := w) (as := []) (h₀ := s.heap) (d := 0) (a := t0) (o := ot) (items := #[]) (n := kk) (ts := []) hto hc hd (by simp) .nil
    refine hK (b + n.length) (by rw [et]; show b + n.length + (Str.ofString "()").length ≤ sizeLine; omega) A g E s _ hg (fun b hb => ?_) (by omega) (fun _ _ e => e) fun h' tk hk => ?_
    · obtain rfl := List.mem_singleton.mp hb
      exact hcl
    · rw [et]
      unfold retStr
      refine wpAny_bind (wpAny_mkStr (wpAny_pure ?_) e2)
      exact h h' _ _ hk
theorem reprUnder_C (G : XGood K C n) (x : ExcC K C e t0 s.heap) (m : Option Str) {its : List Value} (hi : L2.Vals (xArgs m) its) (ht : s.heap.TupAt t0 its) (b : Nat) (hsz : b + (xText n m).length ≤ sizeLine)
    (g : List Code) (hg : A.guards = some g) (hcl : Clear g t0) (hu : A.units + 3 < cLine) {Q : Value → Shared → Prop}
    (h : ∀ h' u tk, (∀ b o, s.heap.get? b = some o → h'.get? b = some o) → Q (.str (xText n m) u) { s with heap := h', toks := tk }) :
    wpAny (model prog w) A (pyReprObjUnder b (.ref e)) Q E s := by
  unfold pyReprObjUnder pyReprObjBy
  have hf : Looks (model prog w) s.heap (typeLookup (.ref C) "__repr__") (some (.builtin "BaseException.__repr__")) := looks_findIn x.1 G.rp
  have hb : bindSpecial (.builtin "BaseException.__repr__") (.ref e) = pure (.builtin "BaseException.__repr__", [.ref e]) := PySem.F.excStr_Exception.repr.bind _
  have hT : Looks (model prog w) s.heap (typeOf (.ref e)) (.ref C) := x.LT
  refine wpAny_bind (wpAny_cRoomFor (by omega) ?_)
  unfold specialOf
  refine wpAny_bind (wpAny_bind (hT.here (hf.here ?_)))
  have fin : wpAny (model prog w) A (call (.builtin "BaseException.__repr__.under") [.ref e, rawInt b]) (fun v s' => (∃ x u, v = .str x u) ∧ Q v s') E s := by
    refine wpAny_call (codeAny_call_builtin PySem.F.plain_bexc_repr_under PySem.F.entry_bexc_repr_under ?_)
    rw [PySem.F.check_bexc_repr_under]
    refine wpAny_pure ?_
    show wpAny _ _ (reprTwin "BaseException.__repr__" Builtin.bexcReprAt ⟨[.ref e, rawInt b], []⟩) _ _ _
    rw [reprTwin_eq]
    refine wpAny_bind ?_
    refine @PySem.W.check_slot (model prog w) _ _ s "BaseException.__repr__" "BaseException" "__repr__" (.ref e) [] [] _ (by decide +kernel) (by decide +kernel) (x.LI G.sub) (PySem.F.args_bexc_repr _) ?_
    refine bexcRepr_C (A := A.in1) G x m hi ht b hsz g hg hcl (by show A.units + 1 + 2 < cLine; omega) fun h' u tk hk => ?_
    exact ⟨⟨_, _, rfl⟩, h h' u tk hk⟩
  simp only [Option.isNone_some, Bool.false_eq_true, if_false]
  refine wpAny_bind ?_
  unfold callSpecialIfBoundBy? bindSpecialIfBound? specialOf
  refine wpAny_holding (wpAny_bind (wpAny_bind (wpAny_bind (hT.here (hf.here ?_)))))
  simp only [hb]
  have fin2 : wpAny (model prog w) A (call (.builtin "BaseException.__repr__.under") [.ref e, rawInt b] >>= fun v => pure (some v)) (fun r s' => wpAny (model prog w) A (match r with
      | some r => do if ← isInstance r (.type "str") then pure r else raiseError "TypeError" s!"__repr__ returned non-string (type {← typeNameOf r})"
      | none => unsupported "repr:special-get-raises") Q E s') E s := by
    refine wpAny_bind (wpAny_mono fin (fun v s' hv => ?_) fun _ _ z => z)
    obtain ⟨⟨y, u, rfl⟩, hq⟩ := hv
    exact wpAny_pure (wpAny_bind (wpAny_isInstance (T := "str") (b := true) rfl isSubtype_str_str (wpAny_pure hq)))
  refine wpAny_bind (wpAny_askSetting (wpAny_ite ?_))
  split
  · exact wpAny_bind (wpAny_pure (wpAny_pure fin2))
  · exact wpAny_tryCatch (wpAny_bind (wpAny_pure (wpAny_pure fin2)))
end
end Sw
namespace Sw
open PySem PySem.Spec PyProof.Rows L2
/-- plain data, and errors of the package -/
inductive D where
  | non | bl (b : Bool) | int (i : Int) | str (x : Str) | tup (xs : List D) | lst (xs : List D) | dct | exc (C : Addr) (n : Str) (m : Option Str)
mutual
/-- the text that repr gives -/
def shown : D → Str
  | .non => "None"
  | .bl b => if b then "True" else "False"
  | .int i => toString i
  | .str x => reprText x
  | .tup xs => tupleText (shownAll xs)
  | .lst xs => listText (shownAll xs)
  | .dct => "{}"
  | .exc _ n m => xText n m
def shownAll : List D → List Str
  | [] => []
  | d :: r => shown d :: shownAll r
end
mutual
/-- no shorter than the text -/
def wt : D → Nat
  | .non => 4
  | .bl _ => 5
  | .int i => (Str.ofString (toString i)).length
  | .str x => (reprText x).length
  | .tup xs => wtAll xs + 3
  | .lst xs => wtAll xs + 3
  | .dct => 2
  | .exc _ n m => (xText n m).length
def wtAll : List D → Nat
  | [] => 0
  | d :: r => wt d + 2 + wtAll r
end
mutual
def dep : D → Nat
  | .tup xs => depAll xs + 1
  | .lst xs => depAll xs + 1
  | .dct => 1
  | .exc _ _ _ => 3
  | _ => 0
def depAll : List D → Nat
  | [] => 0
  | d :: r => max (dep d) (depAll r)
end
mutual
/-- its ints can be written -/
def small : D → Prop
  | .int i => i.natAbs.log2 < 1920
  | .tup xs => smallAll xs
  | .lst xs => smallAll xs
  | _ => True
def smallAll : List D → Prop
  | [] => True
  | d :: r => small d ∧ smallAll r
end
mutual
theorem shown_wt : ∀ d : D, (shown d).length ≤ wt d
  | .non => by simp only [wt]; decide +kernel
  | .bl b => by cases b <;> (simp only [wt]; decide +kernel)
  | .int i => by simp only [shown, wt]; exact Nat.le_refl _
  | .str x => by simp only [shown, wt]; exact Nat.le_refl _
  | .tup xs => by
    have h := tupleText_len_le (shownAll xs)
    have h2 := shownAll_wt xs
    simp only [shown, wt]
    omega
  | .lst xs => by
    have h := listText_len_le (shownAll xs)
    have h2 := shownAll_wt xs
    simp only [shown, wt]
    omega
  | .dct => by simp only [wt]; decide +kernel
  | .exc _ n m => by simp only [shown, wt]; exact Nat.le_refl _
theorem shownAll_wt : ∀ xs : List D, ((shownAll xs).map (·.length)).sum + 2 * (shownAll xs).length ≤ wtAll xs
  | [] => by simp [shownAll, wtAll]
  | d :: r => by
    have h := shown_wt d
    have h2 := shownAll_wt r
    simp only [shownAll, wtAll, List.map_cons, List.sum_cons, List.length_cons]
    omega
end
theorem wt_mem : ∀ {xs : List D} {d : D}, d ∈ xs → wt d + 2 ≤ wtAll xs
  | x :: r, d, h => by
    simp only [wtAll]
    rcases List.mem_cons.mp h with e | e
    · rw [e]; omega
    · have := wt_mem e
      omega
theorem dep_mem : ∀ {xs : List D} {d : D}, d ∈ xs → dep d ≤ depAll xs
  | x :: r, d, h => by
    simp only [depAll]
    rcases List.mem_cons.mp h with e | e
    · rw [e]; exact Nat.le_max_left _ _
    · exact Nat.le_trans (dep_mem e) (Nat.le_max_right _ _)
theorem small_mem : ∀ {xs : List D} {d : D}, smallAll xs → d ∈ xs → small d
  | x :: r, d, s, h => by
    simp only [smallAll] at s
    rcases List.mem_cons.mp h with e | e
    · rw [e]; exact s.1
    · exact small_mem s.2 e
mutual
/-- in H the value v is the data d; as: the addresses of what it is made of -/
def Rep (K : PySem.W.Frag) (H : Hp) : D → V → List Addr → Prop
  | .non, v, as => v = .non ∧ as = []
  | .bl b, v, as => v = .bl b ∧ as = []
  | .int i, v, as => v = .int i ∧ as = []
  | .str x, v, as => v = .str x ∧ as = []
  | .tup ds, v, as => ∃ a xs bs, v = .ref a ∧ H a = some (.tup xs) ∧ RepAll K H ds xs bs ∧ a ∉ bs ∧ as = a :: bs
  | .lst ds, v, as => ∃ a xs bs, v = .ref a ∧ H a = some (.lst xs) ∧ RepAll K H ds xs bs ∧ a ∉ bs ∧ as = a :: bs
  | .dct, v, as => ∃ a, v = .ref a ∧ H a = some (.dK []) ∧ as = [a]
  | .exc C n m, v, as => ∃ a t d, v = .ref a ∧ H a = some (xV C t d a) ∧ H t = some (.tup (xArgs m)) ∧ (∀ dx, d = some dx → H dx = some (.own a)) ∧ XGood K C n ∧ as = a :: t :: d.toList
def RepAll (K : PySem.W.Frag) (H : Hp) : List D → List V → List Addr → Prop
  | [], xs, as => xs = [] ∧ as = []
  | d :: ds, xs, as => ∃ x r bs cs, xs = x :: r ∧ Rep K H d x bs ∧ RepAll K H ds r cs ∧ as = bs ++ cs
end
section
variable {K : PySem.W.Frag} {H H' : Hp}
mutual
theorem Rep.keep : ∀ {d : D} {v : V} {as : List Addr}, Rep K H d v as → (∀ b ∈ as, ∀ o, H b = some o → H' b = some o) → Rep K H' d v as
  | .non, v, as, h, _ => by simpa only [Rep] using h
  | .bl _, v, as, h, _ => by simpa only [Rep] using h
  | .int _, v, as, h, _ => by simpa only [Rep] using h
  | .str _, v, as, h, _ => by simpa only [Rep] using h
  | .tup ds, v, as, h, k => by
    simp only [Rep] at h ⊢
    obtain ⟨a, xs, bs, e, ha, r, na, rfl⟩ := h
    exact ⟨a, xs, bs, e, k a (by simp) _ ha, RepAll.keep r fun b hb => k b (by simp [hb]), na, rfl⟩
  | .lst ds, v, as, h, k => by
    simp only [Rep] at h ⊢
    obtain ⟨a, xs, bs, e, ha, r, na, rfl⟩ := h
    exact ⟨a, xs, bs, e, k a (by simp) _ ha, RepAll.keep r fun b hb => k b (by simp [hb]), na, rfl⟩
  | .dct, v, as, h, k => by
    simp only [Rep] at h ⊢
    obtain ⟨a, e, ha, rfl⟩ := h
    exact ⟨a, e, k a (by simp) _ ha, rfl⟩
  | .exc C n m, v, as, h, k => by
    simp only [Rep] at h ⊢
    obtain ⟨a, t, d, e, ha, ht, hd, g, rfl⟩ := h
    exact ⟨a, t, d, e, k a (by simp) _ ha, k t (by simp) _ ht, fun dx z => k dx (by simp [z]) _ (hd dx z), g, rfl⟩
theorem RepAll.keep : ∀ {ds : List D} {xs : List V} {as : List Addr}, RepAll K H ds xs as → (∀ b ∈ as, ∀ o, H b = some o → H' b = some o) → RepAll K H' ds xs as
  | [], xs, as, h, _ => by simpa only [RepAll] using h
  | d :: ds, xs, as, h, k => by
    simp only [RepAll] at h ⊢
    obtain ⟨x, r, bs, cs, e, h1, h2, rfl⟩ := h
    exact ⟨x, r, bs, cs, e, Rep.keep h1 fun b hb => k b (by simp [hb]), RepAll.keep h2 fun b hb => k b (by simp [hb]), rfl⟩
end
mutual
/-- all of it is tracked -/
theorem Rep.tracked : ∀ {d : D} {v : V} {as : List Addr}, Rep K H d v as → ∀ b ∈ as, ∃ o, H b = some o
  | .non, v, as, h, b, hb => by simp only [Rep] at h; rw [h.2] at hb; cases hb
  | .bl _, v, as, h, b, hb => by simp only [Rep] at h; rw [h.2] at hb; cases hb
  | .int _, v, as, h, b, hb => by simp only [Rep] at h; rw [h.2] at hb; cases hb
  | .str _, v, as, h, b, hb => by simp only [Rep] at h; rw [h.2] at hb; cases hb
  | .tup ds, v, as, h, b, hb => by
    simp only [Rep] at h
    obtain ⟨a, xs, bs, e, ha, r, na, rfl⟩ := h
    rcases List.mem_cons.mp hb with z | z
    · exact ⟨_, z ▸ ha⟩
    · exact RepAll.tracked r b z
  | .lst ds, v, as, h, b, hb => by
    simp only [Rep] at h
    obtain ⟨a, xs, bs, e, ha, r, na, rfl⟩ := h
    rcases List.mem_cons.mp hb with z | z
    · exact ⟨_, z ▸ ha⟩
    · exact RepAll.tracked r b z
  | .dct, v, as, h, b, hb => by
    simp only [Rep] at h
    obtain ⟨a, e, ha, rfl⟩ := h
    obtain rfl := List.mem_singleton.mp hb
    exact ⟨_, ha⟩
  | .exc C n m, v, as, h, b, hb => by
    simp only [Rep] at h
    obtain ⟨a, t, d, e, ha, ht, hd, g, rfl⟩ := h
    rcases List.mem_cons.mp hb with z | z
    · exact ⟨_, z ▸ ha⟩
    · rcases List.mem_cons.mp z with z | z
      · exact ⟨_, z ▸ ht⟩
      · exact ⟨_, hd b (by simpa using z)⟩
theorem RepAll.tracked : ∀ {ds : List D} {xs : List V} {as : List Addr}, RepAll K H ds xs as → ∀ b ∈ as, ∃ o, H b = some o
  | [], xs, as, h, b, hb => by simp only [RepAll] at h; rw [h.2] at hb; cases hb
  | d :: ds, xs, as, h, b, hb => by
    simp only [RepAll] at h
    obtain ⟨x, r, bs, cs, e, h1, h2, rfl⟩ := h
    rcases List.mem_append.mp hb with z | z
    · exact Rep.tracked h1 b z
    · exact RepAll.tracked h2 b z
end
theorem RepAll.len : ∀ {ds : List D} {xs : List V} {as : List Addr}, RepAll K H ds xs as → xs.length = ds.length
  | [], xs, as, h => by
    simp only [RepAll] at h
    rw [h.1]
    rfl
  | d :: ds, xs, as, h => by
    simp only [RepAll] at h
    obtain ⟨x, r, bs, cs, e, h1, h2, _⟩ := h
    rw [e, List.length_cons, List.length_cons, RepAll.len h2]
theorem RepAll.at : ∀ {ds : List D} {xs : List V} {as : List Addr} {i : Nat} {d : D}, RepAll K H ds xs as → ds[i]? = some d → ∃ x bs, xs[i]? = some x ∧ Rep K H d x bs ∧ ∀ b ∈ bs, b ∈ as
  | [], xs, as, i, d, h, e => by simp at e
  | d :: ds, xs, as, 0, d', h, e => by
    simp only [RepAll] at h
    obtain ⟨x, r, bs, cs, rfl, h1, h2, rfl⟩ := h
    obtain rfl : d = d' := by simpa using e
    exact ⟨x, bs, rfl, h1, fun b hb => by simp [hb]⟩
  | d :: ds, xs, as, i + 1, d', h, e => by
    simp only [RepAll] at h
    obtain ⟨x, r, bs, cs, rfl, h1, h2, rfl⟩ := h
    obtain ⟨y, es, q1, q2, q3⟩ := RepAll.at (i := i) h2 (by simpa using e)
    exact ⟨y, es, by simpa using q1, q2, fun b hb => by simp [q3 b hb]⟩
theorem RepAll.at2 {ds : List D} {xs : List V} {as : List Addr} {i : Nat} {x : V} (h : RepAll K H ds xs as) (e : xs[i]? = some x) : ∃ d bs, ds[i]? = some d ∧ Rep K H d x bs ∧ ∀ b ∈ bs, b ∈ as := by
  have hl := h.len
  have hi : i < ds.length := by rw [← hl]; exact (List.getElem?_eq_some_iff.mp e).1
  obtain ⟨y, bs, q1, q2, q3⟩ := h.at (List.getElem?_eq_getElem hi)
  rw [e] at q1
  cases q1
  exact ⟨_, bs, List.getElem?_eq_getElem hi, q2, q3⟩
section
variable {P : Program} {w : World} {h : Heap}
mutual
/-- what stands there shows by its text -/
theorem Rep.shows (hok : HOk P w H h) (kin : K.In h) : ∀ {d : D} {v : V} {as : List Addr} {u : Value}, Rep K H d v as → RelV v u → small d → wt d ≤ sizeLine → ReprK P w as h (dep d) u (shown d)
  | .non, v, as, u, r, q, sm, z => by
    simp only [Rep] at r
    obtain ⟨rfl, rfl⟩ := r
    cases (show u = Value.none from q)
    exact ReprK.of_is ReprIs.none _ _ _
  | .bl b, v, as, u, r, q, sm, z => by
    simp only [Rep] at r
    obtain ⟨rfl, rfl⟩ := r
    cases (show u = Value.bool b from q)
    exact ReprK.of_is (ReprIs.bool b) _ _ _
  | .int i, v, as, u, r, q, sm, z => by
    simp only [Rep] at r
    obtain ⟨rfl, rfl⟩ := r
    obtain ⟨t, rfl⟩ := (show ∃ t, u = Value.int i t from q)
    simp only [small] at sm
    exact ReprK.of_is (ReprIs.int t sm) _ _ _
  | .str x, v, as, u, r, q, sm, z => by
    simp only [Rep] at r
    obtain ⟨rfl, rfl⟩ := r
    obtain ⟨t, rfl⟩ := (show ∃ t, u = Value.str x t from q)
    simp only [wt] at z
    exact ReprK.of_is (ReprIs.str x t z) _ _ _
  | .tup ds, v, as, u, r, q, sm, z => by
    simp only [Rep] at r
    obtain ⟨a, xs, bs, rfl, ha, ra, na, rfl⟩ := r
    cases (show u = Value.ref a from q)
    obtain ⟨_, its, rv, o, h1, h2, n, h3⟩ := (show ObjOk P w H h a (.tup xs) from hok a _ ha)
    simp only [small] at sm
    simp only [wt] at z
    have k := RepAll.shows hok kin ra rv sm (by omega) (depAll ds) (Nat.le_refl _)
    simp only [shown, dep]
    exact ReprK.tuple h1 h2 h3 na (by simpa using k)
  | .lst ds, v, as, u, r, q, sm, z => by
    simp only [Rep] at r
    obtain ⟨a, xs, bs, rfl, ha, ra, na, rfl⟩ := r
    cases (show u = Value.ref a from q)
    obtain ⟨_, its, n, rv, h1⟩ := (show ObjOk P w H h a (.lst xs) from hok a _ ha)
    simp only [small] at sm
    simp only [wt] at z
    have k := RepAll.shows hok kin ra rv sm (by omega) (depAll ds) (Nat.le_refl _)
    simp only [shown, dep]
    cases its with
    | nil =>
      generalize shownAll ds = ts at k ⊢
      cases k
      rw [show listText [] = ("[]" : Str) from listText_nil]
      exact ReprK.listEmpty h1 rfl rfl
    | cons y l =>
      exact ReprK.list h1 rfl rfl na (by simpa using k.length_eq) (fun i y e => k.item i y (by simpa using e))
  | .dct, v, as, u, r, q, sm, z => by
    simp only [Rep] at r
    obtain ⟨a, rfl, ha, rfl⟩ := r
    cases (show u = Value.ref a from q)
    obtain ⟨_, hs, vs, kv, o, es, ep, h1, h2, h3, h4⟩ := (show ObjOk P w H h a (.dK []) from hok a _ ha)
    cases kv
    simp only [shown, dep]
    have et : dictText [] = ("{}" : Str) := by decide +kernel
    rw [← et]
    refine ReprK.dict (as := []) (d := 0) (o := o) (es := es) (n := ep) h1 h2.1 h3 hs (by simp) ?_
    have e0 : es.toList = [] := by
      have q : Pairs (mixKind P w) es.toList [] := h4.2.1
      generalize es.toList = l at q
      cases q
      rfl
    rw [e0]
    exact .nil
  | .exc C n m, v, as, u, r, q, sm, z => by
    simp only [Rep] at r
    obtain ⟨a, t, d, rfl, ha, ht, _, g, rfl⟩ := r
    cases (show u = Value.ref a from q)
    have h1 := xV_at hok ha
    obtain ⟨_, its, rv, o, h2, h3, n2, h4⟩ := (show ObjOk P w H h t (.tup (xArgs m)) from hok t _ ht)
    simp only [wt] at z
    simp only [shown, dep]
    intro base hb A gs E s Q hg hcl hu hk0 hQ
    refine wpAny_pyReprUnder_ref (by omega) (reprUnder_C g ⟨kin.keeps hk0, _, _, hk0 _ _ h1, rfl, rfl, rfl⟩ m rv ⟨o, n2, hk0 _ _ h2, h3, h4⟩ base hb gs hg (hcl t (by simp)) hu fun h' u tk hk => ⟨_, _, rfl, hQ h' tk hk⟩)
theorem RepAll.shows (hok : HOk P w H h) (kin : K.In h) : ∀ {ds : List D} {xs : List V} {as : List Addr} {us : List Value}, RepAll K H ds xs as → Vals xs us → smallAll ds → wtAll ds ≤ sizeLine → ∀ n, depAll ds ≤ n → ReprAllK P w as h n us (shownAll ds)
  | [], xs, as, us, r, q, sm, z, n, hn => by
    simp only [RepAll] at r
    obtain ⟨rfl, rfl⟩ := r
    cases q
    simp only [shownAll]
    exact .nil
  | d :: ds, xs, as, us, r, q, sm, z, n, hn => by
    simp only [RepAll] at r
    obtain ⟨x, l, bs, cs, rfl, r1, r2, rfl⟩ := r
    cases q with
    | cons q1 q2 =>
      simp only [smallAll] at sm
      simp only [wtAll] at z
      simp only [depAll] at hn
      simp only [shownAll]
      have k1 := Rep.shows hok kin r1 q1 sm.1 (by omega)
      have k2 := RepAll.shows hok kin r2 q2 sm.2 (by omega) n (by omega)
      exact .cons ((k1.more fun b hb => List.mem_append_left _ hb).level_le (by omega)) (k2.more_le (fun b hb => List.mem_append_right _ hb) (Nat.le_refl _))
end
end
end
end Sw
namespace Sw
open PySem PySem.Spec PyProof.Rows L2
/-- repr(xs), xs a list of data -/
def rRepr (K : PySem.W.Frag) : List V → Hp → VK → Prop := fun xs H Q => ∃ x ds as, xs = [x] ∧ Rep K H (.lst ds) x as ∧ smallAll ds ∧ wtAll ds ≤ 10000000 ∧ depAll ds ≤ 30 ∧ Q (.str (shown (.lst ds))) H
theorem call_repr {X : Cx} {k : Nat} (hr : Room k X.A) (hg : X.A.guards = some []) : CallR X (.builtin "repr") (rRepr X.K) := by
  intro pins s σ H xs us Q I r h
  obtain ⟨x, ds, as, rfl, hd, sm, z, dp, q⟩ := h
  obtain ⟨u, rfl, hu⟩ := vals1 r
  have un := hr.units
  have hz : wt (.lst ds) ≤ sizeLine := by
    rw [sizeLine_eq]
    simp only [wt]
    omega
  have hsh : (listText (shownAll ds)).length ≤ sizeLine := by
    have h1 := shown_wt (.lst ds)
    simp only [shown] at h1
    omega
  simp only [Rep] at hd
  obtain ⟨a, ys, bs, rfl, ha, ra, na, rfl⟩ := hd
  cases (show u = Value.ref a from hu)
  obtain ⟨_, its, n, rv, h1⟩ := (show ObjOk X.prog X.w H s.heap a (.lst ys) from I.hok a _ ha)
  have kr := RepAll.shows I.hok I.kIn ra rv sm (by simp only [wt] at hz; omega) (depAll ds) (Nat.le_refl _)
  have hT : s.TypeIs (.ref a) "list" := ⟨_, h1, rfl⟩
  simp only [shown] at q
  refine call_repr_slot (by omega) hT PySem.F.slot_list_repr.toG ?_
  cases its with
  | nil =>
    generalize shownAll ds = ts at kr q
    cases kr
    rw [show listText [] = ("[]" : Str) from listText_nil] at q
    exact call_list_repr_empty hT h1 rfl ⟨_, _, rfl, .str "[]", H, I.tok _, ⟨_, rfl⟩, q⟩
  | cons y l =>
    refine call_list_reprK (as := bs) (h₀ := s.heap) (d := depAll ds) h1 rfl rfl na (by simpa using kr.length_eq) (fun i y e => kr.item i y (by simpa using e)) (g := []) hg (fun b _ => Clear.nil b) (by show X.A.units + 1 + _ < cLine; omega) (fun _ _ e => e) (fun h' u tk hk => ?_) hsh
    exact ⟨_, _, rfl, .str _, H, I.kept (t' := tk) hk, ⟨_, rfl⟩, q⟩
/-! ### what a class a thing is of -/
/-- isinstance(x, T), by the data -/
def isT (T : String) : D → Bool
  | .int _ => T == "int"
  | .bl _ => T == "bool" || T == "int"
  | .str _ => T == "str"
  | .tup _ => T == "tuple"
  | .lst _ => T == "list"
  | .dct => T == "dict"
  | _ => false
def isTs : List String := ["int", "bool", "tuple", "str", "list", "dict"]
def rIsD (K : PySem.W.Frag) : List V → Hp → VK → Prop := fun xs H Q => ∃ (x : V) (d : D) (as : List Addr) (T : String), xs = [x, .ty T] ∧ T ∈ isTs ∧ Rep K H d x as ∧ Q (.bl (isT T d)) H
theorem kit_exc {K : PySem.W.Frag} {C : Addr} {n : Str} (G : XGood K C n) {T : String} (hT : T ∈ isTs) : PySem.W.kitOne K (.ref C) (.type T) = some false := by
  have e : ∀ T : String, PySem.W.kitMeta T = true → PySem.W.subIn K (.ref C) (.type T) = some false → PySem.W.kitOne K (.ref C) (.type T) = some false := fun T h1 h2 => by
    unfold PySem.W.kitOne PySem.W.kitCls
    rw [if_neg (show ¬ ((Value.ref C == Value.type T) = true) from Bool.false_ne_true)]
    show (if PySem.W.kitMeta T = true then _ else _) = _
    rw [if_pos h1, h2]
  simp only [isTs, List.mem_cons, List.not_mem_nil, or_false] at hT
  rcases hT with rfl | rfl | rfl | rfl | rfl | rfl
  · exact e _ (by decide +kernel) G.ni
  · exact e _ (by decide +kernel) G.nb
  · exact e _ (by decide +kernel) G.nt
  · exact e _ (by decide +kernel) G.ns
  · exact e _ (by decide +kernel) G.nl
  · exact e _ (by decide +kernel) G.nd
theorem kitB_none {T : String} (hT : T ∈ isTs) : kitB "NoneType" T = some false := by
  simp only [isTs, List.mem_cons, List.not_mem_nil, or_false] at hT
  rcases hT with rfl | rfl | rfl | rfl | rfl | rfl <;> decide +kernel
theorem kitB_bool {T : String} (hT : T ∈ isTs) : kitB "bool" T = some (T == "bool" || T == "int") := by
  simp only [isTs, List.mem_cons, List.not_mem_nil, or_false] at hT
  rcases hT with rfl | rfl | rfl | rfl | rfl | rfl <;> decide +kernel
theorem kitB_self {S T : String} (hS : S ∈ ["int", "str", "tuple", "list", "dict"]) (hT : T ∈ isTs) : kitB S T = some (T == S) := by
  simp only [isTs, List.mem_cons, List.not_mem_nil, or_false] at hT hS
  rcases hS with rfl | rfl | rfl | rfl | rfl <;> rcases hT with rfl | rfl | rfl | rfl | rfl | rfl <;> decide +kernel
theorem call_isD {X : Cx} : CallR X (.builtin "isinstance") (rIsD X.K) := by
  intro pins s σ H xs us Q I r h
  obtain ⟨x, d, as, T, rfl, hT, hd, q⟩ := h
  have ex : ∀ t b, TyX X.K H x t → PySem.W.kitOne X.K t (.type T) = some b → isT T d = b → wpAny (model X.prog X.w) X.A (call (.builtin "isinstance") us) (EP X pins σ Q) X.xe s := fun t b h1 h2 h3 => by
    rw [h3] at q
    exact call_isi pins s σ H _ us Q I r ⟨x, .ty T, t, .type T, b, rfl, .ty T, h1, h2, q⟩
  cases d with
  | non =>
    simp only [Rep] at hd
    obtain ⟨rfl, rfl⟩ := hd
    exact ex _ _ (.base .non) (kit_ty (kitB_none hT)) rfl
  | bl b =>
    simp only [Rep] at hd
    obtain ⟨rfl, rfl⟩ := hd
    exact ex _ _ (.base (.bl b)) (kit_ty (kitB_bool hT)) rfl
  | int i =>
    simp only [Rep] at hd
    obtain ⟨rfl, rfl⟩ := hd
    exact ex _ _ (.base (.int i)) (kit_ty (kitB_self (by decide) hT)) rfl
  | str y =>
    simp only [Rep] at hd
    obtain ⟨rfl, rfl⟩ := hd
    exact ex _ _ (.base (.str y)) (kit_ty (kitB_self (by decide) hT)) rfl
  | tup ds =>
    simp only [Rep] at hd
    obtain ⟨a, ys, bs, rfl, ha, _⟩ := hd
    exact ex _ _ (.base (.tup ha)) (kit_ty (kitB_self (by decide) hT)) rfl
  | lst ds =>
    simp only [Rep] at hd
    obtain ⟨a, ys, bs, rfl, ha, _⟩ := hd
    exact ex _ _ (.base (.lst ha)) (kit_ty (kitB_self (by decide) hT)) rfl
  | dct =>
    simp only [Rep] at hd
    obtain ⟨a, rfl, ha, _⟩ := hd
    exact ex _ _ (.base (.dK ha)) (kit_ty (kitB_self (by decide) hT)) rfl
  | exc C n m =>
    simp only [Rep] at hd
    obtain ⟨a, t, dd, rfl, ha, ht, hx, G, _⟩ := hd
    obtain ⟨u1, u2, rfl, r1, r2⟩ := vals2 r
    cases (show u1 = Value.ref a from r1)
    cases (show u2 = Value.type T from r2)
    have h1 := xV_at I.hok ha
    obtain ⟨cd, hc, _⟩ := G.nm
    have fin : ∀ od, PySem.W.InstAt s.heap a (xRec C dd t) C od → wpAny (model X.prog X.w) X.A (call (.builtin "isinstance") [.ref a, .type T]) (EP X pins σ Q) X.xe s := fun od J =>
      PySem.W.kia_one (PySem.W.kitx_exc (od := od) (by rw [hc]; rfl) G.ga G.gt G.sub G.ca G.cn G.ct G.mo) I.kIn J (kit_exc G hT) (fun z => nomatch z) fun tk => ⟨.bl false, H, I.tok tk, rfl, q⟩
    cases dd with
    | none => exact fin none ⟨h1, rfl, rfl, trivial⟩
    | some dx =>
      obtain ⟨o, ho⟩ := (show ObjOk X.prog X.w H s.heap dx (.own a) from I.hok dx _ (hx dx rfl))
      exact fin (some o) ⟨h1, rfl, rfl, ho⟩
end Sw
namespace Sw
open PySem PySem.Spec PyProof.Rows
theorem enum_new1 {v : Value} {o : Obj} {Hx : Heap → Prop} (B : Begins v o Hx) :
    Meets (Builtin.«enumerate.__new__» ⟨[.type "enumerate", v], []⟩) (fun _ R s => Hx s.heap ∧
      R (.ok (.ret (.ref (s.heap.push o).objs.size))) { s with heap := (s.heap.push o).push { cls := .type "enumerate", data := .fields #[.none, .bool false, .ref s.heap.objs.size, rawInt 0, .none, .none] } }) :=
  .of_wp fun prog w A R s h => by
    obtain ⟨hp, g, d, tk, os⟩ := s
    obtain ⟨h1, h⟩ := h
    have hsub := sub_enumerate
    have q1 : ∀ {A' : Around} {E : Value → Shared → Prop} {Q : Value → Shared → Prop}, Q (.ref hp.objs.size) ⟨hp.push o, g, d, tk, os⟩ → wpAny (model prog w) A' (pyIter v) Q E ⟨hp, g, d, tk, os⟩ :=
      fun q => B.iter prog w _ _ ⟨hp, g, d, tk, os⟩ _ h1 q
    wp_walk using q1
    refine wpAny_stack_any fun st => wpAny_pure ?_
    split
    · rename_i c _ _ _ _ _
      cases (c == Value.type "enumerate")
      · wp_walk using q1
        exact ⟨_, rfl, h⟩
      · wp_walk using q1
        exact ⟨_, rfl, h⟩
    · wp_walk using q1
      exact ⟨_, rfl, h⟩
theorem enum_call1 {prog : Program} {w : World} {A : Around} {E : Value → Shared → Prop} {s : Shared} {v : Value} {o : Obj} {Hx : Heap → Prop} {Q : Value → Shared → Prop} (B : Begins v o Hx) (h1 : Hx s.heap)
    (h : ∀ h', IsEnum h' (s.heap.objs.size + 1) s.heap.objs.size 0 .none → h'.get? s.heap.objs.size = some o → (∀ b o, s.heap.get? b = some o → h'.get? b = some o) → Q (.ref (s.heap.objs.size + 1)) { s with heap := h' }) :
    wpAny (model prog w) A (call (.type "enumerate") [v]) Q E s := by
  refine callType_new F.called_enumerate (by decide) (F.typeCall_enumerate_1 _) (F.newCall_enumerate_1 _) (fun obj => F.args_object_init_2 obj _) F.entry_enumerate_new (enum_new1 B) ⟨h1, ?_⟩
  have hz : (s.heap.push o).objs.size = s.heap.objs.size + 1 := Heap.size_push ..
  show _ ∧ _
  rw [hz]
  have he : IsEnum ((s.heap.push o).push { cls := .type "enumerate", data := .fields #[.none, .bool false, .ref s.heap.objs.size, rawInt 0, .none, .none] }) (s.heap.objs.size + 1) s.heap.objs.size 0 .none := by
    have q := Heap.get?_push_size (s.heap.push o) (o := { cls := .type "enumerate", data := .fields #[.none, .bool false, .ref s.heap.objs.size, rawInt 0, .none, .none] }) rfl
    rw [hz] at q
    exact q
  exact ⟨⟨_, he, rfl⟩, h _ he (Heap.get?_push_of_some _ (Heap.get?_push_size _ B.free)) fun b o x => Heap.get?_push_of_some _ (Heap.get?_push_of_some _ x)⟩
end Sw
namespace Sw
open PySem PySem.Spec PyProof.Rows L2
/-- the tuple at a, each item in a new pair with its place -/
def ItTe (K : PySem.W.Frag) (a : Addr) : It :=
  ⟨fun i H => ∃ (xs : List V) (x : V), SqT K H a xs ∧ xs[i]? = some x, fun i H v H' => ∃ T x, v = .ref T ∧ H T = none ∧ H' = upd H T (.tup [.int (i : Nat), x]) ∧ ∀ xs, SqT K H a xs → xs[i]? = some x, fun i H => ∃ xs : List V, SqT K H a xs ∧ xs.length = i⟩
theorem turn_te {P : Program} {w : World} {K : PySem.W.Frag} {elts : List Expr} {kk : Nat} {tpos : Pos} (a e it : Addr) :
    Turn P w K (.Tuple elts kk tpos) (ItTe K a) [e, it] e (fun i h => (∃ old, IsEnum h e it ((i : Nat) : Int) old) ∧ h.IsTupleIter it a i ∧ e ≠ it ∧ a ≠ it ∧ a ≠ e) where
  mem := by simp
  obj := fun i h st b hb => by
    obtain ⟨⟨old, he⟩, ⟨o, ho, hc, hd⟩, _⟩ := st
    rcases List.mem_cons.mp hb with z | z
    · rw [z]; exact ⟨_, he, fun v q => nomatch q⟩
    · obtain rfl := List.mem_singleton.mp z
      exact ⟨o, ho, fun v q => by rw [hd] at q; cases q⟩
  keep := fun i h h' st k => by
    obtain ⟨⟨old, he⟩, hi, hne⟩ := st
    exact ⟨⟨old, k e (by simp) _ he⟩, hi.at fun o q => k it (by simp) o q, hne⟩
  item := by
    intro X hP hw hK hc i pins s σ H E I hf st hg
    subst hP hw hK
    obtain ⟨⟨old, he⟩, hit, hne, hai, hae⟩ := st
    obtain ⟨xs, x, hq, hx⟩ := hg
    obtain ⟨its, rv, p, hz⟩ := I.tuple hq
    obtain ⟨u, hu, ru⟩ := rv.get hx
    have hel : e < s.heap.objs.size := Heap.lt_size he
    have hil : it < s.heap.objs.size := by obtain ⟨_, q, _⟩ := hit; exact Heap.lt_size q
    have hlt : i < its.toArray.size := by
      have := (List.getElem?_eq_some_iff.mp hu).1
      simpa using this
    refine wpAny_pyNext_enum_itemD (Draws.tuple (A := X.A.in1) (I.ok.hd hc) it a hai its.toArray) he ⟨hit, p⟩ hlt hne (by simp [hne, Ne.symm hae]) fun y h' tk hy ho hst hT hsz hk => ?_
    obtain ⟨hit', _⟩ := hst
    have ey : y = u := by
      have q : its.toArray[i]? = some y := hy
      have q2 : its.toArray[i]? = some u := by simpa using hu
      rw [q2] at q
      exact (Option.some.inj q).symm
    subst ey
    refine ⟨_, rfl, wpAny_letOwnedTupleGo_enum (s := { s with heap := h', toks := tk + 1 }) ho fun h'' he' sb => ?_⟩
    have hT2 : h''.get? s.heap.objs.size = some { cls := .type "tuple", data := .seq #[.int i tk, y] } := (sb.2 _ (Nat.ne_of_gt hel)).trans hT
    have new : ObjOk X.prog X.w (upd H s.heap.objs.size (.tup [.int (i : Nat), x])) h'' s.heap.objs.size (.tup [.int (i : Nat), x]) :=
      ⟨by show 2 ≤ sizeLine; decide, [.int i tk, y], .cons ⟨_, rfl⟩ (.cons ru .nil), ⟨_, hT2, rfl, _, rfl⟩⟩
    have I1 : Inv X pins σ (upd H s.heap.objs.size (.tup [.int (i : Nat), x])) { s with heap := h'', toks := tk + 1 } :=
      I.turnedNew (ch := [e, it]) (fun b ob hb q => (sb.2 b (fun z => hb (by simp [z]))).trans (hk b ob (fun z => hb (by simp [z])) (fun z => hb (by simp [z])) q)) hf (Nat.le_refl _) new
    refine ⟨.ref s.heap.objs.size, _, I1, rfl, ⟨_, x, rfl, I.hok.fresh (Nat.le_refl _), rfl, fun ys hy => by rw [I.tuple_inj hy hq]; exact hx⟩, ⟨⟨y, ?_⟩, hit'.at fun o q => (sb.2 it (Ne.symm hne)).trans q, hne, hai, hae⟩, fun b hb => ?_⟩
    · have e1 : ((i + 1 : Nat) : Int) = (i : Int) + 1 := by omega
      rw [e1]; exact he'
    · have hb' : b < s.heap.objs.size := by
        rcases List.mem_cons.mp hb with z | z
        · rw [z]; exact hel
        · obtain rfl := List.mem_singleton.mp z
          exact hil
      rw [upd_ne (Nat.ne_of_lt hb')]
      exact (hf b hb).1
  done := by
    intro X hP hw hK hc i pins s σ H E I hf st hg
    subst hP hw hK
    obtain ⟨⟨old, he⟩, hit, hne, hai, hae⟩ := st
    obtain ⟨xs, hq, hx⟩ := hg
    obtain ⟨its, rv, p, hz⟩ := I.tuple hq
    obtain ⟨f0, f1, f2, f3, f4, f5⟩ := hf it (by simp)
    have hl := rv.length
    have hi : its.toArray.size = i := by simp; omega
    refine wpAny_pyNext_enum_endD (Draws.tuple (A := X.A.in1) (I.ok.hd hc) it a hai its.toArray) he (by rw [hi]; exact ⟨hit, p⟩) fun h' eb => ⟨rfl, I.turned (t' := s.toks) (fun b o hb q => eb b o hb q) f0 f1 f3 f4 f5⟩
  self := fun A i s Q E st h => let ⟨⟨_, he⟩, _⟩ := st; wpAny_pyIter_enum he h
def iTe (K : PySem.W.Frag) (ta : TA) : TI := fun σ H R => ta σ H fun vs H1 => ∃ a xs, vs = [.ref a] ∧ SqT K H1 a xs ∧ R (ItTe K a) H1
/-- for i, x in enumerate(t), t a tuple -/
theorem pi_enumT {X : Cx} {e : Expr} {ta : TA} {p pos tpos : Pos} {elts : List Expr} {kk : Nat} (hg : Gl X "enumerate") (hm : X.mg "enumerate" = none) (ha : PA X [e] ta) (hs : starEach [e] X.env = [(false, eval e X.env)] := by rfl) :
    PI X (.Tuple elts kk tpos) (.Call (.Name "enumerate" p) [e] [] pos) (iTe X.K ta) := by
  refine ⟨fun pins s σ H R I h => ?_⟩
  refine Call_ (ld_blt I hg hm boot_enumerate (PyProof.Rows.callWith_type1 (thn (ha.run pos pins s σ H _ I h) fun us s1 ⟨vs, H1, I1, r1, q1⟩ => ?_) hs rfl))
  obtain ⟨a, xs, ex, hq, q⟩ := q1
  subst ex
  cases r1 with
  | cons r rr =>
    cases rr
    cases r
    obtain ⟨its, rv, p', hz⟩ := I1.tuple hq
    have hal : a < s1.heap.objs.size := by obtain ⟨_, q, _⟩ := p'; exact Heap.lt_size q
    refine enum_call1 (begins_tuple a its.toArray) p' fun h' he hit hk => wpAny_pyIter_enum he ?_
    have I2 : Inv X pins σ H1 { s1 with heap := h' } := I1.kept (t' := s1.toks) hk
    refine ⟨s1.heap.objs.size + 1, [s1.heap.objs.size + 1, s1.heap.objs.size], _, _, H1, rfl, I2, turn_te a (s1.heap.objs.size + 1) s1.heap.objs.size, ⟨⟨.none, he⟩, ⟨_, hit, rfl, rfl⟩, Nat.succ_ne_self _, Nat.ne_of_lt hal, Nat.ne_of_lt (Nat.lt_succ_of_lt hal)⟩, fun b hb => ?_, q⟩
    have hle : s1.heap.objs.size ≤ b := by
      rcases List.mem_cons.mp hb with z | z
      · rw [z]; exact Nat.le_add_right _ _
      · obtain rfl := List.mem_singleton.mp z
        exact Nat.le_refl _
    exact I1.fpOk hle (I1.hok.fresh hle)
theorem walk_te {K : PySem.W.Frag} {a : Addr} {xs : List V} : Walk (ItTe K a) xs.length (fun H => SqT K H a xs) (YPair (fun i => some (.int (i : Nat))) (fun i => xs[i]?)) := by
  refine ⟨fun i _ hi q => ⟨xs, xs[i], q, by simp [hi]⟩, fun _ q => ⟨xs, q, rfl⟩, fun i H v H' _ q y => ?_⟩
  obtain ⟨T, x, h1, h2, h3, h4⟩ := y
  exact ⟨T, .int (i : Nat), x, h1, h2, h3, rfl, h4 xs q⟩
end Sw
namespace Sw
open PySem L2
/-! ### what all laws share: the text by places, the checks of the package, data in short -/
def top (i : Nat) : Stmt := PySem.Challenge.pw_swapstops_k04_whole_numbers_of_standings.main.body.getD i (.Pass ⟨0, 0, 0, 0⟩)
def isWhole (lo hi : Int) : D → Bool
  | .int i => decide (lo ≤ i) && decide (i ≤ hi)
  | _ => false
def isPair : D → Bool
  | .tup [_, _] => true
  | _ => false
/-- built-in names that no module has taken -/
structure NoNames (mg : Str → Option Value) : Prop where
  isi : mg "isinstance" = none
  len : mg "len" = none
  int : mg "int" = none
  bool : mg "bool" = none
  tuple : mg "tuple" = none
  enumerate : mg "enumerate" = none
  range : mg "range" = none
  abs : mg "abs" = none
  list : mg "list" = none
  dict : mg "dict" = none
  zip : mg "zip" = none
  sorted : mg "sorted" = none
  str : mg "str" = none
  repr : mg "repr" = none
  super : mg "super" = none
section
variable {P : Program} {w : World} {K : PySem.W.Frag} {mg : Str → Option Value} {base : Heap}
/-- isinstance(the name in slot i, T) -/
theorem pe_isi {X : Cx} {i : Nat} {x T : Str} {p1 p2 p3 p4 : Pos} {TN : String} (hN : X.N[i]? = some x) (hv : Vis X.env.scope x) (hd : (x == ("__debug__" : Str)) = false) (hcd : (x == ("__classdict__" : Str)) = false)
    (h1 : X.mg "isinstance" = none) (h2 : X.mg T = none) (g1 : Gl X "isinstance") (g2 : Gl X T) (hb : bootBuiltins T = some (.type TN)) (hn : T ≠ "__name__") (hd2 : (T == ("__debug__" : Str)) = false)
    (hs : starEach [Expr.Name x p1, Expr.Name T p2] X.env = (false, eval (.Name x p1) X.env) :: starEach [Expr.Name T p2] X.env := by rfl) (hs2 : starEach [Expr.Name T p2] X.env = (false, eval (.Name T p2) X.env) :: starEach [] X.env := by rfl)
    (hpl : (backTo p4 (starEach [Expr.Name T p2] X.env)).any (·.1) = false := by rfl) :
    PE X (.Call (.Name "isinstance" p3) [.Name x p1, .Name T p2] [] p4) (tCB (rIsD X.K) (tCons (tVar i) (tCons (tC (.ty TN)) tNil))) :=
  pe_callB call_isD g1 h1 (by decide +kernel) (pa_cons (pe_var hN hv hd hcd) (pa_cons (pe_bltn (v := .ty TN) g2 h2 hb rfl hn hd2) pa_nil hs2) hs) (by decide) (by decide) hs hpl
def spBetween (K : PySem.W.Frag) : Sp := fun vs H Q _ => ∃ (x : V) (d : D) (as : List Addr) (lo hi : Int), vs = [x, .int lo, .int hi] ∧ Rep K H d x as ∧ Q (.bl (isWhole lo hi d)) H
/-! ### is_pair -/
def spPair (K : PySem.W.Frag) : Sp := fun vs H Q _ => ∃ (x : V) (d : D) (as : List Addr), vs = [x] ∧ Rep K H d x as ∧ Q (.bl (isPair d)) H
/-- a def of one's own that may be called by its name -/
structure Own (P : Program) (w : World) (K : PySem.W.Frag) (mg : Str → Option Value) (base : Heap) (k : Nat) (x : Str) (ps : List Str) (sp : Sp) : Prop where
  ex : ∃ f fd, FnOk P w K mg base CX0 k f fd ps sp ∧ mg x = some (.ref f) ∧ PySem.W.keepIn K (.ref f) = true ∧ Binds K fd ps []
theorem two_of {d : D} (h : isPair d = true) : ∃ a b, d = .tup [a, b] := by
  cases d with
  | tup ds =>
    match ds, h with
    | [a, b], _ => exact ⟨a, b, rfl⟩
    | [], h => cases h
    | [_], h => cases h
    | _ :: _ :: _ :: _, h => cases h
  | _ => cases h
theorem int_wt {i : Nat} (h : i ≤ sizeLine) : (Str.ofString (toString (i : Int))).length ≤ 20 ∧ ((i : Int)).natAbs.log2 < 1920 := by
  rw [sizeLine_eq] at h
  have h1 : ((i : Int)).natAbs < 10 ^ 19 := by
    have : ((i : Int)).natAbs = i := rfl
    rw [this]
    omega
  have h2 := int_text_length_le10 (k := 19) (by decide) h1
  rw [PySem.ofString_length]
  refine ⟨h2, ?_⟩
  exact PySem.Spec.log2_small (Nat.lt_of_lt_of_le h1 (by decide +kernel))
theorem wt_len : ∀ ds : List D, 2 * ds.length ≤ wtAll ds
  | [] => by simp [wtAll]
  | d :: r => by
    have := wt_len r
    simp only [wtAll, List.length_cons]
    omega
/-- a new pair of a word and a place -/
theorem rep_err {H : Hp} {p : Addr} {z : Str} {i : Int} (h : H p = none) : Rep K (upd H p (.tup [.str z, .int i])) (.tup [.str z, .int i]) (.ref p) [p] := by
  simp only [Rep, RepAll]
  exact ⟨p, _, [], rfl, upd_same, ⟨_, _, [], [], rfl, ⟨rfl, rfl⟩, ⟨_, _, [], [], rfl, ⟨rfl, rfl⟩, ⟨rfl, rfl⟩, rfl⟩, rfl⟩, by simp, rfl⟩
theorem same_new {H : Hp} {p : Addr} {o : HO} (h : H p = none) : Same H (upd H p o) := fun b x e => by
  rw [upd_ne (ne_of_none e h)]
  exact e
theorem Rep.same {H H' : Hp} {d : D} {v : V} {as : List Addr} (h : Rep K H d v as) (s : Same H H') : Rep K H' d v as := h.keep fun b _ o e => s b o e
theorem RepAll.same {H H' : Hp} {d : List D} {v : List V} {as : List Addr} (h : RepAll K H d v as) (s : Same H H') : RepAll K H' d v as := h.keep fun b _ o e => s b o e
theorem pair_len {ds : List D} {n : Nat} (h : n = ds.length) : isPair (.tup ds) = decide (V.int (n : Int) = V.int 2) := by
  match ds, h with
  | [], hl => rw [hl]; rfl
  | [_], hl => rw [hl]; rfl
  | [_, _], hl => rw [hl]; rfl
  | _ :: _ :: _ :: r, hl =>
    rw [hl]
    show false = _
    refine (decide_eq_false fun z => ?_).symm
    have z2 : ((_ : Nat) : Int) = 2 := V.int.inj z
    simp only [List.length_cons] at z2
    omega
theorem tup_of {d : D} (e : isT "tuple" d = true) : ∃ ds, d = .tup ds := by
  cases d <;> first | exact ⟨_, rfl⟩ | (simp_all [isT])
theorem pair_tup {d : D} (e : isT "tuple" d = false) : isPair d = false := by
  cases d <;> simp_all [isT, isPair]
/-- isinstance(e, T) -/
theorem pe_isiE {X : Cx} {e : Expr} {te : TE} {T : Str} {p2 p3 p4 : Pos} {TN : String} (he : PE X e te)
    (h1 : X.mg "isinstance" = none) (h2 : X.mg T = none) (g1 : Gl X "isinstance") (g2 : Gl X T) (hb : bootBuiltins T = some (.type TN)) (hn : T ≠ "__name__") (hd2 : (T == ("__debug__" : Str)) = false)
    (hs : starEach [e, Expr.Name T p2] X.env = (false, eval e X.env) :: starEach [Expr.Name T p2] X.env := by rfl) (hs2 : starEach [Expr.Name T p2] X.env = (false, eval (.Name T p2) X.env) :: starEach [] X.env := by rfl)
    (hpl : (backTo p4 (starEach [Expr.Name T p2] X.env)).any (·.1) = false := by rfl) :
    PE X (.Call (.Name "isinstance" p3) [e, .Name T p2] [] p4) (tCB (rIsD X.K) (tCons te (tCons (tC (.ty TN)) tNil))) :=
  pe_callB call_isD g1 h1 (by decide +kernel) (pa_cons he (pa_cons (pe_bltn (v := .ty TN) g2 h2 hb rfl hn hd2) pa_nil hs2) hs) (by decide) (by decide) hs hpl
end
end Sw
namespace Sw
open PySem L2
abbrev sDeck : Stmt := top 12
abbrev sDraw : Stmt := top 13
abbrev sPick : Stmt := top 14
abbrev sMixed : Stmt := top 15
theorem scDeck : FnScope ["script", "deck", "cell", "whole", "state"] ["script"] (defScope sDeck) := ⟨rfl, rfl, rfl, by decide +kernel, rfl, by decide +kernel, by decide +kernel⟩
theorem scDraw : FnScope ["deck", "many", "whole", "one", "two"] ["deck", "many"] (defScope sDraw) := ⟨rfl, rfl, rfl, by decide +kernel, rfl, by decide +kernel, by decide +kernel⟩
theorem scPick : FnScope ["deck", "items"] ["deck", "items"] (defScope sPick) := ⟨rfl, rfl, rfl, by decide +kernel, rfl, by decide +kernel, by decide +kernel⟩
theorem scMixed : FnScope ["deck", "items", "left", "found"] ["deck", "items"] (defScope sMixed) := ⟨rfl, rfl, rfl, by decide +kernel, rfl, by decide +kernel, by decide +kernel⟩
/-! ### the deck -/
def kD : Key := .inr "deep"
def kS : Key := .inr "state"
theorem kDS : ¬ kD = kS := by decide +kernel
theorem kSD : ¬ kS = kD := by decide +kernel
def deckL (d : Addr) (st : Int) : List (Key × V) := [(kD, .ref d), (kS, .int st)]
theorem deck_deep (d : Addr) (st : Int) : valV (deckL d st) kD = some (.ref d) := by
  show ((deckL d st).find? fun kv => decide (kv.1 = kD)).map (·.2) = _
  unfold deckL
  rw [List.find?_cons, decide_eq_true rfl]
  rfl
theorem deck_state (d : Addr) (st : Int) : valV (deckL d st) kS = some (.int st) := by
  show ((deckL d st).find? fun kv => decide (kv.1 = kS)).map (·.2) = _
  unfold deckL
  rw [List.find?_cons, decide_eq_false kDS, List.find?_cons, decide_eq_true rfl]
  rfl
theorem deck_put_deep (d e : Addr) (st : Int) : putK (deckL d st) kD (.ref e) = deckL e st := by
  unfold putK deckL
  rw [if_pos (by simp)]
  simp [kSD]
theorem deck_put_state (d : Addr) (st z : Int) : putK (deckL d st) kS (.int z) = deckL d z := by
  unfold putK deckL
  rw [if_pos (by simp)]
  simp [kDS]
theorem deck_new (d : Addr) (st : Int) : mergeK [] [(kD, V.ref d), (kS, V.int st)] = deckL d st := by
  show putK (putK [] kD (.ref d)) kS (.int st) = _
  have e1 : putK ([] : List (Key × V)) kD (.ref d) = [(kD, .ref d)] := by simp [putK]
  rw [e1]
  unfold putK deckL
  rw [if_neg (by simp [kDS])]
  rfl
/-- a deck at p, its deep cells at d: at most m -/
structure Deck (H : Hp) (p d : Addr) (m : Nat) : Prop where
  ex : ∃ (ns : List Int) (st : Int), H p = some (.dK (deckL d st)) ∧ H d = some (.lst (ns.map V.int)) ∧ ns.length ≤ m ∧ (∀ n ∈ ns, 0 ≤ n) ∧ 0 ≤ st ∧ st < 2 ^ 61
theorem Deck.same {H H' : Hp} {p d : Addr} {m : Nat} (D : Deck H p d m) (s : Same H H') : Deck H' p d m := by
  obtain ⟨ns, st, h1, h2, r⟩ := D.ex
  exact ⟨ns, st, s _ _ h1, s _ _ h2, r⟩
theorem Deck.ne {H : Hp} {p d : Addr} {m : Nat} (D : Deck H p d m) : p ≠ d := by
  obtain ⟨ns, st, h1, h2, r⟩ := D.ex
  exact ne_of h1 h2 (by intro z; cases z)
theorem Deck.mono {H : Hp} {p d : Addr} {m k : Nat} (D : Deck H p d m) (h : m ≤ k) : Deck H p d k := by
  obtain ⟨ns, st, h1, h2, h3, r⟩ := D.ex
  exact ⟨ns, st, h1, h2, Nat.le_trans h3 h, r⟩
theorem dget_deep {H : Hp} {p d : Addr} {st : Int} (h : H p = some (.dK (deckL d st))) : DGet H p (.str "deep") (some (.ref d)) := by
  have q := DGet.k (k := kD) h
  rw [deck_deep] at q
  exact q
theorem dget_state {H : Hp} {p d : Addr} {st : Int} (h : H p = some (.dK (deckL d st))) : DGet H p (.str "state") (some (.int st)) := by
  have q := DGet.k (k := kS) h
  rw [deck_state] at q
  exact q
theorem dput_deep {H : Hp} {p d : Addr} {st : Int} (e : Addr) (h : H p = some (.dK (deckL d st))) : DPut H p (.str "deep") (.ref e) (upd H p (.dK (deckL e st))) := by
  have q := DPut.k (k := kD) (v := .ref e) h (by show 2 < sizeLine; rw [sizeLine_eq]; omega)
  rw [deck_put_deep] at q
  exact q
theorem dput_state {H : Hp} {p d : Addr} {st : Int} (z : Int) (h : H p = some (.dK (deckL d st))) : DPut H p (.str "state") (.int z) (upd H p (.dK (deckL d z))) := by
  have q := DPut.k (k := kS) (v := .int z) h (by show 2 < sizeLine; rw [sizeLine_eq]; omega)
  rw [deck_put_state] at q
  exact q
theorem cut_int (ns : List Int) (lo hi : Option Int) : ∃ ms : List Int, cutV (ns.map V.int) lo hi = ms.map V.int ∧ ms.length ≤ ns.length := by
  refine ⟨(ns.drop (HT.sIx (ns.map V.int).length 0 lo)).take (HT.sIx (ns.map V.int).length (ns.map V.int).length hi - HT.sIx (ns.map V.int).length 0 lo), ?_, ?_⟩
  · unfold cutV
    rw [List.map_take, List.map_drop]
  · rw [List.length_take, List.length_drop]
    omega
section
variable {P : Program} {w : World} {K : PySem.W.Frag} {mg : Str → Option Value} {base : Heap}
def spDeck (K : PySem.W.Frag) : Sp := fun vs H Q _ => ∃ (a : Addr) (ns : List Int), vs = [.ref a] ∧ SqL K H a (ns.map V.int) ∧ ns.length ≤ 63 ∧ ∀ (p d : Addr) (H' : Hp), Same H H' → H p = none → H d = none → Deck H' p d 63 → Q (.ref p) H'
theorem ok_deck {f : Addr} {fd : FuncData} (F : Fun K "_law_deck" "_law_deck" sDeck f fd) (B : NoNames mg) : FnOk P w K mg base CX0 1 f fd ["script"] (spDeck K) := by
  refine F.ok scDeck (fun vs H Q E h => ?_) (fun cdv A outer s H vs Q E hr h => ?_)
  · obtain ⟨a, ns, rfl, _⟩ := h
    rfl
  · obtain ⟨a, ns, rfl, hS, hl, k⟩ := h
    have hu := hu_of hr
    refine ⟨_, pss_cons (ps_set (i := 1) scDeck.nd rfl (.inl rfl) (pe_disp (pps_cons pe_str (pe_lst pa_nil) (pps_cons pe_str (pe_op op_add pe_int (pe_callB call_len_seq (by rfl) B.len PySem.boot_len (pa_cons (pe_slice sl_list (pv 0) po_none (po_some pe_int)) pa_nil))) pps_nil)) (by rfl) (by rfl) (fun z => by cases z) (by decide)))
      (pss_cons (ps_for PassesOwn.never rfl (pi_list (pe_slice sl_list (pv 0) po_none (po_some pe_int))) (pg_name (i := 2) scDeck.nd rfl (.inl rfl))
        (pss_cons (ps_set (i := 3) scDeck.nd rfl (.inl rfl) (pe_callB call_abs (by rfl) B.abs (by decide +kernel) (pa_cons (pv 2) pa_nil)))
        (pss_cons (ps_if (pt_cmpR op_ge (pv 3) (pe_op op_pow pe_int pe_int) (nomark _)) (pss_one (ps_dput hu (pv 1) pe_str (pe_op op_cat (pe_lst (pa_cons (pv 3) pa_nil)) (pe_dget hu (pv 1) pe_str (fun _ _ => rfl))) rfl)) pss_nil)
        (pss_cons (ps_set (i := 4) scDeck.nd rfl (.inl rfl) (pe_op op_add (pe_op op_mul (pe_op op_add (pe_op op_add (pe_op op_add (pe_dget hu (pv 1) pe_str (fun _ _ => rfl)) (pe_op op_mul pe_int (pv 3)))
            (pe_callTy call_int1 (by rfl) B.int (by decide +kernel) (pa_cons (pe_cmpR op_lt (pv 2) pe_int (nomark _)) pa_nil))) pe_int) pe_int) pe_int))
        (pss_one (ps_dput hu (pv 1) pe_str (pe_op op_mod (pe_callTy call_int1 (by rfl) B.int (by decide +kernel) (pa_cons (pv 4) pa_nil)) pe_int) rfl))))))
      (pss_one (ps_ret (pv 1)))), ?_⟩
    -- the deck
    intro p np
    refine ⟨Nat.zero_le _, fun l nl => ?_⟩
    have nlp : p ≠ l := fun z => by
      rw [z, upd_same] at nl
      cases nl
    have nl0 : H l = none := by
      rw [upd_ne nlp.symm] at nl
      exact nl
    have s1 : Same H (upd (upd H p (.dK [])) l (.lst [])) := (same_new np).trans (same_new nl)
    obtain ⟨ms, em, lm⟩ := cut_int ns none (some 63)
    refine ⟨_, rfl, 63, rfl, a, ns.map V.int, rfl, s1.seq hS, fun c nc => ?_⟩
    rw [em]
    refine ⟨c, _, rfl, .inl (SqL.of upd_same), _, _, rfl, rfl, ?_⟩
    have s2 := s1.trans (same_new (o := .lst (ms.map V.int)) nc)
    have ncp : p ≠ c := fun z => by
      rw [← z, upd_ne nlp, upd_same] at nc
      cases nc
    have ncl : l ≠ c := fun z => by
      rw [← z, upd_same] at nc
      cases nc
    refine ⟨by rw [upd_ne ncp, upd_ne nlp, upd_same], [(kD, .ref l), (kS, .int (1279804 + ((ms.map V.int).length : Int)))], rfl, by show 2 ≤ 15; decide, ?_⟩
    rw [deck_new]
    have em2 : (ms.map V.int).length ≤ 63 := by
      rw [List.length_map]
      omega
    have d0 : Deck (upd (upd (upd (upd H p (.dK [])) l (.lst [])) c (.lst (ms.map V.int))) p (.dK (deckL l (1279804 + ((ms.map V.int).length : Int))))) p l 0 :=
      ⟨[], _, upd_same, by rw [upd_ne nlp.symm, upd_ne ncl, upd_same]; rfl, Nat.le_refl _, fun _ h => absurd h (by simp), by omega, by omega⟩
    have s3 : Same H (upd (upd (upd (upd H p (.dK [])) l (.lst [])) c (.lst (ms.map V.int))) p (.dK (deckL l (1279804 + ((ms.map V.int).length : Int))))) := fun b o e => by
      rw [upd_ne (ne_of_none e np)]
      exact s2 b o e
    -- for cell in script[:63]
    refine ⟨_, rfl, 63, rfl, a, ns.map V.int, rfl, s3.seq hS, fun c2 nc2 => ?_⟩
    rw [em]
    have s4 := s3.trans (same_new (o := .lst (ms.map V.int)) nc2)
    have p0 : ∀ {H' : Hp}, (∃ d', Deck H' p d' 0) → True := fun _ => trivial
    refine ⟨c2, rfl, ⟨_, SqL.of upd_same⟩, for_it (walk_list (xs := ms.map V.int)) (fun i σ H' => ∃ s2 s3 s4 d', σ = [some (.ref a), some (.ref p), s2, s3, s4] ∧ Same H H' ∧ H' c2 = some (.lst (ms.map V.int)) ∧ H d' = none ∧ Deck H' p d' i)
      ⟨none, none, none, l, rfl, s4, upd_same, nl0, d0.same (same_new nc2)⟩ (fun i σ H' _ h => by obtain ⟨_, _, _, _, _, _, h3, _⟩ := h; exact SqL.of h3) ?_ ?_⟩
    · rintro i x σ H0 H1 hi ⟨t2, t3, t4, d', rfl, w1, w2, w3, D⟩ ⟨rfl, ex⟩
      obtain ⟨z, rfl⟩ : ∃ z, x = V.int z := by
        rw [List.getElem?_map] at ex
        cases q : ms[i]? with
        | none => rw [q] at ex; cases ex
        | some z => rw [q] at ex; exact ⟨z, (Option.some.inj ex).symm⟩
      have hi63 : i < 63 := by
        rw [List.length_map] at hi
        omega
      -- whole = abs(cell)
      refine ⟨_, rfl, z, rfl, ?_⟩
      obtain ⟨deep, st, hp1, hd1, hl1, hn1, hs1, hs2⟩ := id D.ex
      have hW : 0 ≤ (if z < 0 then -z else z) := by split <;> omega
      generalize (if z < 0 then -z else z) = W at hW ⊢
      refine ⟨_, rfl, _, _, rfl, rfl, ⟨by decide, by decide, by decide⟩, _, _, rfl, rfl, _, rfl, ?_⟩
      refine ite2 (fun _ => ?yes) (fun _ => ?no)
      case' yes =>
        -- deck["deep"] = [whole] + deck["deep"]
        refine ⟨_, rfl, by show 1 ≤ sizeLine; decide, fun q nq => ?_⟩
        have sq : Same H1 (upd H1 q (.lst [.int W])) := same_new nq
        refine ⟨_, rfl, p, _, rfl, dget_deep (sq _ _ hp1), q, d', _, _, rfl, rfl, upd_same, sq _ _ hd1, ?_, fun e ne => ?_⟩
        · rw [List.length_map, sizeLine_eq]
          show 1 + deep.length ≤ _
          omega
        have se := sq.trans (same_new (o := .lst ([V.int W] ++ deep.map V.int)) ne)
        refine ⟨_, rfl, p, _, rfl, dput_deep e (se _ _ hp1), ?_⟩
        have ep : e ≠ p := fun y => by
          rw [y, sq _ _ hp1] at ne
          cases ne
        have cp : c2 ≠ p := ne_of w2 hp1 (by intro y; cases y)
        have e0 : H e = none := w1.free (sq.free ne)
        have y1 : Same H (upd (upd (upd H1 q (.lst [.int W])) e (.lst ([V.int W] ++ deep.map V.int))) p (.dK (deckL e st))) := fun b o h => by
          rw [upd_ne (ne_of_none h np)]
          exact se _ _ (w1 b o h)
        have y2 : (upd (upd (upd H1 q (.lst [.int W])) e (.lst ([V.int W] ++ deep.map V.int))) p (.dK (deckL e st))) c2 = some (.lst (ms.map V.int)) := by
          rw [upd_ne cp]
          exact se _ _ w2
        have y3 : ∃ (d2 : Addr) (deep2 : List Int) (st2 : Int), (H d2 = none ∧ (upd (upd (upd H1 q (.lst [.int W])) e (.lst ([V.int W] ++ deep.map V.int))) p (.dK (deckL e st))) p = some (.dK (deckL d2 st2)) ∧
            (upd (upd (upd H1 q (.lst [.int W])) e (.lst ([V.int W] ++ deep.map V.int))) p (.dK (deckL e st))) d2 = some (.lst (deep2.map V.int)) ∧ deep2.length ≤ i + 1 ∧ (∀ n ∈ deep2, 0 ≤ n)) ∧ 0 ≤ st2 ∧ st2 < 2 ^ 61 :=
          ⟨e, W :: deep, st, ⟨e0, upd_same, by rw [upd_ne ep, upd_same]; rfl, by simp only [List.length_cons]; omega, fun n hn => by
            rcases List.mem_cons.mp hn with y | y
            · rw [y]; exact hW
            · exact hn1 n y⟩, hs1, hs2⟩
        generalize (upd (upd (upd H1 q (.lst [.int W])) e (.lst ([V.int W] ++ deep.map V.int))) p (.dK (deckL e st))) = H2 at y1 y2 y3 ⊢
      case' no =>
        have y1 : Same H H1 := w1
        have y2 : H1 c2 = some (.lst (ms.map V.int)) := w2
        have y3 : ∃ (d2 : Addr) (deep2 : List Int) (st2 : Int), (H d2 = none ∧ H1 p = some (.dK (deckL d2 st2)) ∧ H1 d2 = some (.lst (deep2.map V.int)) ∧ deep2.length ≤ i + 1 ∧ (∀ n ∈ deep2, 0 ≤ n)) ∧ 0 ≤ st2 ∧ st2 < 2 ^ 61 :=
          ⟨d', deep, st, ⟨w3, hp1, hd1, by omega, hn1⟩, hs1, hs2⟩
        generalize H1 = H2 at y1 y2 y3 ⊢
      all_goals
        obtain ⟨d2, deep2, st2, ⟨g0, g1, g2, g3, g4⟩, g5, g6⟩ := y3
        -- state
        refine ⟨_, rfl, p, _, rfl, dget_state g1, _, rfl, _, _, rfl, rfl, .inl ⟨by decide, by decide⟩, _, _, rfl, rfl, ?_⟩
        refine ⟨_, rfl, _, _, rfl, rfl, .inr ⟨_, rfl, _, _, rfl, rfl, ?_⟩⟩
        refine ⟨_, _, rfl, rfl, _, _, rfl, rfl, .inr ⟨by decide, by decide⟩, _, _, rfl, rfl, ?_⟩
        refine ⟨_, rfl, .inl ⟨_, rfl, _, _, rfl, rfl, (by show (0 : Int) < 2305843009213693951; decide), _, rfl, p, _, rfl, dput_state _ g1, ?_⟩⟩
        have np2 : p ≠ d2 := ne_of g1 g2 (by intro y; cases y)
        have cp : c2 ≠ p := ne_of y2 g1 (by intro y; cases y)
        refine ⟨_, _, _, d2, rfl, fun b o h => ?_, ?_, g0, ⟨deep2, _, upd_same, ?_, g3, g4, Int.emod_nonneg _ (by decide), Int.lt_of_lt_of_le (Int.emod_lt_of_pos _ (by decide)) (by decide)⟩⟩
        · rw [upd_ne (ne_of_none h np)]
          exact y1 b o h
        · rw [upd_ne cp]
          exact y2
        · rw [upd_ne np2.symm]
          exact g2
    · rintro σ H1 ⟨t2, t3, t4, d', rfl, w1, w2, w3, D⟩
      refine ⟨_, rfl, k p d' H1 w1 np w3 (D.mono ?_)⟩
      rw [List.length_map]
      omega
end
end Sw
namespace Sw
open PySem L2
/-- all but the deck stands -/
def Kp (p d : Addr) (H H' : Hp) : Prop := ∀ b o, H b = some o → b ≠ p → b ≠ d → H' b = some o
theorem Kp.of {p d : Addr} {H H' : Hp} (s : Same H H') : Kp p d H H' := fun b o e _ _ => s b o e
theorem Kp.refl {p d : Addr} {H : Hp} : Kp p d H H := fun _ _ e _ _ => e
theorem Kp.trans {p d : Addr} {H H1 H2 : Hp} (s : Kp p d H H1) (t : Kp p d H1 H2) : Kp p d H H2 := fun b o e n1 n2 => t b o (s b o e n1 n2) n1 n2
theorem Kp.new {p d : Addr} {H : Hp} {a : Addr} {o : HO} (h : H a = none) : Kp p d H (upd H a o) := .of (same_new h)
theorem Deck.ne_none {H : Hp} {p d : Addr} {m : Nat} (D : Deck H p d m) {a : Addr} (h : H a = none) : a ≠ p ∧ a ≠ d := by
  obtain ⟨ns, st, h1, h2, r⟩ := D.ex
  refine ⟨fun z => ?_, fun z => ?_⟩
  · rw [z, h1] at h
    cases h
  · rw [z, h2] at h
    cases h
/-- what is not yet stands not behind either -/
theorem Deck.free {H H' : Hp} {p d : Addr} {m : Nat} (D : Deck H p d m) (s : Kp p d H H') {a : Addr} (h : H' a = none) (D' : Deck H' p d m) : H a = none := by
  cases e : H a with
  | none => rfl
  | some o =>
    have n := D'.ne_none h
    have := s a o e n.1 n.2
    rw [this] at h
    cases h
theorem eqv_nil (ns : List Int) : (!PyData.eqv (.list (ns.map PyData.int)) (.list [])) = decide (ns ≠ []) := by
  cases ns with
  | nil => simp [PyData.eqv, PyData.eqvAll]
  | cons a r => simp [PyData.eqv, PyData.eqvAll]
theorem dpInts {K : PySem.W.Frag} {H : Hp} : ∀ ns : List Int, DpAll K H (ns.map V.int) (ns.map PyData.int)
  | [] => .nil
  | n :: r => .cons (.int n) (dpInts r)
theorem last_ints {ns : List Int} (h : ns ≠ []) : ∃ n ms, ns = ms ++ [n] ∧ (ns.map V.int)[(ns.map V.int).length - 1]? = some (.int n) ∧ (ns.map V.int).dropLast = ms.map V.int := by
  refine ⟨ns.getLast h, ns.dropLast, (List.dropLast_concat_getLast h).symm, ?_, ?_⟩
  · rw [List.getElem?_map, List.length_map]
    rw [← List.getLast?_eq_getElem?, List.getLast?_eq_some_getLast h]
    rfl
  · rw [List.map_dropLast]
section
variable {P : Program} {w : World} {K : PySem.W.Frag} {mg : Str → Option Value} {base : Heap}
def spDraw : Sp := fun vs H Q _ => ∃ (p d : Addr) (m : Int), vs = [.ref p, .int m] ∧ Deck H p d 63 ∧ m < 1000000 ∧ ∀ (r : Int) (H' : Hp), 0 ≤ r → (1 ≤ m → r < m) → (m < 2 → r = 0) → Deck H' p d 63 → Kp p d H H' → Q (.int r) H'
theorem ok_draw {f : Addr} {fd : FuncData} (F : Fun K "_law_draw" "_law_draw" sDraw f fd) (B : NoNames mg) : FnOk P w K mg base CX0 1 f fd ["deck", "many"] (spDraw) := by
  refine F.ok scDraw (fun vs H Q E h => ?_) (fun cdv A outer s H vs Q E hr h => ?_)
  · obtain ⟨p, d, m, rfl, _⟩ := h
    rfl
  · obtain ⟨p, d, m, rfl, D, hm, k⟩ := h
    have hu := hu_of hr
    refine ⟨_, pss_cons (ps_if (pt_cmpR op_lt (pv 1) pe_int (nomark _)) (pss_one (ps_ret pe_int)) pss_nil)
      (pss_cons (ps_if (pt_cmpR (op_neD hr.units) (pe_dget hu (pv 0) pe_str (fun _ _ => rfl)) (pe_lst pa_nil) (nomark _))
        (pss_cons (ps_set (i := 2) scDraw.nd rfl (.inl rfl) (pe_bm0 PySem.F.plainAttrs_list PySem.F.slot_list_pop PySem.F.type_list_pop mt_pop (pe_dget hu (pv 0) pe_str (fun _ _ => rfl))))
        (pss_cons (ps_if (pt_cmpR op_ge (pv 2) (pv 1) (nomark _)) (pss_one (ps_expr (pe_bm PySem.F.plainAttrs_list PySem.F.slot_list_append PySem.F.type_list_append mt_append (pe_dget hu (pv 0) pe_str (fun _ _ => rfl)) (pa_cons (pe_op op_fdiv (pv 2) (pv 1)) pa_nil)))) pss_nil)
        (pss_one (ps_ret (pe_op op_mod (pe_callTy call_int1 (by rfl) B.int (by decide +kernel) (pa_cons (pv 2) pa_nil)) (pv 1)))))) pss_nil)
      (pss_cons (ps_set (i := 3) scDraw.nd rfl (.inl rfl) (pe_op op_mod (pe_callTy call_int1 (by rfl) B.int (by decide +kernel) (pa_cons (pe_op op_add (pe_op op_mul (pe_dget hu (pv 0) pe_str (fun _ _ => rfl)) pe_int) pe_int) pa_nil)) pe_int))
      (pss_cons (ps_dput hu (pv 0) pe_str (pv 3) rfl)
      (pss_cons (ps_set (i := 4) scDraw.nd rfl (.inl rfl) (pe_op op_mod (pe_callTy call_int1 (by rfl) B.int (by decide +kernel) (pa_cons (pe_op op_add (pe_op op_add (pe_op op_mul (pv 3) (pv 3)) (pe_op op_mul pe_int (pv 3))) pe_int) pa_nil)) pe_int))
      (pss_one (ps_ret (pe_op op_mod (pe_callTy call_int1 (by rfl) B.int (by decide +kernel) (pa_cons (pe_op op_fdiv (pv 4) pe_int) pa_nil)) (pv 1)))))))), ?_⟩
    obtain ⟨ns, st, hp, hd, hl, hn, hs1, hs2⟩ := id D.ex
    refine ⟨_, rfl, _, _, rfl, rfl, _, rfl, ?_⟩
    refine ite2 (fun z => ?_) (fun z => ?_)
    · have z : m < 2 := of_decide_eq_true z
      exact k 0 H (by decide) (fun _ => by omega) (fun _ => rfl) D .refl
    have z : ¬ m < 2 := fun q => z (decide_eq_true q)
    refine ⟨_, rfl, p, _, rfl, dget_deep hp, by show 0 ≤ sizeLine; exact Nat.zero_le _, fun e ne => ?_⟩
    have se : Same H (upd H e (.lst [])) := same_new ne
    refine ⟨.list (ns.map PyData.int), .list [], .lst (SqL.of (se _ _ hd)) (dpInts ns), .lst (SqL.of upd_same) .nil, PySem.W.ke_shaped_ints ns, rfl, _, rfl, ?_⟩
    rw [eqv_nil]
    refine ite2 (fun y => ?_) (fun y => ?_)
    · obtain ⟨n, ms, rfl, hlast, hdrop⟩ := last_ints (of_decide_eq_true y)
      have hn0 : 0 ≤ n := hn n (by simp)
      refine ⟨_, rfl, p, _, rfl, dget_deep (se _ _ hp), .inl ⟨rfl, _, SqL.of (se _ _ hd)⟩, d, _, _, rfl, rfl, se _ _ hd, hlast, ?_⟩
      rw [hdrop]
      have hpd := D.ne
      have h1 : (upd (upd H e (.lst [])) d (.lst (ms.map V.int))) p = some (.dK (deckL d st)) := by
        rw [upd_ne hpd]
        exact se _ _ hp
      have h2 : (upd (upd H e (.lst [])) d (.lst (ms.map V.int))) d = some (.lst (ms.map V.int)) := upd_same
      have h3 : Kp p d H (upd (upd H e (.lst [])) d (.lst (ms.map V.int))) := fun b o e n1 n2 => by
        rw [upd_ne n2]
        exact se _ _ e
      have hl' : ms.length + 1 ≤ 63 := by simpa using hl
      have hn' : ∀ x ∈ ms, 0 ≤ x := fun x hx => hn x (by simp [hx])
      generalize (upd (upd H e (.lst [])) d (.lst (ms.map V.int))) = H1 at h1 h2 h3 ⊢
      have D1 : Deck H1 p d 63 := ⟨ms, st, h1, h2, by omega, hn', hs1, hs2⟩
      refine ⟨_, rfl, _, rfl, _, _, rfl, rfl, _, rfl, ?_⟩
      refine ite2 (fun x => ?_) (fun x => ?_)
      · have x : m ≤ n := of_decide_eq_true x
        refine ⟨_, rfl, p, _, rfl, dget_deep h1, .inl ⟨rfl, _, SqL.of h2⟩, _, rfl, _, rfl, _, _, rfl, rfl, ⟨by omega, by omega⟩, d, _, _, rfl, rfl, h2, ?_, ?_⟩
        · rw [List.length_map, sizeLine_eq]
          omega
        refine ⟨_, rfl, .inl ⟨_, rfl, _, rfl, _, _, rfl, rfl, by show 0 < m; omega, ?_⟩⟩
        refine k _ _ (Int.emod_nonneg _ (by omega)) (fun _ => Int.emod_lt_of_pos _ (by omega)) (fun y => absurd y (by omega)) ⟨ms ++ [n / m], st, ?_, ?_, ?_, ?_, hs1, hs2⟩ (h3.trans fun b o e n1 n2 => ?_)
        · rw [upd_ne hpd]
          exact h1
        · rw [upd_same, List.map_append]
          rfl
        · simp
          omega
        · intro x hx
          rcases List.mem_append.mp hx with q | q
          · exact hn' x q
          · rw [List.mem_singleton.mp q]
            exact Int.ediv_nonneg hn0 (by omega)
        · rw [upd_ne n2]
          exact e
      · refine ⟨_, rfl, .inl ⟨_, rfl, _, rfl, _, _, rfl, rfl, by show 0 < m; omega, ?_⟩⟩
        exact k _ _ (Int.emod_nonneg _ (by omega)) (fun _ => Int.emod_lt_of_pos _ (by omega)) (fun y => absurd y (by omega)) D1 h3
    · have D1 := D.same se
      generalize (upd H e (.lst [])) = H1 at se D1
      obtain ⟨ns, st, hp, hd, hl, hn, hs1, hs2⟩ := id D1.ex
      refine ⟨_, rfl, p, _, rfl, dget_state hp, _, _, rfl, rfl, .inl ⟨by omega, by omega⟩, _, _, rfl, rfl, ?_⟩
      refine .inl ⟨_, rfl, _, _, rfl, rfl, (by show (0 : Int) < 2305843009213693951; decide), ?_⟩
      dsimp only
      have o1 : 0 ≤ (st * 1181783497276652981 + 88172645463325) % 2305843009213693951 := Int.emod_nonneg _ (by decide)
      have o2 : (st * 1181783497276652981 + 88172645463325) % 2305843009213693951 < 2305843009213693951 := Int.emod_lt_of_pos _ (by decide)
      generalize (st * 1181783497276652981 + 88172645463325) % 2305843009213693951 = one at o1 o2 ⊢
      refine ⟨_, rfl, _, rfl, p, _, rfl, dput_state one hp, ?_⟩
      refine ⟨_, rfl, _, rfl, _, _, rfl, rfl, .inl ⟨by omega, by omega⟩, _, rfl, _, _, rfl, rfl, .inl ⟨by decide, by decide⟩, _, _, rfl, rfl, _, _, rfl, rfl, ?_⟩
      refine .inl ⟨_, rfl, _, _, rfl, rfl, (by show (0 : Int) < 2305843009213693921; decide), ?_⟩
      dsimp only
      generalize (one * one + 374761393 * one + 11) % 2305843009213693921 = two
      refine ⟨_, rfl, _, _, rfl, rfl, ⟨by decide, by decide⟩, ?_⟩
      refine .inl ⟨_, rfl, _, rfl, _, _, rfl, rfl, by show 0 < m; omega, ?_⟩
      refine k _ _ (Int.emod_nonneg _ (by omega)) (fun _ => Int.emod_lt_of_pos _ (by omega)) (fun y => absurd y (by omega)) ⟨ns, one, upd_same, ?_, hl, hn, o1, by omega⟩ (fun b o e n1 n2 => ?_)
      · rw [upd_ne (D1.ne).symm]
        exact hd
      · rw [upd_ne n1]
        exact se _ _ e
end
end Sw
namespace Sw
open PySem L2
theorem erase_map {α β : Type} (f : α → β) : ∀ (l : List α) (i : Nat), (l.map f).eraseIdx i = (l.eraseIdx i).map f
  | [], _ => rfl
  | _ :: _, 0 => rfl
  | a :: r, i + 1 => by
    show f a :: (r.map f).eraseIdx i = f a :: (r.eraseIdx i).map f
    rw [erase_map f r i]
theorem Deck.kne {H : Hp} {p d : Addr} {m : Nat} (D : Deck H p d m) {a : Addr} {xs : List V} (h : H a = some (.lst xs)) : a ≠ p := by
  obtain ⟨ns, st, h1, h2, r⟩ := D.ex
  exact ne_of h h1 (by intro y; cases y)
theorem Deck.tne {H : Hp} {p d : Addr} {m : Nat} (D : Deck H p d m) {a : Addr} {xs : List V} (h : H a = some (.tup xs)) : a ≠ p ∧ a ≠ d := by
  obtain ⟨ns, st, h1, h2, r⟩ := D.ex
  exact ⟨ne_of h h1 (by intro y; cases y), ne_of h h2 (by intro y; cases y)⟩
theorem Deck.upd {H : Hp} {p d a : Addr} {m : Nat} {o : HO} (D : Deck H p d m) (h1 : a ≠ p) (h2 : a ≠ d) : Deck (L2.upd H a o) p d m := by
  obtain ⟨ns, st, e1, e2, r⟩ := D.ex
  exact ⟨ns, st, by rw [upd_ne h1.symm]; exact e1, by rw [upd_ne h2.symm]; exact e2, r⟩
section
variable {P : Program} {w : World} {K : PySem.W.Frag} {mg : Str → Option Value} {base : Heap}
def spPick : Sp := fun vs H Q _ => ∃ (p d a : Addr) (xs : List V), vs = [.ref p, .ref a] ∧ Deck H p d 63 ∧ H a = some (.lst xs) ∧ a ≠ d ∧ xs ≠ [] ∧ xs.length < 1000000 ∧ ∀ (x : V) (H' : Hp), x ∈ xs → Deck H' p d 63 → Kp p d H H' → Q x H'
theorem ok_pick {f : Addr} {fd : FuncData} (F : Fun K "_law_pick" "_law_pick" sPick f fd) (B : NoNames mg) (O : Own P w K mg base 1 "_law_draw" ["deck", "many"] spDraw) : FnOk P w K mg base CX0 2 f fd ["deck", "items"] (spPick) := by
  obtain ⟨fD, fdD, GD, mD, kD, bD⟩ := O.ex
  refine F.ok scPick (fun vs H Q E h => ?_) (fun cdv A outer s H vs Q E hr h => ?_)
  · obtain ⟨p, d, a, xs, rfl, _⟩ := h
    rfl
  · obtain ⟨p, d, a, xs, rfl, D, ha, nd, hx, hl, k⟩ := h
    refine ⟨_, pss_one (ps_ret (pe_ix ix_list (pv 1) (pe_call GD hr rfl mD kD bD .nil pass0 (pa_cons (pv 0) (pa_cons (pe_callB call_len_seq (by rfl) B.len PySem.boot_len (pa_cons (pv 1) pa_nil)) pa_nil))) (fun _ _ => rfl))), ?_⟩
    have hpos : 0 < xs.length := List.length_pos_iff.mpr hx
    refine ⟨_, rfl, _, rfl, _, rfl, a, xs, rfl, .inl (SqL.of ha), p, d, (xs.length : Int), rfl, D, by omega, fun r H' r0 r1 r2 D' kp => ?_⟩
    have ha' := kp _ _ ha (D.kne ha) nd
    have hr : r < (xs.length : Int) := r1 (by omega)
    obtain ⟨i, rfl⟩ := Int.eq_ofNat_of_zero_le r0
    have hi : i < xs.length := by omega
    exact ⟨a, xs, _, xs[i], rfl, rfl, SqL.of ha', at_of (j := i) rfl (List.getElem?_eq_getElem hi), k _ _ (List.getElem_mem hi) D' kp⟩
def spMixed : Sp := fun vs H Q _ => ∃ (p d a : Addr) (ns : List Int), vs = [.ref p, .ref a] ∧ Deck H p d 63 ∧ H a = some (.lst (ns.map V.int)) ∧ ns.length < 1000000 ∧ ∀ (r : Addr) (ms : List Int) (H' : Hp), Deck H' p d 63 → Kp p d H H' → H r = none → H' r = some (.lst (ms.map V.int)) → ms.length = ns.length → (∀ m ∈ ms, m ∈ ns) → Q (.ref r) H'
theorem ok_mixed {f : Addr} {fd : FuncData} (F : Fun K "_law_mixed" "_law_mixed" sMixed f fd) (B : NoNames mg) (O : Own P w K mg base 1 "_law_draw" ["deck", "many"] spDraw) : FnOk P w K mg base CX0 2 f fd ["deck", "items"] (spMixed) := by
  obtain ⟨fD, fdD, GD, mD, kD, bD⟩ := O.ex
  refine F.ok scMixed (fun vs H Q E h => ?_) (fun cdv A outer s H vs Q E hr h => ?_)
  · obtain ⟨p, d, a, ns, rfl, _⟩ := h
    rfl
  · obtain ⟨p, d, a, ns, rfl, D, ha, hl, k⟩ := h
    refine ⟨_, pss_cons (ps_par (i := 2) (j := 3) rfl scMixed.nd rfl rfl (by decide) rfl rfl (pa_cons (pe_callTy call_list_of (by rfl) B.list (by decide +kernel) (pa_cons (pv 1) pa_nil)) (pa_cons (pe_lst pa_nil) pa_nil)) (by rfl))
      (pss_cons (ps_while PassesOwn.never (pt_cmpR (op_neD hr.units) (pv 2) (pe_lst pa_nil) (nomark _))
        (pss_one (ps_expr (pe_bm PySem.F.plainAttrs_list PySem.F.slot_list_append PySem.F.type_list_append mt_append (pv 3)
          (pa_cons (pe_bm PySem.F.plainAttrs_list PySem.F.slot_list_pop PySem.F.type_list_pop mt_popAt (pv 2)
            (pa_cons (pe_call GD hr rfl mD kD bD .nil pass0 (pa_cons (pv 0) (pa_cons (pe_callB call_len_seq (by rfl) B.len PySem.boot_len (pa_cons (pv 2) pa_nil)) pa_nil))) pa_nil)) pa_nil)))))
      (pss_one (ps_ret (pv 3)))), ?_⟩
    refine ⟨_, rfl, a, _, rfl, .inl (SqL.of ha), fun l nl => ⟨by show 0 ≤ sizeLine; exact Nat.zero_le _, fun g ng => ⟨_, _, rfl, ?_⟩⟩⟩
    have s1 : Same H (L2.upd H l (.lst (ns.map V.int))) := same_new nl
    have s2 := s1.trans (same_new (o := .lst []) ng)
    have ngl : g ≠ l := fun z => by
      rw [z, upd_same] at ng
      cases ng
    refine ⟨fun m σ H' => ∃ ls fs : List Int, σ = [some (.ref p), some (.ref a), some (.ref l), some (.ref g)] ∧ Deck H' p d 63 ∧ Kp p d H H' ∧ H' l = some (.lst (ls.map V.int)) ∧ H' g = some (.lst (fs.map V.int)) ∧ l ≠ d ∧ g ≠ d ∧ ls.length = m ∧ ls.length + fs.length = ns.length ∧ (∀ x ∈ ls, x ∈ ns) ∧ (∀ x ∈ fs, x ∈ ns),
      ⟨ns.length, ns, [], rfl, D.same s2, .of s2, by rw [upd_ne ngl.symm, upd_same], upd_same, (D.ne_none nl).2, (D.ne_none (s1.free ng)).2, rfl, rfl, fun _ h => h, fun _ h => absurd h (by simp)⟩, ?_⟩
    rintro m σ H1 ⟨ls, fs, rfl, D1, k1, h1, h2, n1, n2, rfl, hlen, m1, m2⟩
    refine ⟨_, rfl, by show 0 ≤ sizeLine; exact Nat.zero_le _, fun e ne => ?_⟩
    have se : Same H1 (L2.upd H1 e (.lst [])) := same_new ne
    refine ⟨.list (ls.map PyData.int), .list [], .lst (SqL.of (se _ _ h1)) (dpInts ls), .lst (SqL.of upd_same) .nil, PySem.W.ke_shaped_ints ls, rfl, _, rfl, ?_⟩
    have D2 := D1.same se
    have k2 := k1.trans (.of se)
    have h1' := se _ _ h1
    have h2' := se _ _ h2
    generalize (L2.upd H1 e (.lst [])) = H2 at D2 k2 h1' h2' ⊢
    rw [eqv_nil]
    refine ite2 (fun y => ?_) (fun y => ?_)
    · have y : ls ≠ [] := of_decide_eq_true y
      have hpos : 0 < ls.length := List.length_pos_iff.mpr y
      refine ⟨fun σ' H' => ∃ m', m' < ls.length ∧ ∃ ls fs : List Int, σ' = [some (.ref p), some (.ref a), some (.ref l), some (.ref g)] ∧ Deck H' p d 63 ∧ Kp p d H H' ∧ H' l = some (.lst (ls.map V.int)) ∧ H' g = some (.lst (fs.map V.int)) ∧ l ≠ d ∧ g ≠ d ∧ ls.length = m' ∧ ls.length + fs.length = ns.length ∧ (∀ x ∈ ls, x ∈ ns) ∧ (∀ x ∈ fs, x ∈ ns), fun _ _ h => h, ?_⟩
      refine ⟨_, rfl, .inl ⟨rfl, _, SqL.of h2'⟩, _, rfl, .inl ⟨rfl, _, SqL.of h1'⟩, _, rfl, _, rfl, l, ls.map V.int, rfl, .inl (SqL.of h1'), p, d, ((ls.map V.int).length : Int), rfl, D2, ?_, fun r H3 r0 r1 r2 D3 k3 => ?_⟩
      · rw [List.length_map]
        omega
      have h1 := k3 _ _ h1' (D2.kne h1') n1
      have h2 := k3 _ _ h2' (D2.kne h2') n2
      have np1 := D2.kne h1'
      have np2 := D2.kne h2'
      have hr : r < ((ls.map V.int).length : Int) := r1 (by rw [List.length_map]; omega)
      obtain ⟨i, rfl⟩ := Int.eq_ofNat_of_zero_le r0
      have hi : i < ls.length := by
        rw [List.length_map] at hr
        omega
      have hz : ((ls.map V.int).eraseIdx i) = (ls.eraseIdx i).map V.int := by
        exact erase_map _ ls i
      refine ⟨l, _, _, i, .int ls[i], rfl, rfl, h1, by omega, by omega, ?_, ?_, ?_⟩
      · exact PySem.seqIndex_of r0 hr
      · rw [List.getElem?_map, List.getElem?_eq_getElem hi]
        rfl
      rw [hz]
      refine ⟨g, fs.map V.int, _, rfl, rfl, by rw [upd_ne ngl]; exact h2, ?_, ?_⟩
      · rw [List.length_map, sizeLine_eq]
        omega
      have le : (ls.eraseIdx i).length + 1 = ls.length := by
        rw [List.length_eraseIdx_of_lt hi]
        omega
      refine ⟨(ls.eraseIdx i).length, by omega, ls.eraseIdx i, fs ++ [ls[i]], rfl, (D3.upd np1 n1).upd np2 n2, ?_, ?_, ?_, n1, n2, rfl, ?_, ?_, ?_⟩
      · intro b o e q1 q2
        rw [upd_ne (ne_of_none e (s1.free ng)), upd_ne (ne_of_none e nl)]
        exact k3 _ _ (k2 _ _ e q1 q2) q1 q2
      · rw [upd_ne ngl.symm, upd_same]
      · rw [upd_same, List.map_append]
        rfl
      · rw [List.length_append, List.length_singleton]
        omega
      · exact fun x hx => m1 x (List.mem_of_mem_eraseIdx hx)
      · intro x hx
        rcases List.mem_append.mp hx with q | q
        · exact m2 x q
        · rw [List.mem_singleton.mp q]
          exact m1 _ (List.getElem_mem hi)
    · have y : ls = [] := by
        refine Classical.byContradiction fun q => y (decide_eq_true q)
      subst y
      refine ⟨_, rfl, k g fs H2 D2 k2 ?_ h2' (by simpa using hlen) m2⟩
      exact s1.free ng
end
end Sw
namespace Sw
open PySem L2
/-! ### expressions that give data -/
abbrev SH := L2.St → Hp → Prop
/-- what is free may be used, and what S says holds -/
structure Fit (S : SH) (U : L2.St → Addr → Prop) (σ : L2.St) (H : Hp) : Prop where
  s : S σ H
  u : ∀ a, H a = none → U σ a
def tDat (K : PySem.W.Frag) (S : SH) (U : L2.St → Addr → Prop) (w k : Nat) : TE := fun σ H Q => Fit S U σ H ∧ ∀ (x : V) (dd : D) (as : List Addr) (H' : Hp), Rep K H' dd x as → (∀ a ∈ as, U σ a) → Same H H' → small dd → wt dd ≤ w → dep dd ≤ k → Q x H'
def tDats (K : PySem.W.Frag) (S : SH) (U : L2.St → Addr → Prop) (w k m : Nat) : TA := fun σ H Q => Fit S U σ H ∧ ∀ (xs : List V) (ds : List D) (as : List Addr) (H' : Hp), xs.length = m → RepAll K H' ds xs as → (∀ a ∈ as, U σ a) → Same H H' → smallAll ds → wtAll ds ≤ w → depAll ds ≤ k → Q xs H'
/-- a new list of data -/
def tDatL (K : PySem.W.Frag) (S : SH) (U : L2.St → Addr → Prop) (w k m : Nat) : TE := fun σ H Q => Fit S U σ H ∧ ∀ (l : Addr) (xs : List V) (ds : List D) (as : List Addr) (H' : Hp), H l = none → H' l = some (.lst xs) → l ∉ as → xs.length = m → RepAll K H' ds xs as → (∀ a ∈ as, U σ a) → Same H H' → smallAll ds → wtAll ds ≤ w → depAll ds ≤ k → Q (.ref l) H'
def SMono (S : SH) : Prop := ∀ σ H H', S σ H → Same H H' → S σ H'
theorem Fit.same {S : SH} {U : L2.St → Addr → Prop} {σ : L2.St} {H H' : Hp} (hS : SMono S) (f : Fit S U σ H) (s : Same H H') : Fit S U σ H' := ⟨hS σ H H' f.s s, fun a h => f.u a (s.free h)⟩
theorem pe_weak {X : Cx} {e : Expr} {t t' : TE} (h : PE X e t) (hw : ∀ σ H Q, t' σ H Q → t σ H Q) : PE X e t' := ⟨fun pins s σ H Q I q => h.run pins s σ H Q I (hw σ H Q q)⟩
theorem pa_weak {X : Cx} {es : List Expr} {t t' : TA} (h : PA X es t) (hw : ∀ σ H Q, t' σ H Q → t σ H Q) : PA X es t' := ⟨fun pos pins s σ H Q I q => h.run pos pins s σ H Q I (hw σ H Q q)⟩
section
variable {X : Cx} {S : SH} {U : L2.St → Addr → Prop} {e : Expr} {es : List Expr} {w k : Nat}
theorem dat_le {w' k' : Nat} (h : PE X e (tDat X.K S U w k)) (hw : w ≤ w') (hk : k ≤ k') : PE X e (tDat X.K S U w' k') :=
  pe_weak h fun σ H Q q => ⟨q.1, fun x dd as H' h1 h2 h3 h4 h5 h6 => q.2 x dd as H' h1 h2 h3 h4 (by omega) (by omega)⟩
theorem dat_of {t : TE} (h : PE X e t) (ht : ∀ σ H Q, S σ H → (∀ v dd, Rep X.K H dd v [] → small dd → wt dd ≤ w → dep dd ≤ k → Q v H) → t σ H Q) : PE X e (tDat X.K S U w k) :=
  pe_weak h fun σ H Q q => ht σ H Q q.1.s fun v dd h1 h2 h3 h4 => q.2 v dd [] H h1 (fun _ h => absurd h (by simp)) (Same.refl H) h2 h3 h4
theorem int_ok {K : PySem.W.Frag} {H : Hp} {i : Int} {w k : Nat} (hi : i.natAbs < 10 ^ w) (hw : 0 < w) (hw2 : w ≤ 40) : Rep K H (.int i) (.int i) [] ∧ small (.int i) ∧ wt (.int i) ≤ w + 1 ∧ dep (.int i) ≤ k := by
  refine ⟨by simp [Rep], ?_, ?_, by simp only [dep]; omega⟩
  · simp only [small]
    exact PySem.Spec.log2_small (Nat.lt_of_lt_of_le hi (Nat.le_trans (Nat.pow_le_pow_right (by decide) hw2) (by decide +kernel)))
  · simp only [wt]
    rw [PySem.ofString_length]
    exact int_text_length_le10 hw hi
theorem dat_int {i : Int} {t : TE} (h : PE X e t) (ht : ∀ σ H Q, Q (.int i) H → t σ H Q) (hi : i.natAbs < 10 ^ w := by decide +kernel) (hw : 0 < w := by decide) (hw2 : w ≤ 40 := by decide) : PE X e (tDat X.K S U (w + 1) k) :=
  dat_of h fun σ H Q _ q => ht σ H Q (by
    obtain ⟨h1, h2, h3, h4⟩ := int_ok (K := X.K) (H := H) (k := k) hi hw hw2
    exact q _ _ h1 h2 h3 h4)
/-- a slot that holds a small whole number -/
def SInt (S : SH) (i : Nat) : Prop := ∀ σ H, S σ H → ∃ v, σ[i]? = some (some (.int v)) ∧ v.natAbs < 10 ^ 3
theorem dat_var {i : Nat} (h : PE X e (tVar i)) (hS : SInt S i) : PE X e (tDat X.K S U 4 k) :=
  dat_of h fun σ H Q hs q => by
    obtain ⟨v, e, hv⟩ := hS σ H hs
    obtain ⟨h1, h2, h3, h4⟩ := int_ok (K := X.K) (H := H) (k := k) hv (by decide) (by decide)
    exact ⟨_, e, q _ _ h1 h2 h3 h4⟩
theorem dat_bl {t : TE} (h : PE X e t) (ht : ∀ σ H Q, S σ H → (∀ b, Q (.bl b) H) → t σ H Q) : PE X e (tDat X.K S U 5 k) :=
  dat_of h fun σ H Q hs q => ht σ H Q hs fun b => q _ (.bl b) (by simp [Rep]) (by simp only [small]) (by simp only [wt]; omega) (by simp only [dep]; omega)
theorem dat_true {b : Bool} (h : PE X e (tC (.bl b))) : PE X e (tDat X.K S U 5 k) := dat_bl h fun σ H Q _ q => q b
theorem dat_non (h : PE X e (tC .non)) : PE X e (tDat X.K S U 4 k) :=
  dat_of h fun σ H Q _ q => q .non .non (by simp [Rep]) (by simp only [small]) (by simp only [wt]; omega) (by simp only [dep]; omega)
theorem dat_str {x : Str} (h : PE X e (tC (.str x))) (hw : (reprText x).length ≤ w := by decide +kernel) : PE X e (tDat X.K S U w k) :=
  dat_of h fun σ H Q _ q => q (.str x) (.str x) (by simp [Rep]) (by simp only [small]) (by simp only [wt]; omega) (by simp only [dep]; omega)
theorem dat_dct {pos : Pos} : PE X (.Dict [] [] pos) (tDat X.K S U 2 (k + 1)) :=
  pe_weak pe_dnewK fun σ H Q q p np => q.2 _ .dct [p] _ (by simp only [Rep]; exact ⟨p, rfl, upd_same, rfl⟩) (fun a ha => by rw [List.mem_singleton.mp ha]; exact q.1.u p np) (same_new np) (by simp only [small]) (by simp only [wt]; omega) (by simp only [dep]; omega)
theorem dats_nil : PA X [] (tDats X.K S U 0 k 0) := pa_weak pa_nil fun σ H Q q => q.2 [] [] [] H rfl (by simp [RepAll]) (fun _ h => absurd h (by simp)) (Same.refl H) (by simp only [smallAll]) (by simp only [wtAll]; omega) (by simp only [depAll]; omega)
theorem dats_cons {w' m : Nat} (hS : SMono S) (ha : PE X e (tDat X.K S U w k)) (hr : PA X es (tDats X.K S U w' k m)) (hs : starEach (e :: es) X.env = (false, eval e X.env) :: starEach es X.env := by rfl) : PA X (e :: es) (tDats X.K S U (w + 2 + w') k (m + 1)) :=
  pa_weak (pa_cons ha hr hs) fun σ H Q q => ⟨q.1, fun x dd as H1 h1 h2 h3 h4 h5 h6 => ⟨q.1.same hS h3, fun xs ds bs H2 lm l1 l2 l3 l4 l5 l6 =>
    q.2 (x :: xs) (dd :: ds) (as ++ bs) H2 (by rw [List.length_cons, lm]) (by simp only [RepAll]; exact ⟨x, xs, as, bs, rfl, h1.same l3, l1, rfl⟩) (fun a ha => (List.mem_append.mp ha).elim (h2 a) (l2 a)) (h3.trans l3) (by simp only [smallAll]; exact ⟨h4, l4⟩) (by simp only [wtAll]; omega) (by simp only [depAll]; omega)⟩⟩
theorem wlen {K : PySem.W.Frag} {H : Hp} {xs : List V} {ds : List D} {as : List Addr} (h : RepAll K H ds xs as) (hw : wtAll ds ≤ 10000000) : xs.length ≤ sizeLine := by
  have h1 := wt_len ds
  rw [h.len, sizeLine_eq]
  omega
theorem nmem {K : PySem.W.Frag} {H : Hp} {xs : List V} {ds : List D} {as : List Addr} {a : Addr} (h : RepAll K H ds xs as) (ha : H a = none) : a ∉ as := fun z => by
  obtain ⟨o, e⟩ := h.tracked a z
  rw [ha] at e
  cases e
theorem dat_tup {x1 m : Nat} {pos : Pos} (h : PA X es (tDats X.K S U w k m)) (hS : SMono S) (hw : w ≤ 10000000 := by decide) : PE X (.Tuple es x1 pos) (tDat X.K S U (w + 3) (k + 1)) :=
  pe_weak (pe_tup h) fun σ H Q q => ⟨q.1, fun xs ds as H1 hm h1 h2 h3 h4 h5 h6 => ⟨wlen h1 (by omega), fun p np =>
    q.2 (.ref p) (.tup ds) (p :: as) _ (by simp only [Rep]; exact ⟨p, xs, as, rfl, upd_same, h1.same (same_new np), nmem h1 np, rfl⟩) (fun a ha => (List.mem_cons.mp ha).elim (fun z => by rw [z]; exact (q.1.same hS h3).u p np) (h2 a)) (h3.trans (same_new np)) (by simp only [small]; exact h4) (by simp only [wt]; omega) (by simp only [dep]; omega)⟩⟩
theorem dat_lst {m : Nat} {pos : Pos} (h : PA X es (tDats X.K S U w k m)) (hS : SMono S) (hw : w ≤ 10000000 := by decide) : PE X (.List es pos) (tDat X.K S U (w + 3) (k + 1)) :=
  pe_weak (pe_lst h) fun σ H Q q => ⟨q.1, fun xs ds as H1 hm h1 h2 h3 h4 h5 h6 => ⟨wlen h1 (by omega), fun p np =>
    q.2 (.ref p) (.lst ds) (p :: as) _ (by simp only [Rep]; exact ⟨p, xs, as, rfl, upd_same, h1.same (same_new np), nmem h1 np, rfl⟩) (fun a ha => (List.mem_cons.mp ha).elim (fun z => by rw [z]; exact (q.1.same hS h3).u p np) (h2 a)) (h3.trans (same_new np)) (by simp only [small]; exact h4) (by simp only [wt]; omega) (by simp only [dep]; omega)⟩⟩
theorem datL_lst {m : Nat} {pos : Pos} (h : PA X es (tDats X.K S U w k m)) (hS : SMono S) (hw : w ≤ 10000000 := by decide) : PE X (.List es pos) (tDatL X.K S U w k m) :=
  pe_weak (pe_lst h) fun σ H Q q => ⟨q.1, fun xs ds as H1 hm h1 h2 h3 h4 h5 h6 => ⟨wlen h1 (by omega), fun p np =>
    q.2 p xs ds as _ (h3.free np) upd_same (nmem h1 np) hm (h1.same (same_new np)) h2 (h3.trans (same_new np)) h4 (by omega) (by omega)⟩⟩
/-- an own error with an __init__ -/
structure XE (P : Program) (K : PySem.W.Frag) (mg : Str → Option Value) (x msg fld : Str) : Prop where
  ex : ∃ C fI file, XCls K C ∧ XInit K C fI msg fld fld file ∧ mg x = some (.ref C) ∧ ((P.main.file : Str) == file) = true ∧ (P.main.scope.names.lookup ("super" : Str)).isSome = false ∧ XGood K C x
/-- an own error without -/
structure XU (K : PySem.W.Frag) (mg : Str → Option Value) (x : Str) : Prop where
  ex : ∃ (C : Addr) (bmB : List Value) (B newId initId : String), ExcBaseFacts B newId initId bmB ∧ PySem.W.excIn K C bmB newId = true ∧ PySem.W.keepIn K (.ref C) = true ∧ mg x = some (.ref C) ∧ XGood K C x
theorem wt_exc {C : Addr} {n : Str} (h : n.length ≤ 60) : wt (.exc C n none) ≤ 62 := by
  simp only [wt, xText]
  rw [PySem.Str.length_append]
  have : ("()" : Str).length = 2 := by decide +kernel
  omega
theorem wt_exc1 {C : Addr} {n m : Str} (h : n.length ≤ 60) (hm : (reprText m).length ≤ 40) : wt (.exc C n (some m)) ≤ 102 := by
  simp only [wt, xText]
  rw [PySem.Str.length_append, PySem.Str.length_append, PySem.Str.length_append]
  have h1 : ("(" : Str).length = 1 := by decide +kernel
  have h2 : (")" : Str).length = 1 := by decide +kernel
  omega
theorem dat_xe {x msg fld : Str} {pos p : Pos} {kr : Nat} (E : XE X.prog X.K X.mg x msg fld) (hmsg : (reprText msg).length ≤ 40) (hdb : (x == ("__debug__" : Str)) = false) (B : NoNames X.mg) (hr : Room kr X.A) (h1r : 1 ≤ kr) (hS : SMono S) (hg : Gl X x) (he : PE X e (tDat X.K S U w k)) (hst : starEach [e] X.env = (false, eval e X.env) :: starEach [] X.env := by rfl) :
    PE X (.Call (.Name x p) [e] [] pos) (tDat X.K S U 102 (k + 3)) := by
  obtain ⟨C, fI, file, T, F, hm, hf, ht, G⟩ := E.ex
  refine pe_weak (pe_xmk T F (hr.mono h1r) hg hm B.super hf ht he hst hdb) fun σ H Q q => ⟨q.1, fun x' dd as H1 l1 l2 l3 l4 l5 l6 => fun a t1 dx na nt nd n1 n2 n3 => ?_⟩
  have u := (q.1.same hS l3).u
  refine q.2 (.ref a) (.exc C x (some msg)) [a, t1, dx] _ ?_ (fun b hb => ?_) ?_ (by simp only [small]) (wt_exc1 G.len hmsg) (by simp only [dep]; omega)
  · simp only [Rep]
    refine ⟨a, t1, some dx, rfl, upd_same, ?_, fun d hd => ?_, G, rfl⟩
    · rw [upd_ne n1, upd_same]
      rfl
    · cases hd
      rw [upd_ne n2, upd_ne n3, upd_same]
  · simp only [List.mem_cons, List.not_mem_nil, or_false] at hb
    rcases hb with rfl | rfl | rfl
    · exact u _ na
    · exact u _ nt
    · exact u _ nd
  · refine l3.trans fun b o hb => ?_
    rw [upd_ne (ne_of_none hb na), upd_ne (ne_of_none hb nt), upd_ne (ne_of_none hb nd)]
    exact hb
theorem dat_xu {x : Str} {pos p : Pos} (E : XU X.K X.mg x) (hdb : (x == ("__debug__" : Str)) = false) (hg : Gl X x) : PE X (.Call (.Name x p) [] [] pos) (tDat X.K S U 62 (k + 3)) := by
  obtain ⟨C, bmB, Bn, newId, initId, F, q, kC, hm, G⟩ := E.ex
  refine pe_weak (pe_xmk0 (k := 0) F q kC hg hm hdb) fun σ H Q q a t1 na nt n1 => ?_
  refine q.2 (.ref a) (.exc C x none) [a, t1] _ ?_ (fun b hb => ?_) ?_ (by simp only [small]) (wt_exc G.len) (by simp only [dep]; omega)
  · simp only [Rep]
    refine ⟨a, t1, none, rfl, upd_same, ?_, fun d hd => (nomatch hd), G, rfl⟩
    rw [upd_ne n1, upd_same]
    rfl
  · simp only [List.mem_cons, List.not_mem_nil, or_false] at hb
    rcases hb with rfl | rfl
    · exact q.1.u _ na
    · exact q.1.u _ nt
  · intro b o hb
    rw [upd_ne (ne_of_none hb na), upd_ne (ne_of_none hb nt)]
    exact hb
end
end Sw
namespace Sw
open PySem L2
/-- a statement kept to what it is to do with the slots and the heap -/
def tCut (J J' : L2.St → Hp → Prop) : TS := fun D σ H => J σ H ∧ ∀ σ' H', J' σ' H' → D.nx σ' H'
theorem ps_cut {X : Cx} {st : Stmt} {t : TS} {J J' : L2.St → Hp → Prop} (h : PS X st t) (hJ : ∀ D σ H, J σ H → (∀ σ' H', J' σ' H' → D.nx σ' H') → t D σ H) : PS X st (tCut J J') :=
  ⟨fun pins s σ H D I q => h.run pins s σ H D I (hJ D σ H q.1 q.2)⟩
def Inn (n a : Int) : Prop := 0 ≤ a ∧ a < n
/-- tuples stand -/
def TupS (H H' : Hp) : Prop := ∀ b xs, H b = some (.tup xs) → H' b = some (.tup xs)
theorem TupS.of {H H' : Hp} (s : Same H H') : TupS H H' := fun b xs e => s _ _ e
theorem TupS.refl {H : Hp} : TupS H H := fun _ _ e => e
theorem TupS.trans {H H1 H2 : Hp} (s : TupS H H1) (t : TupS H1 H2) : TupS H H2 := fun b xs e => t _ _ (s _ _ e)
theorem TupS.kp {H H' : Hp} {p d : Addr} {m : Nat} (D : Deck H p d m) (s : Kp p d H H') : TupS H H' := fun b xs e => s _ _ e (D.tne e).1 (D.tne e).2
/-- a list, a dict is written -/
theorem TupS.upd {H : Hp} {a : Addr} {o : HO} (h : ∀ xs, H a ≠ some (.tup xs)) : TupS H (L2.upd H a o) := fun b xs e => by
  rw [upd_ne (fun z => h xs (by rw [← z]; exact e))]
  exact e
theorem Kp.free {H H' : Hp} {p d : Addr} {m : Nat} (s : Kp p d H H') (D' : Deck H' p d m) {a : Addr} (h : H' a = none) : H a = none := by
  cases e : H a with
  | none => rfl
  | some o =>
    have n := D'.ne_none h
    have := s a o e n.1 n.2
    rw [this] at h
    cases h
end Sw
namespace Sw
open PySem L2
/-- off the deck -/
def Off (p d : Addr) : Addr → Prop := fun a => a ≠ p ∧ a ≠ d
/-- the deck, and U: addresses off the deck, what is free and all tuples among them -/
structure Dk (H : Hp) (p d : Addr) (U : Addr → Prop) : Prop where
  dk : Deck H p d 63
  off : ∀ a, U a → Off p d a
  free : ∀ a, H a = none → U a
  tup : ∀ a zs, H a = some (.tup zs) → U a
theorem Dk.kp {H H' : Hp} {p d : Addr} {U : Addr → Prop} (D : Dk H p d U) (s : Kp p d H H') (D' : Deck H' p d 63) : Dk H' p d U := by
  have fr : ∀ a, H' a = none → H a = none := fun a h => by
    cases e : H a with
    | none => rfl
    | some o =>
      have n := D'.ne_none h
      have := s a o e n.1 n.2
      rw [this] at h
      cases h
  refine ⟨D', D.off, fun a h => D.free a (fr a h), fun a zs h => ?_⟩
  cases e : H a with
  | none => exact D.free a e
  | some o =>
    have n := D'.tne h
    have := s a o e n.1 n.2
    rw [this] at h
    cases h
    exact D.tup a zs e
theorem Dk.same {H H' : Hp} {p d : Addr} {U : Addr → Prop} (D : Dk H p d U) (s : Same H H') : Dk H' p d U := D.kp (.of s) (D.dk.same s)
/-- x is data of a bounded kind, made of things of U -/
def Dat (K : PySem.W.Frag) (U : Addr → Prop) (w k : Nat) (H : Hp) (x : V) : Prop := ∃ dd as, Rep K H dd x as ∧ (∀ a ∈ as, U a) ∧ small dd ∧ wt dd ≤ w ∧ dep dd ≤ k
theorem Dat.keep {K : PySem.W.Frag} {p d : Addr} {U : Addr → Prop} {w k : Nat} {H H' : Hp} {x : V} (h : Dat K U w k H x) (o : ∀ a, U a → Off p d a) (s : Kp p d H H') : Dat K U w k H' x := by
  obtain ⟨dd, as, h1, h2, h3⟩ := h
  exact ⟨dd, as, h1.keep fun b hb y e => s b y e (o b (h2 b hb)).1 (o b (h2 b hb)).2, h2, h3⟩
theorem Dat.le {K : PySem.W.Frag} {U : Addr → Prop} {w k w' k' : Nat} {H : Hp} {x : V} (h : Dat K U w k H x) (h1 : w ≤ w') (h2 : k ≤ k') : Dat K U w' k' H x := by
  obtain ⟨dd, as, h3, h4, h5, h6, h7⟩ := h
  exact ⟨dd, as, h3, h4, h5, by omega, by omega⟩
theorem Dat.all {K : PySem.W.Frag} {U : Addr → Prop} {w k : Nat} {H : Hp} {xs : List V} {ds : List D} {as : List Addr} (h : RepAll K H ds xs as) (hu : ∀ a ∈ as, U a) (hs : smallAll ds) (hw : wtAll ds ≤ w) (hk : depAll ds ≤ k) : ∀ x ∈ xs, Dat K U w k H x := fun x hx => by
  obtain ⟨i, hi, e⟩ := List.getElem_of_mem hx
  obtain ⟨dd, bs, h1, h2, h3⟩ := h.at2 (i := i) (x := x) (by rw [List.getElem?_eq_getElem hi, e])
  have hm := List.mem_of_getElem? h1
  have := wt_mem hm
  have := dep_mem hm
  exact ⟨dd, bs, h2, fun a ha => hu a (h3 a ha), small_mem hs hm, by omega, by omega⟩
/-- a list of data -/
theorem dats_rep {K : PySem.W.Frag} {U : Addr → Prop} {w k : Nat} {H : Hp} : ∀ {xs : List V}, (∀ x ∈ xs, Dat K U w k H x) → ∃ ds as, RepAll K H ds xs as ∧ (∀ a ∈ as, U a) ∧ smallAll ds ∧ wtAll ds ≤ xs.length * (w + 2) ∧ depAll ds ≤ k
  | [], _ => ⟨[], [], by simp [RepAll], fun _ h => absurd h (by simp), by simp [smallAll], by simp [wtAll], by simp [depAll]⟩
  | x :: r, h => by
    obtain ⟨dd, as, h1, h2, h3, h4, h5⟩ := h x (by simp)
    obtain ⟨ds, bs, l1, l2, l3, l4, l5⟩ := dats_rep (xs := r) fun y hy => h y (by simp [hy])
    refine ⟨dd :: ds, as ++ bs, ?_, fun c hc => (List.mem_append.mp hc).elim (h2 c) (l2 c), ?_, ?_, ?_⟩
    · simp only [RepAll]
      exact ⟨x, r, as, bs, rfl, h1, l1, rfl⟩
    · simp only [smallAll]
      exact ⟨h3, l3⟩
    · simp only [wtAll, List.length_cons, Nat.succ_mul]
      omega
    · simp only [depAll]
      omega
/-- a new tuple of data -/
theorem Dat.newTup {K : PySem.W.Frag} {T : Addr} {U : Addr → Prop} {w k : Nat} {H : Hp} {xs : List V} (h : ∀ x ∈ xs, Dat K U w k H x) (nT : H T = none) (o : U T) : Dat K U (xs.length * (w + 2) + 3) (k + 1) (upd H T (.tup xs)) (.ref T) := by
  obtain ⟨ds, as, l1, l2, l3, l4, l5⟩ := dats_rep h
  refine ⟨.tup ds, T :: as, ?_, fun c hc => ?_, by simp only [small]; exact l3, by simp only [wt]; omega, by simp only [dep]; omega⟩
  · simp only [Rep]
    exact ⟨T, _, as, rfl, upd_same, l1.same (same_new nT), nmem l1 nT, rfl⟩
  · rcases List.mem_cons.mp hc with z | z
    · rw [z]; exact o
    · exact l2 c z
theorem Dat.int {K : PySem.W.Frag} {U : Addr → Prop} {w k : Nat} {H : Hp} {i : Int} (h : i.natAbs < 1000) (hw : 4 ≤ w) : Dat K U w k H (.int i) := by
  obtain ⟨i1, i2, i3, i4⟩ := int_ok (K := K) (H := H) (i := i) (w := 3) (k := k) h (by decide) (by decide)
  exact ⟨_, [], i1, fun _ h => absurd h (by simp), i2, by omega, i4⟩
end Sw
namespace Sw
open PySem L2
/-- a statement kept to what it is to do, for whatever i stands for -/
def tCutI {ι : Type} (J J' : ι → L2.St → Hp → Prop) : TS := fun D σ H => ∃ i, J i σ H ∧ ∀ σ' H', J' i σ' H' → D.nx σ' H'
theorem ps_cutI {ι : Type} {X : Cx} {st : Stmt} {t : TS} (J J' : ι → L2.St → Hp → Prop) (h : PS X st t) (hJ : ∀ i D σ H, J i σ H → (∀ σ' H', J' i σ' H' → D.nx σ' H') → t D σ H) : PS X st (tCutI J J') :=
  ⟨fun pins s σ H D I q => by
    obtain ⟨i, a, b⟩ := q
    exact h.run pins s σ H D I (hJ i D σ H a b)⟩
theorem int_at {os : List Int} {i : Nat} {x : V} (h : (os.map V.int)[i]? = some x) : ∃ z, os[i]? = some z ∧ x = .int z := by
  rw [List.getElem?_map] at h
  cases q : os[i]? with
  | none => rw [q] at h; cases h
  | some z => rw [q] at h; exact ⟨z, rfl, (Option.some.inj h).symm⟩
end Sw
namespace Sw
open PySem L2
abbrev sBetween : Stmt := top 2
theorem scBetween : FnScope ["value", "least", "most"] ["value", "least", "most"] (defScope sBetween) := ⟨rfl, rfl, rfl, by decide +kernel, rfl, by decide +kernel, by decide +kernel⟩
section
variable {P : Program} {w : World} {K : PySem.W.Frag} {mg : Str → Option Value} {base : Heap}
theorem ok_between {f : Addr} {fd : FuncData} (F : Fun K "is_integer_between" "is_integer_between" sBetween f fd) (B : NoNames mg) : FnOk P w K mg base CX0 1 f fd ["value", "least", "most"] (spBetween K) := by
  refine F.ok scBetween (fun vs H Q E h => ?_) (fun cdv A outer s H vs Q E hr h => ?_)
  · obtain ⟨x, d, as, lo, hi, rfl, _⟩ := h
    rfl
  · obtain ⟨x, d, as, lo, hi, rfl, hd, k⟩ := h
    refine ⟨_, pss_cons (ps_if (PW.pt (pw_or (pt_val (pe_isi (i := 0) (TN := "bool") rfl (Or.inl rfl) (by decide) (by decide) B.isi B.bool rfl rfl (by decide +kernel) (by decide) (by decide)))
        (pw_or1 (pt_not (pt_val (pe_isi (i := 0) (TN := "int") rfl (Or.inl rfl) (by decide) (by decide) B.isi B.int rfl rfl (by decide +kernel) (by decide) (by decide))))))) (pss_one (ps_ret pe_bl)) pss_nil)
      (pss_one (ps_ret (pe_chain op_le op_le (pv 1) (pv 0) (pv 2)))), ?_⟩
    refine ⟨_, rfl, x, d, as, "bool", rfl, by decide, hd, _, rfl, ?_⟩
    have no : isT "bool" d = true → isWhole lo hi d = false := fun e => by cases d <;> simp_all [isT, isWhole]
    have no2 : isT "bool" d = false → isT "int" d = false → isWhole lo hi d = false := fun e e2 => by cases d <;> simp_all [isT, isWhole]
    have yes : isT "bool" d = false → isT "int" d = true → ∃ i, d = .int i := fun e e2 => by cases d <;> first | exact ⟨_, rfl⟩ | (simp_all [isT])
    cases e1 : isT "bool" d with
    | true =>
      refine iteT (iteT ?_)
      rw [no e1] at k
      exact k
    | false =>
      refine iteF ⟨_, rfl, x, d, as, "int", rfl, by decide, hd, _, rfl, ?_⟩
      cases e2 : isT "int" d with
      | false =>
        refine iteT ?_
        rw [no2 e1 e2] at k
        exact k
      | true =>
        refine iteF ?_
        obtain ⟨i, rfl⟩ := yes e1 e2
        simp only [Rep] at hd
        obtain ⟨rfl, rfl⟩ := hd
        refine ⟨_, rfl, _, rfl, _, _, rfl, rfl, _, rfl, ?_⟩
        refine ite2 (fun z => ?_) (fun z => ?_)
        · refine ⟨_, rfl, _, _, rfl, rfl, ?_⟩
          simp only [isWhole] at k
          rw [z] at k
          exact k
        · simp only [isWhole] at k
          rw [Bool.eq_false_iff.mpr z] at k
          exact k
end
end Sw
namespace Sw
open PySem PySem.Spec PyProof.Rows L2
/-! ### raise C(), math.factorial -/
section
variable {X : Cx} {C : Addr} {bmB : List Value} {B newId initId : String}
theorem pmk_own0 {x : Str} {p pos : Pos} (F : ExcBaseFacts B newId initId bmB) (q : PySem.W.excIn X.K C bmB newId = true) (gC : X.mg x = some (.ref C)) (kC : PySem.W.keepIn X.K (.ref C) = true) (r : Raises X (.ref C)) (hg : Gl X x)
    (hdb : (x == ("__debug__" : Str)) = false := by decide) : PMk X (.Call (.Name x p) [] [] pos) (fun _ H Q => Q (.ref C) none H) := by
  intro pins s σ H Q I h
  refine wpAny_Call_Name_kw (ld_glob I hg gC ?_ hdb)
  refine PySem.W.callWith_K0 (first := []) I.kIn kC ?_
  show wpAny _ _ (call (.ref C) []) _ _ _
  obtain ⟨bm, N, nm, qn, bs, hdct, sn, sub, ab, col, dd, k0, k1, k2, k3, k5, mN, hC, hN, hni, T⟩ := exc_obj I.kIn q
  exact wpAny_call_exc_subT F T hC hN hni (fun h' e hm => mk_of I hm r h (I.hok.gone hm.new)) (by show 0 ≤ sizeLine; omega)
end
theorem fac_eq : ∀ n : Nat, Builtin.Math.factorialNat n = fac n
  | 0 => rfl
  | n + 1 => by
    rw [PySem.W.mc_fac_succ, fac_eq n, fac, Nat.mul_comm]
def rFac : List V → Hp → VK → Prop := fun vs H Q => ∃ n : Nat, vs = [.int n] ∧ n ≤ 20000 ∧ Q (.int (fac n : Nat)) H
theorem cr_fac {X : Cx} : CallR X (.builtin "math.factorial") rFac := by
  intro pins s σ H vs us Q I r h
  obtain ⟨n, rfl, hn, q⟩ := h
  obtain ⟨u, rfl, hu⟩ := vals1 r
  obtain ⟨t, rfl⟩ := (show ∃ t, u = Value.int (n : Nat) t from hu)
  refine PySem.W.mc_factorial (Int.natCast_nonneg n) (by omega) fun _ => ?_
  rw [Int.toNat_natCast, fac_eq]
  exact ⟨.int _, H, I.tok _, ⟨_, rfl⟩, q⟩
theorem fac_mono {a b : Nat} (h : a ≤ b) : fac a ≤ fac b := by
  induction h with
  | refl => exact Nat.le_refl _
  | step h ih => exact Nat.le_trans ih (Nat.le_mul_of_pos_left _ (Nat.succ_pos _))
theorem fac_12 : fac 12 = 479001600 := by decide +kernel
theorem fac_13 : fac 13 = 6227020800 := by decide +kernel
theorem rk_bd {r : List Int} (h : r.length ≤ 13) : rk r < 6227020800 := by
  have h1 := rk_lt r
  have h2 := fac_mono h
  rw [fac_13] at h2
  omega
/-- the numbers on the way -/
theorem rkAcc_step {os : List Int} {i : Nat} {x : Int} (h : os[i]? = some x) (acc : Nat) : rkAcc acc (os.drop i) = rkAcc (acc * (os.drop i).length + less x (os.drop i)) (os.drop (i + 1)) := by
  obtain ⟨hi, e⟩ := List.getElem?_eq_some_iff.mp h
  have ed : os.drop i = x :: os.drop (i + 1) := by rw [← e]; exact (List.getElem_cons_drop hi).symm
  rw [ed, rkAcc, less_self, List.length_cons]
theorem rkAcc_le : ∀ (r : List Int) (acc : Nat), acc ≤ rkAcc acc r
  | [], acc => Nat.le_refl _
  | x :: r, acc => by
    refine Nat.le_trans ?_ (rkAcc_le r _)
    exact Nat.le_trans (Nat.le_mul_of_pos_right _ (Nat.succ_pos _)) (Nat.le_add_right _ _)
abbrev sRowNum : Stmt := top 9
abbrev nRowNum : List Str := ["row", "number", "place", "thing", "behind", "lesser", "other"]
theorem scRowNum : FnScope nRowNum ["row"] (defScope sRowNum) := ⟨rfl, rfl, rfl, by decide +kernel, rfl, by decide +kernel, by decide +kernel⟩
section
variable {P : Program} {w : World} {K : PySem.W.Frag} {mg : Str → Option Value} {base : Heap}
def spRowNum (K : PySem.W.Frag) : Sp := fun vs H Q _ => ∃ (a : Addr) (os : List Int), vs = [.ref a] ∧ H a = some (.tup (os.map V.int)) ∧ os.length ≤ 13 ∧ ∀ H', Same H H' → Q (.int (rk os : Nat)) H'
theorem sIx_from (n i : Nat) : HT.sIx n 0 (some (i : Int)) = min i n := HT.sIx_nat ..
theorem ok_rowNum {f : Addr} {fd : FuncData} (F : Fun K "row_number" "row_number" sRowNum f fd) (B : NoNames mg) : FnOk P w K mg base CX0 1 f fd ["row"] (spRowNum K) := by
  refine F.ok scRowNum (fun vs H Q E h => ?_) (fun cdv A outer s H vs Q E hr h => ?_)
  · obtain ⟨a, os, rfl, _⟩ := h
    rfl
  · obtain ⟨a, os, rfl, ha, hl, k⟩ := h
    refine ⟨_, pss_cons (ps_set (i := 1) scRowNum.nd rfl (.inl rfl) pe_int) <|
      pss_cons (ps_for PassesOwn.never rfl (pi_enumT (by rfl) B.enumerate (pa_cons (pv 0) pa_nil)) (pg_tup rfl (pgs_cons (pg_name (i := 2) scRowNum.nd rfl (.inl rfl)) (pgs_cons (pg_name (i := 3) scRowNum.nd rfl (.inr rfl)) pgs_nil)))
        (pss_cons (ps_cutI (ι := Nat × Nat × Int × Hp) (fun q σ H' => (∃ s4 s5, σ = [some (.ref a), some (.int q.1), some (.int q.2.1), some (.int q.2.2.1), s4, s5, none]) ∧ os[q.2.1]? = some q.2.2.1 ∧ H' = q.2.2.2 ∧ Same H H')
            (fun q σ H' => ∃ c s5, σ = [some (.ref a), some (.int q.1), some (.int q.2.1), some (.int q.2.2.1), some (.ref c), s5, none] ∧ Same q.2.2.2 H' ∧ H' c = some (.tup ((os.drop q.2.1).map V.int)))
            (ps_set (i := 4) scRowNum.nd rfl (.inl rfl) (pe_slice sl_tupA (pv 0) (po_some (pv 2)) po_none)) ?c1) <|
        pss_cons (ps_setLc (i := 5) (own := [("other", 6)]) (g := gName 6) (by rfl) scRowNum.nd rfl rfl (sw_true rfl rfl rfl (by decide +kernel)) (pi_tup (pv 4)) (blkOk_by (own := [("other", 6)]) (N := nRowNum) (sc := defScope sRowNum) (by decide +kernel))
          (fun _ _ _ _ _ => pg_name (i := 6) scRowNum.nd rfl (Or.inl rfl)) (fun _ _ _ _ _ => pts_one (pt_cmpR op_lt (pv 6) (pv 3) (nomark _))) (fun _ _ _ _ _ => pv 6)) <|
        pss_one (ps_set (i := 1) scRowNum.nd rfl (.inl rfl) (pe_op op_add (pe_op op_mul (pv 1) (pe_callB call_len_seq (by rfl) B.len PySem.boot_len (pa_cons (pv 4) pa_nil))) (pe_callB call_len_seq (by rfl) B.len PySem.boot_len (pa_cons (pv 5) pa_nil)))))) <|
      pss_one (ps_ret (pv 1)), ?_⟩
    case c1 =>
      rintro ⟨acc, i, z, H1⟩ D σ _ ⟨⟨s4, s5, rfl⟩, ez, rfl, s1⟩ nx
      have il : i < os.length := (List.getElem?_eq_some_iff.mp ez).1
      refine ⟨_, rfl, _, rfl, (i : Int), rfl, a, _, rfl, SqT.of (s1 _ _ ha), fun hw => ?_, fun hw c nc => ?_⟩
      · rw [HT.sIx_nat, List.length_map] at hw
        have i0 : i = 0 := by omega
        exact nx _ _ ⟨a, s5, rfl, Same.refl _, by show _ = some (HO.tup ((os.drop i).map V.int)); rw [i0, List.drop_zero]; exact s1 _ _ ha⟩
      · refine nx _ _ ⟨c, s5, rfl, same_new nc, ?_⟩
        rw [upd_same]
        unfold cutV
        rw [HT.sIx_nat, HT.sIx_none, List.length_map, Nat.min_eq_left (Nat.le_of_lt il), ← List.map_drop, List.take_of_length_le (by rw [List.length_map, List.length_drop]; exact Nat.le_refl _)]
    refine ⟨_, rfl, a, _, rfl, SqT.of ha, for_it walk_te (fun i σ H' => (∃ (acc : Nat) (s2 s3 s4 s5 : Option V), σ = [some (.ref a), some (.int acc), s2, s3, s4, s5, none] ∧ rkAcc acc (os.drop i) = rk os) ∧ Same H H')
      ⟨⟨0, _, _, _, _, rfl, by rw [List.drop_zero, rkAcc_eq]; omega⟩, Same.refl H⟩ (fun i σ H' _ h => SqT.of (h.2 _ _ ha)) ?_ ?_⟩
    · rintro i x σ H1 H2 hi ⟨⟨acc, s2, s3, s4, s5, rfl, inv⟩, s1⟩ ⟨T, x1, x2, rfl, nT, rfl, e1, e2⟩
      obtain rfl : V.int (i : Nat) = x1 := Option.some.inj e1
      obtain ⟨z, ez, rfl⟩ := int_at e2
      refine ⟨T, [.int (i : Nat), .int z], rfl, .inl (.inl upd_same), rfl, _, [.int z], rfl, .int z, [], rfl, rfl, ?_⟩
      refine ⟨(acc, i, z, _), ⟨⟨s4, s5, rfl⟩, ez, rfl, s1.trans (same_new nT)⟩, ?_⟩
      intro σ' H3 q
      obtain ⟨c, s5, rfl, s3, hc⟩ : ∃ c s5, σ' = [some (.ref a), some (.int acc), some (.int i), some (.int z), some (.ref c), s5, none] ∧ Same (upd H1 T (.tup [.int (i : Nat), .int z])) H3 ∧ H3 c = some (.tup ((os.drop i).map V.int)) := q
      have sH3 : Same H H3 := (s1.trans (same_new nT)).trans s3
      refine ⟨_, rfl, c, rfl, ⟨_, SqT.of hc⟩, fun L nL => ?_⟩
      have il : i < os.length := (List.getElem?_eq_some_iff.mp ez).1
      have hdl : (os.drop i).length = os.length - i := List.length_drop ..
      refine lc_it (walk_tup (xs := (os.drop i).map V.int)) (fun j H' => H' L = some (.lst ((((os.drop i).take j).filter fun y => decide (y < z)).map V.int)) ∧ Same H3 H') ⟨upd_same, same_new nL⟩ (fun j H' _ h => SqT.of (h.2 _ _ hc)) ?_ ?_
      · rintro j x Hb Ha hj ⟨h1, h2⟩ ⟨rfl, ex⟩
        obtain ⟨y, ey, rfl⟩ := int_at ex
        refine ⟨rfl, _, rfl, _, rfl, _, _, rfl, rfl, _, rfl, ?_⟩
        have et : (os.drop i).take (j + 1) = (os.drop i).take j ++ [y] := by
          rw [List.take_add_one, ey]
          rfl
        have ef : ((os.drop i).take (j + 1)).filter (fun y => decide (y < z)) = ((os.drop i).take j).filter (fun y => decide (y < z)) ++ (if y < z then [y] else []) := by
          rw [et, List.filter_append]
          congr 1
          by_cases c2 : y < z <;> simp [c2]
        refine ite2 (fun z2 => ?_) (fun z2 => ?_)
        · have z2 : y < z := of_decide_eq_true z2
          refine ⟨_, rfl, _, h1, ?_, ?_, ?_⟩
          · rw [List.length_map, sizeLine_eq]
            have := List.length_filter_le (fun y => decide (y < z)) ((os.drop i).take j)
            rw [List.length_take] at this
            omega
          · rw [upd_same, ef, if_pos z2, List.map_append]
            rfl
          · intro b o e
            rw [upd_ne (ne_of_none e nL)]
            exact h2 _ _ e
        · have z2 : ¬ y < z := fun q => z2 (decide_eq_true q)
          rw [ef, if_neg z2, List.append_nil]
          exact ⟨h1, h2⟩
      · rintro H4 ⟨h1, h2⟩
        rw [List.length_map, List.take_length] at h1
        refine ⟨_, rfl, _, rfl, c, _, rfl, .inr (SqT.of (h2 _ _ hc)), _, _, rfl, rfl, .inl ⟨by omega, ?_⟩, _, rfl, L, _, rfl, .inl (SqL.of h1), _, _, rfl, rfl, ?_⟩
        · have b1 := rkAcc_le (os.drop i) acc
          have b2 := rk_bd hl
          rw [inv] at b1
          omega
        · have en : (acc : Int) * (((os.drop i).map V.int).length : Int) + ((((os.drop i).filter fun y => decide (y < z)).map V.int).length : Int) = ((acc * (os.drop i).length + less z (os.drop i) : Nat) : Int) := by
            rw [List.length_map, List.length_map]
            unfold less
            omega
          refine ⟨⟨acc * (os.drop i).length + less z (os.drop i), some (.int i), some (.int z), some (.ref c), some (.ref L), ?_, by rw [← inv, rkAcc_step ez]⟩, sH3.trans h2⟩
          rw [← en]
          rfl
    · rintro σ H1 ⟨⟨acc, s2, s3, s4, s5, rfl, inv⟩, s1⟩
      rw [List.length_map, List.drop_length] at inv
      have e : acc = rk os := inv
      subst e
      exact ⟨_, rfl, k _ s1⟩
/-! ### standing_number -/
abbrev sStNum : Stmt := top 7
theorem scStNum : FnScope ["n", "standing", "row", "stop"] ["n", "standing"] (defScope sStNum) := ⟨rfl, rfl, rfl, by decide +kernel, rfl, by decide +kernel, by decide +kernel⟩
/-- a standing as it stands -/
structure StandAt (n : Int) (H : Hp) (a b : Addr) (os : List Int) (st : Int) : Prop where
  a : H a = some (.tup [.ref b, .int st])
  b : H b = some (.tup (os.map V.int))
  len : (os.length : Int) = n + 1
  n1 : 1 ≤ n
  n2 : n ≤ 12
theorem StandAt.keep {n st : Int} {H H' : Hp} {a b : Addr} {os : List Int} (S : StandAt n H a b os st) (s : TupS H H') : StandAt n H' a b os st := ⟨s _ _ S.a, s _ _ S.b, S.len, S.n1, S.n2⟩
def spStNum : Sp := fun vs H Q _ => ∃ (n st : Int) (a b : Addr) (os : List Int), vs = [.int n, .ref a] ∧ StandAt n H a b os st ∧ ∀ H', Same H H' → Q (.int ((rk os : Nat) * n + st)) H'
theorem ok_stNum {f : Addr} {fd : FuncData} (F : Fun K "standing_number" "standing_number" sStNum f fd) (O : Own P w K mg base 1 "row_number" ["row"] (spRowNum K)) : FnOk P w K mg base CX0 2 f fd ["n", "standing"] spStNum := by
  obtain ⟨fR, fdR, GR, mR, kR, bR⟩ := O.ex
  refine F.ok scStNum (fun vs H Q E h => ?_) (fun cdv A outer s H vs Q E hr h => ?_)
  · obtain ⟨n, st, a, b, os, rfl, _⟩ := h
    rfl
  · obtain ⟨n, st, a, b, os, rfl, S, k⟩ := h
    refine ⟨_, pss_cons (ps_asg (pv 1) (pg_tup (by rfl) (pgs_cons (pg_name (i := 2) scStNum.nd rfl (.inl rfl)) (pgs_cons (pg_name (i := 3) scStNum.nd rfl (.inl rfl)) pgs_nil)))) <|
      pss_one (ps_ret (pe_op op_add (pe_op op_mul (pe_call GR hr rfl mR kR bR .nil pass0 (pa_cons (pv 2) pa_nil)) (pv 0)) (pv 3))), ?_⟩
    have hl := S.len
    have n2 := S.n2
    have hl2 : os.length ≤ 13 := by omega
    have bd := rk_bd hl2
    exact ⟨_, rfl, a, _, rfl, SqT.of S.a, rfl, _, _, rfl, _, [], rfl, rfl, _, rfl, b, os, rfl, S.b, hl2, fun H' s1 => ⟨_, rfl, _, _, rfl, rfl, .inl ⟨by omega, by omega⟩, _, rfl, _, _, rfl, rfl, k _ s1⟩⟩
/-! ### row_at -/
abbrev sRowAt : Stmt := top 10
theorem scRowAt : FnScope ["many", "number", "left", "row", "spot"] ["many", "number"] (defScope sRowAt) := ⟨rfl, rfl, rfl, by decide +kernel, rfl, by decide +kernel, by decide +kernel⟩
/-- the numbers below m -/
def rgI (m : Nat) : List Int := (List.range m).map fun i => ((i : Nat) : Int)
theorem rgI_len (m : Nat) : (rgI m).length = m := by rw [rgI, List.length_map, List.length_range]
theorem rgV_rgI (m : Nat) : rgV 0 (m : Int) = (rgI m).map V.int := by
  unfold rgV rgI
  rw [List.map_map, Int.sub_zero, Int.toNat_natCast]
  refine List.map_congr_left fun i _ => ?_
  show V.int (0 + (i : Int)) = V.int (i : Int)
  rw [Int.zero_add]
def spRowAt : Sp := fun vs H Q _ => ∃ m num : Nat, vs = [.int m, .int num] ∧ m ≤ 13 ∧ num < fac m ∧ ∀ (a : Addr) (H' : Hp), Same H H' → H' a = some (.tup ((unrk (rgI m) m num).map V.int)) → Q (.ref a) H'
theorem ok_rowAt {f : Addr} {fd : FuncData} (F : Fun K "row_at" "row_at" sRowAt f fd) (B : NoNames mg) (bd : mg "divmod" = none) (mF : mg "factorial" = some (.builtin "math.factorial")) : FnOk P w K mg base CX0 1 f fd ["many", "number"] spRowAt := by
  refine F.ok scRowAt (fun vs H Q E h => ?_) (fun cdv A outer s H vs Q E hr h => ?_)
  · obtain ⟨m, num, rfl, _⟩ := h
    rfl
  · obtain ⟨m, num, rfl, hm, hnum, k⟩ := h
    refine ⟨_, pss_cons (ps_set (i := 2) scRowAt.nd rfl (.inl rfl) (pe_listRg rfl (by rfl) B.list (prg_1 (by rfl) B.range (pv 0)))) <|
      pss_cons (ps_set (i := 3) scRowAt.nd rfl (.inl rfl) (pe_lst pa_nil)) <|
      pss_cons (ps_while PassesOwn.never (pt_truth (pv 2) (by intro _; rfl))
        (pss_cons (ps_asg (pe_callB call_divmod (by rfl) bd (by decide +kernel) (pa_cons (pv 1) (pa_cons (pe_callBfun cr_fac (by rfl) mF (pa_cons (pe_op op_sub (pe_callB call_len_seq (by rfl) B.len PySem.boot_len (pa_cons (pv 2) pa_nil)) pe_int) pa_nil)) pa_nil)))
          (pg_tup (by rfl) (pgs_cons (pg_name (i := 4) scRowAt.nd rfl (.inl rfl)) (pgs_cons (pg_name (i := 1) scRowAt.nd rfl (.inl rfl)) pgs_nil)))) <|
        pss_one (ps_expr (pe_bm PySem.F.plainAttrs_list PySem.F.slot_list_append PySem.F.type_list_append mt_append (pv 3) (pa_cons (pe_bm PySem.F.plainAttrs_list PySem.F.slot_list_pop PySem.F.type_list_pop mt_popAt (pv 2) (pa_cons (pv 4) pa_nil)) pa_nil))))) <|
      pss_one (ps_ret (pe_callTy call_tuple_of (by rfl) B.tuple (by decide +kernel) (pa_cons (pv 3) pa_nil))), ?_⟩
    refine ⟨_, rfl, (m : Int), rfl, RgOk.of_le (by decide) (by omega) (by decide) (by omega), fun l nl => ?_⟩
    rw [rgV_rgI]
    refine ⟨Nat.zero_le _, fun g ng => ?_⟩
    have s1 : Same H (upd H l (.lst ((rgI m).map V.int))) := same_new nl
    have ngl : g ≠ l := fun z => by
      rw [z, upd_same] at ng
      cases ng
    have s2 := s1.trans (same_new (o := .lst []) ng)
    have ng0 : H g = none := s1.free ng
    refine ⟨fun j σ H' => ∃ (ls fs : List Int) (nu : Nat) (s4 : Option V), σ = [some (.int m), some (.int nu), some (.ref l), some (.ref g), s4] ∧ ls.length = j ∧ j ≤ m ∧ Same H H' ∧ H' l = some (.lst (ls.map V.int)) ∧ H' g = some (.lst (fs.map V.int)) ∧ nu < fac ls.length ∧
      fs.length + ls.length = m ∧ fs ++ unrk ls ls.length nu = unrk (rgI m) m num, ⟨m, rgI m, [], num, none, rfl, rgI_len m, Nat.le_refl _, s2, by rw [upd_ne ngl.symm, upd_same], upd_same, by rw [rgI_len]; exact hnum, by rw [rgI_len]; exact Nat.zero_add _, by rw [rgI_len]; rfl⟩, ?_⟩
    rintro j σ H1 ⟨ls, fs, nu, s4, rfl, rfl, hj, s1, h1, h2, hn, hlen, hinv⟩
    refine ⟨_, rfl, _, .inl ⟨_, SqL.of h1, rfl⟩, ?_⟩
    cases ls with
    | nil =>
      refine iteF ?_
      rw [List.length_nil, unrk, List.append_nil] at hinv
      refine ⟨_, rfl, g, _, rfl, .inl ⟨SqL.of h2, fun c nc => ?_⟩⟩
      refine k c _ (s1.trans (same_new nc)) ?_
      rw [upd_same, hinv]
    | cons y0 r0 =>
      refine iteT ?_
      generalize els : y0 :: r0 = ls at *
      have pos : 0 < ls.length := by rw [← els]; exact Nat.succ_pos _
      obtain ⟨d, ed⟩ : ∃ d, ls.length = d + 1 := ⟨ls.length - 1, by omega⟩
      refine ⟨fun σ' H' => ∃ j', j' < ls.length ∧ ∃ (ls fs : List Int) (nu : Nat) (s4 : Option V), σ' = [some (.int m), some (.int nu), some (.ref l), some (.ref g), s4] ∧ ls.length = j' ∧ j' ≤ m ∧ Same H H' ∧ H' l = some (.lst (ls.map V.int)) ∧ H' g = some (.lst (fs.map V.int)) ∧ nu < fac ls.length ∧
        fs.length + ls.length = m ∧ fs ++ unrk ls ls.length nu = unrk (rgI m) m num, fun _ _ h => h, ?_⟩
      have fp := fac_pos d
      have f12 : fac d ≤ 479001600 := by
        rw [← fac_12]
        exact fac_mono (by omega)
      refine ⟨_, rfl, _, rfl, l, _, rfl, .inl (SqL.of h1), _, _, rfl, rfl, d, ?_, by omega, _, _, rfl, ⟨by omega, by omega⟩, fun p np => ?_⟩
      · rw [List.length_map, ed]
        have e1 : ((d + 1 : Nat) : Int) - 1 = (d : Int) := by omega
        exact congrArg (fun z => [V.int z]) e1
      have sp : Same H1 (upd H1 p (.tup [.int ((nu : Int) / (fac d : Nat)), .int ((nu : Int) % (fac d : Nat))])) := same_new np
      have q1 : (nu : Int) / (fac d : Nat) = ((nu / fac d : Nat) : Int) := (Int.natCast_ediv _ _).symm
      have q2 : (nu : Int) % (fac d : Nat) = ((nu % fac d : Nat) : Int) := (Int.natCast_emod _ _).symm
      rw [q1, q2] at sp ⊢
      have h1' := sp _ _ h1
      have h2' := sp _ _ h2
      have s1' := s1.trans sp
      refine ⟨p, _, rfl, SqT.of upd_same, rfl, _, [.int ((nu % fac d : Nat) : Int)], rfl, .int ((nu % fac d : Nat) : Int), [], rfl, rfl, ?_⟩
      generalize (upd H1 p (.tup [.int ((nu / fac d : Nat) : Int), .int ((nu % fac d : Nat) : Int)])) = H2 at sp h1' h2' s1' ⊢
      have lt : nu / fac d < ls.length := by
        rw [Nat.div_lt_iff_lt_mul fp, ed]
        rw [ed, fac] at hn
        exact hn
      have lg : l ≠ g := ngl.symm
      have nn : (0 : Int) ≤ ((nu / fac d : Nat) : Int) := Int.natCast_nonneg _
      have nl2 : ((nu / fac d : Nat) : Int) < (ls.length : Int) := Int.ofNat_lt.mpr lt
      refine ⟨_, rfl, .inl ⟨rfl, _, SqL.of h2'⟩, _, rfl, .inl ⟨rfl, _, SqL.of h1'⟩, _, rfl, l, _, _, nu / fac d, .int (ls[nu / fac d]'lt), rfl, rfl, h1', by omega, by omega, ?_, ?_, ?_⟩
      · exact PySem.seqIndex_of nn (by rw [List.length_map]; exact nl2)
      · rw [List.getElem?_map, List.getElem?_eq_getElem lt]
        rfl
      rw [erase_map]
      refine ⟨g, fs.map V.int, _, rfl, rfl, by rw [upd_ne ngl]; exact h2', by rw [List.length_map, sizeLine_eq]; omega, ?_⟩
      have le : (ls.eraseIdx (nu / fac d)).length = d := by
        rw [List.length_eraseIdx_of_lt lt]
        omega
      refine ⟨d, by rw [ed]; exact Nat.lt_succ_self d, ls.eraseIdx (nu / fac d), fs ++ [ls[nu / fac d]'lt], nu % fac d, _, rfl, le, Nat.le_trans (by rw [ed]; exact Nat.le_succ d) hj, fun b o e => ?_, by rw [upd_ne lg, upd_same], by rw [upd_same, List.map_append]; rfl, by rw [le]; exact Nat.mod_lt _ fp, by rw [le, List.length_append, List.length_singleton]; omega, ?_⟩
      · rw [upd_ne (ne_of_none e ng0), upd_ne (ne_of_none e nl)]
        exact s1' _ _ e
      · rw [ed, unrk, List.getD_eq_getElem?_getD, List.getElem?_eq_getElem lt] at hinv
        rw [le, List.append_assoc, ← hinv]
        rfl
end
end Sw
namespace Sw
open PySem PySem.Spec PyProof.Rows L2
/-! ### an own error x without __init__, under the error y of the package: raised, caught, asked -/
structure UErr (K : PySem.W.Frag) (mg : Str → Option Value) (x y : Str) (C S : Addr) : Prop where
  mx : mg x = some (.ref C)
  my : mg y = some (.ref S)
  made : PySem.W.excIn K C [.type "ValueError", .type "Exception", .type "BaseException", .type "object"] "ValueError.__new__" = true
  kC : PySem.W.keepIn K (.ref C) = true
  base : PySem.W.subIn K (.ref C) (.type "BaseException") = some true
  ty : PySem.W.typeIn K (.ref C) = some (.type "type")
  self : PySem.W.subIn K (.ref C) (.ref C) = some true
  ex : ExcC K C
  sub : PySem.W.kitOne K (.ref C) (.ref S) = some true
theorem UErr.raises {X : Cx} {x y : Str} {C S : Addr} (U : UErr X.K X.mg x y C S) : Raises X (.ref C) := raises_own U.base U.ty
theorem UErr.takes {K : PySem.W.Frag} {mg : Str → Option Value} {x y : Str} {C S : Addr} (U : UErr K mg x y C S) : PySem.W.exmOne K (.ref C) (.ref C) = some true := PySem.W.exm_ref U.base U.ex.hd U.ty U.self
theorem UErr.mk0 {X : Cx} {x y : Str} {C S : Addr} {p pos : Pos} (U : UErr X.K X.mg x y C S) (hg : Gl X x) (hdb : (x == ("__debug__" : Str)) = false := by decide) : PMk X (.Call (.Name x p) [] [] pos) (fun _ H Q => Q (.ref C) none H) :=
  pmk_own0 PySem.F.excBase_ValueError U.made U.mx U.kC U.raises hg hdb
section
variable {X : Cx} {CX : CXT} {k : Nat} {f : Addr} {fd : FuncData} {ps ks : List Str} {sp : Sp} {E : L2.St → XK} {x : Str} {p pos : Pos} {kws : List Keyword} {tk : TA} {g : List Value → List Value → List Value} {gV : List V → List V → List V}
/-- f(k = v) in a try: what it may let out is wished for at the slots -/
theorem pe_callWS (F : FnOk X.prog X.w X.K X.mg X.base CX k f fd ps sp) (hr : Room k X.A) (hg : Gl X x) (hm : X.mg x = some (.ref f)) (hk : PySem.W.keepIn X.K (.ref f) = true) (hb : KBinds X.K fd ps ks g gV) (hx : ∀ σ, PassesAt CX X σ (E σ))
    (hkw : PK X kws tk) (hall : (backToKw pos (keywordEach kws X.env)).all (·.1.isSome) = true := by rfl) (hks : (backToKw pos (keywordEach kws X.env)).filterMap (·.1) = ks := by rfl)
    (hdb : (x == ("__debug__" : Str)) = false := by decide)
    (hpl : ((backTo pos (starEach [] X.env)).any (·.1) || (backToKw pos (keywordEach kws X.env)).any (·.1.isNone)) = false := by rfl) :
    PE X (.Call (.Name x p) [] kws pos) (fun σ H Q => tk σ H fun zs H2 => sp (gV [] zs) H2 Q (E σ)) := by
  refine ⟨fun pins s σ H Q I h => wpAny_Call_Name_kw (ld_glob I hg hm ?_ hdb)⟩
  refine PySem.W.callWith_KW0 (first := []) (h₀ := X.base) I.ok.mod.kin hk hall (thn (hkw.run pos pins s σ H _ I h) fun ws s2 ⟨zs, H2, I2, rz, q2⟩ => ⟨I2.kIn, ?_⟩) hpl
  rw [hks]
  have r2 := hb.rel (us := []) .nil rz
  have hl : (g [] ws).length = ps.length := by
    rw [← r2.length]
    exact F.len _ _ _ _ q2
  refine wpAny_call (codeAny_mono (F.run X.A X.stack s2 H2 ⟨[], ks.zip ws⟩ (g [] ws) (gV [] zs) Q (E σ) hr I2.env0 (hb.to s2 [] ws I2.kIn hl) r2 q2) fun r s' hq => ?_)
  rcases r with e | fl
  · exact hx σ pins H2 s2 e s' I2 hq
  rcases fl with _ | _ | _ | u
  all_goals first | exact hq.elim | skip
  exact I2.after hq
end
end Sw
namespace Sw
open PySem PySem.Spec PyProof.Rows L2
/-! ### standing_at -/
abbrev sStAt : Stmt := top 8
theorem scStAt : FnScope ["n", "value", "number", "stop"] ["n", "value"] (defScope sStAt) := ⟨rfl, rfl, rfl, by decide +kernel, rfl, by decide +kernel, by decide +kernel⟩
section
variable {P : Program} {w : World} {K : PySem.W.Frag} {mg : Str → Option Value} {base : Heap} {C S : Addr}
/-- how many standings of n there are -/
def manyS (n : Int) : Int := n * (fac (n.toNat + 1) : Nat)
/-- the standing with a number -/
def stRow (n num : Int) : List Int := unrk (rgI (n.toNat + 1)) (n.toNat + 1) (num / n).toNat
def spStAt (K : PySem.W.Frag) (C : Addr) : Sp := fun vs H Q E => ∃ (n : Int) (x : V) (d : D) (as : List Addr), vs = [.int n, x] ∧ Rep K H d x as ∧ 1 ≤ n ∧ n ≤ 12 ∧
  (isWhole 0 (manyS n - 1) d = false → ∀ H', Same H H' → E (.ref C) none H') ∧ (∀ num : Int, d = .int num → 0 ≤ num → num < manyS n → ∀ (a b : Addr) (H' : Hp), Same H H' → StandAt n H' a b (stRow n num) (num % n) → Q (.ref a) H')
theorem unrk_len : ∀ (m : Nat) (left : List Int) (num : Nat), (unrk left m num).length = m
  | 0, _, _ => rfl
  | m + 1, left, num => by rw [unrk, List.length_cons, unrk_len m]
theorem many_ok {n num : Int} (n1 : 1 ≤ n) (h0 : 0 ≤ num) (h1 : num < manyS n) : (num / n).toNat < fac (n.toNat + 1) ∧ 0 ≤ num / n := by
  have hq : 0 ≤ num / n := Int.ediv_nonneg h0 (by omega)
  have hl : num / n < (fac (n.toNat + 1) : Nat) := by
    refine Int.ediv_lt_of_lt_mul (by omega) ?_
    unfold manyS at h1
    rw [Int.mul_comm]
    exact h1
  exact ⟨by omega, hq⟩
theorem ok_stAt {f : Addr} {fd : FuncData} (F : Fun K "standing_at" "standing_at" sStAt f fd) (B : NoNames mg) (bd : mg "divmod" = none) (mF : mg "factorial" = some (.builtin "math.factorial")) (U : UErr K mg "Unfit" "SwapError" C S)
    (O1 : Own P w K mg base 1 "is_integer_between" ["value", "least", "most"] (spBetween K)) (O2 : Own P w K mg base 1 "row_at" ["many", "number"] spRowAt) : FnOk P w K mg base (L2.CX P w) 2 f fd ["n", "value"] (spStAt K C) := by
  obtain ⟨fI, fdI, GI, mI, kI, bI⟩ := O1.ex
  obtain ⟨fR, fdR, GR, mR, kR, bR⟩ := O2.ex
  refine F.okX scStAt (fun vs H Q E h => ?_) (fun cdv A outer s H vs Q E hr h => ?_)
  · obtain ⟨n, x, d, as, rfl, _⟩ := h
    rfl
  · obtain ⟨n, x, d, as, rfl, hd, n1, n2, k1, k2⟩ := h
    refine ⟨_, pss_cons (ps_if (pt_not (pt_val (pe_call GI hr rfl mI kI bI .nil pass0 (pa_cons (pv 1) (pa_cons pe_int (pa_cons (pe_op op_sub (pe_op op_mul (pv 0) (pe_callBfun cr_fac (by rfl) mF (pa_cons (pe_op op_add (pv 0) pe_int) pa_nil))) pe_int) pa_nil))))))
        (pss_one (ps_raise rfl (takes_of rfl rfl rfl rfl) (U.mk0 rfl))) pss_nil) <|
      pss_cons (ps_asg (pe_callB call_divmod (by rfl) bd (by decide +kernel) (pa_cons (pv 1) (pa_cons (pv 0) pa_nil)))
        (pg_tup (by rfl) (pgs_cons (pg_name (i := 2) scStAt.nd rfl (.inl rfl)) (pgs_cons (pg_name (i := 3) scStAt.nd rfl (.inl rfl)) pgs_nil)))) <|
      pss_one (ps_ret (pe_tup (pa_cons (pe_call GR hr rfl mR kR bR .nil pass0 (pa_cons (pe_op op_add (pv 0) pe_int) (pa_cons (pv 2) pa_nil))) (pa_cons (pv 3) pa_nil)))), ?_⟩
    have en : ((n.toNat + 1 : Nat) : Int) = n + 1 := by omega
    refine ⟨_, rfl, _, rfl, _, rfl, _, _, rfl, rfl, n.toNat + 1, by rw [en], by omega, _, _, rfl, rfl, .inl ⟨by omega, by omega⟩, _, _, rfl, rfl, x, d, as, 0, manyS n - 1, rfl, hd, _, rfl, ?_⟩
    cases e : isWhole 0 (manyS n - 1) d with
    | false => exact iteT (k1 e H (Same.refl H))
    | true =>
      obtain ⟨num, rfl⟩ : ∃ i, d = .int i := by cases d <;> first | exact ⟨_, rfl⟩ | (cases e)
      simp only [isWhole, Bool.and_eq_true, decide_eq_true_eq] at e
      simp only [Rep] at hd
      obtain ⟨rfl, rfl⟩ := hd
      obtain ⟨m1, m2⟩ := many_ok n1 e.1 (by omega)
      refine iteF ⟨_, rfl, _, rfl, num, n, rfl, ⟨by omega, by omega⟩, fun p np => ?_⟩
      refine ⟨p, _, rfl, SqT.of upd_same, rfl, _, [.int (num % n)], rfl, .int (num % n), [], rfl, rfl, ?_⟩
      have s1 : Same H (upd H p (.tup [.int (num / n), .int (num % n)])) := same_new np
      refine ⟨_, rfl, _, _, rfl, rfl, _, rfl, n.toNat + 1, (num / n).toNat, ?_, by omega, m1, fun b H1 s2 hb => ⟨_, rfl, by show 2 ≤ sizeLine; decide, fun a na => ?_⟩⟩
      · rw [en, Int.toNat_of_nonneg m2]
        rfl
      · have s3 := (s1.trans s2).trans (same_new (o := .tup [.ref b, .int (num % n)]) na)
        refine k2 num rfl e.1 (by omega) a b _ s3 ⟨upd_same, same_new na _ _ hb, ?_, n1, n2⟩
        unfold stRow
        rw [unrk_len]
        omega
end
end Sw
namespace Sw
open PySem L2
/-! ### the law's defs -/
theorem scMixed2 : FnScope ["deck", "items", "left", "found"] ["deck", "items"] (defScope sMixed) := ⟨rfl, rfl, rfl, by decide +kernel, rfl, by decide +kernel, by decide +kernel⟩
theorem erase_perm {l : List Int} {i : Nat} (h : i < l.length) : (l[i] :: l.eraseIdx i).Perm l := by
  induction l generalizing i with
  | nil => exact absurd h (Nat.not_lt_zero _)
  | cons a l ih =>
    cases i with
    | zero => exact .refl _
    | succ i =>
      have h2 : i < l.length := by simpa using h
      exact ((List.Perm.swap _ _ _).trans ((ih h2).cons a))
section
variable {P : Program} {w : World} {K : PySem.W.Frag} {mg : Str → Option Value} {base : Heap}
def spMixedP : Sp := fun vs H Q _ => ∃ (p d a : Addr) (ns : List Int), vs = [.ref p, .ref a] ∧ Deck H p d 63 ∧ H a = some (.lst (ns.map V.int)) ∧ ns.length < 1000000 ∧ ∀ (r : Addr) (ms : List Int) (H' : Hp), Deck H' p d 63 → Kp p d H H' → H r = none → H' r = some (.lst (ms.map V.int)) → ms.Perm ns → Q (.ref r) H'
theorem ok_mixedP {f : Addr} {fd : FuncData} (F : Fun K "_law_mixed" "_law_mixed" sMixed f fd) (B : NoNames mg) (O : Own P w K mg base 1 "_law_draw" ["deck", "many"] spDraw) : FnOk P w K mg base CX0 2 f fd ["deck", "items"] (spMixedP) := by
  obtain ⟨fD, fdD, GD, mD, kD, bD⟩ := O.ex
  refine F.ok scMixed2 (fun vs H Q E h => ?_) (fun cdv A outer s H vs Q E hr h => ?_)
  · obtain ⟨p, d, a, ns, rfl, _⟩ := h
    rfl
  · obtain ⟨p, d, a, ns, rfl, D, ha, hl, k⟩ := h
    refine ⟨_, pss_cons (ps_par (i := 2) (j := 3) rfl scMixed2.nd rfl rfl (by decide) rfl rfl (pa_cons (pe_callTy call_list_of (by rfl) B.list (by decide +kernel) (pa_cons (pv 1) pa_nil)) (pa_cons (pe_lst pa_nil) pa_nil)) (by rfl))
      (pss_cons (ps_while PassesOwn.never (pt_cmpR (op_neD hr.units) (pv 2) (pe_lst pa_nil) (nomark _))
        (pss_one (ps_expr (pe_bm PySem.F.plainAttrs_list PySem.F.slot_list_append PySem.F.type_list_append mt_append (pv 3)
          (pa_cons (pe_bm PySem.F.plainAttrs_list PySem.F.slot_list_pop PySem.F.type_list_pop mt_popAt (pv 2)
            (pa_cons (pe_call GD hr rfl mD kD bD .nil pass0 (pa_cons (pv 0) (pa_cons (pe_callB call_len_seq (by rfl) B.len PySem.boot_len (pa_cons (pv 2) pa_nil)) pa_nil))) pa_nil)) pa_nil)))))
      (pss_one (ps_ret (pv 3)))), ?_⟩
    refine ⟨_, rfl, a, _, rfl, .inl (SqL.of ha), fun l nl => ⟨by show 0 ≤ sizeLine; exact Nat.zero_le _, fun g ng => ⟨_, _, rfl, ?_⟩⟩⟩
    have s1 : Same H (L2.upd H l (.lst (ns.map V.int))) := same_new nl
    have s2 := s1.trans (same_new (o := .lst []) ng)
    have ngl : g ≠ l := fun z => by
      rw [z, upd_same] at ng
      cases ng
    refine ⟨fun m σ H' => ∃ ls fs : List Int, σ = [some (.ref p), some (.ref a), some (.ref l), some (.ref g)] ∧ Deck H' p d 63 ∧ Kp p d H H' ∧ H' l = some (.lst (ls.map V.int)) ∧ H' g = some (.lst (fs.map V.int)) ∧ l ≠ d ∧ g ≠ d ∧ ls.length = m ∧ (fs ++ ls).Perm ns,
      ⟨ns.length, ns, [], rfl, D.same s2, .of s2, by rw [upd_ne ngl.symm, upd_same], upd_same, (D.ne_none nl).2, (D.ne_none (s1.free ng)).2, rfl, .refl _⟩, ?_⟩
    rintro m σ H1 ⟨ls, fs, rfl, D1, k1, h1, h2, n1, n2, rfl, hpm⟩
    refine ⟨_, rfl, by show 0 ≤ sizeLine; exact Nat.zero_le _, fun e ne => ?_⟩
    have se : Same H1 (L2.upd H1 e (.lst [])) := same_new ne
    refine ⟨.list (ls.map PyData.int), .list [], .lst (SqL.of (se _ _ h1)) (dpInts ls), .lst (SqL.of upd_same) .nil, PySem.W.ke_shaped_ints ls, rfl, _, rfl, ?_⟩
    have D2 := D1.same se
    have k2 := k1.trans (.of se)
    have h1' := se _ _ h1
    have h2' := se _ _ h2
    have hlen : fs.length + ls.length = ns.length := by
      rw [← hpm.length_eq, List.length_append]
    generalize (L2.upd H1 e (.lst [])) = H2 at D2 k2 h1' h2' ⊢
    rw [eqv_nil]
    refine ite2 (fun y => ?_) (fun y => ?_)
    · have y : ls ≠ [] := of_decide_eq_true y
      have hpos : 0 < ls.length := List.length_pos_iff.mpr y
      refine ⟨fun σ' H' => ∃ m', m' < ls.length ∧ ∃ ls fs : List Int, σ' = [some (.ref p), some (.ref a), some (.ref l), some (.ref g)] ∧ Deck H' p d 63 ∧ Kp p d H H' ∧ H' l = some (.lst (ls.map V.int)) ∧ H' g = some (.lst (fs.map V.int)) ∧ l ≠ d ∧ g ≠ d ∧ ls.length = m' ∧ (fs ++ ls).Perm ns, fun _ _ h => h, ?_⟩
      refine ⟨_, rfl, .inl ⟨rfl, _, SqL.of h2'⟩, _, rfl, .inl ⟨rfl, _, SqL.of h1'⟩, _, rfl, _, rfl, l, ls.map V.int, rfl, .inl (SqL.of h1'), p, d, ((ls.map V.int).length : Int), rfl, D2, ?_, fun r H3 r0 r1 r2 D3 k3 => ?_⟩
      · rw [List.length_map]
        omega
      have h1 := k3 _ _ h1' (D2.kne h1') n1
      have h2 := k3 _ _ h2' (D2.kne h2') n2
      have np1 := D2.kne h1'
      have np2 := D2.kne h2'
      have hr : r < ((ls.map V.int).length : Int) := r1 (by rw [List.length_map]; omega)
      obtain ⟨i, rfl⟩ := Int.eq_ofNat_of_zero_le r0
      have hi : i < ls.length := by
        rw [List.length_map] at hr
        omega
      refine ⟨l, _, _, i, .int ls[i], rfl, rfl, h1, by omega, by omega, PySem.seqIndex_of r0 hr, ?_, ?_⟩
      · rw [List.getElem?_map, List.getElem?_eq_getElem hi]
        rfl
      rw [erase_map]
      refine ⟨g, fs.map V.int, _, rfl, rfl, by rw [upd_ne ngl]; exact h2, ?_, ?_⟩
      · rw [List.length_map, sizeLine_eq]
        omega
      have le : (ls.eraseIdx i).length + 1 = ls.length := by
        rw [List.length_eraseIdx_of_lt hi]
        omega
      refine ⟨(ls.eraseIdx i).length, by omega, ls.eraseIdx i, fs ++ [ls[i]], rfl, (D3.upd np1 n1).upd np2 n2, ?_, ?_, ?_, n1, n2, rfl, ?_⟩
      · intro b o e q1 q2
        rw [upd_ne (ne_of_none e (s1.free ng)), upd_ne (ne_of_none e nl)]
        exact k3 _ _ (k2 _ _ e q1 q2) q1 q2
      · rw [upd_ne ngl.symm, upd_same]
      · rw [upd_same, List.map_append]
        rfl
      · rw [List.append_assoc]
        exact ((erase_perm hi).append_left fs).trans hpm
    · have y : ls = [] := Classical.byContradiction fun q => y (decide_eq_true q)
      subst y
      rw [List.append_nil] at hpm
      exact ⟨_, rfl, k g fs H2 D2 k2 (s1.free ng) h2' hpm⟩
/-! ### _law_many, _law_number -/
abbrev sLMany : Stmt := top 19
theorem scLMany : FnScope ["n", "found", "own"] ["n"] (defScope sLMany) := ⟨rfl, rfl, rfl, by decide +kernel, rfl, by decide +kernel, by decide +kernel⟩
def spLMany : Sp := fun vs H Q _ => ∃ n : Int, vs = [.int n] ∧ 1 ≤ n ∧ n ≤ 12 ∧ Q (.int (manyS n)) H
theorem ok_lMany {f : Addr} {fd : FuncData} (F : Fun K "_law_many" "_law_many" sLMany f fd) (B : NoNames mg) : FnOk P w K mg base CX0 1 f fd ["n"] spLMany := by
  refine F.ok scLMany (fun vs H Q E h => ?_) (fun cdv A outer s H vs Q E hr h => ?_)
  · obtain ⟨n, rfl, _⟩ := h
    rfl
  · obtain ⟨n, rfl, n1, n2, k⟩ := h
    refine ⟨_, pss_cons (ps_set (i := 1) scLMany.nd rfl (.inl rfl) (pv 0)) <|
      pss_cons (ps_for PassesOwn.never rfl (pi_range2 (by rfl) B.range (pa_cons pe_int (pa_cons (pe_op op_add (pv 0) pe_int) pa_nil))) (pg_name (i := 2) scLMany.nd rfl (.inl rfl))
        (pss_one (ps_set (i := 1) scLMany.nd rfl (.inl rfl) (pe_op op_mul (pv 1) (pv 2))))) <|
      pss_one (ps_ret (pv 1)), ?_⟩
    have bd : ∀ i : Nat, i ≤ n.toNat → (fac (i + 1) : Int) ≤ 6227020800 := fun i hi => by
      have h := fac_mono (a := i + 1) (b := 13) (by omega)
      rw [fac_13] at h
      omega
    refine ⟨_, rfl, _, rfl, _, _, rfl, rfl, 2, n + 2, rfl, ⟨by decide, by decide, by omega, by omega⟩, for_range (lo := 2) (n := (n + 2 - 2).toNat) (fun i σ H' => H' = H ∧ ∃ s2, σ = [some (.int n), some (.int (n * (fac (i + 1) : Nat))), s2])
      ⟨rfl, none, by simp [fac]; rfl⟩ ?_ ?_⟩
    · rintro i σ H' hi ⟨rfl, s2, rfl⟩
      have h1 := bd i (by omega)
      have h2 : n * (fac (i + 1) : Nat) ≤ 12 * 6227020800 := Int.mul_le_mul n2 h1 (Int.natCast_nonneg _) (by decide)
      have h3 : 0 ≤ n * (fac (i + 1) : Nat) := Int.mul_nonneg (by omega) (Int.natCast_nonneg _)
      refine ⟨_, rfl, _, rfl, _, _, rfl, rfl, .inl ⟨by omega, by omega⟩, rfl, some (.int (2 + i)), ?_⟩
      have e : n * (fac (i + 1) : Nat) * (2 + (i : Int)) = n * (fac (i + 1 + 1) : Nat) := by
        rw [Int.mul_assoc]
        congr 1
        rw [show fac (i + 1 + 1) = (i + 1 + 1) * fac (i + 1) from rfl, Int.natCast_mul, Int.mul_comm]
        congr 1
        omega
      show [some (V.int n), some (V.int (n * (fac (i + 1) : Nat) * (2 + (i : Int)))), _] = _
      rw [e]
    · rintro σ H' ⟨rfl, s2, rfl⟩
      refine ⟨_, rfl, ?_⟩
      have e : (n + 2 - 2).toNat = n.toNat := by omega
      rw [e]
      exact k
abbrev sLNumber : Stmt := top 17
theorem scLNumber : FnScope ["n", "standing", "left", "found", "thing"] ["n", "standing"] (defScope sLNumber) := ⟨rfl, rfl, rfl, by decide +kernel, rfl, by decide +kernel, by decide +kernel⟩
theorem rgI_asc (m : Nat) : (rgI m).Pairwise (· < ·) := by
  unfold rgI
  refine List.pairwise_map.mpr (List.pairwise_lt_range.imp fun {a b} h => ?_)
  omega
theorem flat_ints (ns : List Int) : (ns.map V.int).all flatV = true := by
  refine List.all_eq_true.mpr fun x hx => ?_
  obtain ⟨n, _, rfl⟩ := List.mem_map.mp hx
  rfl
theorem asc_first {ls : List Int} {x : Int} {j m : Nat} (ha : ls.Pairwise (· < ·)) (hj : ls[j]? = some x) (hm : m < j) : ls[m]? ≠ some x := fun z => by
  have h1 := asc_at ha hj
  have h2 := asc_at ha z
  omega
def spLNumber : Sp := fun vs H Q _ => ∃ (n st : Int) (a b : Addr) (os : List Int), vs = [.int n, .ref a] ∧ StandAt n H a b os st ∧ os.Perm (rgI (n.toNat + 1)) ∧ ∀ H', Same H H' → Q (.int ((rk os : Nat) * n + st)) H'
theorem ok_lNumber {f : Addr} {fd : FuncData} (F : Fun K "_law_number" "_law_number" sLNumber f fd) (B : NoNames mg) : FnOk P w K mg base CX0 1 f fd ["n", "standing"] spLNumber := by
  refine F.ok scLNumber (fun vs H Q E h => ?_) (fun cdv A outer s H vs Q E hr h => ?_)
  · obtain ⟨n, st, a, b, os, rfl, _⟩ := h
    rfl
  · obtain ⟨n, st, a, b, os, rfl, S, pm, k⟩ := h
    refine ⟨_, pss_cons (ps_par (i := 2) (j := 3) rfl scLNumber.nd rfl rfl (by decide) rfl rfl (pa_cons (pe_listRg rfl (by rfl) B.list (prg_1 (by rfl) B.range (pe_op op_add (pv 0) pe_int))) (pa_cons pe_int pa_nil)) (by rfl)) <|
      pss_cons (ps_for PassesOwn.never rfl (pi_tup (pe_ix ix_tup (pv 1) pe_int (fun _ _ => rfl))) (pg_name (i := 4) scLNumber.nd rfl (.inl rfl))
        (pss_cons (ps_set (i := 3) scLNumber.nd rfl (.inl rfl) (pe_op op_add (pe_op op_mul (pv 3) (pe_callB call_len_seq (by rfl) B.len PySem.boot_len (pa_cons (pv 2) pa_nil))) (pe_bm PySem.F.plainAttrs_list PySem.F.slot_list_index PySem.F.type_list_index mt_index (pv 2) (pa_cons (pv 4) pa_nil)))) <|
        pss_one (ps_expr (pe_bm PySem.F.plainAttrs_list PySem.F.slot_list_remove PySem.F.type_list_remove mt_remove (pv 2) (pa_cons (pv 4) pa_nil))))) <|
      pss_one (ps_ret (pe_op op_add (pe_op op_mul (pv 3) (pv 0)) (pe_ix ix_tup (pv 1) pe_int (fun _ _ => rfl)))), ?_⟩
    have n1 := S.n1
    have n2 := S.n2
    have hl := S.len
    have en : n + 1 = ((n.toNat + 1 : Nat) : Int) := by omega
    refine ⟨_, rfl, _, _, rfl, rfl, n + 1, rfl, RgOk.of_le (by decide) (by omega) (by decide) (by omega), fun l nl => ?_⟩
    rw [en, rgV_rgI]
    have s1 : Same H (upd H l (.lst ((rgI (n.toNat + 1)).map V.int))) := same_new nl
    refine ⟨_, _, rfl, ?_⟩
    refine ⟨_, rfl, a, _, 0, .ref b, rfl, rfl, SqT.of (s1 _ _ S.a), at_of (j := 0) rfl rfl, b, rfl, ⟨_, SqT.of (s1 _ _ S.b)⟩, for_it (walk_tup (xs := os.map V.int)) (fun i σ H' => ∃ (acc : Nat) (ls : List Int) (s4 : Option V), σ = [some (.int n), some (.ref a), some (.ref l), some (.int acc), s4] ∧ Same H H' ∧ H' l = some (.lst (ls.map V.int)) ∧
      ls.Pairwise (· < ·) ∧ (os.drop i).Perm ls ∧ rkAcc acc (os.drop i) = rk os) ⟨0, _, none, rfl, s1, upd_same, rgI_asc _, pm, by rw [List.drop_zero, rkAcc_eq]; omega⟩ (fun i σ H' _ h => by obtain ⟨_, _, _, _, h, _⟩ := h; exact SqT.of (h _ _ S.b)) ?_ ?_⟩
    · rintro i x σ H1 H2 hi ⟨acc, ls, s4, rfl, s2, h1, asc, pl, inv⟩ ⟨rfl, ex⟩
      obtain ⟨z, ez, rfl⟩ := int_at ex
      have il : i < os.length := (List.getElem?_eq_some_iff.mp ez).1
      have hdr : os.drop i = z :: os.drop (i + 1) := by
        rw [← (List.getElem?_eq_some_iff.mp ez).2]
        exact (List.getElem_cons_drop il).symm
      have zin : z ∈ ls := pl.mem_iff.mp (by rw [hdr]; exact List.mem_cons_self)
      obtain ⟨j, hj, ej0⟩ := List.getElem_of_mem zin
      have ej : ls[j]? = some z := by rw [List.getElem?_eq_getElem hj, ej0]
      have b1 := rkAcc_le (os.drop i) acc
      have b2 := rk_bd (r := os) (by omega)
      rw [inv] at b1
      have first : ∀ (m : Nat) (z' : V), m < j → (ls.map V.int)[m]? = some z' → eqV z' (.int z) = false := fun m z' hm hz => by
        obtain ⟨y, ey, rfl⟩ := int_at hz
        show (y == z) = false
        refine beq_eq_false_iff_ne.mpr fun q => ?_
        rw [q] at ey
        exact asc_first asc ej hm ey
      refine ⟨_, rfl, _, rfl, l, _, rfl, .inl (SqL.of h1), _, _, rfl, rfl, .inl ⟨by omega, by omega⟩, _, rfl, .inl ⟨rfl, _, SqL.of h1⟩, _, rfl, l, _, _, j, .int z, rfl, rfl, SqL.of h1, rfl, flat_ints ls, by rw [List.getElem?_map, ej]; rfl, beq_self_eq_true z, first, _, _, rfl, rfl, ?_⟩
      refine ⟨_, rfl, .inl ⟨rfl, _, SqL.of h1⟩, _, rfl, l, ls, z, j, rfl, rfl, h1, ej, fun m hm => asc_first asc ej hm, ?_⟩
      have lz : less z (os.drop i) = j := by
        rw [less_perm pl]
        exact asc_at asc ej
      refine ⟨acc * (os.drop i).length + less z (os.drop i), ls.eraseIdx j, some (.int z), ?_, fun c o e => ?_, upd_same, asc.sublist (List.eraseIdx_sublist _ _), ?_, by rw [← inv, rkAcc_step ez]⟩
      · have e : (acc : Int) * ((ls.map V.int).length : Int) + (j : Int) = ((acc * (os.drop i).length + less z (os.drop i) : Nat) : Int) := by
          rw [lz, pl.length_eq, List.length_map]
          omega
        rw [← e]
        rfl
      · rw [upd_ne (ne_of_none e nl)]
        exact s2 _ _ e
      · have := pl.erase z
        rw [hdr, List.erase_cons_head] at this
        rw [erase_at (asc_nodup asc) ej]
        exact this
    · rintro σ H1 ⟨acc, ls, s4, rfl, s2, h1, asc, pl, inv⟩
      rw [List.length_map, List.drop_length] at inv
      have e : acc = rk os := inv
      subst e
      have b2 := rk_bd (r := os) (by omega)
      exact ⟨_, rfl, _, rfl, _, _, rfl, rfl, .inl ⟨by omega, by omega⟩, _, rfl, a, _, 1, .int st, rfl, rfl, SqT.of (s2 _ _ S.a), at_of (j := 1) rfl rfl, _, _, rfl, rfl, k _ s2⟩
end
end Sw
namespace Sw
open PySem PySem.Spec PyProof.Rows L2
section
variable {X : Cx} {CX : CXT} {k : Nat} {f : Addr} {fd : FuncData} {ps ks : List Str} {sp : Sp} {E : XK} {x : Str} {p pos : Pos} {kws : List Keyword} {tk : TA} {g : List Value → List Value → List Value} {gV : List V → List V → List V}
/-- f(k = v): words alone -/
theorem pe_callW (F : FnOk X.prog X.w X.K X.mg X.base CX k f fd ps sp) (hr : Room k X.A) (hg : Gl X x) (hm : X.mg x = some (.ref f)) (hk : PySem.W.keepIn X.K (.ref f) = true) (hb : KBinds X.K fd ps ks g gV) (hx : Passes CX X E)
    (hkw : PK X kws tk) (hall : (backToKw pos (keywordEach kws X.env)).all (·.1.isSome) = true := by rfl) (hks : (backToKw pos (keywordEach kws X.env)).filterMap (·.1) = ks := by rfl)
    (hdb : (x == ("__debug__" : Str)) = false := by decide)
    (hpl : ((backTo pos (starEach [] X.env)).any (·.1) || (backToKw pos (keywordEach kws X.env)).any (·.1.isNone)) = false := by rfl) :
    PE X (.Call (.Name x p) [] kws pos) (fun σ H Q => tk σ H fun zs H2 => sp (gV [] zs) H2 Q E) := by
  refine ⟨fun pins s σ H Q I h => wpAny_Call_Name_kw (ld_glob I hg hm ?_ hdb)⟩
  refine PySem.W.callWith_KW0 (first := []) (h₀ := X.base) I.ok.mod.kin hk hall (thn (hkw.run pos pins s σ H _ I h) fun ws s2 ⟨zs, H2, I2, rz, q2⟩ => ⟨I2.kIn, ?_⟩) hpl
  rw [hks]
  exact run_fnk (us := []) F hr hb hx I2 .nil rz q2
end
/-- a new list of two things -/
theorem rep_pair {K : PySem.W.Frag} {H : Hp} {L : Addr} {r r' : D} {v v' : V} {bs bs' : List Addr} (h : Rep K H r v bs) (h' : Rep K H r' v' bs') (nL : H L = none) : ∃ as, Rep K (upd H L (.lst [v, v'])) (.lst [r, r']) (.ref L) as := by
  have ra : RepAll K H [r, r'] [v, v'] (bs ++ (bs' ++ [])) := by
    rw [RepAll]
    refine ⟨_, _, bs, bs' ++ [], rfl, h, ?_, rfl⟩
    rw [RepAll]
    exact ⟨_, _, bs', [], rfl, h', by simp [RepAll], rfl⟩
  refine ⟨L :: (bs ++ (bs' ++ [])), ?_⟩
  rw [Rep]
  exact ⟨L, _, _, rfl, upd_same, ra.same (same_new nL), nmem ra nL, rfl⟩
theorem same_str {x y : Str} (h : x = y) : (!decide (V.str x = V.str y)) = false := by
  rw [h, decide_eq_true rfl]
  rfl
def spLaw (K : PySem.W.Frag) : Sp := fun vs H Q _ => ∃ (a : Addr) (ns : List Int), vs = [.ref a] ∧ SqL K H a (ns.map V.int) ∧ ns.length ≤ 63 ∧ ∀ H', Q (.bl true) H'
section
variable {P : Program} {w : World} {K : PySem.W.Frag} {mg : Str → Option Value} {base : Heap}
/-- one call of a def of the text, what is around it given -/
theorem run_def {x qual : Str} {st : Stmt} {f : Addr} {fd : FuncData} {N ps : List Str} {k : Nat} {A : Around} {outer : List Env} {s : Shared} {H : Hp} {args : Args} {us : List Value} {vs : List V} {Q : VK} {E : XK} (F : Fun K x qual st f fd) (S : FnScope N ps (defScope st))
    (rm : Room (k + 1) A) (ev : Env0 P w K mg base A outer s H) (hb : BindsTo s fd args (ps.zip us)) (rv : Vals vs us) (hl : vs.length = ps.length)
    (body : ∀ cdv : Value, ∃ t, PSs (cxOf CX0 P w K mg base N qual (defScope st) f cdv A outer s H E).nox (defBody st) t ∧ t { nx := fun _ H' => Q .non H', rt := Q } (start N vs) H) :
    codeAny (model P w) A (.call (.ref f) args) (CR CX0 outer P w H s Q E) s := by
  obtain ⟨oc, od, kV, doc, pm, an, cdv, ct, osl, rfl, lk, hcd⟩ := F.ex
  have kin : K.In s.heap := ev.mod.kin.keeps fun b o z => (ev.bs b o z).1
  have nolim : s.heap.NoLimit := ev.mod.nolimit.keeps fun b o z => (ev.bs b o z).1
  have kinds : ∀ y ∈ ps.zip us, (defScope st).names.lookup y.1 = some .local ∨ ((defScope st).names.lookup y.1 = some .cell ∧ ((cellsFrom (s.heap.objs.size + 1) (defScope st).names []).lookup y.1).isSome = true) := by
    rintro ⟨n, v⟩ hy
    exact (S.par n (List.of_mem_zip hy).1).elim .inl fun q => .inr ⟨q, PySem.W.cellsFrom_some _ _ _ (.inl q)⟩
  refine codeAny_call_function rm.depth (kin _ _ lk) rfl S.co S.gen rfl (PySem.W.codeRec_of kin hcd) (hb _ _ _ _ (wpAny_newFunctionEnv_cells S.kind kinds fun env he s1 ic => ?_))
  subst he
  obtain ⟨t, ht, hq⟩ := body cdv
  have inv := inv_start S rm.hd ev hl rv ic (CX := CX0) (P := P) (w := w) (E := E)
  refine ⟨nolim.keeps ic.toInCall.keep, codeAny_func (wpAny_mono (ht.nox.run [] s1 (start N vs) H _ inv hq) (fun fl s' hs => ?_) fun _ _ hs => hs)⟩
  cases fl with
  | next =>
    obtain ⟨_, H', J, q⟩ := hs
    exact ⟨V.non, H', J.os, J.bare, J.base, J.hok, (rfl : RelV V.non Value.none), q⟩
  | ret u =>
    obtain ⟨v, _, H', J, ru, q⟩ := hs
    exact ⟨v, H', J.os, J.bare, J.base, J.hok, ru, q⟩
  | brk =>
    obtain ⟨_, _, _, q⟩ := hs
    cases q
  | cont =>
    obtain ⟨_, _, _, q⟩ := hs
    cases q
end
/-- the script alone is known -/
def scriptH (a : Addr) (o : Obj) (ns : List Int) : Hp := fun b => if b = a then some (.frz o (.lst (ns.map V.int))) else none
theorem scriptH_at {a : Addr} {o : Obj} {ns : List Int} : scriptH a o ns a = some (.frz o (.lst (ns.map V.int))) := if_pos rfl
theorem scriptH_ne {a b : Addr} {o : Obj} {ns : List Int} (h : b ≠ a) : scriptH a o ns b = none := if_neg h
/-- the law's call, at the heap behind the top -/
theorem call_law {P : Program} {w : World} {K : PySem.W.Frag} {mg mb : Str → Option Value} {fa a : Addr} {s₁ : Shared} {vs : List Value} {ns : List Int} (kin : K.In s₁.heap) (hmg : s₁.heap.Ns mainGlobals mg) (hmb : s₁.heap.Ns builtinsNs mb)
    (hboot : ∀ x : Str, x ≠ "__name__" → mb x = bootBuiltins x) (nolim : s₁.heap.NoLimit) (hgen : s₁.gens = #[])
    (ha : s₁.heap.get? a = some { cls := .type "list", data := .seq vs.toArray }) (hi : IntsAre vs ns) (hlen : ns.length ≤ 63)
    (run : ∀ (base : Heap) (H : Hp), K.In base → base.Ns mainGlobals mg → Env0 P w K mg base callerA [] s₁ H → SqL K H a (ns.map V.int) →
      codeAny (model P w) callerA (.call (.ref fa) ⟨[.ref a], []⟩) (CR CX0 [] P w H s₁ (fun v _ => v = .bl true) fun _ _ _ => False) s₁) :
    codeAny (model P w) callerA (.call (.ref fa) ⟨[.ref a], []⟩) (fun r s' => r = .ok (.ret (.bool true)) ∧ OldK s₁.heap s'.heap ∧ s'.os = s₁.os ∧ AllBare s'.gens) s₁ := by
  have rv := vals_ints hi
  have le63 : ns.length ≤ sizeLine := by
    rw [sizeLine_eq]
    omega
  have go : ∀ H : Hp, (∀ b, H b ≠ none → b = a ∧ K.lookup a = none ∧ H a = some (.frz { cls := .type "list", data := .seq vs.toArray } (.lst (ns.map V.int)))) → SqL K H a (ns.map V.int) →
      codeAny (model P w) callerA (.call (.ref fa) ⟨[.ref a], []⟩) (fun r s' => r = .ok (.ret (.bool true)) ∧ OldK s₁.heap s'.heap ∧ s'.os = s₁.os ∧ AllBare s'.gens) s₁ := by
    intro H only sq
    have plain : ∀ {b : Addr} {o : Obj} {es : Array DictEntry} {ep : Nat}, s₁.heap.get? b = some o → o.data = .dict es ep → H b = none := by
      intro b o es ep e dd
      refine Classical.byContradiction fun q => ?_
      obtain ⟨rfl, _⟩ := only b q
      rw [ha] at e
      cases e
      exact nomatch dd
    have spaces : ∀ {b : Addr} {m : Str → Option Value}, s₁.heap.Ns b m → (hidT s₁.heap H).Ns b m := by
      rintro b m ⟨o, es, ep, e, dd, r⟩
      exact ⟨o, es, ep, hidT_get e (plain e dd), dd, r⟩
    have kin' : K.In (hidT s₁.heap H) := by
      intro b o e
      refine hidT_get (kin b o e) (Classical.byContradiction fun q => ?_)
      obtain ⟨rfl, n, _⟩ := only b q
      rw [n] at e
      cases e
    have hok : HOk P w H s₁.heap := by
      intro b u e
      obtain ⟨rfl, _, q⟩ := only b (by rw [e]; exact fun z => nomatch z)
      rw [q] at e
      cases e
      exact ⟨ha, by rw [List.length_map]; exact le63, vs, _, rv, ha⟩
    obtain ⟨ml, l1, l2⟩ := nolim
    have ev : Env0 P w K mg (hidT s₁.heap H) callerA [] s₁ H :=
      ⟨rfl, ⟨kin', spaces hmg, ⟨mb, spaces hmb, hboot⟩, ⟨ml, spaces l1, l2⟩⟩, fun _ _ z => of_hidT z, Nat.le_of_eq (hidT_size _ _), trivial, fun b z => (by cases z), hok, .of_eq hgen⟩
    refine codeAny_mono (run _ H kin' (spaces hmg) ev sq) fun r s' hr => ?_
    rcases r with e | fl
    · exact False.elim hr
    rcases fl with _ | _ | _ | u
    all_goals first | exact False.elim hr | skip
    obtain ⟨v, H', os, bare, un, hok', ru, rfl⟩ := hr
    obtain rfl : u = Value.bool true := ru
    refine ⟨rfl, OldK.of_keep fun b o e => ?_, os, bare⟩
    cases q : H b with
    | none => exact un.keep b o e q (fun z => by cases z) (fun z => by simp at z)
    | some y =>
      obtain ⟨rfl, _, q2⟩ := only b (by rw [q]; exact fun z => nomatch z)
      have old := (hok _ _ q2).1
      have new := (hok' _ _ (un.frzs _ _ _ q2)).1
      rw [e] at old
      cases old
      exact new
  cases z : K.lookup a with
  | none =>
    refine go (scriptH a { cls := .type "list", data := .seq vs.toArray } ns) (fun b q => ?_) (.inl (.inr ⟨_, scriptH_at⟩))
    by_cases e : b = a
    · exact ⟨e, z, scriptH_at⟩
    · exact absurd (scriptH_ne e) q
  | some o =>
    have e := kin a o z
    rw [ha] at e
    cases e
    exact go (fun _ => none) (fun _ q => absurd rfl q) (.inr ⟨_, vs.toArray, _, z, rfl, rfl, rfl, by rw [List.size_toArray, hi.length]; exact le63, by simpa using rv⟩)
/-- a def of the text stands behind the top by its name -/
def Has (K : PySem.W.Frag) (mg : Str → Option Value) (x : Str) (st : Stmt) : Prop := ∃ f fd, Fun K x x st f fd ∧ mg x = some (.ref f)
section
variable {P : Program} {w : World} {K : PySem.W.Frag} {mg : Str → Option Value} {h : Heap}
theorem has_mk {x : Str} {st : Stmt} {f : Addr} {oc kV dc pm cd ct : Value} {od an : Option Addr} {sl : Array (Option Value)} (X : K.In h) (G : h.Ns mainGlobals mg) (a : PySem.W.nsIn K mainGlobals x = some (some (.ref f)))
    (l : K.lookup f = some ⟨oc, od, .func (PySem.W.fnOf x x (defArgs st) (defBody st) (defScope st) .none kV dc pm an cd ct), sl⟩) (c : PySem.W.codeIn K cd x = true) (k : PySem.W.keepIn K (.ref f) = true) : Has K mg x st :=
  ⟨f, _, fun_mk l c k, PySem.W.mg_of X G a⟩
/-- the def that it is: one promise, from the def's own theorem -/
theorem Has.own {base : Heap} {k : Nat} {x : Str} {st : Stmt} {ps : List Str} {sp : Sp} (hs : Has K mg x st) (ok : ∀ f fd, Fun K x x st f fd → FnOk P w K mg base CX0 k f fd ps sp)
    (b : ∀ (kV doc pm : Value) (an : Option Addr) (cdv ct : Value) (us : List Value), us.length = ps.length → bindArgs (PySem.W.fnOf x x (defArgs st) (defBody st) (defScope st) .none kV doc pm an cdv ct) ⟨us, []⟩ = pure (ps.zip us)) : Own P w K mg base k x ps sp := by
  obtain ⟨f, fd, F, m⟩ := hs
  exact ⟨f, fd, ok f fd F, m, F.kp, F.binds b⟩
/-- the end of the row, from what the top has written -/
theorem walk_law {l : PySem.W.OpenLaw} {q : Program} {loose : List Str} {XP : (Str → Option Value) → Heap → Prop} {YP : World → Heap → Prop} {d : DefRec} {K : Params → PySem.W.Frag} (hn : l.most = some 63) (hdf : d.params.defaults = [])
    (hY : ∀ (w : World) (h : Heap), YP w h → (K w.params).In h)
    (F : ∀ (w : World) (mg : Str → Option Value) (fa : Addr) (h : Heap), (K w.params).In h → h.Ns mainGlobals mg → mg d.name = some (.ref fa) →
      ∀ (base : Heap) (s₁ : Shared) (H : Hp) (a : Addr) (ns : List Int), Env0 l.prog w (K w.params) mg base callerA [] s₁ H → SqL (K w.params) H a (ns.map V.int) → ns.length ≤ 63 →
        codeAny (model l.prog w) callerA (.call (.ref fa) ⟨[.ref a], []⟩) (CR CX0 [] l.prog w H s₁ (fun v _ => v = .bl true) fun _ _ _ => False) s₁) :
    PySem.W.WalkO q loose XP YP l.row.toRowW d [] (fun f vs => PySem.call f vs) := by
  refine Att.attach_call hn hdf fun w s₀ s₁ mg mb fa o pm cd doc a vs ns G Y _ _ _ hmg hobj hints hlen hg => ?_
  exact call_law (hY w _ Y) G.T.g G.T.b G.T.builtins G.T.nolimit hg hobj hints hlen fun base H _ _ ev sq => F w mg fa _ (hY w _ Y) G.T.g hmg base s₁ H a ns ev sq hlen
end
end Sw
namespace Sw
open PySem PySem.Spec PyProof.Rows L2
/-! ### defs that call repr: what is around them guards nothing -/
structure FnG (P : Program) (w : World) (K : PySem.W.Frag) (mg : Str → Option Value) (base : Heap) (k : Nat) (f : Addr) (fd : FuncData) (ps : List Str) (sp : Sp) : Prop where
  len : ∀ vs H Q E, sp vs H Q E → vs.length = ps.length
  run : ∀ (A : Around) (outer : List Env) (s : Shared) (H : Hp) (args : Args) (us : List Value) (vs : List V) (Q : VK) (E : XK), Room k A → A.guards = some [] → Env0 P w K mg base A outer s H → BindsTo s fd args (ps.zip us) → Vals vs us → sp vs H Q E →
    codeAny (model P w) A (.call (.ref f) args) (CR CX0 outer P w H s Q E) s
section
variable {P : Program} {w : World} {K : PySem.W.Frag} {mg : Str → Option Value} {base : Heap}
theorem Fun.okG {x qual : Str} {st : Stmt} {f : Addr} {fd : FuncData} {N ps : List Str} {k : Nat} {sp : Sp} (F : Fun K x qual st f fd) (S : FnScope N ps (defScope st)) (len : ∀ vs H Q E, sp vs H Q E → vs.length = ps.length)
    (walk : ∀ (cdv : Value) (A : Around) (outer : List Env) (s : Shared) (H : Hp) (vs : List V) (Q : VK) (E : XK), Room k (A.deeper (envOfC qual (defScope st) s.heap.objs.size f cdv)) → (A.deeper (envOfC qual (defScope st) s.heap.objs.size f cdv)).guards = some [] → sp vs H Q E →
      ∃ t, PSs (cxOf CX0 P w K mg base N qual (defScope st) f cdv A outer s H E).nox (defBody st) t ∧ t { nx := fun _ H' => Q .non H', rt := Q } (start N vs) H) : FnG P w K mg base (k + 1) f fd ps sp :=
  ⟨len, fun A outer s H args us vs Q E hr hg ev hb rv h => run_def F S hr ev hb rv (len _ _ _ _ h) fun cdv => walk cdv A outer s H vs Q E (hr.deeper _) hg h⟩
/-- such a def of one's own, by its name -/
structure OwnG (P : Program) (w : World) (K : PySem.W.Frag) (mg : Str → Option Value) (base : Heap) (k : Nat) (x : Str) (ps : List Str) (sp : Sp) : Prop where
  ex : ∃ f fd, FnG P w K mg base k f fd ps sp ∧ mg x = some (.ref f) ∧ PySem.W.keepIn K (.ref f) = true ∧ Binds K fd ps []
theorem Has.ownG {x : Str} {st : Stmt} {k : Nat} {ps : List Str} {sp : Sp} (h : Has K mg x st) (ok : ∀ f fd, Fun K x x st f fd → FnG P w K mg base k f fd ps sp)
    (b : ∀ (kV doc pm : Value) (an : Option Addr) (cdv ct : Value) (us : List Value), us.length = ps.length → bindArgs (PySem.W.fnOf x x (defArgs st) (defBody st) (defScope st) .none kV doc pm an cdv ct) ⟨us, []⟩ = pure (ps.zip us)) : OwnG P w K mg base k x ps sp := by
  obtain ⟨f, fd, F, m⟩ := h
  exact ⟨f, fd, ok f fd F, m, F.kp, F.binds b⟩
end
section
variable {X : Cx} {k : Nat} {f : Addr} {fd : FuncData} {ps : List Str} {sp : Sp} {E : XK} {x : Str} {p pos : Pos} {e : Expr} {es : List Expr} {t : TA}
theorem pe_callG (F : FnG X.prog X.w X.K X.mg X.base k f fd ps sp) (hr : Room k X.A) (hgd : X.A.guards = some []) (hg : Gl X x) (hm : X.mg x = some (.ref f)) (hk : PySem.W.keepIn X.K (.ref f) = true) (hb : Binds X.K fd ps []) (hx : Passes CX0 X E)
    (ha : PA X (e :: es) t) (hdb : (x == ("__debug__" : Str)) = false := by decide) (he : starEach (e :: es) X.env = (false, eval e X.env) :: starEach es X.env := by rfl) (hpl : (backTo pos (starEach es X.env)).any (·.1) = false := by rfl) :
    PE X (.Call (.Name x p) (e :: es) [] pos) (tCall sp [] E t) := by
  refine ⟨fun pins s σ H Q I h => wpAny_Call_Name_kw (ld_glob I hg hm ?_ hdb)⟩
  refine PySem.W.callWith_K (h₀ := X.base) I.ok.mod.kin hk (thn (ha.run pos pins s σ H _ I h) fun us s1 ⟨vs, H1, I1, r, q⟩ => ⟨I1.kIn, ?_⟩) he hpl
  have q : sp (vs ++ []) H1 Q E := q
  rw [List.append_nil] at q
  have hl : us.length = ps.length := by
    rw [← r.length]
    exact F.len _ _ _ _ q
  have b := hb s1 us I1.kIn (by rw [List.append_nil]; exact hl)
  rw [List.append_nil] at b
  refine wpAny_call (codeAny_mono (F.run X.A X.stack s1 H1 ⟨us, []⟩ us vs Q E hr hgd I1.env0 b r q) fun r s' hq => ?_)
  rcases r with e | fl
  · exact hx pins σ H1 s1 e s' I1 hq
  rcases fl with _ | _ | _ | u
  all_goals first | exact hq.elim | skip
  exact I1.after hq
/-- repr(t), t a tuple of data -/
def rReprT (K : PySem.W.Frag) : List V → Hp → VK → Prop := fun xs H Q => ∃ x ds as, xs = [x] ∧ Rep K H (.tup ds) x as ∧ smallAll ds ∧ wtAll ds ≤ 10000000 ∧ depAll ds ≤ 30 ∧ Q (.str (shown (.tup ds))) H
theorem call_reprT {X : Cx} {k : Nat} (hr : Room k X.A) (hg : X.A.guards = some []) : CallR X (.builtin "repr") (rReprT X.K) := by
  intro pins s σ H xs us Q I r h
  obtain ⟨x, ds, as, rfl, hd, sm, z, dp, q⟩ := h
  obtain ⟨u, rfl, hu⟩ := vals1 r
  have un := hr.units
  have hz : wt (.tup ds) ≤ sizeLine := by
    rw [sizeLine_eq]
    simp only [wt]
    omega
  have hsh : (tupleText (shownAll ds)).length ≤ sizeLine := by
    have h1 := shown_wt (.tup ds)
    simp only [shown] at h1
    omega
  simp only [Rep] at hd
  obtain ⟨a, ys, bs, rfl, ha, ra, na, rfl⟩ := hd
  cases (show u = Value.ref a from hu)
  obtain ⟨_, its, rv, o, h1, h2, n, h3⟩ := (show ObjOk X.prog X.w H s.heap a (.tup ys) from I.hok a _ ha)
  have kr := RepAll.shows I.hok I.kIn ra rv sm (by simp only [wt] at hz; omega) (depAll ds) (Nat.le_refl _)
  have hT : s.TypeIs (.ref a) "tuple" := ⟨o, h1, h2⟩
  simp only [shown] at q
  refine call_repr_slot (by omega) hT PySem.F.slot_tuple_repr ?_
  exact call_tuple_reprK (h₀ := s.heap) (d := depAll ds) h1 h2 h3 na (by simpa using kr) (g := []) hg (fun b _ => Clear.nil b) (by show X.A.units + 1 + _ < cLine; omega) (fun _ _ e => e) (fun h' u tk hk => ⟨_, _, rfl, .str _, H, I.kept (t' := tk) hk, ⟨_, rfl⟩, q⟩) hsh
end
end Sw
namespace Sw
open PySem PySem.Spec PyProof.Rows L2
abbrev sLStand : Stmt := top 18
abbrev nLStand : List Str := ["n", "number", "rest", "digits", "found", "left", "many"]
theorem scLStand : FnScope nLStand ["n", "number"] (defScope sLStand) := ⟨rfl, rfl, rfl, by decide +kernel, rfl, by decide +kernel, by decide +kernel⟩
section
variable {P : Program} {w : World} {K : PySem.W.Frag} {mg : Str → Option Value} {base : Heap}
def spLStand : Sp := fun vs H Q _ => ∃ n num : Int, vs = [.int n, .int num] ∧ 1 ≤ n ∧ n ≤ 12 ∧ 0 ≤ num ∧ ∀ (a b : Addr) (os : List Int) (st : Int) (H' : Hp), Same H H' → StandAt n H' a b os st → os.Perm (rgI (n.toNat + 1)) → 0 ≤ st → st < n → Q (.ref a) H'
theorem ok_lStand {f : Addr} {fd : FuncData} (F : Fun K "_law_standing" "_law_standing" sLStand f fd) (B : NoNames mg) : FnOk P w K mg base CX0 1 f fd ["n", "number"] spLStand := by
  refine F.ok scLStand (fun vs H Q E h => ?_) (fun cdv A outer s H vs Q E hr h => ?_)
  · obtain ⟨n, num, rfl, _⟩ := h
    rfl
  · obtain ⟨n, num, rfl, n1, n2, m0, k⟩ := h
    refine ⟨_, pss_cons (ps_asg (pe_tup (pa_cons (pe_op op_fdiv (pv 1) (pv 0)) (pa_cons (pe_lst pa_nil) (pa_cons (pe_lst pa_nil) (pa_cons (pe_listRg rfl (by rfl) B.list (prg_1 (by rfl) B.range (pe_op op_add (pv 0) pe_int))) pa_nil)))))
        (pg_tup (by rfl) (pgs_cons (pg_name (i := 2) scLStand.nd rfl (.inl rfl)) (pgs_cons (pg_name (i := 3) scLStand.nd rfl (.inl rfl)) (pgs_cons (pg_name (i := 4) scLStand.nd rfl (.inl rfl)) (pgs_cons (pg_name (i := 5) scLStand.nd rfl (.inl rfl)) pgs_nil)))))) <|
      pss_cons (ps_for PassesOwn.never rfl (pi_range2 (by rfl) B.range (pa_cons pe_int (pa_cons (pe_op op_add (pv 0) pe_int) pa_nil))) (pg_name (i := 6) scLStand.nd rfl (.inl rfl))
        (pss_cons (ps_expr (pe_bm PySem.F.plainAttrs_list PySem.F.slot_list_append PySem.F.type_list_append mt_append (pv 3) (pa_cons (pe_op op_mod (pe_callTy call_int1 (by rfl) B.int (by decide +kernel) (pa_cons (pv 2) pa_nil)) (pv 6)) pa_nil))) <|
        pss_one (ps_set (i := 2) scLStand.nd rfl (.inl rfl) (pe_op op_fdiv (pv 2) (pv 6))))) <|
      pss_cons (ps_while PassesOwn.never (pt_cmpR (op_neD hr.units) (pv 3) (pe_lst pa_nil) (nomark _))
        (pss_one (ps_expr (pe_bm PySem.F.plainAttrs_list PySem.F.slot_list_append PySem.F.type_list_append mt_append (pv 4)
          (pa_cons (pe_bm PySem.F.plainAttrs_list PySem.F.slot_list_pop PySem.F.type_list_pop mt_popAt (pv 5)
            (pa_cons (pe_bm0 PySem.F.plainAttrs_list PySem.F.slot_list_pop PySem.F.type_list_pop mt_pop (pv 3)) pa_nil)) pa_nil))))) <|
      pss_one (ps_ret (pe_tup (pa_cons (pe_callTy call_tuple_of (by rfl) B.tuple (by decide +kernel) (pa_cons (pv 4) pa_nil)) (pa_cons (pe_op op_mod (pe_callTy call_int1 (by rfl) B.int (by decide +kernel) (pa_cons (pv 1) pa_nil)) (pv 0)) pa_nil)))), ?_⟩
    have en : n + 1 = ((n.toNat + 1 : Nat) : Int) := by omega
    refine ⟨_, rfl, _, rfl, _, _, rfl, rfl, ⟨by omega, by omega⟩, Nat.zero_le _, fun g ng => ⟨Nat.zero_le _, fun q nq => ⟨_, rfl, _, _, rfl, rfl, n + 1, rfl, RgOk.of_le (by decide) (by omega) (by decide) (by omega), fun l nl => ?_⟩⟩⟩
    rw [en, rgV_rgI]
    have s1 : Same H (upd H g (.lst [])) := same_new ng
    have s2 : Same H (upd (upd H g (.lst [])) q (.lst [])) := s1.trans (same_new nq)
    have s3 := s2.trans (same_new (o := .lst ((rgI (n.toNat + 1)).map V.int)) nl)
    have hq0 : H q = none := s1.free nq
    have hl0 : H l = none := s2.free nl
    have qg : q ≠ g := fun z => by
      rw [z, upd_same] at nq
      cases nq
    have lq : l ≠ q := fun z => by
      rw [z, upd_same] at nl
      cases nl
    have lg : l ≠ g := fun z => by
      rw [z, upd_ne qg.symm, upd_same] at nl
      cases nl
    have e1 : (upd (upd (upd H g (.lst [])) q (.lst [])) l (.lst ((rgI (n.toNat + 1)).map V.int))) g = some (.lst []) := by rw [upd_ne lg.symm, upd_ne qg.symm, upd_same]
    have e2 : (upd (upd (upd H g (.lst [])) q (.lst [])) l (.lst ((rgI (n.toNat + 1)).map V.int))) q = some (.lst []) := by rw [upd_ne lq.symm, upd_same]
    have e3 : (upd (upd (upd H g (.lst [])) q (.lst [])) l (.lst ((rgI (n.toNat + 1)).map V.int))) l = some (.lst ((rgI (n.toNat + 1)).map V.int)) := upd_same
    generalize (upd (upd (upd H g (.lst [])) q (.lst [])) l (.lst ((rgI (n.toNat + 1)).map V.int))) = H1 at s3 e1 e2 e3 ⊢
    refine ⟨by show 4 ≤ sizeLine; decide, fun T nT => ?_⟩
    have sT : Same H1 (upd H1 T (.tup [.int (num / n), .ref g, .ref q, .ref l])) := same_new nT
    refine ⟨T, _, rfl, SqT.of upd_same, rfl, _, _, rfl, _, _, rfl, _, _, rfl, _, [], rfl, rfl, ?_⟩
    have s4 := s3.trans sT
    have f1 := sT _ _ e1
    have f2 := sT _ _ e2
    have f3 := sT _ _ e3
    generalize (upd H1 T (.tup [.int (num / n), .ref g, .ref q, .ref l])) = H2 at s4 f1 f2 f3 ⊢
    clear s3 sT e1 e2 e3 nT
    refine ⟨_, rfl, _, _, rfl, rfl, 1, n + 2, rfl, ⟨by decide, by decide, by omega, by omega⟩, for_range (lo := 1) (n := (n + 2 - 1).toNat) (fun i σ H' => ∃ (rest : Int) (ds : List Int) (s6 : Option V), σ = [some (.int n), some (.int num), some (.int rest), some (.ref g), some (.ref q), some (.ref l), s6] ∧ 0 ≤ rest ∧ ds.length = i ∧
      (∀ (k : Nat) (d : Int), ds[k]? = some d → 0 ≤ d ∧ d ≤ k) ∧ H' g = some (.lst (ds.map V.int)) ∧ H' q = some (.lst []) ∧ H' l = some (.lst ((rgI (n.toNat + 1)).map V.int)) ∧ Same H H') ⟨_, [], none, rfl, Int.ediv_nonneg m0 (by omega), rfl, fun k d h => by simp at h, f1, f2, f3, s4⟩ ?_ ?_⟩
    · rintro i σ H3 hi ⟨rest, ds, s6, rfl, r0, rfl, each, g1, g2, g3, s5⟩
      refine ⟨_, rfl, .inl ⟨rfl, _, SqL.of g1⟩, _, rfl, .inl ⟨_, rfl, _, rfl, _, _, rfl, rfl, by show (0 : Int) < 1 + (ds.length : Int); omega, g, _, _, rfl, rfl, g1, by rw [List.length_map, sizeLine_eq]; omega, ?_⟩⟩
      refine ⟨_, rfl, _, rfl, _, _, rfl, rfl, ⟨by omega, by omega⟩, rest / (1 + (ds.length : Int)), ds ++ [rest % (1 + (ds.length : Int))], some (.int (1 + (ds.length : Int))), rfl, Int.ediv_nonneg r0 (by omega), by rw [List.length_append]; rfl, fun k d h => ?_, by rw [upd_same, List.map_append]; rfl, by rw [upd_ne qg]; exact g2, by rw [upd_ne lg]; exact g3, fun b o e => ?_⟩
      · by_cases c : k < ds.length
        · rw [List.getElem?_append_left c] at h
          exact each k d h
        · have kl := (List.getElem?_eq_some_iff.mp h).1
          rw [List.length_append, List.length_singleton] at kl
          have ek : k = ds.length := by omega
          subst ek
          rw [List.getElem?_append_right (Nat.le_refl _), Nat.sub_self] at h
          have h : some (rest % (1 + (ds.length : Int))) = some d := h
          have h := Option.some.inj h
          have a1 := Int.emod_nonneg rest (show (1 + (ds.length : Int)) ≠ 0 by omega)
          have a2 := Int.emod_lt_of_pos rest (show 0 < 1 + (ds.length : Int) by omega)
          omega
      · rw [upd_ne (ne_of_none e ng)]
        exact s5 _ _ e
    · rintro σ H3 ⟨rest, ds, s6, rfl, r0, dl, each, g1, g2, g3, s5⟩
      have dl2 : ds.length = n.toNat + 1 := by omega
      refine ⟨fun m σ H' => ∃ ds ls fs : List Int, σ = [some (.int n), some (.int num), some (.int rest), some (.ref g), some (.ref q), some (.ref l), s6] ∧ ds.length = m ∧ ls.length = m ∧ (∀ (k : Nat) (d : Int), ds[k]? = some d → 0 ≤ d ∧ d ≤ k) ∧ H' g = some (.lst (ds.map V.int)) ∧ H' q = some (.lst (fs.map V.int)) ∧ H' l = some (.lst (ls.map V.int)) ∧ Same H H' ∧ (fs ++ ls).Perm (rgI (n.toNat + 1)),
        ⟨_, ds, rgI (n.toNat + 1), [], rfl, dl2, rgI_len _, each, g1, g2, g3, s5, .refl _⟩, ?_⟩
      rintro m σ H4 ⟨ds, ls, fs, rfl, rfl, ll, each, g1, g2, g3, s5, pm⟩
      refine ⟨_, rfl, Nat.zero_le _, fun e ne => ?_⟩
      have se : Same H4 (upd H4 e (.lst [])) := same_new ne
      refine ⟨.list (ds.map PyData.int), .list [], .lst (SqL.of (se _ _ g1)) (dpInts ds), .lst (SqL.of upd_same) .nil, PySem.W.ke_shaped_ints ds, rfl, _, rfl, ?_⟩
      have g1 := se _ _ g1
      have g2 := se _ _ g2
      have g3 := se _ _ g3
      have s5 := s5.trans se
      have hlen : fs.length + ls.length = n.toNat + 1 := by
        rw [← List.length_append, pm.length_eq, rgI_len]
      generalize (upd H4 e (.lst [])) = H5 at g1 g2 g3 s5 ⊢
      rw [eqv_nil]
      refine ite2 (fun y => ?_) (fun y => ?_)
      · obtain ⟨d, ds', rfl, hlast, hdrop⟩ := last_ints (of_decide_eq_true y)
        have hd := each ds'.length d (by rw [List.getElem?_append_right (Nat.le_refl _), Nat.sub_self]; rfl)
        rw [List.length_append, List.length_singleton] at ll
        obtain ⟨j, rfl⟩ := Int.eq_ofNat_of_zero_le hd.1
        have hj : j < ls.length := by omega
        refine ⟨fun σ' H' => ∃ m', m' < (ds' ++ [(j : Int)]).length ∧ ∃ ds ls fs : List Int, σ' = [some (.int n), some (.int num), some (.int rest), some (.ref g), some (.ref q), some (.ref l), s6] ∧ ds.length = m' ∧ ls.length = m' ∧ (∀ (k : Nat) (d : Int), ds[k]? = some d → 0 ≤ d ∧ d ≤ k) ∧ H' g = some (.lst (ds.map V.int)) ∧ H' q = some (.lst (fs.map V.int)) ∧ H' l = some (.lst (ls.map V.int)) ∧ Same H H' ∧ (fs ++ ls).Perm (rgI (n.toNat + 1)), fun _ _ h => h, ?_⟩
        refine ⟨_, rfl, .inl ⟨rfl, _, SqL.of g2⟩, _, rfl, .inl ⟨rfl, _, SqL.of g3⟩, _, rfl, .inl ⟨rfl, _, SqL.of g1⟩, g, _, _, rfl, rfl, g1, hlast, ?_⟩
        rw [hdrop]
        have h3 : (upd H5 g (.lst (ds'.map V.int))) l = some (.lst (ls.map V.int)) := by rw [upd_ne lg]; exact g3
        refine ⟨l, _, _, j, .int ls[j], rfl, rfl, h3, by omega, by omega, PySem.seqIndex_of (by omega) (by rw [List.length_map]; omega), by rw [List.getElem?_map, List.getElem?_eq_getElem hj]; rfl, ?_⟩
        rw [erase_map]
        refine ⟨q, fs.map V.int, _, rfl, rfl, by rw [upd_ne lq.symm, upd_ne qg]; exact g2, by rw [List.length_map, sizeLine_eq]; omega, ?_⟩
        have le : (ls.eraseIdx j).length = ds'.length := by
          rw [List.length_eraseIdx_of_lt hj]
          omega
        refine ⟨ds'.length, by rw [List.length_append]; exact Nat.lt_succ_self _, ds', ls.eraseIdx j, fs ++ [ls[j]], rfl, rfl, le, fun k d h => each k d (by rw [List.getElem?_append_left (List.getElem?_eq_some_iff.mp h).1]; exact h), by rw [upd_ne qg.symm, upd_ne lg.symm, upd_same], by rw [upd_same, List.map_append]; rfl, by rw [upd_ne lq, upd_same], fun b o e => ?_, ?_⟩
        · rw [upd_ne (ne_of_none e hq0), upd_ne (ne_of_none e hl0), upd_ne (ne_of_none e ng)]
          exact s5 _ _ e
        · rw [List.append_assoc]
          exact ((erase_perm hj).append_left fs).trans pm
      · have y : ds = [] := Classical.byContradiction fun q => y (decide_eq_true q)
        subst y
        have el : ls = [] := List.eq_nil_of_length_eq_zero ll
        subst el
        rw [List.append_nil] at pm
        refine ⟨_, rfl, q, _, rfl, .inl ⟨SqL.of g2, fun b nb => ?_⟩⟩
        have sb : Same H5 (upd H5 b (.tup (fs.map V.int))) := same_new nb
        refine ⟨_, rfl, .inl ⟨_, rfl, _, rfl, _, _, rfl, rfl, by show 0 < n; omega, by show 2 ≤ sizeLine; decide, fun a na => ?_⟩⟩
        have sa : Same (upd H5 b (.tup (fs.map V.int))) (upd (upd H5 b (.tup (fs.map V.int))) a (.tup [.ref b, .int (num % n)])) := same_new na
        exact k a b fs (num % n) _ ((s5.trans sb).trans sa) ⟨upd_same, sa _ _ upd_same, by rw [pm.length_eq, rgI_len]; omega, n1, n2⟩ pm (Int.emod_nonneg _ (by omega)) (Int.emod_lt_of_pos _ (by omega))
end
end Sw
namespace Sw
open PySem PySem.Spec PyProof.Rows L2
/-! ### _law_rows -/
def rowNext (n : Nat) (own : List Int) : List (List Int) := ((rgI (n + 1)).filter fun t => !own.contains t).map fun t => own ++ [t]
def rowsF (n : Nat) : Nat → List (List Int)
  | 0 => [[]]
  | k + 1 => (rowsF n k).flatMap (rowNext n)
theorem paired_imp {α β : Type} {F G : α → β → Prop} (h : ∀ a b, F a b → G a b) : ∀ {l : List α} {m : List β}, Paired F l m → Paired G l m
  | _, _, .nil => .nil
  | _, _, .cons x t => .cons (h _ _ x) (paired_imp h t)
theorem paired_cat {α β : Type} {F : α → β → Prop} : ∀ {l l' : List α} {m m' : List β}, Paired F l m → Paired F l' m' → Paired F (l ++ l') (m ++ m')
  | _, _, _, _, .nil, h => h
  | _, _, _, _, .cons x t, h => .cons x (paired_cat t h)
/-- rows as tuples that stand -/
def RowsAt (H : Hp) (ts : List Addr) (rows : List (List Int)) : Prop := Paired (fun t (os : List Int) => H t = some (.tup (os.map V.int))) ts rows
theorem RowsAt.same {H H' : Hp} {ts : List Addr} {rows : List (List Int)} (h : RowsAt H ts rows) (s : Same H H') : RowsAt H' ts rows := paired_imp (fun _ _ x => s _ _ x) h
abbrev sRows : Stmt := top 16
abbrev nRows : List Str := ["n", "found", "turn", "fresh", "own", "thing"]
theorem scRows : FnScope nRows ["n"] (defScope sRows) := ⟨rfl, rfl, rfl, by decide +kernel, rfl, by decide +kernel, by decide +kernel⟩
theorem paired_at {α β : Type} {F : α → β → Prop} : ∀ {l : List α} {m : List β} {i : Nat} {a : α}, Paired F l m → l[i]? = some a → ∃ b, m[i]? = some b ∧ F a b
  | _, _, i, a, .nil, h => by simp at h
  | _, _, 0, a, .cons h t, e => by
    obtain rfl := Option.some.inj e
    exact ⟨_, rfl, h⟩
  | _, _, i + 1, a, .cons h t, e => paired_at (i := i) t (by simpa using e)
theorem RowsAt.len {H : Hp} {ts : List Addr} {rows : List (List Int)} (h : RowsAt H ts rows) : ts.length = rows.length := Paired.length h
/-- few rows, for nets of to four stops -/
theorem rows_few : ∀ n, 1 ≤ n → n ≤ 4 → ∀ k, k ≤ n + 1 → (rowsF n k).length ≤ 120 := by
  intro n h1 h4
  have : n = 1 ∨ n = 2 ∨ n = 3 ∨ n = 4 := by omega
  rcases this with rfl | rfl | rfl | rfl
  · exact (by decide +kernel : ∀ k, k ≤ 2 → (rowsF 1 k).length ≤ 120)
  · exact (by decide +kernel : ∀ k, k ≤ 3 → (rowsF 2 k).length ≤ 120)
  · exact (by decide +kernel : ∀ k, k ≤ 4 → (rowsF 3 k).length ≤ 120)
  · exact (by decide +kernel : ∀ k, k ≤ 5 → (rowsF 4 k).length ≤ 120)
theorem flat_take {α β : Type} (f : α → List β) (l : List α) (i : Nat) : ((l.take i).flatMap f).length ≤ (l.flatMap f).length := by
  have : l.flatMap f = (l.take i).flatMap f ++ (l.drop i).flatMap f := by rw [← List.flatMap_append, List.take_append_drop]
  rw [this, List.length_append]
  omega
theorem rows_own : ∀ (n k : Nat) (os : List Int), os ∈ rowsF n k → os.length = k
  | n, 0, os, h => by rw [List.mem_singleton.mp h]; rfl
  | n, k + 1, os, h => by
    obtain ⟨own, h1, h2⟩ := List.mem_flatMap.mp h
    obtain ⟨t, _, rfl⟩ := List.mem_map.mp h2
    rw [List.length_append, rows_own n k own h1]
    rfl
section
variable {P : Program} {w : World} {K : PySem.W.Frag} {mg : Str → Option Value} {base : Heap}
def spRows : Sp := fun vs H Q _ => ∃ n : Nat, vs = [.int n] ∧ 1 ≤ n ∧ n ≤ 4 ∧ ∀ (l : Addr) (ts : List Addr) (H' : Hp), Same H H' → H' l = some (.lst (ts.map V.ref)) → RowsAt H' ts (rowsF n (n + 1)) → Q (.ref l) H'
theorem inV_ints (x : Int) (os : List Int) : inV (.int x) (os.map V.int) = os.contains x := by
  unfold inV
  rw [List.any_map, List.contains_eq_any_beq]
  congr 1
  funext y
  show (y == x) = (x == y)
  exact Bool.eq_iff_iff.mpr ⟨fun h => by simpa using (beq_iff_eq.mp h).symm, fun h => by simpa using (beq_iff_eq.mp h).symm⟩
theorem ok_rows {f : Addr} {fd : FuncData} (F : Fun K "_law_rows" "_law_rows" sRows f fd) (B : NoNames mg) : FnOk P w K mg base CX0 1 f fd ["n"] spRows := by
  refine F.ok scRows (fun vs H Q E h => ?_) (fun cdv A outer s H vs Q E hr h => ?_)
  · obtain ⟨n, rfl, _⟩ := h
    rfl
  · obtain ⟨n, rfl, n1, n2, k⟩ := h
    refine ⟨_, pss_cons (ps_set (i := 1) scRows.nd rfl (.inl rfl) (pe_lst (pa_cons (pe_tup pa_nil) pa_nil))) <|
      pss_cons (ps_for PassesOwn.never rfl (pi_range1 (by rfl) B.range (pa_cons (pe_op op_add (pv 0) pe_int) pa_nil)) (pg_name (i := 2) scRows.nd rfl (.inl rfl))
        (pss_cons (ps_set (i := 3) scRows.nd rfl (.inl rfl) (pe_lst pa_nil)) <|
        pss_cons (ps_for PassesOwn.never rfl (pi_list (pv 1)) (pg_name (i := 4) scRows.nd rfl (.inr rfl))
          (pss_one (ps_set (i := 3) scRows.nd rfl (.inl rfl) (pe_op op_cat (pv 3) (pe_lc (own := [("thing", 5)]) (g := gName 5) (by rfl) scRows.nd (pi_range1 (by rfl) B.range (pa_cons (pe_op op_add (pv 0) pe_int) pa_nil)) (blkOk_by (own := [("thing", 5)]) (N := nRows) (sc := defScope sRows) (by decide +kernel))
            (fun _ _ _ _ _ => pg_name (i := 5) scRows.nd rfl (Or.inl rfl)) (fun _ _ _ _ _ => pts_one (pt_cmpR (r := rIn K true) op_notIn_seq (pv 5) (pv 4) (by with_unfolding_all rfl))) (fun _ _ _ _ _ => pe_op (r := rCatA K) op_catA (pv 4) (pe_tup (pa_cons (pv 5) pa_nil)))))))) <|
        pss_one (ps_set (i := 1) scRows.nd rfl (.inl rfl) (pv 3)))) <|
      pss_one (ps_ret (pv 1)), ?_⟩
    refine ⟨Nat.zero_le _, fun T0 nT0 => ⟨by show 1 ≤ sizeLine; decide, fun l0 nl0 => ?_⟩⟩
    have s0 : Same H (upd H T0 (.tup [])) := same_new nT0
    have s1 := s0.trans (same_new (o := .lst [.ref T0]) nl0)
    refine ⟨_, rfl, _, _, rfl, rfl, ((n + 1 : Nat) : Int), rfl, by omega, by omega, for_range (lo := 0) (n := ((n + 1 : Nat) : Int).toNat) (fun k σ H' => ∃ (l : Addr) (ts : List Addr) (s2 s3 s4 : Option V), σ = [some (.int n), some (.ref l), s2, s3, s4, none] ∧ Same H H' ∧ H' l = some (.lst (ts.map V.ref)) ∧ RowsAt H' ts (rowsF n k))
      ⟨l0, [T0], none, none, none, rfl, s1, upd_same, .cons (same_new nl0 _ _ upd_same) .nil⟩ ?_ ?_⟩
    · rintro j σ H1 hj ⟨l, ts, s2, s3, s4, rfl, sH, hl, rw_⟩
      rw [Int.toNat_natCast] at hj
      refine ⟨Nat.zero_le _, fun f0 nf0 => ?_⟩
      have sf : Same H1 (upd H1 f0 (.lst [])) := same_new nf0
      refine ⟨_, rfl, l, rfl, ⟨_, SqL.of (sf _ _ hl)⟩, for_it (walk_list (xs := ts.map V.ref)) (fun i σ H' => ∃ (fr : Addr) (us : List Addr) (s4 : Option V), σ = [some (.int n), some (.ref l), some (.int (0 + (j : Int))), some (.ref fr), s4, none] ∧ Same H1 H' ∧ H' fr = some (.lst (us.map V.ref)) ∧ RowsAt H' us (((rowsF n j).take i).flatMap (rowNext n)))
        ⟨f0, [], s4, rfl, sf, upd_same, .nil⟩ (fun i σ H' _ h => by obtain ⟨_, _, _, _, h, _⟩ := h; exact SqL.of (h _ _ hl)) ?_ ?_⟩
      · rintro i x σ H2 H3 hi ⟨fr, us, s4, rfl, s12, hf, ru⟩ ⟨rfl, ex⟩
        obtain ⟨own, eo, rfl⟩ : ∃ t, ts[i]? = some t ∧ x = .ref t := by
          have ex : (ts.map V.ref)[i]? = some x := ex
          rw [List.getElem?_map] at ex
          cases q : ts[i]? with
          | none => rw [q] at ex; cases ex
          | some t => rw [q] at ex; exact ⟨t, rfl, (Option.some.inj ex).symm⟩
        obtain ⟨os, er, ho⟩ := paired_at (rw_.same s12) eo
        have ol : os.length = j := rows_own n j os (List.mem_of_getElem? er)
        refine ⟨_, rfl, _, rfl, _, _, rfl, rfl, ((n + 1 : Nat) : Int), rfl, by omega, by omega, fun D nD => ?_⟩
        have few : (((rowsF n j).take i).flatMap (rowNext n)).length ≤ 120 := by
          refine Nat.le_trans (flat_take _ _ _) ?_
          exact rows_few n n1 n2 (j + 1) (by omega)
        have ul := ru.len
        have sD : Same H3 (upd H3 D (.lst [])) := same_new nD
        have eN : (rgI (n + 1)).length = n + 1 := rgI_len _
        refine lc_it walk_range (fun m H' => ∃ ms : List Addr, H' D = some (.lst (ms.map V.ref)) ∧ Same H3 H' ∧ RowsAt H' ms ((((rgI (n + 1)).take m).filter fun t => !os.contains t).map fun t => os ++ [t])) ⟨[], upd_same, sD, .nil⟩ (fun _ _ _ _ => trivial) ?_ ?_
        · rintro m x Hz Ha hm ⟨ms, h1, h2, h3⟩ ⟨rfl, ex2⟩
          obtain rfl : x = V.int (m : Int) := by
            rw [ex2]
            show V.int (0 + (m : Int)) = _
            rw [Int.zero_add]
          have hm2 : m < n + 1 := by omega
          have eg : (rgI (n + 1))[m]? = some (m : Int) := by
            unfold rgI
            rw [List.getElem?_map, List.getElem?_range hm2]
            rfl
          have et : (rgI (n + 1)).take (m + 1) = (rgI (n + 1)).take m ++ [(m : Int)] := by
            rw [List.take_add_one, eg]
            rfl
          have ef : (((rgI (n + 1)).take (m + 1)).filter fun t => !os.contains t) = (((rgI (n + 1)).take m).filter fun t => !os.contains t) ++ (if (!os.contains (m : Int)) = true then [(m : Int)] else []) := by
            rw [et, List.filter_append]
            congr 1
            by_cases c2 : (!os.contains (m : Int)) = true
            · rw [if_pos c2]
              simp only [List.filter, c2]
            · rw [if_neg c2]
              have c3 : (!os.contains (m : Int)) = false := Bool.eq_false_iff.mpr c2
              simp only [List.filter, c3]
          have ml := h3.len
          have mle : ms.length ≤ 13 := by
            rw [ml, List.length_map]
            refine Nat.le_trans (List.length_filter_le _ _) ?_
            rw [List.length_take]
            omega
          refine ⟨rfl, _, rfl, _, rfl, own, _, rfl, .inr (SqT.of (h2 _ _ ho)), rfl, flat_ints os, _, rfl, ?_⟩
          rw [inV_ints]
          refine ite2 (fun c => ?_) (fun c => ?_)
          · have c : (!os.contains (m : Int)) = true := c
            have fin : ∀ (T2 : Addr) (H4 : Hp), Same Ha H4 → H4 T2 = some (.tup ((os ++ [(m : Int)]).map V.int)) → ∃ acc, H4 D = some (.lst acc) ∧ acc.length < sizeLine ∧ ∃ ms : List Addr, (upd H4 D (.lst (acc ++ [V.ref T2]))) D = some (.lst (ms.map V.ref)) ∧ Same H3 (upd H4 D (.lst (acc ++ [V.ref T2]))) ∧
                RowsAt (upd H4 D (.lst (acc ++ [V.ref T2]))) ms ((((rgI (n + 1)).take (m + 1)).filter fun t => !os.contains t).map fun t => os ++ [t]) := fun T2 H4 s4 hT => by
              have hD := s4 _ _ h1
              have keepT : ∀ (b : Addr) (zs : List V), H4 b = some (.tup zs) → (upd H4 D (.lst (ms.map V.ref ++ [V.ref T2]))) b = some (.tup zs) := fun b zs e => by
                rw [upd_ne (ne_of e hD (by intro z; cases z))]
                exact e
              refine ⟨_, hD, by rw [List.length_map, sizeLine_eq]; omega, ms ++ [T2], by rw [upd_same, List.map_append]; rfl, fun b o e => ?_, ?_⟩
              · rw [upd_ne (ne_of_none e nD)]
                exact s4 _ _ (h2 _ _ e)
              · rw [ef, if_pos c, List.map_append]
                exact paired_cat (paired_imp (fun _ _ e => keepT _ _ e) (h3.same s4)) (.cons (keepT _ _ hT) .nil)
            refine ⟨_, rfl, _, rfl, by show 1 ≤ sizeLine; decide, fun T nT => ?_⟩
            have sT : Same Ha (upd Ha T (.tup [.int (m : Int)])) := same_new nT
            refine ⟨own, T, os.map V.int, [.int (m : Int)], rfl, rfl, SqT.of (sT _ _ (h2 _ _ ho)), SqT.of upd_same, by rw [List.length_map, sizeLine_eq]; simp only [List.length_cons, List.length_nil]; omega, fun z => ?_, fun _ z => (nomatch z), fun z _ T2 nT2 => ?_⟩
            · have eo : os = [] := by simpa using z
              subst eo
              exact fin T _ sT upd_same
            · exact fin T2 _ (sT.trans (same_new nT2)) (by rw [upd_same, List.map_append]; rfl)
          · have c : ¬ (!os.contains (m : Int)) = true := c
            rw [ef, if_neg c, List.append_nil]
            exact ⟨ms, h1, h2, h3⟩
        · rintro H4 ⟨ms, h1, h2, h3⟩
          have en2 : (((n + 1 : Nat) : Int)).toNat = n + 1 := Int.toNat_natCast _
          rw [en2, List.take_of_length_le (by rw [eN]; exact Nat.le_refl _)] at h3
          have ml := h3.len
          have ml2 : ms.length ≤ 13 := by
            rw [ml, List.length_map]
            refine Nat.le_trans (List.length_filter_le _ _) ?_
            omega
          refine ⟨fr, D, _, _, rfl, rfl, h2 _ _ hf, h1, by rw [List.length_map, List.length_map, sizeLine_eq]; omega, fun p np => ⟨p, us ++ ms, some (.ref own), rfl, (s12.trans h2).trans (same_new np), by rw [upd_same, List.map_append], ?_⟩⟩
          have sp : Same H4 (upd H4 p (.lst (us.map V.ref ++ ms.map V.ref))) := same_new np
          have e2 : (rowsF n j).take (i + 1) = (rowsF n j).take i ++ [os] := by
            rw [List.take_add_one, er]
            rfl
          have e3 : [os].flatMap (rowNext n) = (((rgI (n + 1)).filter fun t => !os.contains t).map fun t => os ++ [t]) := by
            rw [List.flatMap_cons, List.flatMap_nil, List.append_nil]
            rfl
          rw [e2, List.flatMap_append, e3]
          exact paired_cat (ru.same (h2.trans sp)) (h3.same sp)
      · rintro σ H2 ⟨fr, us, s4, rfl, s12, hf, ru⟩
        rw [List.length_map, rw_.len, List.take_length] at ru
        exact ⟨_, rfl, fr, us, _, _, _, rfl, sH.trans s12, hf, ru⟩
    · rintro σ H1 ⟨l, ts, s2, s3, s4, rfl, sH, hl, rw_⟩
      exact ⟨_, rfl, k l ts H1 sH hl rw_⟩
end
end Sw
namespace Sw
open PySem PySem.Spec PyProof.Rows L2
/-! ### _law_seen -/
/-- a block under a premise that its reading gives -/
theorem pss_if {X : Cx} {b : List Stmt} {t : TS} {p : Prop} (h : p → PSs X b t) : PSs X b (fun D σ H => p ∧ t D σ H) := ⟨fun pins s σ H D I q => (h q.1).run pins s σ H D I q.2⟩
abbrev sSeen : Stmt := top 20
abbrev nSeen : List Str := ["n", "value", "is_named", "slip"]
theorem scSeen : FnScope nSeen ["n", "value", "is_named"] (defScope sSeen) := ⟨rfl, rfl, rfl, by decide +kernel, rfl, by decide +kernel, by decide +kernel⟩
section
variable {P : Program} {w : World} {K : PySem.W.Frag} {mg : Str → Option Value} {base : Heap} {C S : Addr}
/-- standing_at: by place, and by the words value, n -/
structure OwnAt (P : Program) (w : World) (K : PySem.W.Frag) (mg : Str → Option Value) (base : Heap) (k : Nat) (C : Addr) : Prop where
  ex : ∃ f fd, FnOk P w K mg base (L2.CX P w) k f fd ["n", "value"] (spStAt K C) ∧ mg "standing_at" = some (.ref f) ∧ PySem.W.keepIn K (.ref f) = true ∧ Binds K fd ["n", "value"] [] ∧ KBinds K fd ["n", "value"] ["value", "n"] (fun us ws => us ++ ws.reverse) (fun us ws => us ++ ws.reverse)
def spSeen (K : PySem.W.Frag) : Sp := fun vs H Q _ => ∃ (n : Int) (x : V) (d : D) (as : List Addr) (nm : Bool), vs = [.int n, x, .bl nm] ∧ Rep K H d x as ∧ 1 ≤ n ∧ n ≤ 12 ∧
  (isWhole 0 (manyS n - 1) d = false → ∀ (l : Addr) (H' : Hp), Same H H' → H' l = some (.lst [.str "unfit", .bl true]) → Q (.ref l) H') ∧
  (∀ num : Int, d = .int num → 0 ≤ num → num < manyS n → ∀ (l a b : Addr) (H' : Hp), Same H H' → StandAt n H' a b (stRow n num) (num % n) → H' l = some (.lst [.str "standing", .ref a]) → Q (.ref l) H')
theorem ok_seen {f : Addr} {fd : FuncData} (F : Fun K "_law_seen" "_law_seen" sSeen f fd) (B : NoNames mg) (U : UErr K mg "Unfit" "SwapError" C S) (O : OwnAt P w K mg base 2 C) : FnOk P w K mg base CX0 3 f fd ["n", "value", "is_named"] (spSeen K) := by
  obtain ⟨fA, fdA, GA, mA, kA, bA, wA⟩ := O.ex
  refine F.ok scSeen (fun vs H Q E h => ?_) (fun cdv A outer s H vs Q E hr h => ?_)
  · obtain ⟨n, x, d, as, nm, rfl, _⟩ := h
    rfl
  · obtain ⟨n, x, d, as, nm, rfl, hd, n1, n2, k1, k2⟩ := h
    refine ⟨_, pss_one (ps_try_as (i := 3) (Wout := fun _ _ _ _ => False) rfl rfl scSeen.nd rfl rfl ⟨rfl, by decide, .inl U.mx⟩ takes0
      (fun W pn xe tk _ => pss_one (ps_ret (pe_lst (pa_cons pe_str (pa_cons (pe_ifExp (pt_val (pv 2)) (pe_callWS GA hr (by rfl) mA kA wA (fun σ => passAt tk σ) (pk_cons (pv 1) (pk_cons (pv 0) pk_nil))) (pe_callS GA hr (by rfl) mA kA bA (fun σ => passAt tk σ) (pa_cons (pv 0) (pa_cons (pv 1) pa_nil)))) pa_nil)))))
      (fun a oe cls d pn hz hf => pss_if (p := cls = .ref C ∧ d = none) fun pq => by
        obtain ⟨rfl, rfl⟩ := pq
        exact pss_one (ps_ret (pe_lst (pa_cons pe_str (pa_cons (pe_callB (call_isE U.ex hz hf) (by rfl) B.isi (by decide +kernel) (pa_cons (pv 3) (pa_cons (pe_glob (v := .ref S) rfl U.my rfl) pa_nil))) pa_nil)))))), ?_⟩
    refine ⟨_, rfl, nm, rfl, ?_⟩
    have raised : ∀ H' : Hp, isWhole 0 (manyS n - 1) d = false → Same H H' → ∀ (l : Addr), H' l = none → Q (.ref l) (upd H' l (.lst [.str "unfit", .bl true])) := fun H' e s1 l nl => k1 e l _ (s1.trans (same_new nl)) upd_same
    have found : ∀ num : Int, d = .int num → 0 ≤ num → num < manyS n → ∀ (a b : Addr) (H' : Hp), Same H H' → StandAt n H' a b (stRow n num) (num % n) → ∀ l, H' l = none → Q (.ref l) (upd H' l (.lst [.str "standing", .ref a])) := fun num e m0 m1 a b H' s1 S l nl => k2 num e m0 m1 l a b _ (s1.trans (same_new nl)) (S.keep (.of (same_new nl))) upd_same
    refine ite2 (fun _ => ?_) (fun _ => ?_)
    · refine ⟨_, rfl, _, rfl, n, x, d, as, rfl, hd, n1, n2, fun e H' s1 => ⟨true, U.takes, fun _ a na => ⟨⟨rfl, rfl⟩, _, rfl, .ref S, .ref S, true, rfl, fun u r => r, U.sub, by show 2 ≤ sizeLine; decide, raised H' e s1⟩, fun q => nomatch q⟩, fun num e m0 m1 a b H' s1 S => ⟨by show 2 ≤ sizeLine; decide, found num e m0 m1 a b H' s1 S⟩⟩
    · refine ⟨_, rfl, _, rfl, n, x, d, as, rfl, hd, n1, n2, fun e H' s1 => ⟨true, U.takes, fun _ a na => ⟨⟨rfl, rfl⟩, _, rfl, .ref S, .ref S, true, rfl, fun u r => r, U.sub, by show 2 ≤ sizeLine; decide, raised H' e s1⟩, fun q => nomatch q⟩, fun num e m0 m1 a b H' s1 S => ⟨by show 2 ≤ sizeLine; decide, found num e m0 m1 a b H' s1 S⟩⟩
end
end Sw
namespace Sw
open PySem PySem.Spec PyProof.Rows L2 PySem.W
section
variable {K : Frag}
/-- a def of two parameters p1, p2 that may be called by the words p2, p1 -/
theorem kb_pair {x p1 p2 : Str} {st : Stmt} {f : Addr} {fd : FuncData} (F : Fun K x x st f fd)
    (b1 : ∀ (kV doc pm : Value) (an : Option Addr) (cdv ct u v : Value), bindArgs (fnOf x x (defArgs st) (defBody st) (defScope st) .none kV doc pm an cdv ct) ⟨[], ([p2, p1] : List Str).zip [u, v]⟩ = pure (([p1, p2] : List Str).zip [v, u]))
    (b2 : ∀ (kV doc pm : Value) (an : Option Addr) (cdv ct u v : Value), bindArgs (fnOf x x (defArgs st) (defBody st) (defScope st) .none kV doc pm an cdv ct) ⟨[u], ([p2, p1] : List Str).zip [v]⟩ = pure (([p1, p2] : List Str).zip [u, v]))
    (b3 : ∀ (kV doc pm : Value) (an : Option Addr) (cdv ct u v : Value), bindArgs (fnOf x x (defArgs st) (defBody st) (defScope st) .none kV doc pm an cdv ct) ⟨[u, v], ([p2, p1] : List Str).zip []⟩ = pure (([p1, p2] : List Str).zip [u, v])) :
    KBinds K fd [p1, p2] [p2, p1] (fun us ws => us ++ ws.reverse) (fun us ws => us ++ ws.reverse) := by
  obtain ⟨oc, od, kV, doc, pm, an, cdv, ct, osl, rfl, lk, hcd⟩ := F.ex
  refine ⟨fun s us ws _ hl => ?_, fun r q => r.append q.reverse⟩
  have hl2 : us.length + ws.length = 2 := by
    rw [List.length_append, List.length_reverse] at hl
    exact hl
  rcases us with _ | ⟨u, _ | ⟨v, _ | ⟨z, us⟩⟩⟩
  · rcases ws with _ | ⟨a, _ | ⟨b, _ | ⟨z, ws⟩⟩⟩
    · cases hl2
    · cases hl2
    · exact .of_eq (b1 kV doc pm an cdv ct a b)
    · simp only [List.length_cons, List.length_nil] at hl2
      omega
  · rcases ws with _ | ⟨a, _ | ⟨z, ws⟩⟩
    · cases hl2
    · exact .of_eq (b2 kV doc pm an cdv ct u a)
    · simp only [List.length_cons, List.length_nil] at hl2
      omega
  · rcases ws with _ | ⟨z, ws⟩
    · exact .of_eq (b3 kV doc pm an cdv ct u v)
    · simp only [List.length_cons, List.length_nil] at hl2
      omega
  · simp only [List.length_cons] at hl2
    omega
end
end Sw
namespace Sw
open PySem PySem.Spec PyProof.Rows L2
/-! ### _law_is_right -/
theorem ints_rep {K : PySem.W.Frag} {H : Hp} : ∀ {os : List Int}, (∀ o ∈ os, 0 ≤ o ∧ o < 14) → RepAll K H (os.map D.int) (os.map V.int) [] ∧ smallAll (os.map D.int) ∧ wtAll (os.map D.int) ≤ os.length * 6 ∧ depAll (os.map D.int) = 0
  | [], _ => ⟨by simp [RepAll], by simp [smallAll], by simp [wtAll], by simp [depAll]⟩
  | o :: r, h => by
    obtain ⟨r1, r2, r3, r4⟩ := ints_rep (K := K) (H := H) (os := r) fun x hx => h x (List.mem_cons_of_mem _ hx)
    obtain ⟨h1, h2⟩ := h o (List.mem_cons_self ..)
    obtain ⟨i1, i2, i3, i4⟩ := int_ok (K := K) (H := H) (i := o) (w := 3) (k := 0) (by omega) (by decide) (by decide)
    refine ⟨?_, ?_, ?_, ?_⟩
    · simp only [List.map_cons, RepAll]
      exact ⟨_, _, [], [], rfl, i1, r1, rfl⟩
    · simp only [List.map_cons, smallAll]
      exact ⟨i2, r2⟩
    · simp only [List.map_cons, wtAll, List.length_cons]
      omega
    · simp only [List.map_cons, depAll]
      omega
theorem rgI_mem {m : Nat} {x : Int} (h : x ∈ rgI m) : 0 ≤ x ∧ x < m := by
  obtain ⟨i, hi, rfl⟩ := List.mem_map.mp h
  have := List.mem_range.mp hi
  omega
/-- a standing as data -/
def stD (os : List Int) (st : Int) : List D := [.tup (os.map D.int), .int st]
theorem StandAt.rep {K : PySem.W.Frag} {n st : Int} {H : Hp} {a b : Addr} {os : List Int} (S : StandAt n H a b os st) (pm : os.Perm (rgI (n.toNat + 1))) (h0 : 0 ≤ st) (h1 : st < n) : Rep K H (.tup (stD os st)) (.ref a) [a, b] ∧ smallAll (stD os st) ∧ wtAll (stD os st) ≤ 200 ∧ depAll (stD os st) ≤ 1 := by
  have n2 := S.n2
  have hl := S.len
  obtain ⟨r1, r2, r3, r4⟩ := ints_rep (K := K) (H := H) (os := os) fun o ho => by
    have := rgI_mem (pm.mem_iff.mp ho)
    omega
  obtain ⟨i1, i2, i3, i4⟩ := int_ok (K := K) (H := H) (i := st) (w := 3) (k := 0) (by omega) (by decide) (by decide)
  have rb : Rep K H (.tup (os.map D.int)) (.ref b) [b] := by
    simp only [Rep]
    exact ⟨b, _, [], rfl, S.b, r1, by simp, rfl⟩
  refine ⟨?_, ?_, ?_, ?_⟩
  · unfold stD
    rw [Rep]
    refine ⟨a, [.ref b, .int st], [b], rfl, S.a, ?_, ?_, rfl⟩
    · rw [RepAll]
      refine ⟨_, _, [b], [], rfl, rb, ?_, rfl⟩
      rw [RepAll]
      exact ⟨_, _, [], [], rfl, i1, by simp [RepAll], rfl⟩
    · intro z
      have e := List.mem_singleton.mp z
      rw [← e] at S
      have q := S.a.symm.trans S.b
      have q := HO.tup.inj (Option.some.inj q)
      cases os with
      | nil => cases q
      | cons o r =>
        have q := (List.cons.inj q).1
        cases q
  · simp only [stD, smallAll, small]
    simp only [small] at i2
    exact ⟨r2, i2, trivial⟩
  · simp only [stD, wtAll, wt] at i3 ⊢
    omega
  · simp only [stD, depAll, dep]
    omega
/-- the number of a standing, and the standing again -/
theorem num_back {n st : Int} {os : List Int} (n1 : 1 ≤ n) (pm : os.Perm (rgI (n.toNat + 1))) (h0 : 0 ≤ st) (h1 : st < n) : 0 ≤ (rk os : Nat) * n + st ∧ (rk os : Nat) * n + st < manyS n ∧ stRow n ((rk os : Nat) * n + st) = os ∧ ((rk os : Nat) * n + st) % n = st := by
  have hl : os.length = n.toNat + 1 := by rw [pm.length_eq, rgI_len]
  have lt := rk_lt os
  rw [hl] at lt
  have e1 : ((rk os : Nat) * n + st) / n = (rk os : Nat) := by
    rw [Int.add_comm, Int.add_mul_ediv_right _ _ (by omega), Int.ediv_eq_zero_of_lt h0 h1, Int.zero_add]
  have e2 : ((rk os : Nat) * n + st) % n = st := by
    rw [Int.add_comm, Int.add_mul_emod_self_right, Int.emod_eq_of_lt h0 h1]
  have p0 : 0 ≤ (rk os : Nat) * n := Int.mul_nonneg (Int.natCast_nonneg _) (by omega)
  refine ⟨by omega, ?_, ?_, e2⟩
  · unfold manyS
    have : ((rk os : Nat) + 1 : Int) * n ≤ (fac (n.toNat + 1) : Nat) * n := Int.mul_le_mul_of_nonneg_right (by omega) (by omega)
    rw [Int.add_mul, Int.one_mul] at this
    rw [Int.mul_comm n]
    omega
  · unfold stRow
    rw [e1, Int.toNat_natCast]
    have := unrk_rk os (rgI (n.toNat + 1)) (rgI_asc _) pm
    rw [hl] at this
    exact this
abbrev sIsRight : Stmt := top 21
abbrev nIsRight : List Str := ["n", "standing", "number", "is_named", "kept", "seen"]
theorem scIsRight : FnScope nIsRight ["n", "standing", "number", "is_named"] (defScope sIsRight) := ⟨rfl, rfl, rfl, by decide +kernel, rfl, by decide +kernel, by decide +kernel⟩
section
variable {P : Program} {w : World} {K : PySem.W.Frag} {mg : Str → Option Value} {base : Heap}
/-- standing_number: by place, and by the words standing, n -/
structure OwnNum (P : Program) (w : World) (K : PySem.W.Frag) (mg : Str → Option Value) (base : Heap) (k : Nat) : Prop where
  ex : ∃ f fd, FnOk P w K mg base CX0 k f fd ["n", "standing"] spStNum ∧ mg "standing_number" = some (.ref f) ∧ PySem.W.keepIn K (.ref f) = true ∧ Binds K fd ["n", "standing"] [] ∧ KBinds K fd ["n", "standing"] ["standing", "n"] (fun us ws => us ++ ws.reverse) (fun us ws => us ++ ws.reverse)
def spRight : Sp := fun vs H Q _ => ∃ (n st num : Int) (a b : Addr) (os : List Int) (nm : Bool), vs = [.int n, .ref a, .int num, .bl nm] ∧ StandAt n H a b os st ∧ os.Perm (rgI (n.toNat + 1)) ∧ 0 ≤ st ∧ st < n ∧ num = (rk os : Nat) * n + st ∧ ∀ H', Same H H' → Q (.bl true) H'
theorem two_ints {K : PySem.W.Frag} {H : Hp} {l : Addr} {v : Int} (h : H l = some (.lst [.int v, .int v])) (hv : v.natAbs < 10 ^ 12) : Rep K H (.lst [.int v, .int v]) (.ref l) [l] ∧ smallAll [D.int v, .int v] ∧ wtAll [D.int v, .int v] ≤ 100 ∧ depAll [D.int v, .int v] ≤ 1 := by
  obtain ⟨i1, i2, i3, i4⟩ := int_ok (K := K) (H := H) (i := v) (w := 12) (k := 0) hv (by decide) (by decide)
  refine ⟨?_, ?_, ?_, ?_⟩
  · simp only [Rep, RepAll]
    exact ⟨l, _, [], rfl, h, ⟨_, _, [], [], rfl, ⟨rfl, rfl⟩, ⟨_, _, [], [], rfl, ⟨rfl, rfl⟩, ⟨rfl, rfl⟩, rfl⟩, rfl⟩, by simp, rfl⟩
  · simp only [smallAll]
    exact ⟨i2, i2, trivial⟩
  · simp only [wtAll]
    omega
  · simp only [depAll]
    omega
theorem seen_rep {K : PySem.W.Frag} {n st : Int} {H : Hp} {l a b : Addr} {os : List Int} (hl : H l = some (.lst [.str "standing", .ref a])) (S : StandAt n H a b os st) (pm : os.Perm (rgI (n.toNat + 1))) (h0 : 0 ≤ st) (h1 : st < n) : Rep K H (.lst [.str "standing", .tup (stD os st)]) (.ref l) [l, a, b] := by
  obtain ⟨r, _⟩ := S.rep (K := K) pm h0 h1
  rw [Rep]
  refine ⟨l, _, [a, b], rfl, hl, ?_, ?_, rfl⟩
  · rw [RepAll]
    refine ⟨_, _, [], [a, b], rfl, by simp [Rep], ?_, rfl⟩
    rw [RepAll]
    exact ⟨_, _, [a, b], [], rfl, r, by simp [RepAll], by simp⟩
  · simp only [List.mem_cons, List.not_mem_nil, or_false, not_or]
    exact ⟨ne_of hl S.a (by intro z; cases z), ne_of hl S.b (by intro z; cases z)⟩
theorem ok_isRight {f : Addr} {fd : FuncData} (F : Fun K "_law_is_right" "_law_is_right" sIsRight f fd) (B : NoNames mg) (O1 : OwnNum P w K mg base 2) (O2 : Own P w K mg base 3 "_law_seen" ["n", "value", "is_named"] (spSeen K)) :
    FnG P w K mg base 4 f fd ["n", "standing", "number", "is_named"] spRight := by
  obtain ⟨fN, fdN, GN, mN, kN, bN, wN⟩ := O1.ex
  obtain ⟨fS, fdS, GS, mS, kS, bS⟩ := O2.ex
  refine Fun.okG F scIsRight (fun vs H Q E h => ?_) (fun cdv A outer s H vs Q E hr hgd h => ?_)
  · obtain ⟨n, st, num, a, b, os, nm, rfl, _⟩ := h
    rfl
  · obtain ⟨n, st, num, a, b, os, nm, rfl, S, pm, h0, h1, rfl, k⟩ := h
    have hr2 : Room 2 _ := hr.mono (by decide)
    have n1 := S.n1
    have n2 := S.n2
    obtain ⟨m0, m1, m2, m3⟩ := num_back n1 pm h0 h1
    have small12 : ((rk os : Nat) * n + st : Int).natAbs < 10 ^ 12 := by
      have b1 := rk_bd (r := os) (by have := S.len; omega)
      have b2 : (rk os : Nat) * n ≤ 6227020800 * 12 := Int.mul_le_mul (by omega) n2 (by omega) (by decide)
      have e12 : (10 : Nat) ^ 12 = 1000000000000 := by decide
      omega
    generalize enum : (rk os : Nat) * n + st = num at *
    obtain ⟨r1, r2, r3, r4⟩ := S.rep (K := K) pm h0 h1
    refine ⟨_, pss_cons (ps_set (i := 4) scIsRight.nd rfl (.inl rfl) (pe_callB (call_reprT hr hgd) (by rfl) B.repr (by decide +kernel) (pa_cons (pv 1) pa_nil))) <|
      pss_cons (ps_cut (J := fun σ H' => σ = [some (.int n), some (.ref a), some (.int num), some (.bl nm), some (.str (shown (.tup (stD os st)))), none] ∧ H' = H) (J' := fun σ H' => σ = [some (.int n), some (.ref a), some (.int num), some (.bl nm), some (.str (shown (.tup (stD os st)))), some (.int num)] ∧ Same H H')
        (ps_set (i := 5) scIsRight.nd rfl (.inl rfl) (pe_ifExp (pt_val (pv 3)) (pe_callW GN hr2 (by rfl) mN kN wN pass0 (pk_cons (pv 1) (pk_cons (pv 0) pk_nil))) (pe_call GN hr2 (by rfl) mN kN bN .nil pass0 (pa_cons (pv 0) (pa_cons (pv 1) pa_nil))))) ?cut1) <|
      pss_cons (ps_if (PW.pt (pw_or (pt_cmpR op_ne (pe_callB (call_repr hr hgd) (by rfl) B.repr (by decide +kernel) (pa_cons (pe_lst (pa_cons (pv 5) (pa_cons (pe_call GN hr2 (by rfl) mN kN bN .nil pass0 (pa_cons (pv 0) (pa_cons (pv 1) pa_nil))) pa_nil))) pa_nil))
          (pe_callB (call_repr hr hgd) (by rfl) B.repr (by decide +kernel) (pa_cons (pe_lst (pa_cons (pv 2) (pa_cons (pv 2) pa_nil))) pa_nil)) (nomark _))
        (pw_or1 (pt_cmpR op_ne (pe_callB (call_reprT hr hgd) (by rfl) B.repr (by decide +kernel) (pa_cons (pv 1) pa_nil)) (pv 4) (nomark _))))) (pss_one (ps_ret pe_bl)) pss_nil) <|
      pss_one (ps_ret (pe_cmpR op_eq (pe_callB (call_repr hr hgd) (by rfl) B.repr (by decide +kernel) (pa_cons (pe_lst (pa_cons (pe_call GS hr (by rfl) mS kS bS .nil pass0 (pa_cons (pv 0) (pa_cons (pv 2) (pa_cons (pv 3) pa_nil)))) (pa_cons (pe_call GS hr (by rfl) mS kS bS .nil pass0 (pa_cons (pv 0) (pa_cons (pv 2) (pa_cons pe_bl pa_nil)))) pa_nil))) pa_nil))
        (pe_callB (call_repr hr hgd) (by rfl) B.repr (by decide +kernel) (pa_cons (pe_op op_rep (pe_lst (pa_cons (pe_lst (pa_cons pe_str (pa_cons (pv 1) pa_nil))) pa_nil)) pe_int) pa_nil)) (nomark _))), ?_⟩
    case cut1 =>
      rintro D σ H1 ⟨rfl, rfl⟩ nx
      refine ⟨_, rfl, nm, rfl, ?_⟩
      refine ite2 (fun _ => ?_) (fun _ => ?_)
      · exact ⟨_, rfl, _, rfl, n, st, a, b, os, rfl, S, fun H' s1 => nx _ _ ⟨by rw [enum]; rfl, s1⟩⟩
      · exact ⟨_, rfl, _, rfl, n, st, a, b, os, rfl, S, fun H' s1 => nx _ _ ⟨by rw [enum]; rfl, s1⟩⟩
    refine ⟨_, rfl, .ref a, stD os st, [a, b], rfl, r1, r2, by omega, by omega, ⟨rfl, rfl⟩, ?_⟩
    rintro σ H1 ⟨rfl, s1⟩
    have S1 := S.keep (.of s1)
    refine ⟨_, rfl, _, rfl, _, rfl, n, st, a, b, os, rfl, S1, fun H2 s2 => ?_⟩
    rw [enum]
    refine ⟨by show 2 ≤ sizeLine; decide, fun L nL => ?_⟩
    have sL : Same H2 (upd H2 L (.lst [.int num, .int num])) := same_new nL
    obtain ⟨t1, t2, t3, t4⟩ := two_ints (K := K) (H := upd H2 L (.lst [.int num, .int num])) (l := L) upd_same small12
    refine ⟨.ref L, _, [L], rfl, t1, t2, by omega, by omega, ?_⟩
    have s3 := s1.trans (s2.trans sL)
    generalize (upd H2 L (.lst [.int num, .int num])) = H3 at s3 ⊢
    refine ⟨_, rfl, _, rfl, by show 2 ≤ sizeLine; decide, fun L2 nL2 => ?_⟩
    have sL2 : Same H3 (upd H3 L2 (.lst [.int num, .int num])) := same_new nL2
    obtain ⟨t1, t2, t3, t4⟩ := two_ints (K := K) (H := upd H3 L2 (.lst [.int num, .int num])) (l := L2) upd_same small12
    refine ⟨.ref L2, _, [L2], rfl, t1, t2, by omega, by omega, rfl, _, rfl, ?_⟩
    have s4 := s3.trans sL2
    generalize (upd H3 L2 (.lst [.int num, .int num])) = H4 at s4 ⊢
    rw [same_str rfl]
    refine iteF ?_
    have S4 := S.keep (.of s4)
    obtain ⟨v1, v2, v3, v4⟩ := S4.rep (K := K) pm h0 h1
    refine ⟨_, rfl, .ref a, stD os st, [a, b], rfl, v1, v2, by omega, by omega, _, rfl, rfl, _, rfl, ?_⟩
    rw [same_str rfl]
    refine iteF ?_
    have wr : wt (D.str "standing") ≤ 20 := by decide +kernel
    have wt2 : wtAll [D.lst [.str "standing", .tup (stD os st)], .lst [.str "standing", .tup (stD os st)]] ≤ 1000 := by
      simp only [wtAll, wt] at r3 wr ⊢
      omega
    have dp2 : depAll [D.lst [.str "standing", .tup (stD os st)], .lst [.str "standing", .tup (stD os st)]] ≤ 5 := by
      simp only [depAll, dep] at r4 ⊢
      omega
    have sm2 : smallAll [D.lst [.str "standing", .tup (stD os st)], .lst [.str "standing", .tup (stD os st)]] := by
      simp only [smallAll, small]
      exact ⟨⟨trivial, r2, trivial⟩, ⟨trivial, r2, trivial⟩, trivial⟩
    have numRep : ∀ H' : Hp, Rep K H' (.int num) (.int num) [] := fun H' => by simp [Rep]
    have no : isWhole 0 (manyS n - 1) (.int num) = false → False := fun e => by
      simp only [isWhole, Bool.and_eq_false_iff, decide_eq_false_iff_not] at e
      omega
    refine ⟨_, rfl, _, rfl, _, rfl, n, .int num, .int num, [], nm, rfl, numRep _, n1, n2, fun e => (no e).elim, fun nu e q0 q1 l1 a1 b1 H5 s5 S5 hl1 => ?_⟩
    cases e
    rw [m2, m3] at S5
    refine ⟨_, rfl, _, rfl, n, .int num, .int num, [], false, rfl, numRep _, n1, n2, fun e => (no e).elim, fun nu e q0 q1 l2 a2 b2 H6 s6 S6 hl2 => ?_⟩
    cases e
    rw [m2, m3] at S6
    refine ⟨by show 2 ≤ sizeLine; decide, fun L3 nL3 => ?_⟩
    obtain ⟨as3, x1⟩ := rep_pair (seen_rep (K := K) (s6 _ _ hl1) (S5.keep (.of s6)) pm h0 h1) (seen_rep hl2 S6 pm h0 h1) nL3
    refine ⟨.ref L3, _, as3, rfl, x1, sm2, by omega, by omega, ?_⟩
    have s7 : Same H (upd H6 L3 (.lst [.ref l1, .ref l2])) := (s4.trans (s5.trans s6)).trans (same_new nL3)
    generalize (upd H6 L3 (.lst [.ref l1, .ref l2])) = H7 at s7 ⊢
    refine ⟨_, rfl, by show 2 ≤ sizeLine; decide, fun L4 nL4 => ⟨by show 1 ≤ sizeLine; decide, fun L5 nL5 => ?_⟩⟩
    have sL4 : Same H7 (upd H7 L4 (.lst [.str "standing", .ref a])) := same_new nL4
    have sL5 : Same (upd H7 L4 (.lst [.str "standing", .ref a])) (upd (upd H7 L4 (.lst [.str "standing", .ref a])) L5 (.lst [.ref L4])) := same_new nL5
    refine ⟨L5, 2, [.ref L4], rfl, rfl, upd_same, by decide, by decide, by show 2 ≤ sizeLine; decide, fun L6 nL6 => ?_⟩
    have S8 := S.keep (.of ((s7.trans sL4).trans sL5))
    have h4 : (upd (upd H7 L4 (.lst [.str "standing", .ref a])) L5 (.lst [.ref L4])) L4 = some (.lst [.str "standing", .ref a]) := sL5 _ _ upd_same
    obtain ⟨as6, x2⟩ := rep_pair (seen_rep (K := K) h4 S8 pm h0 h1) (seen_rep (K := K) h4 S8 pm h0 h1) nL6
    refine ⟨.ref L6, _, as6, rfl, x2, sm2, by omega, by omega, rfl, ?_⟩
    rw [decide_eq_true rfl]
    exact k _ (((s7.trans sL4).trans sL5).trans (same_new nL6))
end
end Sw
namespace Sw
open PySem PySem.Spec PyProof.Rows L2
/-- xs != [], xs a list of whatever -/
def rNeNil (K : PySem.W.Frag) : R2 := fun x y H Q => ∃ a b xs, x = .ref a ∧ y = .ref b ∧ SqL K H a xs ∧ SqL K H b [] ∧ Q (.bl (!xs.isEmpty)) H
theorem op_neNil {X : Cx} (hu : X.A.units < cLine) : OpR X (compareOp .NotEq) (rNeNil X.K) := by
  intro pins s σ H x y v u Q I rx ry h
  obtain ⟨a, b, xs, rfl, rfl, ha, hb, q⟩ := h
  cases rx
  cases ry
  obtain ⟨its, r1, p1, _⟩ := I.list ha
  obtain ⟨it2, r2, p2, _⟩ := I.list hb
  cases r2
  cases r1 with
  | nil => exact SeqAt.RcNeAt.lists (e := fun _ => true) p1.isList p2.isList rfl hu (fun j h1 _ => absurd h1 (by simp)) _ _ _ _ ⟨.bl false, H, I, rfl, q⟩
  | cons r t => exact SeqAt.RcNeAt.lists_lengths p1.isList p2.isList (by simp) hu _ _ _ _ ⟨.bl true, H, I, rfl, q⟩
theorem erase_permV {α : Type} {l : List α} {i : Nat} (h : i < l.length) : (l[i] :: l.eraseIdx i).Perm l := by
  induction l generalizing i with
  | nil => exact absurd h (Nat.not_lt_zero _)
  | cons a l ih =>
    cases i with
    | zero => exact .refl _
    | succ i =>
      have h2 : i < l.length := by simpa using h
      exact ((List.Perm.swap _ _ _).trans ((ih h2).cons a))
theorem scMixed3 : FnScope ["deck", "items", "left", "found"] ["deck", "items"] (defScope sMixed) := ⟨rfl, rfl, rfl, by decide +kernel, rfl, by decide +kernel, by decide +kernel⟩
section
variable {P : Program} {w : World} {K : PySem.W.Frag} {mg : Str → Option Value} {base : Heap}
/-- _law_draw of any number of which there are -/
def spDrawW : Sp := fun vs H Q _ => ∃ (p d : Addr) (m : Int), vs = [.ref p, .int m] ∧ Deck H p d 63 ∧ m < 1000000000000 ∧ ∀ (r : Int) (H' : Hp), 0 ≤ r → (1 ≤ m → r < m) → (m < 2 → r = 0) → Deck H' p d 63 → Kp p d H H' → Q (.int r) H'
theorem ok_drawW {f : Addr} {fd : FuncData} (F : Fun K "_law_draw" "_law_draw" sDraw f fd) (B : NoNames mg) : FnOk P w K mg base CX0 1 f fd ["deck", "many"] spDrawW := by
  refine F.ok scDraw (fun vs H Q E h => ?_) (fun cdv A outer s H vs Q E hr h => ?_)
  · obtain ⟨p, d, m, rfl, _⟩ := h
    rfl
  · obtain ⟨p, d, m, rfl, D, hm, k⟩ := h
    have hu := hu_of hr
    refine ⟨_, pss_cons (ps_if (pt_cmpR op_lt (pv 1) pe_int (nomark _)) (pss_one (ps_ret pe_int)) pss_nil)
      (pss_cons (ps_if (pt_cmpR (op_neD hr.units) (pe_dget hu (pv 0) pe_str (fun _ _ => rfl)) (pe_lst pa_nil) (nomark _))
        (pss_cons (ps_set (i := 2) scDraw.nd rfl (.inl rfl) (pe_bm0 PySem.F.plainAttrs_list PySem.F.slot_list_pop PySem.F.type_list_pop mt_pop (pe_dget hu (pv 0) pe_str (fun _ _ => rfl))))
        (pss_cons (ps_if (pt_cmpR op_ge (pv 2) (pv 1) (nomark _)) (pss_one (ps_expr (pe_bm PySem.F.plainAttrs_list PySem.F.slot_list_append PySem.F.type_list_append mt_append (pe_dget hu (pv 0) pe_str (fun _ _ => rfl)) (pa_cons (pe_op op_fdivW (pv 2) (pv 1)) pa_nil)))) pss_nil)
        (pss_one (ps_ret (pe_op op_mod (pe_callTy call_int1 (by rfl) B.int (by decide +kernel) (pa_cons (pv 2) pa_nil)) (pv 1)))))) pss_nil)
      (pss_cons (ps_set (i := 3) scDraw.nd rfl (.inl rfl) (pe_op op_mod (pe_callTy call_int1 (by rfl) B.int (by decide +kernel) (pa_cons (pe_op op_add (pe_op op_mul (pe_dget hu (pv 0) pe_str (fun _ _ => rfl)) pe_int) pe_int) pa_nil)) pe_int))
      (pss_cons (ps_dput hu (pv 0) pe_str (pv 3) rfl)
      (pss_cons (ps_set (i := 4) scDraw.nd rfl (.inl rfl) (pe_op op_mod (pe_callTy call_int1 (by rfl) B.int (by decide +kernel) (pa_cons (pe_op op_add (pe_op op_add (pe_op op_mul (pv 3) (pv 3)) (pe_op op_mul pe_int (pv 3))) pe_int) pa_nil)) pe_int))
      (pss_one (ps_ret (pe_op op_mod (pe_callTy call_int1 (by rfl) B.int (by decide +kernel) (pa_cons (pe_op op_fdiv (pv 4) pe_int) pa_nil)) (pv 1)))))))), ?_⟩
    obtain ⟨ns, st, hp, hd, hl, hn, hs1, hs2⟩ := id D.ex
    refine ⟨_, rfl, _, _, rfl, rfl, _, rfl, ?_⟩
    refine ite2 (fun z => ?_) (fun z => ?_)
    · have z : m < 2 := of_decide_eq_true z
      exact k 0 H (by decide) (fun _ => by omega) (fun _ => rfl) D .refl
    have z : ¬ m < 2 := fun q => z (decide_eq_true q)
    refine ⟨_, rfl, p, _, rfl, dget_deep hp, by show 0 ≤ sizeLine; exact Nat.zero_le _, fun e ne => ?_⟩
    have se : Same H (upd H e (.lst [])) := same_new ne
    refine ⟨.list (ns.map PyData.int), .list [], .lst (SqL.of (se _ _ hd)) (dpInts ns), .lst (SqL.of upd_same) .nil, PySem.W.ke_shaped_ints ns, rfl, _, rfl, ?_⟩
    rw [eqv_nil]
    refine ite2 (fun y => ?_) (fun y => ?_)
    · obtain ⟨n, ms, rfl, hlast, hdrop⟩ := last_ints (of_decide_eq_true y)
      have hn0 : 0 ≤ n := hn n (by simp)
      refine ⟨_, rfl, p, _, rfl, dget_deep (se _ _ hp), .inl ⟨rfl, _, SqL.of (se _ _ hd)⟩, d, _, _, rfl, rfl, se _ _ hd, hlast, ?_⟩
      rw [hdrop]
      have hpd := D.ne
      have h1 : (upd (upd H e (.lst [])) d (.lst (ms.map V.int))) p = some (.dK (deckL d st)) := by
        rw [upd_ne hpd]
        exact se _ _ hp
      have h2 : (upd (upd H e (.lst [])) d (.lst (ms.map V.int))) d = some (.lst (ms.map V.int)) := upd_same
      have h3 : Kp p d H (upd (upd H e (.lst [])) d (.lst (ms.map V.int))) := fun b o e n1 n2 => by
        rw [upd_ne n2]
        exact se _ _ e
      have hl' : ms.length + 1 ≤ 63 := by simpa using hl
      have hn' : ∀ x ∈ ms, 0 ≤ x := fun x hx => hn x (by simp [hx])
      generalize (upd (upd H e (.lst [])) d (.lst (ms.map V.int))) = H1 at h1 h2 h3 ⊢
      have D1 : Deck H1 p d 63 := ⟨ms, st, h1, h2, by omega, hn', hs1, hs2⟩
      refine ⟨_, rfl, _, rfl, _, _, rfl, rfl, _, rfl, ?_⟩
      refine ite2 (fun x => ?_) (fun x => ?_)
      · have x : m ≤ n := of_decide_eq_true x
        refine ⟨_, rfl, p, _, rfl, dget_deep h1, .inl ⟨rfl, _, SqL.of h2⟩, _, rfl, _, rfl, _, _, rfl, rfl, wide_div (b := 40) (by omega) (by omega) (by decide) (by decide), d, _, _, rfl, rfl, h2, ?_, ?_⟩
        · rw [List.length_map, sizeLine_eq]
          omega
        refine ⟨_, rfl, .inl ⟨_, rfl, _, rfl, _, _, rfl, rfl, by show 0 < m; omega, ?_⟩⟩
        refine k _ _ (Int.emod_nonneg _ (by omega)) (fun _ => Int.emod_lt_of_pos _ (by omega)) (fun y => absurd y (by omega)) ⟨ms ++ [n / m], st, ?_, ?_, ?_, ?_, hs1, hs2⟩ (h3.trans fun b o e n1 n2 => ?_)
        · rw [upd_ne hpd]
          exact h1
        · rw [upd_same, List.map_append]
          rfl
        · simp
          omega
        · intro x hx
          rcases List.mem_append.mp hx with q | q
          · exact hn' x q
          · rw [List.mem_singleton.mp q]
            exact Int.ediv_nonneg hn0 (by omega)
        · rw [upd_ne n2]
          exact e
      · refine ⟨_, rfl, .inl ⟨_, rfl, _, rfl, _, _, rfl, rfl, by show 0 < m; omega, ?_⟩⟩
        exact k _ _ (Int.emod_nonneg _ (by omega)) (fun _ => Int.emod_lt_of_pos _ (by omega)) (fun y => absurd y (by omega)) D1 h3
    · have D1 := D.same se
      generalize (upd H e (.lst [])) = H1 at se D1
      obtain ⟨ns, st, hp, hd, hl, hn, hs1, hs2⟩ := id D1.ex
      refine ⟨_, rfl, p, _, rfl, dget_state hp, _, _, rfl, rfl, .inl ⟨by omega, by omega⟩, _, _, rfl, rfl, ?_⟩
      refine .inl ⟨_, rfl, _, _, rfl, rfl, (by show (0 : Int) < 2305843009213693951; decide), ?_⟩
      dsimp only
      have o1 : 0 ≤ (st * 1181783497276652981 + 88172645463325) % 2305843009213693951 := Int.emod_nonneg _ (by decide)
      have o2 : (st * 1181783497276652981 + 88172645463325) % 2305843009213693951 < 2305843009213693951 := Int.emod_lt_of_pos _ (by decide)
      generalize (st * 1181783497276652981 + 88172645463325) % 2305843009213693951 = one at o1 o2 ⊢
      refine ⟨_, rfl, _, rfl, p, _, rfl, dput_state one hp, ?_⟩
      refine ⟨_, rfl, _, rfl, _, _, rfl, rfl, .inl ⟨by omega, by omega⟩, _, rfl, _, _, rfl, rfl, .inl ⟨by decide, by decide⟩, _, _, rfl, rfl, _, _, rfl, rfl, ?_⟩
      refine .inl ⟨_, rfl, _, _, rfl, rfl, (by show (0 : Int) < 2305843009213693921; decide), ?_⟩
      dsimp only
      generalize (one * one + 374761393 * one + 11) % 2305843009213693921 = two
      refine ⟨_, rfl, _, _, rfl, rfl, ⟨by decide, by decide⟩, ?_⟩
      refine .inl ⟨_, rfl, _, rfl, _, _, rfl, rfl, by show 0 < m; omega, ?_⟩
      refine k _ _ (Int.emod_nonneg _ (by omega)) (fun _ => Int.emod_lt_of_pos _ (by omega)) (fun y => absurd y (by omega)) ⟨ns, one, upd_same, ?_, hl, hn, o1, by omega⟩ (fun b o e n1 n2 => ?_)
      · rw [upd_ne (D1.ne).symm]
        exact hd
      · rw [upd_ne n1]
        exact se _ _ e
/-- _law_mixed of a list of whatever -/
def spMixedV : Sp := fun vs H Q _ => ∃ (p d a : Addr) (ns : List V), vs = [.ref p, .ref a] ∧ Deck H p d 63 ∧ H a = some (.lst ns) ∧ ns.length < 1000000 ∧ ∀ (r : Addr) (ms : List V) (H' : Hp), Deck H' p d 63 → Kp p d H H' → H r = none → H' r = some (.lst ms) → ms.Perm ns → Q (.ref r) H'
theorem ok_mixedV {f : Addr} {fd : FuncData} (F : Fun K "_law_mixed" "_law_mixed" sMixed f fd) (B : NoNames mg) (O : Own P w K mg base 1 "_law_draw" ["deck", "many"] spDraw) : FnOk P w K mg base CX0 2 f fd ["deck", "items"] (spMixedV) := by
  obtain ⟨fD, fdD, GD, mD, kD, bD⟩ := O.ex
  refine F.ok scMixed3 (fun vs H Q E h => ?_) (fun cdv A outer s H vs Q E hr h => ?_)
  · obtain ⟨p, d, a, ns, rfl, _⟩ := h
    rfl
  · obtain ⟨p, d, a, ns, rfl, D, ha, hl, k⟩ := h
    refine ⟨_, pss_cons (ps_par (i := 2) (j := 3) rfl scMixed3.nd rfl rfl (by decide) rfl rfl (pa_cons (pe_callTy call_list_of (by rfl) B.list (by decide +kernel) (pa_cons (pv 1) pa_nil)) (pa_cons (pe_lst pa_nil) pa_nil)) (by rfl))
      (pss_cons (ps_while PassesOwn.never (pt_cmpR (op_neNil hr.units0) (pv 2) (pe_lst pa_nil) (nomark _))
        (pss_one (ps_expr (pe_bm PySem.F.plainAttrs_list PySem.F.slot_list_append PySem.F.type_list_append mt_append (pv 3)
          (pa_cons (pe_bm PySem.F.plainAttrs_list PySem.F.slot_list_pop PySem.F.type_list_pop mt_popAt (pv 2)
            (pa_cons (pe_call GD hr rfl mD kD bD .nil pass0 (pa_cons (pv 0) (pa_cons (pe_callB call_len_seq (by rfl) B.len PySem.boot_len (pa_cons (pv 2) pa_nil)) pa_nil))) pa_nil)) pa_nil)))))
      (pss_one (ps_ret (pv 3)))), ?_⟩
    refine ⟨_, rfl, a, _, rfl, .inl (SqL.of ha), fun l nl => ⟨by show 0 ≤ sizeLine; exact Nat.zero_le _, fun g ng => ⟨_, _, rfl, ?_⟩⟩⟩
    have s1 : Same H (L2.upd H l (.lst ns)) := same_new nl
    have s2 := s1.trans (same_new (o := .lst []) ng)
    have ngl : g ≠ l := fun z => by
      rw [z, upd_same] at ng
      cases ng
    refine ⟨fun m σ H' => ∃ ls fs : List V, σ = [some (.ref p), some (.ref a), some (.ref l), some (.ref g)] ∧ Deck H' p d 63 ∧ Kp p d H H' ∧ H' l = some (.lst ls) ∧ H' g = some (.lst fs) ∧ l ≠ d ∧ g ≠ d ∧ ls.length = m ∧ (fs ++ ls).Perm ns,
      ⟨ns.length, ns, [], rfl, D.same s2, .of s2, by rw [upd_ne ngl.symm, upd_same], upd_same, (D.ne_none nl).2, (D.ne_none (s1.free ng)).2, rfl, .refl _⟩, ?_⟩
    rintro m σ H1 ⟨ls, fs, rfl, D1, k1, h1, h2, n1, n2, rfl, hpm⟩
    refine ⟨_, rfl, by show 0 ≤ sizeLine; exact Nat.zero_le _, fun e ne => ?_⟩
    have se : Same H1 (L2.upd H1 e (.lst [])) := same_new ne
    refine ⟨l, e, ls, rfl, rfl, SqL.of (se _ _ h1), SqL.of upd_same, _, rfl, ?_⟩
    have D2 := D1.same se
    have k2 := k1.trans (.of se)
    have h1' := se _ _ h1
    have h2' := se _ _ h2
    have hlen : fs.length + ls.length = ns.length := by
      rw [← hpm.length_eq, List.length_append]
    generalize (L2.upd H1 e (.lst [])) = H2 at D2 k2 h1' h2' ⊢
    refine ite2 (fun y => ?_) (fun y => ?_)
    · have y : ls ≠ [] := fun z => by rw [z] at y; cases y
      have hpos : 0 < ls.length := List.length_pos_iff.mpr y
      refine ⟨fun σ' H' => ∃ m', m' < ls.length ∧ ∃ ls fs : List V, σ' = [some (.ref p), some (.ref a), some (.ref l), some (.ref g)] ∧ Deck H' p d 63 ∧ Kp p d H H' ∧ H' l = some (.lst ls) ∧ H' g = some (.lst fs) ∧ l ≠ d ∧ g ≠ d ∧ ls.length = m' ∧ (fs ++ ls).Perm ns, fun _ _ h => h, ?_⟩
      refine ⟨_, rfl, .inl ⟨rfl, _, SqL.of h2'⟩, _, rfl, .inl ⟨rfl, _, SqL.of h1'⟩, _, rfl, _, rfl, l, ls, rfl, .inl (SqL.of h1'), p, d, (ls.length : Int), rfl, D2, ?_, fun r H3 r0 r1 r2 D3 k3 => ?_⟩
      · omega
      have h1 := k3 _ _ h1' (D2.kne h1') n1
      have h2 := k3 _ _ h2' (D2.kne h2') n2
      have np1 := D2.kne h1'
      have np2 := D2.kne h2'
      have hr : r < (ls.length : Int) := r1 (by omega)
      obtain ⟨i, rfl⟩ := Int.eq_ofNat_of_zero_le r0
      have hi : i < ls.length := by omega
      refine ⟨l, _, _, i, ls[i], rfl, rfl, h1, by omega, by omega, PySem.seqIndex_of r0 hr, ?_, ?_⟩
      · exact List.getElem?_eq_getElem hi
      refine ⟨g, fs, _, rfl, rfl, by rw [upd_ne ngl]; exact h2, ?_, ?_⟩
      · rw [sizeLine_eq]
        omega
      have le : (ls.eraseIdx i).length + 1 = ls.length := by
        rw [List.length_eraseIdx_of_lt hi]
        omega
      refine ⟨(ls.eraseIdx i).length, by omega, ls.eraseIdx i, fs ++ [ls[i]], rfl, (D3.upd np1 n1).upd np2 n2, ?_, ?_, ?_, n1, n2, rfl, ?_⟩
      · intro b o e q1 q2
        rw [upd_ne (ne_of_none e (s1.free ng)), upd_ne (ne_of_none e nl)]
        exact k3 _ _ (k2 _ _ e q1 q2) q1 q2
      · rw [upd_ne ngl.symm, upd_same]
      · exact upd_same
      · rw [List.append_assoc]
        exact ((erase_permV hi).append_left fs).trans hpm
    · have y : ls = [] := by
        cases ls with
        | nil => rfl
        | cons _ _ => exact absurd rfl y
      subst y
      rw [List.append_nil] at hpm
      exact ⟨_, rfl, k g fs H2 D2 k2 (s1.free ng) h2' hpm⟩
end
end Sw
namespace Sw
open PySem PySem.Spec PyProof.Rows L2 HT
/-! ### t[::-1], t a tuple -/
theorem back_pick (items : List Value) : ((List.range items.length).filterMap fun (m : Nat) => items.toArray[(((items.length : Int) - 1) + (m : Int) * (-1)).toNat]?) = items.reverse := by
  have e : ∀ m, m < items.length → items.toArray[(((items.length : Int) - 1) + (m : Int) * (-1)).toNat]? = some (items.reverse.getD m .none) := fun m hm => by
    have h1 : (((items.length : Int) - 1) + (m : Int) * (-1)).toNat = items.length - 1 - m := by omega
    rw [h1, List.getElem?_toArray, List.getD_eq_getElem?_getD, List.getElem?_reverse hm, List.getElem?_eq_getElem (by omega)]
    rfl
  have go : ∀ k, k ≤ items.length → (List.range k).filterMap (fun (m : Nat) => items.toArray[(((items.length : Int) - 1) + (m : Int) * (-1)).toNat]?) = items.reverse.take k := by
    intro k
    induction k with
    | zero => intro _; rfl
    | succ k ih =>
      intro hk
      have hk' : k < items.reverse.length := by rw [List.length_reverse]; exact hk
      rw [List.range_succ, List.filterMap_append, ih (by omega), List.take_add_one, List.getElem?_eq_getElem hk']
      congr 1
      have e1 := e k hk
      rw [List.getD_eq_getElem?_getD, List.getElem?_eq_getElem hk'] at e1
      show (List.filterMap (fun (m : Nat) => items.toArray[(((items.length : Int) - 1) + (m : Int) * (-1)).toNat]?) [k]) = [items.reverse[k]]
      simp only [List.filterMap, e1, Option.getD_some]
  have h := go items.length (Nat.le_refl _)
  rw [h, List.take_of_length_le (by rw [List.length_reverse]; exact Nat.le_refl _)]
section
variable {prog : Program} {w : World} {A : Around} {E : Value → Shared → Prop} {s : Shared}
theorem getItem_tuple_back {t sl : Addr} {items : List Value} {vl vu vs : Value} {Q : Value → Shared → Prop} (ht : IsTup s.heap t items.toArray) (hs : s.heap.IsSliceOf sl vl vu vs) (pl : IsPart vl none) (pu : IsPart vu none) (ps : IsPart vs (some (-1)))
    (h : Q (.ref s.heap.objs.size) { s with heap := s.heap.push { cls := .type "tuple", data := .seq items.reverse.toArray } }) (hsz : items.length ≤ sizeLine) : wpAny (model prog w) A (getItem (.ref t) (.ref sl)) Q E s := by
  obtain ⟨os, a1, a2, a3⟩ := id hs
  have tS : s.TypeIs (.ref sl) "slice" := ⟨os, a1, a2⟩
  unfold getItem
  try with_reducible refine wpAny_holding ?_
  first | refine wpAny_bind (wpAny_pure ?_) | skip
  refine wpAny_bind (wpAny_sequenceKey ht.typeIs (by decide) ?_)
  refine wpAny_bind (wpAny_callSpecial?_slot (name := Str.ofString "__getitem__") ht.typeIs PyProof.Rows.slot_tuple_getitem ?_)
  refine wpAny_call_entry PyProof.Rows.slot_tuple_getitem ht.typeIs entry_tuple_getitem ?_ (args_tuple_getitem _ _)
  show wpAny _ _ (Builtin.Tuple.tupleItemsOf (.ref t) >>= _) _ _ s
  refine wpAny_bind (tupleItemsOf_ ht (wpAny_bind (wpAny_typeOf tS ?_)))
  rw [if_pos (by decide)]
  refine wpAny_bind ?_
  unfold Builtin.Slice.sliceApplied Builtin.Slice.sliceFields
  refine wpAny_bind (wpAny_bind (wpAny_field a1 a3 (x := vl) rfl (wpAny_bind (wpAny_field a1 a3 (x := vu) rfl (wpAny_bind (wpAny_field a1 a3 (x := vs) rfl (wpAny_pure ?_)))))))
  refine wpAny_bind (slicePart_ ps ?_)
  show wpAny _ _ (if ((-1 : Int) == 0) = true then _ else _) _ _ s
  rw [if_neg (by decide)]
  refine wpAny_bind (slicePart_ pl (wpAny_bind (slicePart_ pu (wpAny_bind (wpAny_pure ?_)))))
  have adj : Builtin.Slice.sliceAdjust none none (-1) ((items.toArray.size : Nat) : Int) = (((items.length : Int) - 1), -1) := by
    rw [List.size_toArray]
    rfl
  have plc : Builtin.Slice.slicePlaces ((items.length : Int) - 1) (-1) (-1) = items.length := by
    unfold Builtin.Slice.slicePlaces
    rw [if_neg (by decide)]
    by_cases c : (items.length : Int) - 1 > -1
    · rw [if_pos c]
      simp only [Int.neg_neg, Int.ediv_one]
      omega
    · rw [if_neg c]
      omega
  show wpAny _ _ (match Builtin.Slice.sliceAdjust none none (-1) ((items.toArray.size : Nat) : Int) with | (lo, hi) => pure (lo, (-1 : Int), Builtin.Slice.slicePlaces lo hi (-1))) _ _ s
  rw [adj]
  show wpAny _ _ (pure ((items.length : Int) - 1, (-1 : Int), Builtin.Slice.slicePlaces ((items.length : Int) - 1) (-1) (-1))) _ _ s
  rw [plc]
  refine wpAny_pure ?_
  show wpAny _ _ (if ((((items.length : Int) - 1) == 0 && (-1 : Int) == 1 && items.length == items.toArray.size) = true) then _ else _) _ _ s
  rw [if_neg (by simp)]
  have pick := back_pick items
  have pick2 : ((List.range items.length).filterMap fun (m : Nat) => items.toArray[(((items.length : Int) - 1) + (m : Int) * (-1)).toNat]?).toArray = items.reverse.toArray := by rw [pick]
  rw [pick2]
  have ok : sizeOk (.seq items.reverse.toArray) := by
    show items.reverse.toArray.size ≤ sizeLine
    rw [List.size_toArray, List.length_reverse]
    exact hsz
  first
    | exact wpAny_bind (m := Builtin.Tuple.tupleExact _) (wpAny_newObj_type (wpAny_pure ⟨_, rfl, wpAny_pure h⟩) ok)
    | exact wpAny_bind (m := Builtin.Tuple.tupleExact _) (wpAny_newObj_type (wpAny_bind (wpAny_pure (wpAny_pure ⟨_, rfl, wpAny_pure h⟩))) ok)
    | exact wpAny_bind (wpAny_bind (m := Builtin.Tuple.tupleExact _) (wpAny_newObj_type (wpAny_pure (wpAny_pure ⟨_, rfl, wpAny_pure h⟩)) ok))
    | exact wpAny_bind (wpAny_bind (m := Builtin.Tuple.tupleExact _) (wpAny_newObj_type (wpAny_pure ⟨_, rfl, wpAny_pure h⟩) ok))
end
def tRevT (K : PySem.W.Frag) (te : TE) : TE := fun σ H Q => te σ H fun x H1 => ∃ a xs, x = .ref a ∧ SqT K H1 a xs ∧ ∀ p, H1 p = none → Q (.ref p) (upd H1 p (.tup xs.reverse))
theorem pe_revT {X : Cx} {e : Expr} {te : TE} {k : Nat} {p1 p2 p3 pos : Pos} (he : PE X e te) : PE X (.Subscript e (.Slice none none (some (.UnaryOp .USub (.Constant (.int 1) k p1) p2)) p3) pos) (tRevT X.K te) := by
  refine ⟨fun pins s σ H Q I h => Subscript_ (thn (he.run pins s σ H _ I h) fun v s1 ⟨x, H1, I1, r1, q1⟩ => ?_)⟩
  obtain ⟨a, xs, rfl, hx, q⟩ := q1
  cases r1
  have minus : PO X (some (.UnaryOp .USub (.Constant (.int 1) k p1) p2)) (tPart (tUn (rU fun i => .int (-i)) (tC (.int 1)))) := po_some (pe_un un_neg pe_int)
  refine wpAny_Slice (thn (po_none.run pins s1 σ H1 (fun o H2 => o = none ∧ H2 = H1) I1 ⟨rfl, rfl⟩) fun vl s2 ⟨l, H2, I2, pl, z1, z2⟩ => ?_)
  subst z1 z2
  refine thn (po_none.run pins s2 σ H2 (fun o H3 => o = none ∧ H3 = H2) I2 ⟨rfl, rfl⟩) fun vu s3 ⟨u, H3, I3, pu, z1, z2⟩ => ?_
  subst z1 z2
  refine thn (minus.run pins s3 σ H3 (fun o H4 => o = some (-1) ∧ H4 = H3) I3 ⟨1, rfl, -1, rfl, rfl, rfl⟩) fun vs s4 ⟨o, H4, I4, ps, z1, z2⟩ => ?_
  subst z1 z2
  have I5 : Inv X pins σ H4 { s4 with heap := s4.heap.push { cls := .type "slice", data := .fields #[vl, vu, vs] } } := I4.kept (t' := s4.toks) fun b ob z => Heap.get?_push_of_some _ z
  obtain ⟨its, r, ht, hz⟩ := I5.tuple hx
  show wpAny (model X.prog X.w) X.A (subscriptTail e (.Slice none none (some (.UnaryOp .USub (.Constant (.int 1) k p1) p2)) p3) (.ref a) (.ref s4.heap.objs.size)) (EP X pins σ Q) X.xe { s4 with heap := s4.heap.push { cls := .type "slice", data := .fields #[vl, vu, vs] } }
  refine tail_any (ops := [.ref a, .ref s4.heap.objs.size]) ht.typeIs PyProof.Rows.slot_tuple_getitem.lookup ?_ (by with_unfolding_all rfl)
  refine getItem_tuple_back ht (Heap.IsSliceOf.new _ vl vu vs) pl pu ps ?_ (by rw [← r.length]; exact hz)
  refine ⟨.ref _, _, I5.laid (t' := s4.toks) (o := .tup xs.reverse) (fun b ob z => Heap.get?_push_of_some _ z) (Nat.le_refl _) ?_, rfl, q _ (I5.hok.fresh (Nat.le_refl _))⟩
  exact ⟨by rw [List.length_reverse]; exact hz, _, r.reverse, IsTup.new _ _⟩
end Sw
namespace Sw
open PySem PySem.Spec PyProof.Rows L2 HT
/-! ### tuple(range(i, j, c)) -/
def rgC (i c : Int) (n : Nat) : List V := (List.range n).map fun m => V.int (i + (m : Nat) * c)
theorem rgC_length (i c : Int) (n : Nat) : (rgC i c n).length = n := by unfold rgC; rw [List.length_map, List.length_range]
theorem vals_rgC {i c : Int} {n : Nat} {acc : Array Value} (h : ItemsOf (fun m v => ∃ t, v = .int (i + m * c) t) acc n) : Vals (rgC i c n) acc.toList := by
  have e : acc.toList.length = n := by rw [Array.length_toList]; exact h.1
  unfold rgC
  rw [← e]
  refine vals_of_get acc.toList _ fun j u hj => ?_
  obtain ⟨t, rfl⟩ := h.2 j u (by rw [← hj, Array.getElem?_toList])
  exact ⟨t, rfl⟩
def tTupRg3 (ta : TA) : TE := fun σ H Q => ta σ H fun vs H1 => ∃ (i j c : Int) (n : Nat), vs = [.int i, .int j, .int c] ∧ RgC i j c n ∧ n ≤ 2 ^ 24 ∧ ∀ q, H1 q = none → Q (.ref q) (upd H1 q (.tup (rgC i c n)))
theorem pe_tupRg3 {X : Cx} {a b c : Expr} {ta : TA} {p pos p' pos' : Pos} (hc : X.calm = true) (hg : Gl X "tuple") (hm : X.mg "tuple" = none) (hgr : Gl X "range") (hmr : X.mg "range" = none) (ha : PA X [a, b, c] ta)
    (hs : starEach [a, b, c] X.env = (false, eval a X.env) :: starEach [b, c] X.env := by rfl) (hpl : (backTo pos' (starEach [b, c] X.env)).any (·.1) = false := by rfl)
    (na : starEach [.Call (.Name "range" p') [a, b, c] [] pos'] X.env = (false, eval (.Call (.Name "range" p') [a, b, c] [] pos') X.env) :: starEach [] X.env := by rfl) :
    PE X (.Call (.Name "tuple" p) [.Call (.Name "range" p') [a, b, c] [] pos'] [] pos) (tTupRg3 ta) := by
  refine ⟨fun pins s σ H Q I h => ?_⟩
  have rng : wpAny (model X.prog X.w) X.A (eval (.Call (.Name "range" p') [a, b, c] [] pos') X.env) (fun x s' => ∃ (r : Addr) (i j k : Int) (n : Nat) (t u v : Tok) (H' : Hp), x = .ref r ∧ IsRange s'.heap r i j k t u v ∧ RgC i j k n ∧ n ≤ 2 ^ 24 ∧ Inv X pins σ H' s' ∧
      ∀ q, H' q = none → Q (.ref q) (upd H' q (.tup (rgC i k n)))) X.xe s := by
    refine Call_ (ld_blt I hgr hmr boot_range (PyProof.Rows.callWith_type1 (thn (ha.run pos' pins s σ H _ I h) fun us s1 ⟨vs, H1, I1, r1, q1⟩ => ?_) hs hpl))
    obtain ⟨i, j, k, n, e, C, hn, q⟩ := q1
    obtain ⟨c0, c1, c2, c3⟩ := id C
    subst e
    cases r1 with
    | cons r rr =>
      cases rr with
      | cons r' rr =>
        cases rr with
        | cons r'' rr =>
          cases rr
          obtain ⟨t, rfl⟩ := r
          obtain ⟨t', rfl⟩ := r'
          obtain ⟨t'', rfl⟩ := r''
          refine call_range_3 c0 ?_ (.inl (PyProof.noPylong_small c1))
          exact ⟨_, i, j, k, n, _, _, _, H1, rfl, IsRange.new .., C, hn, I1.kept (t' := s1.toks) fun b o e => Heap.get?_push_of_some _ e, q⟩
  refine Call_ (ld_blt I hg hm boot_tuple (PyProof.Rows.callWith_type1 (args_cons (thn rng fun x s1 ⟨r, i, j, k, n, t, u, v, H1, ex, hr, C, hn, I1, q⟩ => args_nil ?_) na) na))
  subst ex
  obtain ⟨c0, c1, c2, c3⟩ := id C
  refine call_tuple_range (n := n) (I1.ok.hd hc) hr c2 c3 hn fun h' tk acc hk hi => ?_
  have I2 : Inv X pins σ H1 { s1 with heap := h', toks := tk } := I1.kept hk
  refine ⟨.ref h'.objs.size, upd H1 h'.objs.size (.tup (rgC i k n)), I2.laid (t' := tk) (fun c o e => Heap.get?_push_of_some _ e) (Nat.le_refl _) (show ObjOk X.prog X.w _ _ _ (.tup (rgC i k n)) from ⟨?_, acc.toList, vals_rgC hi, ?_⟩), rfl, q _ (I2.hok.fresh (Nat.le_refl _))⟩
  · rw [rgC_length, sizeLine_eq]
    exact hn
  · rw [Array.toArray_toList]
    exact IsTup.new _ _
theorem rgI_down (m : Nat) : rgC (m : Int) (-1) (m + 1) = (rgI (m + 1)).reverse.map V.int := by
  unfold rgC rgI
  refine List.ext_getElem? fun j => ?_
  by_cases hj : j < m + 1
  · rw [List.getElem?_map, List.getElem?_range hj, List.getElem?_map, List.getElem?_reverse (by simpa using hj), List.getElem?_map, List.length_map, List.length_range, List.getElem?_range (by omega)]
    show some (V.int ((m : Int) + (j : Nat) * (-1))) = some (V.int ((m + 1 - 1 - j : Nat) : Int))
    congr 2
    omega
  · rw [List.getElem?_eq_none (by simpa using Nat.le_of_not_lt hj), List.getElem?_eq_none (by simpa using Nat.le_of_not_lt hj)]
end Sw
namespace Sw
open PySem PySem.Spec PyProof.Rows L2
abbrev sLawN : Stmt := top 22
abbrev nLawN : List Str := ["script", "deck", "n", "number", "row", "stop", "turn", "many", "standings", "standing", "odd", "value"]
theorem scLawN : FnScope nLawN ["script"] (defScope sLawN) := ⟨rfl, rfl, rfl, by decide +kernel, rfl, by decide +kernel, by decide +kernel⟩
/-- the rows of a small net are its permutations in their order -/
theorem rows_rank1 : ∀ n, 1 ≤ n → n ≤ 4 → ((rowsF n (n + 1)).zipIdx.all fun x => x.1.isPerm (rgI (n + 1)) && rk x.1 == x.2) = true := by
  intro n h1 h4
  have : n = 1 ∨ n = 2 ∨ n = 3 ∨ n = 4 := by omega
  rcases this with rfl | rfl | rfl | rfl <;> decide +kernel
theorem rows_rank {n i : Nat} {os : List Int} (h1 : 1 ≤ n) (h4 : n ≤ 4) (h : (rowsF n (n + 1))[i]? = some os) : os.Perm (rgI (n + 1)) ∧ rk os = i := by
  have a := List.all_eq_true.mp (rows_rank1 n h1 h4) (os, i) (List.mem_zipIdx_iff_getElem?.mpr h)
  simp only [Bool.and_eq_true, beq_iff_eq] at a
  exact ⟨List.isPerm_iff.mp a.1, a.2⟩
/-- a standing, given as a value -/
def GoodSt (n : Nat) (H : Hp) (x : V) : Prop := ∃ (a b : Addr) (os : List Int) (st : Int), x = .ref a ∧ StandAt n H a b os st ∧ os.Perm (rgI (n + 1)) ∧ 0 ≤ st ∧ st < n
theorem GoodSt.keep {n : Nat} {H H' : Hp} {x : V} (g : GoodSt n H x) (s : TupS H H') : GoodSt n H' x := by
  obtain ⟨a, b, os, st, e, S, r⟩ := g
  exact ⟨a, b, os, st, e, S.keep s, r⟩
/-- data that are no number of a standing -/
def OddV (K : PySem.W.Frag) (M : Int) (U : Addr → Prop) (H : Hp) (x : V) : Prop := ∃ (dd : D) (as : List Addr), Rep K H dd x as ∧ (∀ b ∈ as, U b) ∧ isWhole 0 (M - 1) dd = false
structure IxN where
  sc : V
  p : Addr
  d : Addr
  t : Int
/-- the states of a turn -/
def TN0 (i : IxN) (σ : L2.St) (H : Hp) : Prop := ∃ s2 s3 s4 s5 s7 s8 s9 s10 s11, σ = [some i.sc, some (.ref i.p), s2, s3, s4, s5, some (.int i.t), s7, s8, s9, s10, s11] ∧ Deck H i.p i.d 63 ∧ 0 ≤ i.t
def TN1 (i : IxN) (σ : L2.St) (H : Hp) : Prop := ∃ (n : Nat) (s3 s4 s5 s7 s8 s9 s10 s11 : Option V), σ = [some i.sc, some (.ref i.p), some (.int n), s3, s4, s5, some (.int i.t), s7, s8, s9, s10, s11] ∧ Deck H i.p i.d 63 ∧ 0 ≤ i.t ∧ 1 ≤ n ∧ n ≤ 12
def TN2 (i : IxN) (σ : L2.St) (H : Hp) : Prop := ∃ (n : Nat) (b : Addr) (os : List Int) (s3 s5 s8 s9 s10 s11 : Option V), σ = [some i.sc, some (.ref i.p), some (.int n), s3, some (.ref b), s5, some (.int i.t), some (.int (manyS n)), s8, s9, s10, s11] ∧ Deck H i.p i.d 63 ∧ 0 ≤ i.t ∧ 1 ≤ n ∧ n ≤ 12 ∧ H b = some (.tup (os.map V.int)) ∧ os.Perm (rgI (n + 1))
def TN3 (m : Nat) (i : IxN) (σ : L2.St) (H : Hp) : Prop := ∃ (n : Nat) (L : Addr) (xs : List V) (s3 s4 s5 s9 s10 s11 : Option V), σ = [some i.sc, some (.ref i.p), some (.int n), s3, s4, s5, some (.int i.t), some (.int (manyS n)), some (.ref L), s9, s10, s11] ∧ Deck H i.p i.d 63 ∧ 0 ≤ i.t ∧ 1 ≤ n ∧ n ≤ 12 ∧ H L = some (.lst xs) ∧ L ≠ i.d ∧ xs.length ≤ m ∧ ∀ x ∈ xs, GoodSt n H x
def TN5 (i : IxN) (σ : L2.St) (H : Hp) : Prop := ∃ (n : Nat) (s3 s4 s5 s8 s9 s10 s11 : Option V), σ = [some i.sc, some (.ref i.p), some (.int n), s3, s4, s5, some (.int i.t), some (.int (manyS n)), s8, s9, s10, s11] ∧ Deck H i.p i.d 63 ∧ 0 ≤ i.t ∧ 1 ≤ n ∧ n ≤ 12
def TN6 (K : PySem.W.Frag) (i : IxN) (σ : L2.St) (H : Hp) : Prop := ∃ (n : Nat) (L : Addr) (xs : List V) (s3 s4 s5 s7 s8 s9 s11 : Option V), σ = [some i.sc, some (.ref i.p), some (.int n), s3, s4, s5, some (.int i.t), s7, s8, s9, some (.ref L), s11] ∧ Deck H i.p i.d 63 ∧ 0 ≤ i.t ∧ 1 ≤ n ∧ n ≤ 12 ∧ H L = some (.lst xs) ∧ L ≠ i.d ∧ xs.length ≤ 13 ∧ ∀ x ∈ xs, OddV K (manyS n) (fun b => b ≠ i.p ∧ b ≠ i.d) H x
theorem many_pos {n : Nat} (h1 : 1 ≤ n) (h2 : n ≤ 12) : 1 ≤ manyS n ∧ manyS n < 1000000000000 := by
  unfold manyS
  have p := fac_pos (n + 1)
  have m := fac_mono (a := n + 1) (b := 13) (by omega)
  rw [fac_13] at m
  have e : ((n : Int)).toNat = n := Int.toNat_natCast n
  rw [e]
  have u : (n : Int) * (fac (n + 1) : Nat) ≤ 12 * 6227020800 := Int.mul_le_mul (by omega) (by omega) (Int.natCast_nonneg _) (by decide)
  have l : (1 : Int) * 1 ≤ (n : Int) * (fac (n + 1) : Nat) := Int.mul_le_mul (by omega) (by omega) (by decide) (by omega)
  omega
def forBody : Stmt → List Stmt
  | .For _ _ b _ _ => b
  | _ => []
section
variable {P : Program} {w : World} {K : PySem.W.Frag} {mg : Str → Option Value} {base : Heap}
/-- what the law calls -/
structure OwnsN (P : Program) (w : World) (K : PySem.W.Frag) (mg : Str → Option Value) (base : Heap) : Prop where
  deck : Own P w K mg base 1 "_law_deck" ["script"] (spDeck K)
  draw : Own P w K mg base 1 "_law_draw" ["deck", "many"] spDrawW
  pick : Own P w K mg base 2 "_law_pick" ["deck", "items"] spPick
  mixP : Own P w K mg base 2 "_law_mixed" ["deck", "items"] spMixedP
  mixV : Own P w K mg base 2 "_law_mixed" ["deck", "items"] spMixedV
  rows : Own P w K mg base 1 "_law_rows" ["n"] spRows
  number : Own P w K mg base 1 "_law_number" ["n", "standing"] spLNumber
  stand : Own P w K mg base 1 "_law_standing" ["n", "number"] spLStand
  many : Own P w K mg base 1 "_law_many" ["n"] spLMany
  seen : Own P w K mg base 3 "_law_seen" ["n", "value", "is_named"] (spSeen K)
  right : OwnG P w K mg base 4 "_law_is_right" ["n", "standing", "number", "is_named"] spRight
/-- the first two pieces: a small net, all its rows -/
def JN0 (i : V × Addr × Addr) (σ : L2.St) (H : Hp) : Prop := σ = [some i.1, some (.ref i.2.1), none, none, none, none, none, none, none, none, none, none] ∧ Deck H i.2.1 i.2.2 63
def JN1 (i : V × Addr × Addr) (σ : L2.St) (H : Hp) : Prop := ∃ n : Nat, 1 ≤ n ∧ n ≤ 4 ∧ σ = [some i.1, some (.ref i.2.1), some (.int n), none, none, none, none, none, none, none, none, none] ∧ Deck H i.2.1 i.2.2 63
def JN2 (i : V × Addr × Addr) (σ : L2.St) (H : Hp) : Prop := ∃ n : Nat, 1 ≤ n ∧ n ≤ 4 ∧ σ = [some i.1, some (.ref i.2.1), some (.int n), some (.int ((0 : Nat) : Int)), none, none, none, none, none, none, none, none] ∧ Deck H i.2.1 i.2.2 63
def JN3 (i : V × Addr × Addr) (σ : L2.St) (H : Hp) : Prop := ∃ s2 s3 s4 s5, σ = [some i.1, some (.ref i.2.1), s2, s3, s4, s5, none, none, none, none, none, none] ∧ Deck H i.2.1 i.2.2 63
variable {f : Addr} {cdv : Value} {A : Around} {outer : List Env} {s : Shared} {H0 : Hp} {E : XK}
def stN (i : Nat) : Stmt := (defBody sLawN).getD i (.Pass ⟨0, 0, 0, 0⟩)
theorem cut_n (B : NoNames mg) (O : OwnsN P w K mg base) (hr : Room 4 (A.deeper (envOfC "law" (defScope sLawN) s.heap.objs.size f cdv))) : PS (cxOf CX0 P w K mg base nLawN "law" (defScope sLawN) f cdv A outer s H0 E).nox (stN 1) (tCutI JN0 JN1) := by
  obtain ⟨fD, fdD, GD, mD, kD, bD⟩ := O.draw.ex
  obtain ⟨fP, fdP, GP, mP, kP, bP⟩ := O.pick.ex
  have hr1 : Room 1 _ := hr.mono (by decide)
  have hr2 : Room 2 _ := hr.mono (by decide)
  refine ps_cutI JN0 JN1 (ps_set (i := 2) scLawN.nd rfl (.inl rfl) (pe_ifExp (pt_cmpR op_eq (pe_call GD hr1 rfl mD kD bD .nil pass0 (pa_cons (pv 1) (pa_cons pe_int pa_nil))) pe_int (nomark _))
    (pe_call GP hr2 rfl mP kP bP .nil pass0 (pa_cons (pv 1) (pa_cons (pe_lst (pa_cons pe_int (pa_cons pe_int (pa_cons pe_int (pa_cons pe_int (pa_cons pe_int pa_nil)))))) pa_nil)))
    (pe_op op_add pe_int (pe_call GD hr1 rfl mD kD bD .nil pass0 (pa_cons (pv 1) (pa_cons pe_int pa_nil)))))) ?_
  rintro ⟨sc, p, d⟩ D σ H ⟨rfl, D1⟩ nx
  refine ⟨_, rfl, p, d, 3, rfl, D1, by decide, fun r H1 r0 r1 r2 D2 k2 => ⟨rfl, _, rfl, ?_⟩⟩
  refine ite2 (fun _ => ?_) (fun _ => ?_)
  · refine ⟨_, rfl, by show 5 ≤ sizeLine; decide, fun L nL => ⟨p, d, L, _, rfl, D2.same (same_new nL), upd_same, (D2.ne_none nL).2, fun z => (nomatch z), by show 5 < 1000000; decide, fun x H3 hx D3 k3 => nx _ _ ?_⟩⟩
    simp only [List.mem_cons, List.not_mem_nil, or_false] at hx
    rcases hx with rfl | rfl | rfl | rfl | rfl
    · exact ⟨1, by decide, by decide, rfl, D3⟩
    · exact ⟨2, by decide, by decide, rfl, D3⟩
    · exact ⟨3, by decide, by decide, rfl, D3⟩
    · exact ⟨3, by decide, by decide, rfl, D3⟩
    · exact ⟨4, by decide, by decide, rfl, D3⟩
  · refine ⟨_, rfl, p, d, 3, rfl, D2, by decide, fun r' H3 q0 q1 q2 D3 k3 => ⟨_, _, rfl, rfl, nx _ _ ?_⟩⟩
    have q1 := q1 (by decide)
    obtain ⟨m, rfl⟩ := Int.eq_ofNat_of_zero_le q0
    refine ⟨1 + m, by omega, by omega, ?_, D3⟩
    rw [Int.natCast_add]
    rfl
theorem cut_rows (B : NoNames mg) (O : OwnsN P w K mg base) (hr : Room 4 (A.deeper (envOfC "law" (defScope sLawN) s.heap.objs.size f cdv))) (hgd : (A.deeper (envOfC "law" (defScope sLawN) s.heap.objs.size f cdv)).guards = some []) : PS (cxOf CX0 P w K mg base nLawN "law" (defScope sLawN) f cdv A outer s H0 E).nox (stN 3) (tCutI JN2 JN3) := by
  obtain ⟨fR, fdR, GR, mR, kR, bR⟩ := O.rows.ex
  obtain ⟨fI, fdI, GI, mI, kI, bI⟩ := O.right.ex
  have hr1 : Room 1 _ := hr.mono (by decide)
  refine ps_cutI JN2 JN3 (ps_for PassesOwn.never rfl (pi_list (pe_call GR hr1 rfl mR kR bR .nil pass0 (pa_cons (pv 2) pa_nil))) (pg_name (i := 4) scLawN.nd rfl (.inl rfl))
    (pss_one (ps_for PassesOwn.never rfl (pi_range1 (by rfl) B.range (pa_cons (pv 2) pa_nil)) (pg_name (i := 5) scLawN.nd rfl (.inl rfl))
      (pss_cons (ps_if (pt_not (pt_val (pe_callG GI hr hgd rfl mI kI bI pass0 (pa_cons (pv 2) (pa_cons (pe_tup (pa_cons (pv 4) (pa_cons (pv 5) pa_nil))) (pa_cons (pv 3) (pa_cons (pe_cmpR op_eq (pv 3) pe_int (nomark _)) pa_nil))))))) (pss_one (ps_ret pe_bl)) pss_nil) <|
      pss_one (ps_set (i := 3) scLawN.nd rfl (.inl rfl) (pe_op op_add (pv 3) pe_int)))))) ?_
  rintro ⟨sc, p, d⟩ D σ H ⟨n, n1, n2, rfl, D1⟩ nx
  refine ⟨_, rfl, n, rfl, n1, n2, fun l ts H1 s1 hl hrw => ⟨l, rfl, ⟨_, SqL.of hl⟩, for_it (walk_list (xs := ts.map V.ref)) (fun i σ H' => ∃ s4 s5, σ = [some sc, some (.ref p), some (.int n), some (.int ((i * n : Nat) : Int)), s4, s5, none, none, none, none, none, none] ∧ Same H1 H')
    ⟨none, none, by rw [Nat.zero_mul], Same.refl _⟩ (fun i σ H' _ h => by obtain ⟨_, _, _, h⟩ := h; exact SqL.of (h _ _ hl)) ?_ ?_⟩⟩
  · rintro i x σ H2 H3 hi ⟨s4, s5, rfl, s12⟩ ⟨rfl, ex⟩
    obtain ⟨t, et, rfl⟩ : ∃ t, ts[i]? = some t ∧ x = .ref t := by
      have ex : (ts.map V.ref)[i]? = some x := ex
      rw [List.getElem?_map] at ex
      cases q : ts[i]? with
      | none => rw [q] at ex; cases ex
      | some t => rw [q] at ex; exact ⟨t, rfl, (Option.some.inj ex).symm⟩
    obtain ⟨os, er, ho⟩ := paired_at (hrw.same s12) et
    obtain ⟨pm, rke⟩ := rows_rank n1 n2 er
    refine ⟨_, rfl, (n : Int), rfl, by omega, by omega, for_range (lo := 0) (n := (n : Int).toNat) (fun j σ H' => ∃ s5, σ = [some sc, some (.ref p), some (.int n), some (.int ((i * n + j : Nat) : Int)), some (.ref t), s5, none, none, none, none, none, none] ∧ Same H1 H')
      ⟨s5, rfl, s12⟩ ?_ ?_⟩
    · rintro j σ H4 hj ⟨s5, rfl, s14⟩
      rw [Int.toNat_natCast] at hj
      have ho4 := (hrw.same s14)
      obtain ⟨os', er', ho4⟩ := paired_at ho4 et
      have eo : os' = os := Option.some.inj (er'.symm.trans er)
      subst eo
      refine ⟨_, rfl, _, rfl, _, rfl, by show 2 ≤ sizeLine; decide, fun T nT => ?_⟩
      have sT : Same H4 (upd H4 T (.tup [.ref t, .int (0 + (j : Int))])) := same_new nT
      have hlen : (os'.length : Int) = (n : Int) + 1 := by
        rw [pm.length_eq, rgI_len]
        omega
      refine ⟨_, rfl, _, rfl, rfl, (n : Int), 0 + (j : Int), _, T, t, os', _, rfl, ⟨upd_same, sT _ _ ho4, hlen, by omega, by omega⟩, pm, by omega, by omega, by rw [rke, Int.natCast_add, Int.natCast_mul, Int.zero_add], fun H5 s45 => ⟨_, rfl, iteF ?_⟩⟩
      refine ⟨_, rfl, _, _, rfl, rfl, some (.int (0 + (j : Int))), ?_, s14.trans (sT.trans s45)⟩
      have e : ((i * n + j : Nat) : Int) + 1 = ((i * n + (j + 1) : Nat) : Int) := by omega
      rw [← e]
      rfl
    · rintro σ H4 ⟨s5, rfl, s14⟩
      have e : i * n + ((n : Int)).toNat = (i + 1) * n := by rw [Int.toNat_natCast, Nat.add_mul, Nat.one_mul]
      exact ⟨some (.ref t), s5, by rw [e], s14⟩
  · rintro σ H2 ⟨s4, s5, rfl, s12⟩
    exact nx _ _ ⟨_, _, _, _, rfl, (D1.same s1).same s12⟩
end
end Sw
namespace Sw
open PySem PySem.Spec PyProof.Rows L2 HT
theorem cutV_mem {xs : List V} {lo hi : Option Int} {x : V} (h : x ∈ cutV xs lo hi) : x ∈ xs := by
  unfold cutV at h
  exact List.mem_of_mem_drop (List.mem_of_mem_take h)
theorem rep_tup {K : PySem.W.Frag} {H : Hp} {p : Addr} {ds : List D} {xs : List V} {as : List Addr} (h : RepAll K H ds xs as) (np : H p = none) : Rep K (upd H p (.tup xs)) (.tup ds) (.ref p) (p :: as) := by
  simp only [Rep]
  exact ⟨p, xs, as, rfl, upd_same, h.same (same_new np), nmem h np, rfl⟩
theorem rep_lst {K : PySem.W.Frag} {H : Hp} {p : Addr} {ds : List D} {xs : List V} {as : List Addr} (h : RepAll K H ds xs as) (np : H p = none) : Rep K (upd H p (.lst xs)) (.lst ds) (.ref p) (p :: as) := by
  simp only [Rep]
  exact ⟨p, xs, as, rfl, upd_same, h.same (same_new np), nmem h np, rfl⟩
section
variable {P : Program} {w : World} {K : PySem.W.Frag} {mg : Str → Option Value} {base : Heap}
variable {f : Addr} {cdv : Value} {A : Around} {outer : List Env} {s : Shared} {H0 : Hp} {E : XK}
def tbN (i : Nat) : Stmt := (forBody (stN 4)).getD i (.Pass ⟨0, 0, 0, 0⟩)
theorem cut_t0 (B : NoNames mg) (O : OwnsN P w K mg base) (hr : Room 4 (A.deeper (envOfC "law" (defScope sLawN) s.heap.objs.size f cdv))) : PS (cxOf CX0 P w K mg base nLawN "law" (defScope sLawN) f cdv A outer s H0 E).nox (tbN 0) (tCutI TN0 TN1) := by
  obtain ⟨fP, fdP, GP, mP, kP, bP⟩ := O.pick.ex
  have hr2 : Room 2 _ := hr.mono (by decide)
  refine ps_cutI TN0 TN1 (ps_set (i := 2) scLawN.nd rfl (.inl rfl) (pe_call GP hr2 rfl mP kP bP .nil pass0 (pa_cons (pv 1) (pa_cons (pe_lst (pa_cons pe_int (pa_cons pe_int (pa_cons pe_int (pa_cons pe_int (pa_cons pe_int (pa_cons pe_int
    (pa_cons (pe_op op_add pe_int (pe_op op_mod (pe_callTy call_int1 (by rfl) B.int (by decide +kernel) (pa_cons (pv 6) pa_nil)) pe_int)) pa_nil)))))))) pa_nil)))) ?_
  rintro ⟨sc, p, d, t⟩ D σ H ⟨s2, s3, s4, s5, s7, s8, s9, s10, s11, rfl, D1, t0⟩ nx
  refine ⟨_, rfl, _, rfl, .inl ⟨_, rfl, _, _, rfl, rfl, (by show (0 : Int) < 12; decide), _, _, rfl, rfl, by show 7 ≤ sizeLine; decide, fun L nL => ⟨p, d, L, _, rfl, D1.same (same_new nL), upd_same, (D1.ne_none nL).2, fun z => (nomatch z), by show 7 < 1000000; decide, fun x H3 hx D3 k3 => nx _ _ ?_⟩⟩⟩
  have m0 := Int.emod_nonneg t (show (12 : Int) ≠ 0 by decide)
  have m1 := Int.emod_lt_of_pos t (show (0 : Int) < 12 by decide)
  simp only [List.mem_cons, List.not_mem_nil, or_false] at hx
  rcases hx with rfl | rfl | rfl | rfl | rfl | rfl | rfl
  · exact ⟨4, _, _, _, _, _, _, _, _, rfl, D3, t0, by decide, by decide⟩
  · exact ⟨5, _, _, _, _, _, _, _, _, rfl, D3, t0, by decide, by decide⟩
  · exact ⟨8, _, _, _, _, _, _, _, _, rfl, D3, t0, by decide, by decide⟩
  · exact ⟨11, _, _, _, _, _, _, _, _, rfl, D3, t0, by decide, by decide⟩
  · exact ⟨12, _, _, _, _, _, _, _, _, rfl, D3, t0, by decide, by decide⟩
  · exact ⟨12, _, _, _, _, _, _, _, _, rfl, D3, t0, by decide, by decide⟩
  · dsimp only at t0
    obtain ⟨m, em⟩ := Int.eq_ofNat_of_zero_le m0
    refine ⟨1 + m, s3, s4, s5, s7, s8, s9, s10, s11, ?_, D3, t0, by omega, by omega⟩
    have e : ((1 + m : Nat) : Int) = 1 + t % 12 := by omega
    rw [e]
    rfl
theorem cut_t1 (B : NoNames mg) (O : OwnsN P w K mg base) (hr : Room 4 (A.deeper (envOfC "law" (defScope sLawN) s.heap.objs.size f cdv))) : PS (cxOf CX0 P w K mg base nLawN "law" (defScope sLawN) f cdv A outer s H0 E).nox (tbN 1) (tCutI TN1 TN2) := by
  obtain ⟨fA, fdA, GA, mA, kA, bA⟩ := O.many.ex
  obtain ⟨fM, fdM, GM, mM, kM, bM⟩ := O.mixP.ex
  have hr1 : Room 1 _ := hr.mono (by decide)
  have hr2 : Room 2 _ := hr.mono (by decide)
  refine ps_cutI TN1 TN2 (ps_par (i := 7) (j := 4) rfl scLawN.nd rfl rfl (by decide) rfl rfl (pa_cons (pe_call GA hr1 rfl mA kA bA .nil pass0 (pa_cons (pv 2) pa_nil))
    (pa_cons (pe_callTy call_tuple_of (by rfl) B.tuple (by decide +kernel) (pa_cons (pe_call GM hr2 rfl mM kM bM .nil pass0 (pa_cons (pv 1) (pa_cons (pe_listRg rfl (by rfl) B.list (prg_1 (by rfl) B.range (pe_op op_add (pv 2) pe_int))) pa_nil))) pa_nil)) pa_nil)) (by rfl)) ?_
  rintro ⟨sc, p, d, t⟩ D σ H ⟨n, s3, s4, s5, s7, s8, s9, s10, s11, rfl, D1, t0, n1, n2⟩ nx
  refine ⟨_, rfl, (n : Int), rfl, by omega, by omega, _, rfl, _, rfl, _, _, rfl, rfl, (n : Int) + 1, rfl, RgOk.of_le (by decide) (by omega) (by decide) (by omega), fun q nq => ?_⟩
  have en : (n : Int) + 1 = ((n + 1 : Nat) : Int) := by omega
  rw [en, rgV_rgI]
  refine ⟨p, d, q, _, rfl, D1.same (same_new nq), upd_same, by rw [rgI_len]; omega, fun r ms H1 D2 k2 nr hr' pm => ⟨r, _, rfl, .inl ⟨SqL.of hr', fun b nb => ⟨_, _, rfl, nx _ _ ?_⟩⟩⟩⟩
  exact ⟨n, b, ms, _, _, _, _, _, _, rfl, D2.same (same_new nb), t0, n1, n2, upd_same, pm⟩
theorem cut_t2 (B : NoNames mg) (O : OwnsN P w K mg base) (hr : Room 4 (A.deeper (envOfC "law" (defScope sLawN) s.heap.objs.size f cdv))) : PS (cxOf CX0 P w K mg base nLawN "law" (defScope sLawN) f cdv A outer s H0 E).nox (tbN 2) (tCutI TN2 (TN3 3)) := by
  obtain ⟨fD, fdD, GD, mD, kD, bD⟩ := O.draw.ex
  have hr1 : Room 1 _ := hr.mono (by decide)
  refine ps_cutI TN2 (TN3 3) (ps_set (i := 8) scLawN.nd rfl (.inl rfl) (pe_lst (pa_cons (pe_tup (pa_cons (pv 4) (pa_cons (pe_call GD hr1 rfl mD kD bD .nil pass0 (pa_cons (pv 1) (pa_cons (pv 2) pa_nil))) pa_nil)))
    (pa_cons (pe_tup (pa_cons (pe_revT (pv 4)) (pa_cons (pe_op op_sub (pv 2) pe_int) pa_nil)))
    (pa_cons (pe_tup (pa_cons (pe_tupRg3 rfl (by rfl) B.tuple (by rfl) B.range (pa_cons (pv 2) (pa_cons (pe_un un_neg pe_int) (pa_cons (pe_un un_neg pe_int) pa_nil)))) (pa_cons (pe_op op_sub (pv 2) pe_int) pa_nil))) pa_nil))))) ?_
  rintro ⟨sc, p, d, t⟩ D σ H ⟨n, b, os, s3, s5, s8, s9, s10, s11, rfl, D1, t0, n1, n2, hb, pm⟩ nx
  refine ⟨_, rfl, _, rfl, _, rfl, p, d, (n : Int), rfl, D1, by omega, fun r H1 r0 r1 r2 D2 k2 => ⟨by show 2 ≤ sizeLine; decide, fun A0 nA0 => ?_⟩⟩
  have hb1 := k2 _ _ hb (D1.tne hb).1 (D1.tne hb).2
  have r1 := r1 (by omega)
  have sA0 : Same H1 (upd H1 A0 (.tup [.ref b, .int r])) := same_new nA0
  have hlen : (os.length : Int) = (n : Int) + 1 := by
    rw [pm.length_eq, rgI_len]
    omega
  have G0 : GoodSt n (upd H1 A0 (.tup [.ref b, .int r])) (.ref A0) := ⟨A0, b, os, r, rfl, ⟨upd_same, sA0 _ _ hb1, hlen, by omega, by omega⟩, pm, r0, r1⟩
  refine ⟨_, rfl, b, os.map V.int, rfl, SqT.of (sA0 _ _ hb1), fun B1 nB1 => ?_⟩
  have DA0 := D2.same sA0
  generalize (upd H1 A0 (.tup [.ref b, .int r])) = H2 at G0 nB1 DA0 ⊢
  have sB1 : Same H2 (upd H2 B1 (.tup (os.map V.int).reverse)) := same_new nB1
  refine ⟨_, rfl, _, _, rfl, rfl, by show 2 ≤ sizeLine; decide, fun A1 nA1 => ?_⟩
  have sA1 : Same (upd H2 B1 (.tup (os.map V.int).reverse)) (upd (upd H2 B1 (.tup (os.map V.int).reverse)) A1 (.tup [.ref B1, .int ((n : Int) - 1)])) := same_new nA1
  have G1 : GoodSt n (upd (upd H2 B1 (.tup (os.map V.int).reverse)) A1 (.tup [.ref B1, .int ((n : Int) - 1)])) (.ref A1) :=
    ⟨A1, B1, os.reverse, _, rfl, ⟨upd_same, sA1 _ _ (by rw [upd_same, List.map_reverse]), by rw [List.length_reverse]; exact hlen, by omega, by omega⟩, (List.reverse_perm os).trans pm, by omega, by omega⟩
  have G0 := G0.keep (.of (sB1.trans sA1))
  have DA1 := DA0.same (sB1.trans sA1)
  generalize (upd (upd H2 B1 (.tup (os.map V.int).reverse)) A1 (.tup [.ref B1, .int ((n : Int) - 1)])) = H3 at G0 G1 DA1 ⊢
  refine ⟨_, rfl, 1, rfl, 1, rfl, (n : Int), -1, -1, _, rfl, RgC.neg (by omega) (by omega) (by decide) (by decide), by omega, fun B2 nB2 => ?_⟩
  have en : ((n : Int) - -1).toNat = n + 1 := by omega
  rw [en, rgI_down]
  have sB2 : Same H3 (upd H3 B2 (.tup ((rgI (n + 1)).reverse.map V.int))) := same_new nB2
  refine ⟨_, rfl, _, _, rfl, rfl, by show 2 ≤ sizeLine; decide, fun A2 nA2 => ⟨by show 3 ≤ sizeLine; decide, fun L nL => nx _ _ ?_⟩⟩
  have sA2 : Same (upd H3 B2 (.tup ((rgI (n + 1)).reverse.map V.int))) (upd (upd H3 B2 (.tup ((rgI (n + 1)).reverse.map V.int))) A2 (.tup [.ref B2, .int ((n : Int) - 1)])) := same_new nA2
  have G2 : GoodSt n (upd (upd H3 B2 (.tup ((rgI (n + 1)).reverse.map V.int))) A2 (.tup [.ref B2, .int ((n : Int) - 1)])) (.ref A2) :=
    ⟨A2, B2, (rgI (n + 1)).reverse, _, rfl, ⟨upd_same, sA2 _ _ upd_same, by rw [List.length_reverse, rgI_len]; omega, by omega, by omega⟩, List.reverse_perm _, by omega, by omega⟩
  have G0 := G0.keep (.of (sB2.trans sA2))
  have G1 := G1.keep (.of (sB2.trans sA2))
  have DA2 := DA1.same (sB2.trans sA2)
  generalize (upd (upd H3 B2 (.tup ((rgI (n + 1)).reverse.map V.int))) A2 (.tup [.ref B2, .int ((n : Int) - 1)])) = H4 at G0 G1 G2 DA2 nL ⊢
  refine ⟨n, L, _, _, _, _, _, _, _, rfl, DA2.same (same_new nL), t0, n1, n2, upd_same, (DA2.ne_none nL).2, Nat.le_refl 3, fun x hx => ?_⟩
  have sL : Same H4 (upd H4 L (.lst [.ref A0, .ref A1, .ref A2])) := same_new nL
  simp only [List.mem_cons, List.not_mem_nil, or_false] at hx
  rcases hx with rfl | rfl | rfl
  · exact G0.keep (.of sL)
  · exact G1.keep (.of sL)
  · exact G2.keep (.of sL)
theorem cut_t3 (B : NoNames mg) (O : OwnsN P w K mg base) (hr : Room 4 (A.deeper (envOfC "law" (defScope sLawN) s.heap.objs.size f cdv))) : PS (cxOf CX0 P w K mg base nLawN "law" (defScope sLawN) f cdv A outer s H0 E).nox (tbN 3) (tCutI (TN3 3) (TN3 4)) := by
  obtain ⟨fD, fdD, GD, mD, kD, bD⟩ := O.draw.ex
  obtain ⟨fP, fdP, GP, mP, kP, bP⟩ := O.pick.ex
  obtain ⟨fS, fdS, GS, mS, kS, bS⟩ := O.stand.ex
  have hr1 : Room 1 _ := hr.mono (by decide)
  have hr2 : Room 2 _ := hr.mono (by decide)
  refine ps_cutI (TN3 3) (TN3 4) (ps_expr (pe_bm PySem.F.plainAttrs_list PySem.F.slot_list_append PySem.F.type_list_append mt_append (pv 8)
    (pa_cons (pe_call GS hr1 rfl mS kS bS .nil pass0 (pa_cons (pv 2) (pa_cons (pe_call GP hr2 rfl mP kP bP .nil pass0 (pa_cons (pv 1) (pa_cons (pe_lst (pa_cons pe_int (pa_cons (pe_op op_sub (pv 7) pe_int) (pa_cons (pe_op op_fdiv (pv 7) pe_int)
      (pa_cons (pe_call GD hr1 rfl mD kD bD .nil pass0 (pa_cons (pv 1) (pa_cons (pv 7) pa_nil))) pa_nil))))) pa_nil))) pa_nil))) pa_nil))) ?_
  rintro ⟨sc, p, d, t⟩ D σ H ⟨n, L, xs, s3, s4, s5, s9, s10, s11, rfl, D1, t0, n1, n2, hL, nd, lx, gx⟩ nx
  obtain ⟨M1, M2⟩ := many_pos n1 n2
  refine ⟨_, rfl, .inl ⟨rfl, _, SqL.of hL⟩, _, rfl, _, rfl, _, rfl, _, _, rfl, rfl, _, rfl, _, _, rfl, rfl, ⟨by decide, by decide⟩, _, rfl, _, rfl, p, d, manyS n, rfl, D1, M2, fun r H1 r0 r1 r2 D2 k2 => ⟨by show 4 ≤ sizeLine; decide, fun q nq => ?_⟩⟩
  have np := D1.kne hL
  have h1 := k2 _ _ hL np nd
  have sq : Same H1 (upd H1 q (.lst [.int 0, .int (manyS n - 1), .int (manyS n / 2), .int r])) := same_new nq
  refine ⟨p, d, q, _, rfl, D2.same sq, upd_same, (D2.ne_none nq).2, fun z => (nomatch z), by show 4 < 1000000; decide, fun x H3 hx D3 k3 => ?_⟩
  have h3 := k3 _ _ (sq _ _ h1) np nd
  obtain ⟨num, rfl, m0⟩ : ∃ num : Int, x = .int num ∧ 0 ≤ num := by
    simp only [List.mem_cons, List.not_mem_nil, or_false] at hx
    rcases hx with rfl | rfl | rfl | rfl
    · exact ⟨_, rfl, by decide⟩
    · exact ⟨_, rfl, by omega⟩
    · exact ⟨_, rfl, by omega⟩
    · exact ⟨_, rfl, r0⟩
  refine ⟨(n : Int), num, rfl, by omega, by omega, m0, fun a b os st H4 s34 S pm q0 q1 => ⟨L, xs, _, rfl, rfl, s34 _ _ h3, by rw [sizeLine_eq]; omega, nx _ _ ?_⟩⟩
  have h4 := s34 _ _ h3
  have tu : TupS H4 (upd H4 L (.lst (xs ++ [.ref a]))) := TupS.upd fun zs z => by
    rw [h4] at z
    cases z
  refine ⟨n, L, _, _, _, _, _, _, _, rfl, (D3.same s34).upd np nd, t0, n1, n2, upd_same, nd, by rw [List.length_append]; simp only [List.length_cons, List.length_nil]; omega, fun x hx => ?_⟩
  rcases List.mem_append.mp hx with z | z
  · exact (gx x z).keep ((((TupS.kp D1 k2).trans (.of sq)).trans (TupS.kp (D2.same sq) k3)).trans ((TupS.of s34).trans tu))
  · rw [List.mem_singleton.mp z]
    exact (show GoodSt n H4 (.ref a) from ⟨a, b, os, st, rfl, S, pm, q0, q1⟩).keep tu
theorem cut_t4 (B : NoNames mg) (O : OwnsN P w K mg base) (hr : Room 4 (A.deeper (envOfC "law" (defScope sLawN) s.heap.objs.size f cdv))) (hgd : (A.deeper (envOfC "law" (defScope sLawN) s.heap.objs.size f cdv)).guards = some []) : PS (cxOf CX0 P w K mg base nLawN "law" (defScope sLawN) f cdv A outer s H0 E).nox (tbN 4) (tCutI (TN3 4) TN5) := by
  obtain ⟨fN, fdN, GN, mN, kN, bN⟩ := O.number.ex
  obtain ⟨fI, fdI, GI, mI, kI, bI⟩ := O.right.ex
  have hr1 : Room 1 _ := hr.mono (by decide)
  refine ps_cutI (TN3 4) TN5 (ps_for PassesOwn.never rfl (pi_list (pv 8)) (pg_name (i := 9) scLawN.nd rfl (.inl rfl))
    (pss_one (ps_if (pt_not (pt_val (pe_callG GI hr hgd rfl mI kI bI pass0 (pa_cons (pv 2) (pa_cons (pv 9) (pa_cons (pe_call GN hr1 rfl mN kN bN .nil pass0 (pa_cons (pv 2) (pa_cons (pv 9) pa_nil))) (pa_cons (pe_cmpR op_eq (pv 6) pe_int (nomark _)) pa_nil))))))) (pss_one (ps_ret pe_bl)) pss_nil))) ?_
  rintro ⟨sc, p, d, t⟩ D σ H ⟨n, L, xs, s3, s4, s5, s9, s10, s11, rfl, D1, t0, n1, n2, hL, nd, lx, gx⟩ nx
  refine ⟨_, rfl, L, rfl, ⟨_, SqL.of hL⟩, for_it (walk_list (xs := xs)) (fun i σ H' => ∃ s9, σ = [some sc, some (.ref p), some (.int n), s3, s4, s5, some (.int t), some (.int (manyS n)), some (.ref L), s9, s10, s11] ∧ Same H H')
    ⟨s9, rfl, Same.refl _⟩ (fun i σ H' _ h => by obtain ⟨_, _, h⟩ := h; exact SqL.of (h _ _ hL)) ?_ ?_⟩
  · rintro i x σ H2 H3 hi ⟨s9, rfl, s12⟩ ⟨rfl, ex⟩
    obtain ⟨a, b, os, st, rfl, S, pm, q0, q1⟩ := gx x (List.mem_of_getElem? ex)
    have S3 := S.keep (.of s12)
    refine ⟨_, rfl, _, rfl, _, rfl, _, rfl, (n : Int), st, a, b, os, rfl, S3, pm, fun H4 s34 => ⟨_, rfl, rfl, (n : Int), st, _, a, b, os, _, rfl, S3.keep (.of s34), pm, q0, q1, rfl, fun H5 s45 => ⟨_, rfl, iteF ⟨_, rfl, s12.trans (s34.trans s45)⟩⟩⟩⟩
  · rintro σ H2 ⟨s9, rfl, s12⟩
    exact nx _ _ ⟨n, _, _, _, _, _, _, _, rfl, D1.same s12, t0, n1, n2⟩
end
end Sw
namespace Sw
open PySem PySem.Spec PyProof.Rows L2 HT
theorem OddV.same {K : PySem.W.Frag} {M : Int} {U : Addr → Prop} {H H' : Hp} {x : V} (o : OddV K M U H x) (s : Same H H') : OddV K M U H' x := by
  obtain ⟨dd, as, r, u, e⟩ := o
  exact ⟨dd, as, r.same s, u, e⟩
theorem OddV.kp {K : PySem.W.Frag} {M : Int} {p d : Addr} {H H' : Hp} {x : V} (o : OddV K M (fun b => b ≠ p ∧ b ≠ d) H x) (s : Kp p d H H') : OddV K M (fun b => b ≠ p ∧ b ≠ d) H' x := by
  obtain ⟨dd, as, r, u, e⟩ := o
  exact ⟨dd, as, r.keep fun b hb o' z => s b o' z (u b hb).1 (u b hb).2, u, e⟩
theorem odd_int {K : PySem.W.Frag} {M i : Int} {U : Addr → Prop} {H : Hp} (h : i < 0 ∨ M ≤ i) : OddV K M U H (.int i) := by
  refine ⟨.int i, [], by simp [Rep], fun _ z => absurd z (by simp), ?_⟩
  simp only [isWhole, Bool.and_eq_false_iff, decide_eq_false_iff_not]
  omega
section
variable {P : Program} {w : World} {K : PySem.W.Frag} {mg : Str → Option Value} {base : Heap}
variable {f : Addr} {cdv : Value} {A : Around} {outer : List Env} {s : Shared} {H0 : Hp} {E : XK}
theorem cut_t5 (B : NoNames mg) : PS (cxOf CX0 P w K mg base nLawN "law" (defScope sLawN) f cdv A outer s H0 E).nox (tbN 5) (tCutI TN5 (TN6 K)) := by
  refine ps_cutI TN5 (TN6 K) (ps_set (i := 10) scLawN.nd rfl (.inl rfl) (pe_lst (pa_cons (pv 7) <| pa_cons (pe_un un_neg pe_int) <| pa_cons (pe_op op_add (pv 7) pe_int) <| pa_cons pe_bl <| pa_cons pe_bl <| pa_cons pe_non <|
    pa_cons (pe_callTy call_str_int (by rfl) B.str (by decide +kernel) (pa_cons (pe_op op_sub (pv 7) pe_int) pa_nil)) <| pa_cons (pe_tup (pa_cons pe_int pa_nil)) <| pa_cons (pe_lst pa_nil) <| pa_cons pe_dnewK <|
    pa_cons (pe_op op_pow pe_int pe_int) <| pa_cons (pe_un un_neg (pv 7)) <| pa_cons (pe_tup (pa_cons (pe_tup (pa_cons pe_int (pa_cons pe_int pa_nil))) (pa_cons pe_int pa_nil))) pa_nil))) ?_
  rintro ⟨sc, p, d, t⟩ D σ H ⟨n, s3, s4, s5, s8, s9, s10, s11, rfl, D1, t0, n1, n2⟩ nx
  obtain ⟨M1, M2⟩ := many_pos n1 n2
  have e12 : (10 : Nat) ^ 12 = 1000000000000 := by decide
  have lg : ((manyS n - 1 : Int)).natAbs.log2 < 1920 := by
    obtain ⟨i1, i2, i3, i4⟩ := int_ok (K := K) (H := H) (i := manyS n - 1) (w := 12) (k := 0) (by omega) (by decide) (by decide)
    simp only [small] at i2
    exact i2
  refine ⟨_, rfl, 1, rfl, _, rfl, _, _, rfl, rfl, _, rfl, _, _, rfl, rfl, _, rfl, lg, by show 1 ≤ sizeLine; decide, fun a1 na1 => ⟨Nat.zero_le _, fun a2 na2 => fun a3 na3 => ⟨_, _, rfl, rfl, ⟨by decide, by decide, by decide⟩, _, rfl, _, rfl, by show 2 ≤ sizeLine; decide, fun a4 na4 => ⟨by show 2 ≤ sizeLine; decide, fun a5 na5 => ⟨by show 13 ≤ sizeLine; decide, fun L nL => nx _ _ ?_⟩⟩⟩⟩⟩
  have G1 : OddV K (manyS n) (fun b => b ≠ p ∧ b ≠ d) (upd H a1 (.tup [.int 0])) (.ref a1) := ⟨.tup [.int 0], [a1], rep_tup (by simp [RepAll, Rep]) na1, fun b hb => by rw [List.mem_singleton.mp hb]; exact D1.ne_none na1, rfl⟩
  have E1 := D1.same (same_new (o := .tup [.int 0]) na1)
  generalize (upd H a1 (.tup [.int 0])) = H1 at G1 E1 na2 na3 na4 na5 nL ⊢
  have G2 : OddV K (manyS n) (fun b => b ≠ p ∧ b ≠ d) (upd H1 a2 (.lst [])) (.ref a2) := ⟨.lst [], [a2], rep_lst (by simp [RepAll]) na2, fun b hb => by rw [List.mem_singleton.mp hb]; exact E1.ne_none na2, rfl⟩
  have G1 := G1.same (same_new (o := .lst []) na2)
  have E2 := E1.same (same_new (o := .lst []) na2)
  generalize (upd H1 a2 (.lst [])) = H2 at G1 G2 E2 na3 na4 na5 nL ⊢
  have G3 : OddV K (manyS n) (fun b => b ≠ p ∧ b ≠ d) (upd H2 a3 (.dK [])) (.ref a3) := ⟨.dct, [a3], by simp only [Rep]; exact ⟨a3, rfl, upd_same, rfl⟩, fun b hb => by rw [List.mem_singleton.mp hb]; exact E2.ne_none na3, rfl⟩
  have G1 := G1.same (same_new (o := .dK []) na3)
  have G2 := G2.same (same_new (o := .dK []) na3)
  have E3 := E2.same (same_new (o := .dK []) na3)
  generalize (upd H2 a3 (.dK [])) = H3 at G1 G2 G3 E3 na4 na5 nL ⊢
  have R4 : Rep K (upd H3 a4 (.tup [.int 0, .int 1])) (.tup [.int 0, .int 1]) (.ref a4) [a4] := rep_tup (by simp [RepAll, Rep]) na4
  have s4' : Same H3 (upd H3 a4 (.tup [.int 0, .int 1])) := same_new na4
  have u4 := E3.ne_none na4
  have G1 := G1.same s4'
  have G2 := G2.same s4'
  have G3 := G3.same s4'
  have E4 := E3.same s4'
  generalize (upd H3 a4 (.tup [.int 0, .int 1])) = H4 at R4 G1 G2 G3 E4 na5 nL ⊢
  have G4 : OddV K (manyS n) (fun b => b ≠ p ∧ b ≠ d) (upd H4 a5 (.tup [.ref a4, .int 0])) (.ref a5) := by
    refine ⟨.tup [.tup [.int 0, .int 1], .int 0], [a5, a4], rep_tup ?_ na5, fun b hb => ?_, rfl⟩
    · rw [RepAll]
      refine ⟨_, _, [a4], [], rfl, R4, ?_, rfl⟩
      rw [RepAll]
      exact ⟨_, _, [], [], rfl, by simp [Rep], by simp [RepAll], rfl⟩
    · simp only [List.mem_cons, List.not_mem_nil, or_false] at hb
      rcases hb with rfl | rfl
      · exact E4.ne_none na5
      · exact u4
  have s5' : Same H4 (upd H4 a5 (.tup [.ref a4, .int 0])) := same_new na5
  have G1 := G1.same s5'
  have G2 := G2.same s5'
  have G3 := G3.same s5'
  have E5 := E4.same s5'
  generalize (upd H4 a5 (.tup [.ref a4, .int 0])) = H5 at G1 G2 G3 G4 E5 nL ⊢
  refine ⟨n, L, _, _, _, _, _, _, _, _, rfl, E5.same (same_new nL), t0, n1, n2, upd_same, (E5.ne_none nL).2, Nat.le_refl 13, fun x hx => ?_⟩
  refine OddV.same (H := H5) ?_ (same_new nL)
  simp only [List.mem_cons, List.not_mem_nil, or_false] at hx
  rcases hx with rfl | rfl | rfl | rfl | rfl | rfl | rfl | rfl | rfl | rfl | rfl | rfl | rfl
  · exact odd_int (by omega)
  · exact odd_int (by omega)
  · exact odd_int (by omega)
  · exact ⟨.bl true, [], by simp [Rep], fun _ z => absurd z (by simp), rfl⟩
  · exact ⟨.bl false, [], by simp [Rep], fun _ z => absurd z (by simp), rfl⟩
  · exact ⟨.non, [], by simp [Rep], fun _ z => absurd z (by simp), rfl⟩
  · exact ⟨.str (Str.ofString (toString (manyS n - 1))), [], by simp [Rep], fun _ z => absurd z (by simp), rfl⟩
  · exact G1
  · exact G2
  · exact G3
  · refine odd_int (.inr (Int.le_trans (Int.le_of_lt M2) ?_))
    decide +kernel
  · exact odd_int (by omega)
  · exact G4
theorem unfit_rep {H : Hp} {l : Addr} (h : H l = some (.lst [.str "unfit", .bl true])) : Rep K H (.lst [.str "unfit", .bl true]) (.ref l) [l] ∧ smallAll [D.str "unfit", .bl true] ∧ wtAll [D.str "unfit", .bl true] ≤ 100 ∧ depAll [D.str "unfit", .bl true] ≤ 1 := by
  refine ⟨?_, ?_, ?_, ?_⟩
  · simp only [Rep, RepAll]
    exact ⟨l, _, [], rfl, h, ⟨_, _, [], [], rfl, ⟨rfl, rfl⟩, ⟨_, _, [], [], rfl, ⟨rfl, rfl⟩, ⟨rfl, rfl⟩, rfl⟩, rfl⟩, by simp, rfl⟩
  · simp only [smallAll, small]
    exact ⟨trivial, trivial, trivial⟩
  · decide +kernel
  · simp only [depAll, dep]
    decide
theorem cut_t6 (B : NoNames mg) (O : OwnsN P w K mg base) (hr : Room 4 (A.deeper (envOfC "law" (defScope sLawN) s.heap.objs.size f cdv))) (hgd : (A.deeper (envOfC "law" (defScope sLawN) s.heap.objs.size f cdv)).guards = some []) : PS (cxOf CX0 P w K mg base nLawN "law" (defScope sLawN) f cdv A outer s H0 E).nox (tbN 6) (tCutI (TN6 K) TN0) := by
  obtain ⟨fM, fdM, GM, mM, kM, bM⟩ := O.mixV.ex
  obtain ⟨fS, fdS, GS, mS, kS, bS⟩ := O.seen.ex
  have hr2 : Room 2 _ := hr.mono (by decide)
  have hr3 : Room 3 _ := hr.mono (by decide)
  refine ps_cutI (TN6 K) TN0 (ps_for PassesOwn.never rfl (pi_list (pe_slice sl_list (pe_call GM hr2 rfl mM kM bM .nil pass0 (pa_cons (pv 1) (pa_cons (pv 10) pa_nil))) po_none (po_some pe_int))) (pg_name (i := 11) scLawN.nd rfl (.inl rfl))
    (pss_one (ps_if (pt_cmpR op_ne (pe_callB (call_repr hr hgd) (by rfl) B.repr (by decide +kernel) (pa_cons (pe_call GS hr3 rfl mS kS bS .nil pass0 (pa_cons (pv 2) (pa_cons (pv 11) (pa_cons pe_bl pa_nil)))) pa_nil))
      (pe_callB (call_repr hr hgd) (by rfl) B.repr (by decide +kernel) (pa_cons (pe_lst (pa_cons pe_str (pa_cons pe_bl pa_nil))) pa_nil)) (nomark _)) (pss_one (ps_ret pe_bl)) pss_nil))) ?_
  rintro ⟨sc, p, d, t⟩ D σ H ⟨n, L, xs, s3, s4, s5, s7, s8, s9, s11, rfl, D1, t0, n1, n2, hL, nd, lx, ox⟩ nx
  refine ⟨_, rfl, _, rfl, p, d, L, xs, rfl, D1, hL, by omega, fun r ms H1 D2 k2 nr hr' pm => ⟨4, rfl, r, ms, rfl, SqL.of hr', fun q nq => ⟨q, rfl, ⟨_, SqL.of upd_same⟩, ?_⟩⟩⟩
  have sq : Same H1 (upd H1 q (.lst (cutV ms none (some 4)))) := same_new nq
  have D3 := D2.same sq
  have oms : ∀ x ∈ cutV ms none (some 4), OddV K (manyS n) (fun b => b ≠ p ∧ b ≠ d) (upd H1 q (.lst (cutV ms none (some 4)))) x := fun x hx => ((ox x (pm.mem_iff.mp (cutV_mem hx))).kp k2).same sq
  have hq : (upd H1 q (.lst (cutV ms none (some 4)))) q = some (.lst (cutV ms none (some 4))) := upd_same
  generalize (upd H1 q (.lst (cutV ms none (some 4)))) = H2 at D3 oms hq ⊢
  refine for_it (walk_list (xs := cutV ms none (some 4))) (fun i σ H' => ∃ s11, σ = [some sc, some (.ref p), some (.int n), s3, s4, s5, some (.int t), s7, s8, s9, some (.ref L), s11] ∧ Same H2 H')
    ⟨s11, rfl, Same.refl _⟩ (fun i σ H' _ h => by obtain ⟨_, _, h⟩ := h; exact SqL.of (h _ _ hq)) ?_ ?_
  · rintro i x σ H3 H4 hi ⟨s11, rfl, s12⟩ ⟨rfl, ex⟩
    obtain ⟨dd, as, rd, _, ei⟩ := (oms x (List.mem_of_getElem? ex)).same s12
    refine ⟨_, rfl, _, rfl, (n : Int), x, dd, as, false, rfl, rd, by omega, by omega, fun _ l H5 s5 hl => ?_, fun num e q0 q1 => ?_⟩
    · obtain ⟨t1, t2, t3, t4⟩ := unfit_rep (K := K) hl
      refine ⟨.ref l, _, [l], rfl, t1, t2, by omega, by omega, by show 2 ≤ sizeLine; decide, fun l2 nl2 => ?_⟩
      obtain ⟨v1, v2, v3, v4⟩ := unfit_rep (K := K) (H := upd H5 l2 (.lst [.str "unfit", .bl true])) (l := l2) upd_same
      refine ⟨.ref l2, _, [l2], rfl, v1, v2, by omega, by omega, rfl, _, rfl, ?_⟩
      rw [same_str rfl]
      exact iteF ⟨_, rfl, s12.trans (s5.trans (same_new nl2))⟩
    · rw [e] at ei
      simp only [isWhole, Bool.and_eq_false_iff, decide_eq_false_iff_not] at ei
      omega
  · rintro σ H3 ⟨s11, rfl, s12⟩
    exact nx _ _ ⟨_, _, _, _, _, _, _, _, _, rfl, D3.same s12, t0⟩
/-- the law's body -/
theorem law_bodyN (B : NoNames mg) (O : OwnsN P w K mg base) {H : Hp} {vs : List V} {Q : VK}
    (hr : Room 4 (A.deeper (envOfC "law" (defScope sLawN) s.heap.objs.size f cdv))) (hgd : (A.deeper (envOfC "law" (defScope sLawN) s.heap.objs.size f cdv)).guards = some []) (h : spLaw K vs H Q E) :
    ∃ t, PSs (cxOf CX0 P w K mg base nLawN "law" (defScope sLawN) f cdv A outer s H E).nox (defBody sLawN) t ∧ t { nx := fun _ H' => Q .non H', rt := Q } (start nLawN vs) H := by
  obtain ⟨fK, fdK, GK, mK, kK, bK⟩ := O.deck.ex
  obtain ⟨a, ns, rfl, hS, hl, k⟩ := h
  have hr1 : Room 1 _ := hr.mono (by decide)
  refine ⟨_, pss_cons (ps_set (i := 1) scLawN.nd rfl (.inl rfl) (pe_call GK hr1 rfl mK kK bK .nil pass0 (pa_cons (pv 0) pa_nil))) <|
    pss_cons (st := stN 1) (cut_n B O hr) <|
    pss_cons (ps_set (i := 3) scLawN.nd rfl (.inl rfl) pe_int) <|
    pss_cons (st := stN 3) (cut_rows B O hr hgd) <|
    pss_cons (ps_for PassesOwn.never rfl (pi_range1 (by rfl) B.range (pa_cons pe_int pa_nil)) (pg_name (i := 6) scLawN.nd rfl (.inl rfl))
      (pss_cons (st := tbN 0) (cut_t0 B O hr) <| pss_cons (st := tbN 1) (cut_t1 B O hr) <| pss_cons (st := tbN 2) (cut_t2 B O hr) <| pss_cons (st := tbN 3) (cut_t3 B O hr) <| pss_cons (st := tbN 4) (cut_t4 B O hr hgd) <| pss_cons (st := tbN 5) (cut_t5 B) <| pss_one (st := tbN 6) (cut_t6 B O hr hgd))) <|
    pss_one (ps_ret pe_bl), ?_⟩
  refine ⟨_, rfl, a, ns, rfl, hS, hl, fun p d H1 s1 np nd D1 => ⟨(.ref a, p, d), ⟨rfl, D1⟩, ?_⟩⟩
  rintro σ H2 ⟨n, n1, n2, rfl, D2⟩
  refine ⟨(.ref a, p, d), ⟨n, n1, n2, rfl, D2⟩, ?_⟩
  rintro σ H3 ⟨s2, s3, s4, s5, rfl, D3⟩
  refine ⟨14, rfl, by decide, by decide, for_range (lo := 0) (n := 14) (fun i σ H' => (∃ s2 s3 s4 s5 s6 s7 s8 s9 s10 s11, σ = [some (.ref a), some (.ref p), s2, s3, s4, s5, s6, s7, s8, s9, s10, s11]) ∧ Deck H' p d 63)
    ⟨⟨_, _, _, _, _, _, _, _, _, _, rfl⟩, D3⟩ ?_ ?_⟩
  · rintro i σ H4 hi ⟨⟨s2, s3, s4, s5, s6, s7, s8, s9, s10, s11, rfl⟩, D4⟩
    have i0 : (0 : Int) ≤ 0 + (i : Int) := by omega
    refine ⟨⟨.ref a, p, d, 0 + (i : Int)⟩, ⟨s2, s3, s4, s5, s7, s8, s9, s10, s11, rfl, D4, i0⟩, fun σ1 J1 h1 => ⟨_, h1, fun σ2 J2 h2 => ⟨_, h2, fun σ3 J3 h3 => ⟨_, h3, fun σ4 J4 h4 => ⟨_, h4, fun σ5 J5 h5 => ⟨_, h5, fun σ6 J6 h6 => ⟨_, h6, fun σ7 J7 h7 => ?_⟩⟩⟩⟩⟩⟩⟩
    obtain ⟨z2, z3, z4, z5, z7, z8, z9, z10, z11, rfl, DZ, _⟩ := h7
    exact ⟨⟨_, _, _, _, _, _, _, _, _, _, rfl⟩, DZ⟩
  · rintro σ H4 ⟨⟨s2, s3, s4, s5, s6, s7, s8, s9, s10, s11, rfl⟩, D4⟩
    exact k H4
end
end Sw
namespace Sw
open PySem PySem.Spec PyProof.Rows L2 PySem.W
theorem good_mk {K : Frag} {C : Addr} {nm q n : Str} {N : Addr} {bs bm : List Value} {hd : Bool} {sn : List Str} {sub : List Value} {ab : Bool} {col : Option Bool} {dd : Option Addr} {m0 m1 m2 m3 m5 : Option Value} {nw : String}
    (xL : K.lookup C = some (excClassObj nm q C N bs bm hd sn sub ab col dd m0 m1 m2 m3 m5 nw)) (e : exN nm = n) (len : n.length ≤ 60)
    (rp : findIn K (.ref C) "__repr__" = some (some (.builtin "BaseException.__repr__"))) (sb : subIn K (.ref C) (.type "BaseException") = some true) (ga : findIn K (.ref C) "__getattribute__" = some (some (.builtin "BaseException.__getattribute__")))
    (gt : findIn K (.ref C) "__getattr__" = some none) (ca : findIn K (.ref C) "__class__" = some (some (.builtin "object.__class__"))) (cn : specialIn K (.builtin "object.__class__") "__get__" = some (some (.builtin "getset_descriptor.__get__")))
    (ct : takesIn K (.builtin "object.__class__") = some true) (mo : mroIn K C (.type "object") = some true) (ni : subIn K (.ref C) (.type "int") = some false) (nb : subIn K (.ref C) (.type "bool") = some false) (nt : subIn K (.ref C) (.type "tuple") = some false)
    (ns : subIn K (.ref C) (.type "str") = some false) (nl : subIn K (.ref C) (.type "list") = some false) (nd : subIn K (.ref C) (.type "dict") = some false) : XGood K C n := by
  have h : ∃ cd, clsIn K C = some cd ∧ cd.name = nm := by
    unfold clsIn
    rw [xL]
    exact ⟨_, rfl, rfl⟩
  obtain ⟨cd, h1, h2⟩ := h
  rw [← h2] at e
  exact ⟨⟨cd, h1, e⟩, len, rp, sb, ga, gt, ca, cn, ct, mo, ni, nb, nt, ns, nl, nd⟩
theorem init_mk {K : Frag} {C fI : Addr} {msg fld prm file qual : Str} {j : Nat} {p0 p1 p2 p3 p4 p5 p6 p7 p8 p9 : Pos} {params : Arguments} {dV kV doc pm ct oc ccl cl : Value} {an od cdd cld : Option Addr} {osl ccs csl : Array (Option Value)} {cc cda : Addr} {vs : Array Value} {tf : Tok} {ar : Arg}
    (l : K.lookup fI = some ⟨oc, od, .func (ksFn "__init__" qual params (initBody msg fld prm j p0 p1 p2 p3 p4 p5 p6 p7 p8 p9) (initScope prm) dV kV doc pm an (.ref cda) ct cc), osl⟩)
    (c : codeIn K (.ref cda) qual = true) (lc : K.lookup cda = some ⟨ccl, cdd, .fields vs, ccs⟩) (hv : vs[2]? = some (.str file tf)) (lcc : K.lookup cc = some ⟨cl, cld, .cell (some (.ref C)), csl⟩) (hl : (p2.endLine == p4.line) = true)
    (ha : (params.posonlyargs ++ params.args).head? = some ar) (har : ar.arg = "self")
    (hb : ∀ a u : Value, bindArgs (ksFn "__init__" qual params (initBody msg fld prm j p0 p1 p2 p3 p4 p5 p6 p7 p8 p9) (initScope prm) dV kV doc pm an (.ref cda) ct cc) ⟨[a, u], []⟩ = pure [(("self" : Str), a), (prm, u)])
    (pn : ¬ prm = "self") (pc : ¬ prm = "__class__") (ps : ¬ prm = "super") (pd : (prm == ("__debug__" : Str)) = false) (su : ks_superIn K C C "__init__" = some (some (.builtin "ValueError.__init__"))) (sub : subIn K (.ref C) (.type "ValueError") = some true)
    (self : mroIn K C (.ref C) = some true) (nf : findIn K (.ref C) fld = some none) (ty : typeIn K (.ref fI) = some (.type "function")) (fi : findIn K (.ref C) "__init__" = some (some (.ref fI))) : XInit K C fI msg fld prm file :=
  ⟨⟨qual, j, p0, p1, p2, p3, p4, p5, p6, p7, p8, p9, params, dV, kV, doc, pm, ct, oc, ccl, cl, an, od, cdd, cld, osl, ccs, csl, cc, cda, vs, tf, ar, l, c, lc, hv, lcc, hl, ha, har, hb⟩, pn, pc, ps, pd, su, sub, self, nf, ty, fi⟩
end Sw
namespace Sw
open PySem PySem.Spec PyProof.Rows L2 PySem.W
theorem uerr_mk {K : Frag} {mg : Str → Option Value} {h : Heap} {x y : Str} {C S : Addr} (X : K.In h) (G : h.Ns mainGlobals mg) (aC : nsIn K mainGlobals x = some (some (.ref C))) (aS : nsIn K mainGlobals y = some (some (.ref S)))
    (made : excIn K C [.type "ValueError", .type "Exception", .type "BaseException", .type "object"] "ValueError.__new__" = true) (kC : keepIn K (.ref C) = true) (base : subIn K (.ref C) (.type "BaseException") = some true)
    (ty : typeIn K (.ref C) = some (.type "type")) (self : subIn K (.ref C) (.ref C) = some true)
    (e1 : findIn K (.ref C) "__getattribute__" = some (some (.builtin "BaseException.__getattribute__"))) (e2 : findIn K (.ref C) "__getattr__" = some none) (e4 : hasDictIn K C = true)
    (e5 : findIn K (.ref C) "__class__" = some (some (.builtin "object.__class__"))) (e6 : specialIn K (.builtin "object.__class__") "__get__" = some (some (.builtin "getset_descriptor.__get__"))) (e7 : takesIn K (.builtin "object.__class__") = some true)
    (e8 : mroIn K C (.type "object") = some true) (sub : kitOne K (.ref C) (.ref S) = some true) : ∃ C S, UErr K mg x y C S :=
  ⟨C, S, mg_of X G aC, mg_of X G aS, made, kC, base, ty, self, ⟨e1, e2, base, e4, e5, e6, e7, e8⟩, sub⟩
theorem run_k04 {P : Program} {w : World} {K : Frag} {mg : Str → Option Value} {base : Heap} {fa a : Addr} {s₁ : Shared} {H : Hp} {ns : List Int} (B : NoNames mg) (bd : mg "divmod" = none) (mF : mg "factorial" = some (.builtin "math.factorial")) (EU : ∃ C S, UErr K mg "Unfit" "SwapError" C S)
    (hBetween : Has K mg "is_integer_between" sBetween) (hNum : Has K mg "standing_number" sStNum) (hAt : Has K mg "standing_at" sStAt) (hRowNum : Has K mg "row_number" sRowNum) (hRowAt : Has K mg "row_at" sRowAt)
    (hDeck : Has K mg "_law_deck" sDeck) (hDraw : Has K mg "_law_draw" sDraw) (hPick : Has K mg "_law_pick" sPick) (hMixed : Has K mg "_law_mixed" sMixed)
    (hRows : Has K mg "_law_rows" sRows) (hNumber : Has K mg "_law_number" sLNumber) (hStand : Has K mg "_law_standing" sLStand) (hMany : Has K mg "_law_many" sLMany) (hSeen : Has K mg "_law_seen" sSeen) (hRight : Has K mg "_law_is_right" sIsRight)
    (hLaw : Has K mg "law" sLawN) (hfa : mg "law" = some (.ref fa))
    (ev : Env0 P w K mg base callerA [] s₁ H) (sq : SqL K H a (ns.map V.int)) (hlen : ns.length ≤ 63) :
    codeAny (model P w) callerA (.call (.ref fa) ⟨[.ref a], []⟩) (CR CX0 [] P w H s₁ (fun v _ => v = .bl true) fun _ _ _ => False) s₁ := by
  obtain ⟨C, S, U⟩ := EU
  obtain ⟨f, fd, F, m⟩ := hLaw
  have e := hfa.symm.trans m
  cases e
  obtain ⟨fN, fdN, FN, mN⟩ := hNum
  obtain ⟨fA, fdA, FA, mA⟩ := hAt
  have O1 : Own P w K mg base 1 "is_integer_between" ["value", "least", "most"] (spBetween K) := hBetween.own (fun f fd F => ok_between F B) fun _ _ _ _ _ _ us hl => match us, hl with | [_, _, _], _ => rfl
  have O2 : Own P w K mg base 1 "row_number" ["row"] (spRowNum K) := hRowNum.own (fun f fd F => ok_rowNum F B) fun _ _ _ _ _ _ us hl => match us, hl with | [_], _ => rfl
  have O3 : Own P w K mg base 1 "row_at" ["many", "number"] spRowAt := hRowAt.own (fun f fd F => ok_rowAt F B bd mF) fun _ _ _ _ _ _ us hl => match us, hl with | [_, _], _ => rfl
  have N1 : OwnNum P w K mg base 2 := ⟨fN, fdN, ok_stNum FN O2, mN, FN.kp, FN.binds fun _ _ _ _ _ _ us hl => match us, hl with | [_, _], _ => rfl, kb_pair FN (fun _ _ _ _ _ _ _ _ => rfl) (fun _ _ _ _ _ _ _ _ => rfl) fun _ _ _ _ _ _ _ _ => rfl⟩
  have N2 : OwnAt P w K mg base 2 C := ⟨fA, fdA, ok_stAt FA B bd mF U O1 O3, mA, FA.kp, FA.binds fun _ _ _ _ _ _ us hl => match us, hl with | [_, _], _ => rfl, kb_pair FA (fun _ _ _ _ _ _ _ _ => rfl) (fun _ _ _ _ _ _ _ _ => rfl) fun _ _ _ _ _ _ _ _ => rfl⟩
  have L1 : Own P w K mg base 1 "_law_deck" ["script"] (spDeck K) := hDeck.own (fun f fd F => ok_deck F B) fun _ _ _ _ _ _ us hl => match us, hl with | [_], _ => rfl
  have L2 : Own P w K mg base 1 "_law_draw" ["deck", "many"] spDraw := hDraw.own (fun f fd F => ok_draw F B) fun _ _ _ _ _ _ us hl => match us, hl with | [_, _], _ => rfl
  have L2W : Own P w K mg base 1 "_law_draw" ["deck", "many"] spDrawW := hDraw.own (fun f fd F => ok_drawW F B) fun _ _ _ _ _ _ us hl => match us, hl with | [_, _], _ => rfl
  have L3 : Own P w K mg base 2 "_law_pick" ["deck", "items"] spPick := hPick.own (fun f fd F => ok_pick F B L2) fun _ _ _ _ _ _ us hl => match us, hl with | [_, _], _ => rfl
  have L4 : Own P w K mg base 2 "_law_mixed" ["deck", "items"] spMixedP := hMixed.own (fun f fd F => ok_mixedP F B L2) fun _ _ _ _ _ _ us hl => match us, hl with | [_, _], _ => rfl
  have L5 : Own P w K mg base 2 "_law_mixed" ["deck", "items"] spMixedV := hMixed.own (fun f fd F => ok_mixedV F B L2) fun _ _ _ _ _ _ us hl => match us, hl with | [_, _], _ => rfl
  have L6 : Own P w K mg base 1 "_law_rows" ["n"] spRows := hRows.own (fun f fd F => ok_rows F B) fun _ _ _ _ _ _ us hl => match us, hl with | [_], _ => rfl
  have L7 : Own P w K mg base 1 "_law_number" ["n", "standing"] spLNumber := hNumber.own (fun f fd F => ok_lNumber F B) fun _ _ _ _ _ _ us hl => match us, hl with | [_, _], _ => rfl
  have L8 : Own P w K mg base 1 "_law_standing" ["n", "number"] spLStand := hStand.own (fun f fd F => ok_lStand F B) fun _ _ _ _ _ _ us hl => match us, hl with | [_, _], _ => rfl
  have L9 : Own P w K mg base 1 "_law_many" ["n"] spLMany := hMany.own (fun f fd F => ok_lMany F B) fun _ _ _ _ _ _ us hl => match us, hl with | [_], _ => rfl
  have LA : Own P w K mg base 3 "_law_seen" ["n", "value", "is_named"] (spSeen K) := hSeen.own (fun f fd F => ok_seen F B U N2) fun _ _ _ _ _ _ us hl => match us, hl with | [_, _, _], _ => rfl
  have LB : OwnG P w K mg base 4 "_law_is_right" ["n", "standing", "number", "is_named"] spRight := hRight.ownG (fun f fd F => ok_isRight F B N1 LA) fun _ _ _ _ _ _ us hl => match us, hl with | [_, _, _, _], _ => rfl
  have rm : Room 5 callerA := ⟨rfl, by decide, by decide⟩
  refine run_def (us := [.ref a]) (vs := [.ref a]) (Q := fun v _ => v = .bl true) (E := fun _ _ _ => False) F scLawN rm ev (F.binds (ps := ["script"]) (fun _ _ _ _ _ _ us hl => match us, hl with | [_], _ => rfl) s₁ [.ref a] ?_ rfl) (.cons rfl .nil) rfl fun cdv => ?_
  · exact ev.mod.kin.keeps fun b o z => (ev.bs b o z).1
  · exact law_bodyN (Q := fun v _ => v = .bl true) B ⟨L1, L2W, L3, L4, L5, L6, L7, L8, L9, LA, LB⟩ (rm.deeper _) rfl ⟨a, ns, rfl, sq, hlen, fun _ => rfl⟩
end Sw
open PySem PySem.W PyProof.Rows
set_option maxHeartbeats 0 in
theorem PySem.Challenge.cw_swapstops_k04_whole_numbers_of_standings_holds : PySem.Challenge.rw_swapstops_k04_whole_numbers_of_standings.Holds := by
  w_on; o_law; k_head; (case hw => w_witness2)
  k_fill
  refine Sw.walk_law (l := PySem.Challenge.rw_swapstops_k04_whole_numbers_of_standings) rfl rfl (fun w h Y => PySem.W.kIn_of Y) ?F
  case F =>
    intro w mg fa h KX G hmg base s₁ H a ns ev sq hlen
    refine' Sw.run_k04 ?qz0h ?qz1h ?qz2h ?qz3h ?qz4h ?qz5h ?qz6h ?qz7h ?qz8h ?qz9h ?qz10h ?qz11h ?qz12h ?qz13h ?qz14h ?qz15h ?qz16h ?qz17h ?qz18h ?qz19h hmg ev sq hlen
    case qz0h =>
      refine' ⟨PySem.W.mg_none_of KX G ?zn1, PySem.W.mg_none_of KX G ?zn2, PySem.W.mg_none_of KX G ?zn3, PySem.W.mg_none_of KX G ?zn4, PySem.W.mg_none_of KX G ?zn5, PySem.W.mg_none_of KX G ?zn6, PySem.W.mg_none_of KX G ?zn7, PySem.W.mg_none_of KX G ?zn8, PySem.W.mg_none_of KX G ?zn9, PySem.W.mg_none_of KX G ?zn10, PySem.W.mg_none_of KX G ?zn11, PySem.W.mg_none_of KX G ?zn12, PySem.W.mg_none_of KX G ?zn13, PySem.W.mg_none_of KX G ?zn14, PySem.W.mg_none_of KX G ?zn15⟩
      (case zn1 => k_is); (case zn2 => k_is); (case zn3 => k_is); (case zn4 => k_is); (case zn5 => k_is); (case zn6 => k_is); (case zn7 => k_is); (case zn8 => k_is); (case zn9 => k_is); (case zn10 => k_is); (case zn11 => k_is); (case zn12 => k_is); (case zn13 => k_is); (case zn14 => k_is); (case zn15 => k_is)
    case qz1h =>
      refine' PySem.W.mg_none_of KX G ?nn1
      (case nn1 => k_is)
    case qz2h =>
      refine' PySem.W.mg_of KX G ?mm2
      (case mm2 => k_is)
    case qz3h =>
      refine' Sw.uerr_mk KX G ?aCx3 ?aSx3 ?madex3 ?kCx3 ?basex3 ?tyx3 ?selfx3 ?e1x3 ?e2x3 ?e4x3 ?e5x3 ?e6x3 ?e7x3 ?e8x3 ?subx3
      (case aCx3 => k_is); (case aSx3 => k_is); (case madex3 => k_exc); (case kCx3 => k_is); (case basex3 => k_is); (case tyx3 => k_is); (case selfx3 => first | rfl | k_is); (case e1x3 => k_is); (case e2x3 => k_is); (case e4x3 => k_is); (case e5x3 => k_is); (case e6x3 => k_is); (case e7x3 => k_is); (case e8x3 => k_is); (case subx3 => kit_is)
    case qz4h =>
      refine' Sw.has_mk KX G ?va1 ?vl1 ?vc1 ?vk1
      (case va1 => k_is); (case vl1 => k_is); (case vc1 => k_is); (case vk1 => k_is)
    case qz5h =>
      refine' Sw.has_mk KX G ?va2 ?vl2 ?vc2 ?vk2
      (case va2 => k_is); (case vl2 => k_is); (case vc2 => k_is); (case vk2 => k_is)
    case qz6h =>
      refine' Sw.has_mk KX G ?va3 ?vl3 ?vc3 ?vk3
      (case va3 => k_is); (case vl3 => k_is); (case vc3 => k_is); (case vk3 => k_is)
    case qz7h =>
      refine' Sw.has_mk KX G ?va4 ?vl4 ?vc4 ?vk4
      (case va4 => k_is); (case vl4 => k_is); (case vc4 => k_is); (case vk4 => k_is)
    case qz8h =>
      refine' Sw.has_mk KX G ?va5 ?vl5 ?vc5 ?vk5
      (case va5 => k_is); (case vl5 => k_is); (case vc5 => k_is); (case vk5 => k_is)
    case qz9h =>
      refine' Sw.has_mk KX G ?va6 ?vl6 ?vc6 ?vk6
      (case va6 => k_is); (case vl6 => k_is); (case vc6 => k_is); (case vk6 => k_is)
    case qz10h =>
      refine' Sw.has_mk KX G ?va7 ?vl7 ?vc7 ?vk7
      (case va7 => k_is); (case vl7 => k_is); (case vc7 => k_is); (case vk7 => k_is)
    case qz11h =>
      refine' Sw.has_mk KX G ?va8 ?vl8 ?vc8 ?vk8
      (case va8 => k_is); (case vl8 => k_is); (case vc8 => k_is); (case vk8 => k_is)
    case qz12h =>
      refine' Sw.has_mk KX G ?va9 ?vl9 ?vc9 ?vk9
      (case va9 => k_is); (case vl9 => k_is); (case vc9 => k_is); (case vk9 => k_is)
    case qz13h =>
      refine' Sw.has_mk KX G ?va10 ?vl10 ?vc10 ?vk10
      (case va10 => k_is); (case vl10 => k_is); (case vc10 => k_is); (case vk10 => k_is)
    case qz14h =>
      refine' Sw.has_mk KX G ?va11 ?vl11 ?vc11 ?vk11
      (case va11 => k_is); (case vl11 => k_is); (case vc11 => k_is); (case vk11 => k_is)
    case qz15h =>
      refine' Sw.has_mk KX G ?va12 ?vl12 ?vc12 ?vk12
      (case va12 => k_is); (case vl12 => k_is); (case vc12 => k_is); (case vk12 => k_is)
    case qz16h =>
      refine' Sw.has_mk KX G ?va13 ?vl13 ?vc13 ?vk13
      (case va13 => k_is); (case vl13 => k_is); (case vc13 => k_is); (case vk13 => k_is)
    case qz17h =>
      refine' Sw.has_mk KX G ?va14 ?vl14 ?vc14 ?vk14
      (case va14 => k_is); (case vl14 => k_is); (case vc14 => k_is); (case vk14 => k_is)
    case qz18h =>
      refine' Sw.has_mk KX G ?va15 ?vl15 ?vc15 ?vk15
      (case va15 => k_is); (case vl15 => k_is); (case vc15 => k_is); (case vk15 => k_is)
    case qz19h =>
      refine' Sw.has_mk KX G ?va16 ?vl16 ?vc16 ?vk16
      (case va16 => k_is); (case vl16 => k_is); (case vc16 => k_is); (case vk16 => k_is)
